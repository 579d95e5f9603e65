import PyProof.Rows.All
import Wide.All
import OpenK.AllK
import Wide.FinOn
import KE.KExcSuper
import KE.KExcIs
import PyProof.ReprRoads
import HandS.ForMost
import HandS.ForExc
import HandS.ExcInit
import HandS.IsInst
import HandS.Defaults
import HandS.MakeKwOnly
import HandS.ExcField
import HandS.Codes
import HandS.StrMore
import HandS.Walk
import KE.GoesEnumKw
import PyProof.Rows.CallKwBuiltin
import HandS.SetKeys
import PyProof.DictFindH
import PyProof.DictRoadsH
import HandS.NoneIn
import PyProof.NeData
import HandS.TupAny
import HandS.Style
import KE.KRevSl
import HandS.Zip
import HandS.More
import HandS.Deep
import HandS.HeadEnd
import HandS.HeadHook1
import HandS.HeadHook2
import HandS.HeadHook3
import HandS.HeadNt
import HandS.Head2
import HandS.RaiseMore
import PyProof.StrBlock2
import HandS.Dict
import HandS.FStrTup
import PyProof.StrLawsRepr
import HandS.Text
import HandS.Wide
import HandS.DictComp
import HandS.ExcOwn
import HandS.ExcIs
import HandS.TupMul
import HandS.TupLen
import KE.KStateDown
import HandS.Head0
import HandS.Head1
import PySem.Challenge.RW_rerunrein_k32_orders_refused
set_option Elab.async false
set_option linter.all false
set_option maxRecDepth 100000
set_option maxHeartbeats 4000000
/-! Exceptions whose __init__ begins with super().__init__(), walked as defs -/
namespace Rx
open PySem PySem.Spec PyProof.Rows L2
section
variable {prog : Program} {w : World} {A : Around} {E : Value → Shared → Prop} {h : Heap} {g : Array GenState} {d : Drawn} {t : Nat} {os : OsState}
variable {nm q : Str} {C N : Addr} {bs bm : List Value} {hdct : Bool} {sn : List Str} {sub : List Value} {ab : Bool} {col : Option Bool} {dd : Option Addr} {k0 k1 k2 k3 k5 : Option Value}
/-- the built-in __init__, bound to an exception, called -/
theorem call_bwV {wr ex tt : Addr} {ar : List Value} {Q : Value → Shared → Prop}
    (hK : h.get? C = some (excClassObj nm q C N bs bm hdct sn sub ab col dd k0 k1 k2 k3 k5 "ValueError.__new__")) (hex : h.get? ex = some (HandSPX.excO C tt))
    (hw : h.get? wr = some (PySem.W.kxs_mw "ValueError.__init__" ex)) (hlen : ar.length ≤ sizeLine)
    (hz : ∀ h' t1, (∀ b o, b ≠ ex → h.get? b = some o → h'.get? b = some o) → h'.get? ex = some (HandSPX.excO C t1) → Q .none ⟨h', g, d, t, os⟩) :
    wpAny (model prog w) A (call (.ref wr) ar) Q E ⟨h, g, d, t, os⟩ := by
  refine wpAny_call (codeAny_of_tree ?_)
  show wpAny _ A.in1 (callAny (.ref wr) ⟨ar, []⟩) _ _ _
  simp only [callAny]
  refine wpAny_bind (wpAny_load hw ?_)
  simp only [PySem.W.kxs_mw, show (Value.type "method-wrapper" == Value.type "method" || Value.type "method-wrapper" == Value.type "builtin_function_or_method" || Value.type "method-wrapper" == Value.type "method-wrapper") = true by decide, if_true]
  refine W.KFB.if_so (by decide) ?_
  refine wpAny_bind (PySem.W.check_bound_init F.excBase_ValueError.toExcCallFacts hK hex rfl ?_)
  refine wpAny_bind (wpAny_pure (wpAny_pure ?_))
  refine ⟨Code.quiet_builtin _ (by decide +kernel), codeAny_builtin F.excBase_ValueError.initEntry ?_⟩
  rw [Around.under_plainId F.excBase_ValueError.init.plain _]
  wp_walk
  refine hz _ h.objs.size (fun b o hb ho => ?_) ?_
  · rw [Heap.get?_update_other _ _ (Ne.symm hb)]
    exact Heap.get?_push_of_some _ ho
  · rw [Heap.get?_update_self _ (Heap.get?_push_of_some _ hex) rfl]
    rfl
end
/-- the names of such a def: parameters local, one free name, __class__ -/
structure ScopeS (N ps : List Str) (sc : Scope) : Prop where
  kind : sc.kind = .function
  co : sc.isCoroutine = false
  gen : sc.isGenerator = false
  nd : N.Nodup
  pre : N.take ps.length = ps
  par : ∀ x ∈ ps, sc.names.lookup x = some .local
  nocell : ∀ y ∈ sc.names, y.2 ≠ .cell
  free1 : ∀ y ∈ sc.names, y.2 = .free → y.1 = "__class__"
  ks : sc.names.lookup ("super" : Str) = some .globalImplicit
  kc : sc.names.lookup ("__class__" : Str) = some .free
theorem lookup_mem {l : List (Str × Value)} : ∀ {y : Str} {u : Value}, (l.map (·.1)).Nodup → (y, u) ∈ l → l.lookup y = some u := by
  induction l with
  | nil => intro y u _ h; cases h
  | cons p l ih =>
    obtain ⟨a, b⟩ := p
    intro y u nd hm
    rw [List.map_cons, List.nodup_cons] at nd
    rcases List.mem_cons.mp hm with e | hm
    · cases e
      simp [List.lookup]
    · have hne : y ≠ a := fun e => nd.1 (List.mem_map.mpr ⟨(y, u), hm, e⟩)
      have hb : (y == a) = false := by simpa using hne
      simp [List.lookup, hb, ih nd.2 hm]
theorem lookup_rev {l : List (Str × Value)} {y : Str} {u : Value} (nd : (l.map (·.1)).Nodup) (hm : (y, u) ∈ l) : l.reverse.lookup y = some u :=
  lookup_mem (by rw [List.map_reverse]; exact (List.pairwise_reverse.mpr (List.Pairwise.imp (fun h => h.symm) nd))) (List.mem_reverse.mpr hm)
theorem zip_mem {ps : List Str} {us : List Value} {i : Nat} {y : Str} {u : Value} (h1 : ps[i]? = some y) (h2 : us[i]? = some u) : (y, u) ∈ ps.zip us := by
  have : (ps.zip us)[i]? = some (y, u) := by
    rw [List.getElem?_zip_eq_some]
    exact ⟨h1, h2⟩
  exact List.mem_of_getElem? this
theorem zip_nd : ∀ {ps : List Str} {us : List Value}, ps.Nodup → ((ps.zip us).map (·.1)).Nodup
  | [], _, _ => by simp
  | _ :: _, [], _ => by simp
  | a :: ps, b :: us, h => by
    rw [List.nodup_cons] at h
    rw [List.zip_cons_cons, List.map_cons, List.nodup_cons]
    refine ⟨fun q => h.1 ?_, zip_nd h.2⟩
    obtain ⟨⟨c, e⟩, hm, rfl⟩ := List.mem_map.mp q
    exact (List.of_mem_zip hm).1
/-- the context of such a body -/
def cxS (CX : CXT) (P : Program) (w : World) (K : PySem.W.Frag) (mg : Str → Option Value) (base : Heap) (N : List Str) (qual : Str) (scope : Scope) (f : Addr) (cd : Value) (cc : Addr) (A : Around) (outer : List Env) (s : Shared) (H : Hp) (E : XK) : Cx where
  prog := P
  w := w
  K := K
  mg := mg
  base := base
  A := A.deeper (PySem.W.ksEnv qual scope s.heap.objs.size f cd cc)
  N := N
  s_0 := s
  H_0 := H
  env := PySem.W.ksEnv qual scope s.heap.objs.size f cd cc
  outer := outer
  stack := PySem.W.ksEnv qual scope s.heap.objs.size f cd cc :: outer
  ex := []
  calm := true
  fn := fun _ => false
  pn := []
  xe := fun e s' => wpAny (model P w) (A.deeper (PySem.W.ksEnv qual scope s.heap.objs.size f cd cc)) (leaving (PySem.W.ksEnv qual scope s.heap.objs.size f cd cc) e) (fun _ s'' => CX outer H s E e s'') (fun e' s'' => CX outer H s E e' s'') s'
theorem inv_startS {CX : CXT} {P : Program} {w : World} {K : PySem.W.Frag} {mg : Str → Option Value} {base : Heap} {N ps : List Str} {qual : Str} {scope : Scope} {f : Addr} {cd : Value} {cc : Addr} {A : Around} {outer : List Env} {s : Shared} {H : Hp} {E : XK} {us : List Value} {vs : List V} {h1 : Heap} {tk : Nat} {D : Value} {cl : Value} {cld : Option Addr} {csl : Array (Option Value)}
    (S : ScopeS N ps scope) (hd : A.handled = none) (e0 : Env0 P w K mg base A outer s H) (hl : vs.length = ps.length) (r : Vals vs us) (hcell : K.lookup cc = some ⟨cl, cld, .cell (some D), csl⟩)
    (hns : h1.Ns s.heap.objs.size (fun nm => (ps.zip us).reverse.lookup nm)) (hk : ∀ b o, s.heap.get? b = some o → h1.get? b = some o) :
    Inv (cxS CX P w K mg base N qual scope f cd cc A outer s H E) [] (L2.start N vs) H { s with heap := h1, toks := tk } := by
  have hle : ps.length ≤ N.length := by have := congrArg List.length S.pre; rw [List.length_take] at this; omega
  have noX : ∀ b : Addr, b ∉ (cxS CX P w K mg base N qual scope f cd cc A outer s H E).ex := fun b z => absurd (show b ∈ ([] : List Addr) from z) (by simp)
  have hcb : base.get? cc = some ⟨cl, cld, .cell (some D), csl⟩ := e0.mod.kin _ _ hcell
  have one : ∀ {nm : Str} {c : Addr}, (cxS CX P w K mg base N qual scope f cd cc A outer s H E).env.cells.lookup nm = some c → nm = "__class__" ∧ c = cc := fun {nm c} q => by
    have q' : ([(("__class__" : Str), cc)] : List (Str × Addr)).lookup nm = some c := q
    rw [List.lookup] at q'
    split at q'
    · rename_i hnm
      cases q'
      exact ⟨by simpa using hnm, rfl⟩
    · cases q'
  refine ⟨⟨e0.mod, S.kind, rfl, rfl, Nat.le_refl _, fun nm z c h1 h2 => ?_, fun nm hnm => ?_, fun nm c z _ => absurd (show false = true from z) (by decide), fun _ => hd, Around.frames_deeper e0.frames, .inr ⟨rfl, rfl⟩, fun b z => absurd z (noX b), e0.bs, e0.bsz, fun b _ _ => noX b, fun b z => absurd z (noX b), e0.funs, e0.frf⟩,
    rfl, e0.bare, Un.kept hk, ⟨_, hns, fun i nm vv h1 h2 h3 => ?_⟩, fun nm c h => ?_, e0.hok.fresh (Nat.le_refl _), fun nm c h => ?_, fun p hpar => absurd (show p ∈ ([] : List (Addr × Obj)) from hpar) (by simp), e0.hok.kept hk, ?_⟩
  · rw [(one h1).1, (one h2).1]
  · have hnm : scope.names.lookup nm = some .cell ∨ scope.names.lookup nm = some .free := hnm
    rcases hnm with hnm | hnm
    · exact absurd rfl (S.nocell _ (PySem.mem_of_lookup hnm))
    · have e := S.free1 _ (PySem.mem_of_lookup hnm) rfl
      have e' : nm = "__class__" := e
      subst e'
      exact ⟨cc, rfl⟩
  · have hlt : i < vs.length := by
      unfold L2.start at h2
      by_cases hlt : i < vs.length
      · exact hlt
      · rw [List.getElem?_append_right (by simpa using hlt)] at h2
        rw [List.getElem?_replicate] at h2
        split at h2 <;> cases h2
    have hval : vs[i]? = some vv := by
      unfold L2.start at h2
      rw [List.getElem?_append_left (by simpa using hlt), List.getElem?_map] at h2
      cases e : vs[i]? with
      | none => rw [e] at h2; cases h2
      | some a => rw [e] at h2; cases h2; rfl
    obtain ⟨u, hus, rel⟩ := r.get hval
    have hpar : ps[i]? = some nm := by
      rw [← S.pre, List.getElem?_take_of_lt (by omega)]; exact h1
    have ndq : ps.Nodup := by rw [← S.pre]; exact S.nd.sublist (List.take_sublist _ _)
    exact ⟨u, rel, .inl ⟨S.par nm (List.mem_of_getElem? hpar), lookup_rev (zip_nd ndq) (zip_mem hpar hus)⟩⟩
  · obtain ⟨_, e⟩ := one h
    subst e
    exact ⟨_, _, hk _ _ (e0.bs _ _ hcb).1, rfl⟩
  · obtain ⟨_, e⟩ := one h
    subst e
    exact (e0.bs _ _ hcb).2
  · unfold L2.start
    show _ = N.length
    rw [List.length_append, List.length_map, List.length_replicate]
    omega
/-- what the written part says of the class and of its __init__ -/
structure SupC (P : Program) (K : PySem.W.Frag) (C cda cc : Addr) : Prop where
  oex : OexC K C
  code : ∃ (ccl : Value) (cdd : Option Addr) (vs : Array Value) (ccs : Array (Option Value)) (file : Str) (tf : Tok), K.lookup cda = some ⟨ccl, cdd, .fields vs, ccs⟩ ∧ vs[2]? = some (.str file tf) ∧ ((P.main.file : Str) == file) = true
  cell : ∃ (cl : Value) (cld : Option Addr) (csl : Array (Option Value)), K.lookup cc = some ⟨cl, cld, .cell (some (.ref C)), csl⟩
  sub : PySem.W.mroIn K C (.ref C) = some true
  sup : PySem.W.nsIn K mainGlobals "super" = some none
  opq : PySem.W.nsIn K cStatics "thirdparty.any" = some none
  ini : PySem.W.ks_superIn K C C "__init__" = some (some (.builtin "ValueError.__init__"))
  subB : PySem.W.subIn K (.ref C) (.type "ValueError") = some true
  htop : (P.main.scope.names.lookup ("super" : Str)).isSome = false
theorem fn_super {CX : CXT} {P : Program} {w : World} {K : PySem.W.Frag} {mg : Str → Option Value} {base : Heap} {k : Nat} {f C cda cc : Addr} {name qual : Str} {params : Arguments} {rest : List Stmt} {scope : Scope} {kV doc pm ct oc : Value} {an od : Option Addr}
    {osl : Array (Option Value)} {N ps : List Str} {sp : Sp} {p0 p1 p2 p3 p4 : Pos} {ar : Arg}
    (lk : K.lookup f = some ⟨oc, od, .func (PySem.W.ksFn name qual params (.Expr (.Call (.Attribute (.Call (.Name "super" p0) [] [] p1) "__init__" p2) [] [] p3) p4 :: rest) scope .none kV doc pm an (.ref cda) ct cc), osl⟩)
    (hcd : PySem.W.codeIn K (.ref cda) qual = true) (S : ScopeS N ps scope) (T : SupC P K C cda cc)
    (hp : (params.posonlyargs ++ params.args).head? = some ar) (hps : ps[0]? = some ar.arg)
    (len : ∀ vs H Q E, sp vs H Q E → vs.length = ps.length)
    (slf : ∀ vs H Q E, sp vs H Q E → ∃ a ws, vs = .ref a :: ws ∧ H a = some (exo a C none))
    (hbody : ∀ (A : Around) (outer : List Env) (s : Shared) (H : Hp) (vs : List V) (Q : VK) (E : XK), Room k (A.deeper (PySem.W.ksEnv qual scope s.heap.objs.size f (.ref cda) cc)) → sp vs H Q E →
      ∃ t, PSs (cxS CX P w K mg base N qual scope f (.ref cda) cc A outer s H E) rest t ∧ t { nx := fun _ H' => Q .non H', rt := Q } (L2.start N vs) H)
    (hi : ∀ L, interactive (PySem.W.ksEnv qual scope L f (.ref cda) cc) = false := by intro _; rfl)
    (hsw : ∀ L, swapsWith (.Call (.Attribute (.Call (.Name "super" p0) [] [] p1) "__init__" p2) [] [] p3) none p4.line (PySem.W.ksEnv qual scope L f (.ref cda) cc) = pure false := by intro _; rfl)
    (he : ∀ L, ∃ pl : Sem Bool, eval (.Call (.Attribute (.Call (.Name "super" p0) [] [] p1) "__init__" p2) [] [] p3) (PySem.W.ksEnv qual scope L f (.ref cda) cc) = (do
      let ov ← attributeBase (.Call (.Name "super" p0) [] [] p1) "__init__" (PySem.W.ksEnv qual scope L f (.ref cda) cc) (eval (.Call (.Name "super" p0) [] [] p1) (PySem.W.ksEnv qual scope L f (.ref cda) cc))
      standAt p2.atName
      let (fx, first) ← holding [ov] (getMethod ov "__init__" pl)
      callWith p3 fx first (backTo p3 (starEach [] (PySem.W.ksEnv qual scope L f (.ref cda) cc))) []) := by intro _; exact ⟨_, rfl⟩) :
    FnOk P w K mg base CX (k + 1) f (PySem.W.ksFn name qual params (.Expr (.Call (.Attribute (.Call (.Name "super" p0) [] [] p1) "__init__" p2) [] [] p3) p4 :: rest) scope .none kV doc pm an (.ref cda) ct cc) ps sp := by
  refine ⟨len, fun A outer s H args us vs Q E hr e0 hb r hsp => ?_⟩
  have hln := len _ _ _ _ hsp
  have KI : K.In s.heap := e0.mod.kin.keeps fun b o e => (e0.bs b o e).1
  have nolim : s.heap.NoLimit := e0.mod.nolimit.keeps fun b o e => (e0.bs b o e).1
  have hloc : ∀ y ∈ ps.zip us, scope.names.lookup y.1 = some .local := fun ⟨n, v⟩ hy => S.par n (List.of_mem_zip hy).1
  obtain ⟨cl, cld, csl, hcell⟩ := T.cell
  obtain ⟨ccl, cdd, cvs, ccs, file, tf, hcode, hvs, hfile⟩ := T.code
  obtain ⟨a, ws, rfl, ha⟩ := slf _ _ _ _ hsp
  obtain ⟨t, ht, hq⟩ := hbody A outer s H _ Q E (hr.deeper _) hsp
  refine ks_codeAny_call_defAt (fd := PySem.W.ksFn name qual params (.Expr (.Call (.Attribute (.Call (.Name "super" p0) [] [] p1) "__init__" p2) [] [] p3) p4 :: rest) scope .none kV doc pm an (.ref cda) ct cc) (binds := ps.zip us) hr.depth (KI _ _ lk) rfl nolim (PySem.W.codeRec_of KI hcd) rfl hb S.nocell hloc (fun h1 hns hk => ?_) S.co S.gen S.kind
  have I : Inv (cxS CX P w K mg base N qual scope f (.ref cda) cc A outer s H E) [] (L2.start N (.ref a :: ws)) H { s with heap := h1, toks := s.toks + (ps.zip us).length } := inv_startS (us := us) S hr.hd e0 hln r hcell hns hk
  have X1 : K.In h1 := I.kIn
  obtain ⟨nm, q, NN, bs, bm, sn, sub, ab, col, dd, k0, k1, k2, k3, k5, hC, hbm⟩ := T.oex.cls
  obtain ⟨t1, ho⟩ := exo_at I.hok ha
  obtain ⟨u0, hu0, ru0⟩ := r.get (i := 0) (x := .ref a) rfl
  cases (show u0 = Value.ref a from ru0)
  have hself : (ps.zip us).reverse.lookup ar.arg = some (Value.ref a) := lookup_rev (zip_nd (by rw [← S.pre]; exact S.nd.sublist (List.take_sublist _ _))) (zip_mem hps hu0)
  have hka : scope.names.lookup ar.arg = some .local := S.par _ (List.mem_of_getElem? hps)
  have hcl : PySem.W.clsIn K C = some { name := nm, bases := bs, mro := .ref C :: bm, ns := NN, qualname := q, hasDict := true, slotNames := sn, subclasses := sub, abstract := ab, collection := col, hasDel := false } := by unfold PySem.W.clsIn; rw [hC] <;> rfl
  have hmg : mg "super" = none := PySem.W.mg_none_of e0.mod.kin e0.mod.glob T.sup
  obtain ⟨mb, hbl, hbb⟩ := e0.mod.blt
  show PySem.wpAt (model P w) (A.deeper (PySem.W.ksEnv qual scope s.heap.objs.size f (.ref cda) cc)) (.func _ (PySem.W.ksEnv qual scope s.heap.objs.size f (.ref cda) cc)) (execs _ (PySem.W.ksEnv qual scope s.heap.objs.size f (.ref cda) cc)) _ _ _
  obtain ⟨pl, he⟩ := he s.heap.objs.size
  refine ks_wpAt_execs_cons (ks_wpAt_Expr_any (ks_wpAt_MethodCall (pl := pl) ?_ he) (hi _) (hsw _))
  refine ks_wpAt_super_base (env := PySem.W.ksEnv qual scope s.heap.objs.size f (.ref cda) cc) S.ks S.kc (by decide) rfl (X1 _ _ lk) rfl hp rfl (X1 _ _ hcode) rfl hvs hfile T.htop ?_
  refine PySem.W.ks_loadName_global S.kind S.ks (PySem.Calls.loadGlobal_builtin (env := PySem.W.ksEnv qual scope s.heap.objs.size f (.ref cda) cc) (e0.mod.glob.keeps I.bk) hmg (hbl.keeps I.bk) ((hbb _ (by decide +kernel)).trans (by first | boot_by_name | rfl | kernel_rfl)) ⟨rfl, ?_⟩)
  refine wpAny_loadName_free S.kind S.kc rfl ⟨_, X1 _ _ hcell, rfl⟩ ?_
  refine wpAny_loadName_local S.kind hka hns hself ?_
  refine ks_wpAny_isType_cls (X1 _ _ hC) rfl ⟨rfl, ?_⟩
  refine ks_wpAny_call_super (X1 _ _ hC) rfl ho rfl (fun c => nofun) (PySem.W.looks_mroIn X1 T.sub) (fun h2 e2 kk2 => ?_)
  have I2 : Inv (cxS CX P w K mg base N qual scope f (.ref cda) cc A outer s H E) [] (L2.start N (.ref a :: ws)) H { s with heap := h2, toks := s.toks + (ps.zip us).length } := I.kept kk2
  have hsup := T.ini
  unfold PySem.W.ks_superIn at hsup
  rw [hcl] at hsup
  have ne : a ≠ C := fun z => by
    rw [z, X1 _ _ hC] at ho
    cases ho
  have JI : PySem.W.InstAt h2 a { cls := .ref C, data := .fields #[.ref t1, .none, .none, .none, .bool false, .none] } C none := ⟨kk2 _ _ ho, rfl, rfl, trivial⟩
  have hI : PySem.W.Looks (model P w) h2 (isInstance (.ref a) (.type "ValueError")) true := JI.type.andThen (PySem.W.looks_subIn I2.kIn T.subB)
  refine PySem.W.kxs_getMethod PySem.W.kxs_ValueError e2 (PySem.W.looks_opaque I2.kIn T.opq) (l₀ := .ref C :: bm) (fun A Q E s k q => wpAny_bind ((PySem.W.looks_clsIn I2.kIn hcl) A _ E s k (wpAny_pure q))) rfl I2.kIn hsup hI ne (by decide) ?_
  have kk3 : ∀ b o, h2.get? b = some o → (h2.push (PySem.W.kxs_mw "ValueError.__init__" a)).get? b = some o := fun b o e => Heap.get?_push_of_some _ e
  have I3 : Inv (cxS CX P w K mg base N qual scope f (.ref cda) cc A outer s H E) [] (L2.start N (.ref a :: ws)) H { s with heap := h2.push (PySem.W.kxs_mw "ValueError.__init__" a), toks := s.toks + (ps.zip us).length + 1 } := I2.kept (t' := s.toks + (ps.zip us).length + 1) kk3
  have hmw : (h2.push (PySem.W.kxs_mw "ValueError.__init__" a)).get? h2.objs.size = some (PySem.W.kxs_mw "ValueError.__init__" a) := Heap.get?_push_size _ rfl
  refine PySem.W.kxs_callWith (i := "ValueError.__init__") (x := a) rfl (evalArgs_empty ⟨hmw, ?_⟩)
  refine call_bwV (I3.kIn _ _ hC) (kk3 _ _ (kk2 _ _ ho)) hmw (Nat.zero_le _) fun h4 t4 k4 e4 => ?_
  have J := I3.write (t' := s.toks + (ps.zip us).length + 1) (x := a) (e := a) (o := exo a C none) (by rw [ha]; exact True.intro) (.inl rfl) k4 ⟨_, e4⟩ (exo_ok e4)
  have back : upd H a (exo a C none) = H := by
    funext b
    by_cases hb : b = a
    · rw [hb, upd_same, ha]
    · rw [upd_ne hb]
  rw [back] at J
  refine wpAt_of_wpAny (wpAny_mono (ht.run [] _ (L2.start N (.ref a :: ws)) H _ J hq) (fun fl s' hs => ?_) fun e s' hs => hs)
  have done : ∀ {σ' : L2.St} {H' : Hp} {v : V} {u : Value}, Inv (cxS CX P w K mg base N qual scope f (.ref cda) cc A outer s H E) [] σ' H' s' → RelV v u → Q v H' → CE outer P w H s Q u s' :=
    fun {σ' H' v u} J rel q => ⟨v, H', J.os, J.bare, J.base, J.hok, rel, q⟩
  cases fl with
  | ret u =>
    obtain ⟨v, σ', H', J, rel, q⟩ := hs
    exact done J rel q
  | next =>
    obtain ⟨σ', H', J, q⟩ := hs
    exact done (v := V.non) (u := Value.none) J rfl q
  | brk =>
    obtain ⟨_, _, _, q⟩ := hs
    exact False.elim q
  | cont =>
    obtain ⟨_, _, _, q⟩ := hs
    exact False.elim q
end Rx
set_option Elab.async false
set_option linter.all false
set_option maxRecDepth 100000
set_option maxHeartbeats 4000000
namespace Rx
open PySem PySem.Spec PyProof.Rows L2
/-! ### C(..) of an exception class, with keywords -/
/-! ### an exception made as a value -/
end Rx
set_option Elab.async false
set_option linter.all false
set_option maxRecDepth 100000
set_option maxHeartbeats 4000000
namespace Rx
open PySem PySem.Spec PyProof.Rows L2
/-! ### what is asked of an exception value -/
/-- what the written part says of its class -/
structure ErrC (K : PySem.W.Frag) (C : Addr) : Prop where
  hcl : (PySem.W.clsIn K C).isSome = true
  hga : PySem.W.findIn K (.ref C) "__getattribute__" = some (some (.builtin "BaseException.__getattribute__"))
  hgt : PySem.W.findIn K (.ref C) "__getattr__" = some none
  hsb : PySem.W.subIn K (.ref C) (.type "BaseException") = some true
  hdc : PySem.W.hasDictIn K C = true
  hac : PySem.W.findIn K (.ref C) "__class__" = some (some (.builtin "object.__class__"))
  hmo : PySem.W.mroIn K C (.type "object") = some true
/-- the descriptor of __class__ -/
structure ClsD (K : PySem.W.Frag) : Prop where
  hn : PySem.W.specialIn K (.builtin "object.__class__") "__get__" = some (some (.builtin "getset_descriptor.__get__"))
  ht : PySem.W.takesIn K (.builtin "object.__class__") = some true
end Rx
set_option Elab.async false
set_option linter.all false
set_option maxRecDepth 100000
set_option maxHeartbeats 4000000
namespace Rx
open PySem PySem.Spec PyProof.Rows L2
/-! ### a law whose own body asks str(..) of data: nothing is being shown around it -/
/-- the promise of a def, where no __repr__ is under way -/
def FnG (P : Program) (w : World) (K : PySem.W.Frag) (mg : Str → Option Value) (base : Heap) (k : Nat) (f : Addr) (fd : FuncData) (ps : List Str) (sp : Sp) : Prop :=
  ∀ (A : Around) (outer : List Env) (s : Shared) (H : Hp) (args : Args) (us : List Value) (vs : List V) (Q : VK), A.guards = some [] → Room k A → Env0 P w K mg base A outer s H → BindsTo s fd args (ps.zip us) → Vals vs us → sp vs H Q E0 →
    codeAny (model P w) A (.call (.ref f) args) (CR CX0 outer P w H s Q E0) s
theorem fnG_of {P : Program} {w : World} {K : PySem.W.Frag} {mg : Str → Option Value} {base : Heap} {x qual : Str} {st : Stmt} {f : Addr} {fd : FuncData} {N ps : List Str} {k : Nat} {sp : Sp} (F : Fun K x qual st f fd) (S : FnScope N ps (defScope st)) (len : ∀ vs H Q E, sp vs H Q E → vs.length = ps.length)
    (hbody : ∀ (cdv : Value) (A : Around) (outer : List Env) (s : Shared) (H : Hp) (vs : List V) (Q : VK), A.guards = some [] → Room k (A.deeper (envOfC qual (defScope st) s.heap.objs.size f cdv)) → sp vs H Q E0 →
      ∃ t, PSs (cxOf CX0 P w K mg base N qual (defScope st) f cdv A outer s H E0).nox (defBody st) t ∧ t { nx := fun _ H' => Q .non H', rt := Q } (L2.start N vs) H) : FnG P w K mg base (k + 1) f fd ps sp := by
  obtain ⟨oc, od, kV, doc, pm, an, cdv, ct, osl, rfl, lk, hcd⟩ := F.ex
  intro A outer s H args us vs Q hg hr e0 hb r hsp
  have up : ∀ b o, base.get? b = some o → s.heap.get? b = some o := fun b o e => (e0.bs b o e).1
  have KX := e0.mod.kin.keeps up
  refine codeAny_call_function hr.depth (KX _ _ lk) rfl S.co S.gen rfl (PySem.W.codeRec_of KX hcd) (hb _ _ _ _ ?_)
  refine wpAny_newFunctionEnv_cells S.kind (fun y hy => ?_) fun env he s1 z => ?_
  · rcases S.par y.1 (List.of_mem_zip (a := y.1) (b := y.2) hy).1 with q | q
    · exact .inl q
    · exact .inr ⟨q, PySem.W.cellsFrom_some _ _ _ (.inl q)⟩
  subst he
  obtain ⟨t, ht, hq⟩ := hbody cdv A outer s H vs Q hg (hr.deeper _) hsp
  have I := inv_start (CX := CX0) (mg := mg) (base := base) (E := E0) S hr.hd e0 (len _ _ _ _ hsp) r z
  refine ⟨(e0.mod.nolimit.keeps up).keeps z.toInCall.keep, codeAny_func (wpAny_mono (ht.nox.run [] s1 _ H _ I hq) (fun fl s' hs => ?_) fun _ _ y => y)⟩
  match fl, hs with
  | .ret u, ⟨v, _, H', J, rv, q⟩ => exact ⟨v, H', J.os, J.bare, J.base, J.hok, rv, q⟩
  | .next, ⟨_, H', J, q⟩ => exact ⟨V.non, H', J.os, J.bare, J.base, J.hok, rfl, q⟩
  | .brk, ⟨_, _, _, q⟩ => exact q.elim
  | .cont, ⟨_, _, _, q⟩ => exact q.elim
/-- the call of the law -/
theorem law_callG {P : Program} {w : World} {K : PySem.W.Frag} {mg mb : Str → Option Value} {k : Nat} {fa a : Addr} {fd : FuncData} {x : Str} {sp : Sp} {s₁ : Shared} {vs : List Value} {ns : List Int}
    (KX : K.In s₁.heap) (hns : s₁.heap.Ns mainGlobals mg) (hb : s₁.heap.Ns builtinsNs mb) (hbb : ∀ y : Str, y ≠ "__name__" → mb y = bootBuiltins y) (hlim : s₁.heap.NoLimit) (hgen : s₁.gens = #[])
    (ha : s₁.heap.get? a = some { cls := .type "list", data := .seq vs.toArray }) (hi : IntsAre vs ns) (hl : ns.length ≤ sizeLine) (hr : Room k callerA)
    (F : ∀ base : Heap, K.In base → base.Ns mainGlobals mg → FnG P w K mg base k fa fd [x] sp) (hbind : ∀ (s : Shared) (u : Value), BindsTo s fd ⟨[u], []⟩ [(x, u)])
    (hsp : ∀ H : Hp, Only H → SqL K H a (ns.map V.int) → sp [.ref a] H (fun v _ => v = .bl true) E0) :
    codeAny (model P w) callerA (.call (.ref fa) ⟨[.ref a], []⟩) (fun r s' => r = .ok (.ret (.bool true)) ∧ OldK s₁.heap s'.heap ∧ s'.os = s₁.os ∧ AllBare s'.gens) s₁ := by
  have rv := vals_ints hi
  have lenV := hi.length
  obtain ⟨H, hO, hS, hok, hA⟩ : ∃ H : Hp, Only H ∧ SqL K H a (ns.map V.int) ∧ HOk P w H s₁.heap ∧ ∀ b u, H b = some u → b = a ∧ K.lookup a = none := by
    cases hk : K.lookup a with
    | some o =>
      have e := KX a o hk
      rw [ha] at e
      cases e
      exact ⟨fun _ => none, fun _ => .inl rfl, .inr ⟨_, vs.toArray, _, hk, rfl, rfl, rfl, by rw [List.size_toArray, lenV]; exact hl, by simpa using rv⟩, (fun _ _ z => nomatch z), fun _ _ z => nomatch z⟩
    | none =>
      have only : ∀ {b : Addr} {u v : HO}, (if b = a then some v else none) = some u → b = a ∧ v = u := fun {b u v} z => by
        split at z
        · rename_i hb
          exact ⟨hb, Option.some.inj z⟩
        · cases z
      refine ⟨fun b => if b = a then some (.frz { cls := .type "list", data := .seq vs.toArray } (.lst (ns.map V.int))) else none, fun b => ?_, .inl (.inr ⟨_, if_pos rfl⟩), fun b u z => ?_, fun b u z => ⟨(only z).1, rfl⟩⟩
      · by_cases hba : b = a
        · exact .inr ⟨_, _, if_pos hba⟩
        · exact .inl (if_neg hba)
      · obtain ⟨rfl, rfl⟩ := only z
        exact ⟨ha, by rw [List.length_map]; exact hl, vs, _, rv, ha⟩
  have free : ∀ {b : Addr} {o : Obj}, s₁.heap.get? b = some o → (b = a → K.lookup a = none → False) → (hidT s₁.heap H).get? b = some o := fun {b o} e n => hidT_get e (by
    cases q : H b with
    | none => rfl
    | some u => exact (n (hA b u q).1 (hA b u q).2).elim)
  have nsK : ∀ {b : Addr} {m : Str → Option Value}, s₁.heap.Ns b m → (hidT s₁.heap H).Ns b m := fun {b m} ⟨o, es, ep, e, dt, r⟩ => ⟨o, es, ep, free e (fun hba _ => by
    rw [hba, ha] at e
    cases e
    cases dt), dt, r⟩
  have hKb : K.In (hidT s₁.heap H) := fun b o e => free (KX b o e) fun hba hn => by
    rw [hba, hn] at e
    cases e
  have hM : Mod K mg (hidT s₁.heap H) := ⟨hKb, nsK hns, ⟨mb, nsK hb, hbb⟩, let ⟨mc, y1, y2⟩ := hlim; ⟨mc, nsK y1, y2⟩⟩
  have e0 : Env0 P w K mg (hidT s₁.heap H) callerA [] s₁ H := ⟨rfl, hM, (fun b o e => of_hidT e), Nat.le_of_eq (hidT_size _ _), trivial, (fun b z => by cases z), hok, .of_eq hgen⟩
  refine codeAny_mono (F _ hKb (nsK hns) callerA [] s₁ H ⟨[.ref a], []⟩ [.ref a] [.ref a] (fun v _ => v = .bl true) rfl hr e0 (hbind s₁ (.ref a)) (.cons rfl .nil) (hsp H hO hS)) fun r s' y => ?_
  match r, y with
  | .ok (.ret u), ⟨v, H', os, bare, un, hok', rr, q⟩ =>
    cases (show v = V.bl true from q)
    cases (show u = Value.bool true from rr)
    refine ⟨rfl, OldK.of_keep fun b o e => ?_, os, bare⟩
    rcases hO b with z | ⟨ob, xs, z⟩
    · exact un.keep b o e z (fun z => by cases z) (fun z => by cases z)
    · obtain ⟨g1, _⟩ := hok b _ z
      obtain ⟨g2, _⟩ := hok' b _ (un.frzs b ob _ z)
      rw [g1] at e
      cases e
      exact g2
end Rx
set_option Elab.async false
set_option linter.all false
set_option maxRecDepth 100000
set_option maxHeartbeats 4000000
namespace Rx
open PySem PySem.Spec PyProof.Rows L2
/-! ### data with lists turned into tuples -/
mutual
def fix : PyData → PyData
  | .list xs => .tuple (fixAll xs)
  | .tuple xs => .tuple (fixAll xs)
  | .none => .none
  | .bool b => .bool b
  | .int i => .int i
  | .str x => .str x
  | .dict kvs => .dict kvs
def fixAll : List PyData → List PyData
  | [] => []
  | x :: xs => fix x :: fixAll xs
end
mutual
def sz : PyData → Nat
  | .list xs => 2 + szAll xs
  | .tuple xs => 2 + szAll xs
  | _ => 1
def szAll : List PyData → Nat
  | [] => 0
  | x :: xs => sz x + szAll xs
end
def kids : PyData → Option (List PyData)
  | .list xs => some xs
  | .tuple xs => some xs
  | _ => none
theorem fixAll_map : ∀ xs : List PyData, fixAll xs = xs.map fix
  | [] => by simp [fixAll]
  | x :: xs => by simp [fixAll, fixAll_map xs]
theorem fix_kids {c : PyData} {xs : List PyData} (h : kids c = some xs) : fix c = .tuple (fixAll xs) := by
  cases c <;> simp [kids] at h <;> subst h <;> simp [fix]
theorem sz_kids {c : PyData} {xs : List PyData} (h : kids c = some xs) : sz c = 2 + szAll xs := by
  cases c <;> simp [kids] at h <;> subst h <;> simp [sz]
theorem sz_pos (c : PyData) : 1 ≤ sz c := by cases c <;> simp [sz] <;> omega
theorem szAll_drop : ∀ {xs : List PyData} {n : Nat} {c : PyData}, xs[n]? = some c → szAll (xs.drop n) = sz c + szAll (xs.drop (n + 1))
  | [], _, _, h => by simp at h
  | x :: xs, 0, c, h => by
    simp at h
    subst h
    simp [szAll]
  | x :: xs, n + 1, c, h => by
    simp only [List.getElem?_cons_succ] at h
    simpa using szAll_drop h
theorem sz_le_all : ∀ {xs : List PyData} {c : PyData}, c ∈ xs → sz c ≤ szAll xs
  | [], _, h => by cases h
  | x :: xs, c, h => by
    rcases List.mem_cons.mp h with rfl | h
    · simp [szAll]
    · have := sz_le_all h
      simp only [szAll]
      omega
theorem len_le_sz : ∀ xs : List PyData, xs.length ≤ szAll xs
  | [] => by simp
  | x :: xs => by
    have h1 := sz_pos x
    have h2 := len_le_sz xs
    simp only [List.length_cons, szAll]
    omega
/-! ### data in a heap -/
/-! no list in it -/
mutual
def noList : PyData → Bool
  | .list _ => false
  | .tuple xs => noListAll xs
  | _ => true
def noListAll : List PyData → Bool
  | [] => true
  | x :: xs => noList x && noListAll xs
end
mutual
theorem fix_noList : ∀ d : PyData, noList (fix d) = true
  | .list xs => by simp only [fix, noList]; exact fixAll_noList xs
  | .tuple xs => by simp only [fix, noList]; exact fixAll_noList xs
  | .none => by simp [fix, noList]
  | .bool _ => by simp [fix, noList]
  | .int _ => by simp [fix, noList]
  | .str _ => by simp [fix, noList]
  | .dict _ => by simp [fix, noList]
theorem fixAll_noList : ∀ xs : List PyData, noListAll (fixAll xs) = true
  | [] => by simp [fixAll, noListAll]
  | x :: xs => by simp only [fixAll, noListAll, fix_noList x, fixAll_noList xs, Bool.and_self]
end
section
variable {K : PySem.W.Frag} {H H' : Hp}
theorem sqT_keep (k : ∀ a xs, H a = some (.tup xs) → H' a = some (.tup xs)) (kf : ∀ a o u, H a = some (.frz o u) → H' a = some (.frz o u)) {a : Addr} {xs : List V} (h : SqT K H a xs) : SqT K H' a xs := by
  rcases h with (h | ⟨o, h⟩) | h
  · exact .inl (.inl (k _ _ h))
  · exact .inl (.inr ⟨o, kf _ _ _ h⟩)
  · exact .inr h
theorem sqL_same (e : Same H H') {a : Addr} {xs : List V} (h : SqL K H a xs) : SqL K H' a xs := Same.seq e h
theorem sqT_same (e : Same H H') {a : Addr} {xs : List V} (h : SqT K H a xs) : SqT K H' a xs := sqT_keep (fun a xs => e a _) (fun a o u => e a _) h
mutual
theorem dp_keep (k : ∀ a xs, H a = some (.tup xs) → H' a = some (.tup xs)) (kf : ∀ a o u, H a = some (.frz o u) → H' a = some (.frz o u)) : ∀ {v : V} {d : PyData}, Dp K H v d → noList d = true → Dp K H' v d
  | _, _, .non, _ => .non
  | _, _, .bl b, _ => .bl b
  | _, _, .int i, _ => .int i
  | _, _, .str x, _ => .str x
  | _, _, .lst _ _, h => by simp [noList] at h
  | _, _, .tup h1 h2, h => .tup (sqT_keep k kf h1) (dpAll_keep k kf h2 (by simpa [noList] using h))
theorem dpAll_keep (k : ∀ a xs, H a = some (.tup xs) → H' a = some (.tup xs)) (kf : ∀ a o u, H a = some (.frz o u) → H' a = some (.frz o u)) : ∀ {vs : List V} {ds : List PyData}, DpAll K H vs ds → noListAll ds = true → DpAll K H' vs ds
  | _, _, .nil, _ => .nil
  | _, _, .cons h1 h2, h => by
    simp only [noListAll, Bool.and_eq_true] at h
    exact .cons (dp_keep k kf h1 h.1) (dpAll_keep k kf h2 h.2)
end
mutual
theorem dp_same (e : Same H H') : ∀ {v : V} {d : PyData}, Dp K H v d → Dp K H' v d
  | _, _, .non => .non
  | _, _, .bl b => .bl b
  | _, _, .int i => .int i
  | _, _, .str x => .str x
  | _, _, .lst h1 h2 => .lst (sqL_same e h1) (dpAll_same e h2)
  | _, _, .tup h1 h2 => .tup (sqT_same e h1) (dpAll_same e h2)
theorem dpAll_same (e : Same H H') : ∀ {vs : List V} {ds : List PyData}, DpAll K H vs ds → DpAll K H' vs ds
  | _, _, .nil => .nil
  | _, _, .cons h1 h2 => .cons (dp_same e h1) (dpAll_same e h2)
end
theorem dpAll_app : ∀ {vs ws : List V} {ds es : List PyData}, DpAll K H vs ds → DpAll K H ws es → DpAll K H (vs ++ ws) (ds ++ es)
  | _, _, _, _, .nil, h => h
  | _, _, _, _, .cons h1 h2, h => .cons h1 (dpAll_app h2 h)
theorem dpAll_len : ∀ {vs : List V} {ds : List PyData}, DpAll K H vs ds → vs.length = ds.length
  | _, _, .nil => rfl
  | _, _, .cons _ h2 => by rw [List.length_cons, List.length_cons, dpAll_len h2]
theorem dpAll_get : ∀ {vs : List V} {ds : List PyData} {i : Nat} {d : PyData}, DpAll K H vs ds → ds[i]? = some d → ∃ v, vs[i]? = some v ∧ Dp K H v d
  | _, _, _, _, .nil, h => by simp at h
  | _, _, 0, _, .cons h1 _, h => by
    simp at h
    subst h
    exact ⟨_, rfl, h1⟩
  | _, _, i + 1, _, .cons _ h2, h => by
    simp only [List.getElem?_cons_succ] at h
    obtain ⟨v, e, q⟩ := dpAll_get h2 h
    exact ⟨v, by simpa using e, q⟩
/-- a list or a tuple of such items stands there -/
def Src (K : PySem.W.Frag) (H : Hp) (v : V) (its : List PyData) : Prop := ∃ (a : Addr) (xs : List V), v = .ref a ∧ (SqL K H a xs ∨ SqT K H a xs) ∧ DpAll K H xs its
theorem src_of {v : V} {c : PyData} {its : List PyData} (h : Dp K H v c) (k : kids c = some its) : Src K H v its := by
  cases h with
  | lst h1 h2 =>
    simp only [kids, Option.some.injEq] at k
    subst k
    exact ⟨_, _, rfl, .inl h1, h2⟩
  | tup h1 h2 =>
    simp only [kids, Option.some.injEq] at k
    subst k
    exact ⟨_, _, rfl, .inr h1, h2⟩
  | _ => simp [kids] at k
/-- isinstance(x, (list, tuple)) -/
theorem ty_dp {v : V} {c : PyData} (h : Dp K H v c) : ∃ t, TyX K H v t ∧ PySem.W.kitAny K t [.type "list", .type "tuple"] = some (kids c).isSome := by
  have no : ∀ t : String, kitB t "list" = some false → kitB t "tuple" = some false → PySem.W.kitAny K (.type t) [.type "list", .type "tuple"] = some false := fun t h1 h2 =>
    kitAny_cons (kit_ty h1) (fun _ => kitAny_cons (kit_ty h2) (fun _ => kitAny_nil) (fun z => nomatch z)) (fun z => nomatch z)
  have yl : PySem.W.kitAny K (.type "list") [.type "list", .type "tuple"] = some true := kitAny_cons (b := true) (kit_ty (by decide +kernel)) (fun z => nomatch z) (fun _ => rfl)
  have yt : PySem.W.kitAny K (.type "tuple") [.type "list", .type "tuple"] = some true :=
    kitAny_cons (b := false) (kit_ty (by decide +kernel)) (fun _ => kitAny_cons (b := true) (kit_ty (by decide +kernel)) (fun z => nomatch z) (fun _ => rfl)) (fun z => nomatch z)
  cases h with
  | non => exact ⟨_, .base .non, no _ (by decide +kernel) (by decide +kernel)⟩
  | bl b => exact ⟨_, .base (.bl b), no _ (by decide +kernel) (by decide +kernel)⟩
  | int i => exact ⟨_, .base (.int i), no _ (by decide +kernel) (by decide +kernel)⟩
  | str x => exact ⟨_, .base (.str x), no _ (by decide +kernel) (by decide +kernel)⟩
  | lst h1 _ =>
    refine ⟨.type "list", ?_, yl⟩
    rcases h1 with (h | ⟨o, h⟩) | ⟨o, its, n, h, hc, _⟩
    · exact .base (.lst h)
    · exact .base (.frz h)
    · exact .kList h hc
  | tup h1 _ =>
    refine ⟨.type "tuple", ?_, yt⟩
    rcases h1 with (h | ⟨o, h⟩) | ⟨o, its, n, h, hc, _⟩
    · exact .base (.tup h)
    · exact .fTuple h
    · exact .kTuple h hc
theorem leaf_dp {v : V} {c : PyData} (h : Dp K H v c) (k : kids c = none) : fix c = c ∧ Dp K H' v c := by
  cases h with
  | non => exact ⟨by simp [fix], .non⟩
  | bl b => exact ⟨by simp [fix], .bl b⟩
  | int i => exact ⟨by simp [fix], .int i⟩
  | str x => exact ⟨by simp [fix], .str x⟩
  | lst _ _ => simp [kids] at k
  | tup _ _ => simp [kids] at k
theorem same_new {H : Hp} {a : Addr} {o : HO} (h : H a = none) : Same H (upd H a o) := fun b u e => by
  rw [upd_ne (ne_of_none e h)]
  exact e
theorem same_upd {H0 H : Hp} {a : Addr} {o : HO} (e : Same H0 H) (h : H0 a = none) : Same H0 (upd H a o) := fun b u q => by
  rw [upd_ne (ne_of_none q h)]
  exact e _ _ q
end
end Rx
set_option Elab.async false
set_option linter.all false
set_option maxRecDepth 100000
set_option maxHeartbeats 4000000
namespace Rx
open PySem PySem.Spec PyProof.Rows L2
/-- one level of the walk through nested data: what is walked, its items, how far, the list of what is made, and what is in it -/
structure Lv where
  src : V
  its : List PyData
  pl : Nat
  rs : Addr
  vl : List V
def lvOk (K : PySem.W.Frag) (H1 H : Hp) (N : Nat) (l : Lv) (n : Nat) : Prop := Src K H1 l.src l.its ∧ DpAll K H l.vl (fixAll (l.its.take n)) ∧ szAll l.its ≤ N
def below (K : PySem.W.Frag) (H1 H : Hp) (N : Nat) (d : PyData) : List PyData → List Lv → Prop
  | its, [] => its = [d]
  | its, l :: r => ∃ q c, l.pl = q + 1 ∧ l.its[q]? = some c ∧ kids c = some its ∧ lvOk K H1 H N l q ∧ below K H1 H N d l.its r
def mu : List Lv → Nat
  | [] => 0
  | l :: r => szAll (l.its.drop l.pl) + 1 + mu r
theorem below_len {K : PySem.W.Frag} {H1 H : Hp} {N : Nat} {d : PyData} : ∀ {r : List Lv} {its : List PyData}, below K H1 H N d its r → ∀ l ∈ r, l.vl.length ≤ N
  | [], _, _, _, hm => by cases hm
  | l :: r, its, ⟨q, c, e1, e2, e3, ⟨h1, h2, h3⟩, hb⟩, x, hm => by
    rcases List.mem_cons.mp hm with rfl | hm
    · have hl := dpAll_len h2
      rw [fixAll_map, List.length_map, List.length_take] at hl
      have := len_le_sz x.its
      omega
    · exact below_len hb x hm
/-- a list is written: the levels stay good -/
theorem below_keep {K : PySem.W.Frag} {H1 H H' : Hp} {N : Nat} {d : PyData} (k : ∀ a xs, H a = some (.tup xs) → H' a = some (.tup xs)) (kf : ∀ a o u, H a = some (.frz o u) → H' a = some (.frz o u)) :
    ∀ {r : List Lv} {its : List PyData}, below K H1 H N d its r → below K H1 H' N d its r
  | [], _, h => h
  | l :: r, its, ⟨q, c, e1, e2, e3, ⟨h1, h2, h3⟩, hb⟩ => ⟨q, c, e1, e2, e3, ⟨h1, dpAll_keep k kf h2 (fixAll_noList _), h3⟩, below_keep k kf hb⟩
def colS (L : List Lv) : List V := L.reverse.map (·.src)
def colP (L : List Lv) : List V := L.reverse.map fun l => V.int l.pl
def colR (L : List Lv) : List V := L.reverse.map fun l => V.ref l.rs
/-- the state between two turns -/
structure Mid (K : PySem.W.Frag) (H1 H : Hp) (N B : Nat) (d : PyData) (S P R : Addr) (t : Lv) (r : List Lv) : Prop where
  hS : H S = some (.lst (colS (t :: r)))
  hP : H P = some (.lst (colP (t :: r)))
  hR : H R = some (.lst (colR (t :: r)))
  hv : ∀ l ∈ t :: r, H l.rs = some (.lst l.vl)
  nSP : S ≠ P
  nSR : S ≠ R
  nPR : P ≠ R
  nd : ((t :: r).map (·.rs)).Nodup
  out : ∀ l ∈ t :: r, l.rs ≠ S ∧ l.rs ≠ P ∧ l.rs ≠ R ∧ H1 l.rs = none
  same : Same H1 H
  fS : H1 S = none
  fP : H1 P = none
  fR : H1 R = none
  ok : lvOk K H1 H N t t.pl
  le : t.pl ≤ t.its.length
  bl : below K H1 H N d t.its r
  bd : mu (t :: r) + (t :: r).length ≤ B
theorem colS_cons (t : Lv) (r : List Lv) : colS (t :: r) = colS r ++ [t.src] := by simp [colS]
theorem colP_cons (t : Lv) (r : List Lv) : colP (t :: r) = colP r ++ [V.int t.pl] := by simp [colP]
theorem colR_cons (t : Lv) (r : List Lv) : colR (t :: r) = colR r ++ [V.ref t.rs] := by simp [colR]
theorem col_lens (L : List Lv) : (colS L).length = L.length ∧ (colP L).length = L.length ∧ (colR L).length = L.length := by simp [colS, colP, colR]
/-- tuples and locked things stay -/
def Keeps (H H' : Hp) : Prop := (∀ a xs, H a = some (.tup xs) → H' a = some (.tup xs)) ∧ ∀ a o u, H a = some (.frz o u) → H' a = some (.frz o u)
theorem Keeps.refl (H : Hp) : Keeps H H := ⟨fun _ _ h => h, fun _ _ _ h => h⟩
theorem Keeps.trans {H H1 H2 : Hp} (a : Keeps H H1) (b : Keeps H1 H2) : Keeps H H2 := ⟨fun x y h => b.1 _ _ (a.1 x y h), fun x y z h => b.2 _ _ _ (a.2 x y z h)⟩
theorem keeps_lst {H : Hp} {a : Addr} {xs : List V} {o : HO} (h : H a = some (.lst xs)) : Keeps H (upd H a o) :=
  ⟨fun b ys e => by rw [upd_ne (ne_of e h (by intro z; cases z))]; exact e, fun b ob u e => by rw [upd_ne (ne_of e h (by intro z; cases z))]; exact e⟩
theorem keeps_new {H : Hp} {a : Addr} {o : HO} (h : H a = none) : Keeps H (upd H a o) :=
  ⟨fun b ys e => by rw [upd_ne (ne_of_none e h)]; exact e, fun b ob u e => by rw [upd_ne (ne_of_none e h)]; exact e⟩
section
variable {K : PySem.W.Frag} {H1 H : Hp} {N B : Nat} {d : PyData} {S P R : Addr} {t l : Lv} {r : List Lv}
/-- behind the last item of a level: it becomes a tuple -/
theorem mid_pop (M : Mid K H1 H N B d S P R t (l :: r)) (hpl : t.pl = t.its.length) {p : Addr} {oS oP oR : List V} (eS : oS = colS (l :: r)) (eP : oP = colP (l :: r)) (eR : oR = colR (l :: r))
    (hp : upd (upd (upd H S (.lst oS)) P (.lst oP)) R (.lst oR) p = none) :
    Mid K H1 (upd (upd (upd (upd (upd H S (.lst oS)) P (.lst oP)) R (.lst oR)) p (.tup t.vl)) l.rs (.lst (l.vl ++ [.ref p]))) N B d S P R { l with vl := l.vl ++ [.ref p] } r ∧ mu ({ l with vl := l.vl ++ [.ref p] } :: r) < mu (t :: l :: r) := by
  subst eS eP eR
  obtain ⟨q, c, e1, e2, e3, ⟨h1, h2, h3⟩, hb⟩ := M.bl
  have pS : p ≠ S := fun z => by rw [z, upd_ne M.nSR, upd_ne M.nSP, upd_same] at hp; cases hp
  have pP : p ≠ P := fun z => by rw [z, upd_ne M.nPR, upd_same] at hp; cases hp
  have pR : p ≠ R := fun z => by rw [z, upd_same] at hp; cases hp
  have hpn : H p = none := by rw [upd_ne pR, upd_ne pP, upd_ne pS] at hp; exact hp
  have p1 : H1 p = none := M.same.free hpn
  obtain ⟨lS, lP, lR, l1⟩ := M.out l (by simp)
  have lp : l.rs ≠ p := ne_of_none (M.hv l (by simp)) hpn
  have kk : Keeps H (upd (upd (upd (upd (upd H S (.lst (colS (l :: r)))) P (.lst (colP (l :: r)))) R (.lst (colR (l :: r)))) p (.tup t.vl)) l.rs (.lst (l.vl ++ [.ref p]))) := by
    refine (keeps_lst M.hS).trans ((keeps_lst (xs := colP (t :: l :: r)) ?_).trans ((keeps_lst (xs := colR (t :: l :: r)) ?_).trans ((keeps_new hp).trans (keeps_lst (xs := l.vl) ?_))))
    · rw [upd_ne M.nSP.symm]; exact M.hP
    · rw [upd_ne M.nPR.symm, upd_ne M.nSR.symm]; exact M.hR
    · rw [upd_ne lp, upd_ne lR, upd_ne lP, upd_ne lS]; exact M.hv l (by simp)
  have nd := M.nd
  simp only [List.map_cons, List.nodup_cons, List.mem_cons, not_or] at nd
  have hq : q + 1 ≤ l.its.length := (List.getElem?_eq_some_iff.mp e2).1
  have etk : l.its.take (q + 1) = l.its.take q ++ [c] := by rw [List.take_add_one, e2]; rfl
  have T : Dp K (upd (upd (upd (upd (upd H S (.lst (colS (l :: r)))) P (.lst (colP (l :: r)))) R (.lst (colR (l :: r)))) p (.tup t.vl)) l.rs (.lst (l.vl ++ [.ref p]))) (.ref p) (fix c) := by
    rw [fix_kids e3]
    refine .tup (SqT.of (by rw [upd_ne lp.symm, upd_same])) ?_
    have := M.ok.2.1
    rw [hpl, List.take_length] at this
    exact dpAll_keep kk.1 kk.2 this (fixAll_noList _)
  refine ⟨⟨?_, ?_, ?_, ?_, M.nSP, M.nSR, M.nPR, ?_, ?_, ?_, M.fS, M.fP, M.fR, ⟨h1, ?_, h3⟩, ?_, ?_, ?_⟩, ?_⟩
  · rw [upd_ne lS.symm, upd_ne pS.symm, upd_ne M.nSR, upd_ne M.nSP, upd_same]; simp [colS]
  · rw [upd_ne lP.symm, upd_ne pP.symm, upd_ne M.nPR, upd_same]; simp [colP]
  · rw [upd_ne lR.symm, upd_ne pR.symm, upd_same]; simp [colR]
  · intro x hx
    rcases List.mem_cons.mp hx with rfl | hx
    · exact upd_same
    · obtain ⟨xS, xP, xR, x1⟩ := M.out x (by simp [hx])
      have xl : x.rs ≠ l.rs := fun z => nd.2.1 (by rw [← z]; exact List.mem_map_of_mem hx)
      have xv := M.hv x (by simp [hx])
      rw [upd_ne xl, upd_ne (ne_of_none xv hpn), upd_ne xR, upd_ne xP, upd_ne xS]
      exact xv
  · simp only [List.map_cons, List.nodup_cons]
    exact nd.2
  · intro x hx
    rcases List.mem_cons.mp hx with rfl | hx
    · exact ⟨lS, lP, lR, l1⟩
    · exact M.out x (by simp [hx])
  · exact same_upd (same_upd (same_upd (same_upd (same_upd M.same M.fS) M.fP) M.fR) p1) l1
  · show DpAll K _ (l.vl ++ [.ref p]) (fixAll (l.its.take l.pl))
    rw [e1, etk, fixAll_map, List.map_append, ← fixAll_map]
    exact dpAll_app (dpAll_keep kk.1 kk.2 h2 (fixAll_noList _)) (.cons T .nil)
  · show l.pl ≤ l.its.length
    omega
  · exact below_keep kk.1 kk.2 hb
  · have := M.bd
    simp only [mu, List.length_cons] at this ⊢
    omega
  · simp only [mu]
    omega
/-- an item that is no list and no tuple -/
theorem mid_leaf (M : Mid K H1 H N B d S P R t r) {c : PyData} {v : V} (hc : t.its[t.pl]? = some c) (kc : kids c = none) (hv : Dp K H1 v c) {q : Addr} {oq : HO} {oP : List V} (eP : oP = colP ({ t with pl := t.pl + 1 } :: r))
    (hq : upd H P (.lst oP) q = none) :
    Mid K H1 (upd (upd (upd H P (.lst oP)) q oq) t.rs (.lst (t.vl ++ [v]))) N B d S P R { t with pl := t.pl + 1, vl := t.vl ++ [v] } r ∧ mu ({ t with pl := t.pl + 1, vl := t.vl ++ [v] } :: r) < mu (t :: r) := by
  subst eP
  have qP : q ≠ P := fun z => by rw [z, upd_same] at hq; cases hq
  have hqn : H q = none := by rw [upd_ne qP] at hq; exact hq
  have q1 : H1 q = none := M.same.free hqn
  obtain ⟨tS, tP, tR, t1⟩ := M.out t (by simp)
  have tq : t.rs ≠ q := ne_of_none (M.hv t (by simp)) hqn
  have kk : Keeps H (upd (upd (upd H P (.lst (colP ({ t with pl := t.pl + 1 } :: r)))) q oq) t.rs (.lst (t.vl ++ [v]))) := by
    refine (keeps_lst M.hP).trans ((keeps_new hq).trans (keeps_lst (xs := t.vl) ?_))
    rw [upd_ne tq, upd_ne tP]; exact M.hv t (by simp)
  have nd := M.nd
  simp only [List.map_cons, List.nodup_cons] at nd
  have hlt : t.pl < t.its.length := (List.getElem?_eq_some_iff.mp hc).1
  have etk : t.its.take (t.pl + 1) = t.its.take t.pl ++ [c] := by rw [List.take_add_one, hc]; rfl
  have hd := szAll_drop hc
  have hs := sz_pos c
  refine ⟨⟨?_, ?_, ?_, ?_, M.nSP, M.nSR, M.nPR, ?_, ?_, ?_, M.fS, M.fP, M.fR, ⟨M.ok.1, ?_, M.ok.2.2⟩, ?_, ?_, ?_⟩, ?_⟩
  · rw [upd_ne tS.symm, upd_ne (ne_of_none M.hS hqn), upd_ne M.nSP, M.hS]; simp [colS]
  · rw [upd_ne tP.symm, upd_ne qP.symm, upd_same]; simp [colP]
  · rw [upd_ne tR.symm, upd_ne (ne_of_none M.hR hqn), upd_ne M.nPR.symm, M.hR]; simp [colR]
  · intro x hx
    rcases List.mem_cons.mp hx with rfl | hx
    · exact upd_same
    · obtain ⟨xS, xP, xR, x1⟩ := M.out x (by simp [hx])
      have xl : x.rs ≠ t.rs := fun z => nd.1 (by rw [← z]; exact List.mem_map_of_mem hx)
      have xv := M.hv x (by simp [hx])
      rw [upd_ne xl, upd_ne (ne_of_none xv hqn), upd_ne xP]
      exact xv
  · simp only [List.map_cons, List.nodup_cons]
    exact nd
  · intro x hx
    rcases List.mem_cons.mp hx with rfl | hx
    · exact ⟨tS, tP, tR, t1⟩
    · exact M.out x (by simp [hx])
  · exact same_upd (same_upd (same_upd M.same M.fP) q1) t1
  · show DpAll K _ (t.vl ++ [v]) (fixAll (t.its.take (t.pl + 1)))
    rw [etk, fixAll_map, List.map_append, ← fixAll_map]
    refine dpAll_app (dpAll_keep kk.1 kk.2 M.ok.2.1 (fixAll_noList _)) (.cons ?_ .nil)
    obtain ⟨e, h⟩ := leaf_dp (H' := _) hv kc
    rw [e]
    exact h
  · exact hlt
  · exact below_keep kk.1 kk.2 M.bl
  · have := M.bd
    simp only [mu, List.length_cons] at this ⊢
    omega
  · simp only [mu]
    omega
/-- an item that is a list or a tuple: a new level -/
theorem mid_push (M : Mid K H1 H N B d S P R t r) {c : PyData} {v : V} {its : List PyData} (hc : t.its[t.pl]? = some c) (kc : kids c = some its) (hv : Dp K H1 v c) {q e : Addr} {oq : HO} {oP oS oP' oR : List V}
    (eP : oP = colP ({ t with pl := t.pl + 1 } :: r)) (hq : upd H P (.lst oP) q = none) (eS : oS = colS ({ t with pl := t.pl + 1 } :: r) ++ [v]) (eP' : oP' = colP ({ t with pl := t.pl + 1 } :: r) ++ [V.int 0]) (eR : oR = colR ({ t with pl := t.pl + 1 } :: r) ++ [V.ref e])
    (he : upd (upd (upd (upd H P (.lst oP)) q oq) S (.lst oS)) P (.lst oP') e = none) :
    Mid K H1 (upd (upd (upd (upd (upd (upd H P (.lst oP)) q oq) S (.lst oS)) P (.lst oP')) e (.lst [])) R (.lst oR)) N B d S P R ⟨v, its, 0, e, []⟩ ({ t with pl := t.pl + 1 } :: r) ∧ mu (⟨v, its, 0, e, []⟩ :: { t with pl := t.pl + 1 } :: r) < mu (t :: r) := by
  subst eP eS eP' eR
  have qP : q ≠ P := fun z => by rw [z, upd_same] at hq; cases hq
  have hqn : H q = none := by rw [upd_ne qP] at hq; exact hq
  have q1 : H1 q = none := M.same.free hqn
  have qS : S ≠ q := ne_of_none M.hS hqn
  have qR : R ≠ q := ne_of_none M.hR hqn
  have eP : e ≠ P := fun z => by rw [z, upd_same] at he; cases he
  have eS : e ≠ S := fun z => by rw [z, upd_ne M.nSP, upd_same] at he; cases he
  have eq : e ≠ q := fun z => by rw [z, upd_ne qP, upd_ne qS.symm, upd_same] at he; cases he
  have hen : H e = none := by rw [upd_ne eP, upd_ne eS, upd_ne eq, upd_ne eP] at he; exact he
  have e1 : H1 e = none := M.same.free hen
  have eR : R ≠ e := ne_of_none M.hR hen
  have kk : Keeps H (upd (upd (upd (upd (upd (upd H P (.lst (colP ({ t with pl := t.pl + 1 } :: r)))) q oq) S (.lst (colS ({ t with pl := t.pl + 1 } :: r) ++ [v]))) P (.lst (colP ({ t with pl := t.pl + 1 } :: r) ++ [V.int 0]))) e (.lst [])) R (.lst (colR ({ t with pl := t.pl + 1 } :: r) ++ [V.ref e]))) := by
    refine (keeps_lst M.hP).trans ((keeps_new hq).trans ((keeps_lst (xs := colS (t :: r)) ?_).trans ((keeps_lst (xs := colP ({ t with pl := t.pl + 1 } :: r)) ?_).trans ((keeps_new he).trans (keeps_lst (xs := colR (t :: r)) ?_)))))
    · rw [upd_ne qS, upd_ne M.nSP]; exact M.hS
    · rw [upd_ne M.nSP.symm, upd_ne qP.symm, upd_same]
    · rw [upd_ne eR, upd_ne M.nPR.symm, upd_ne M.nSR.symm, upd_ne qR, upd_ne M.nPR.symm]; exact M.hR
  have nd := M.nd
  simp only [List.map_cons, List.nodup_cons] at nd
  have hlt : t.pl < t.its.length := (List.getElem?_eq_some_iff.mp hc).1
  have hd := szAll_drop hc
  have hs := sz_kids kc
  have hm : c ∈ t.its := List.mem_of_getElem? hc
  refine ⟨⟨?_, ?_, ?_, ?_, M.nSP, M.nSR, M.nPR, ?_, ?_, ?_, M.fS, M.fP, M.fR, ⟨src_of hv kc, ?_, ?_⟩, ?_, ?_, ?_⟩, ?_⟩
  · rw [upd_ne M.nSR, upd_ne eS.symm, upd_ne M.nSP, upd_same]; simp [colS]
  · rw [upd_ne M.nPR, upd_ne eP.symm, upd_same]; simp [colP]
  · rw [upd_same]; simp [colR]
  · intro x hx
    rcases List.mem_cons.mp hx with rfl | hx
    · rw [upd_ne eR.symm, upd_same]
    · have xx : ∃ y ∈ t :: r, y.rs = x.rs ∧ y.vl = x.vl := by
        rcases List.mem_cons.mp hx with rfl | hx
        · exact ⟨t, by simp, rfl, rfl⟩
        · exact ⟨x, by simp [hx], rfl, rfl⟩
      obtain ⟨y, hy, y1, y2⟩ := xx
      obtain ⟨xS, xP, xR, x1⟩ := M.out y hy
      have xv := M.hv y hy
      rw [← y1, ← y2, upd_ne xR, upd_ne (ne_of_none xv hen), upd_ne xP, upd_ne xS, upd_ne (ne_of_none xv hqn), upd_ne xP]
      exact xv
  · simp only [List.map_cons, List.nodup_cons, List.mem_cons, not_or]
    refine ⟨⟨fun z => ?_, fun z => ?_⟩, nd⟩
    · have := M.hv t (by simp)
      rw [← z, hen] at this
      cases this
    · obtain ⟨y, hy, z⟩ := List.mem_map.mp z
      have := M.hv y (by simp [hy])
      rw [z, hen] at this
      cases this
  · intro x hx
    rcases List.mem_cons.mp hx with rfl | hx
    · exact ⟨eS, eP, eR.symm, e1⟩
    · rcases List.mem_cons.mp hx with rfl | hx
      · exact M.out t (by simp)
      · exact M.out x (by simp [hx])
  · exact same_upd (same_upd (same_upd (same_upd (same_upd (same_upd M.same M.fP) q1) M.fS) M.fP) e1) M.fR
  · show DpAll K _ [] (fixAll (its.take 0))
    rw [List.take_zero]
    exact .nil
  · show szAll its ≤ N
    have := sz_le_all hm
    have := M.ok.2.2
    omega
  · exact Nat.zero_le _
  · exact ⟨t.pl, c, rfl, hc, kc, ⟨M.ok.1, dpAll_keep kk.1 kk.2 M.ok.2.1 (fixAll_noList _), M.ok.2.2⟩, below_keep kk.1 kk.2 M.bl⟩
  · have := M.bd
    simp only [mu, List.length_cons, List.drop_zero] at this ⊢
    omega
  · simp only [mu, List.drop_zero]
    omega
end
end Rx
set_option Elab.async false
set_option linter.all false
set_option maxRecDepth 100000
set_option maxHeartbeats 4000000
namespace Rx
open PySem PySem.Spec PyProof.Rows L2
/-! ### the __init__ of an error -/
structure SupFn (K : PySem.W.Frag) (qual : Str) (st : Stmt) (f cda cc : Addr) (fd : FuncData) : Prop where
  ex : ∃ (oc : Value) (od : Option Addr) (kV doc pm : Value) (an : Option Addr) (ct : Value) (osl : Array (Option Value)),
    fd = PySem.W.ksFn "__init__" qual (defArgs st) (defBody st) (defScope st) .none kV doc pm an (.ref cda) ct cc ∧ K.lookup f = some ⟨oc, od, .func fd, osl⟩ ∧ PySem.W.codeIn K (.ref cda) qual = true
/-- the arguments' data are kept under the fields' names, lists turned into tuples -/
def spInit (K : PySem.W.Frag) (C : Addr) (fs : List Str) : Sp := fun vs H Q _ => ∃ (a : Addr) (ws : List V) (ds : List PyData), vs = .ref a :: ws ∧ ws.length = fs.length ∧ H a = some (exo a C none) ∧ DpAll K H ws ds ∧ (∀ d ∈ ds, sz d ≤ 1000) ∧
  ∀ (H' : Hp) (dx : Addr) (us : List V), H dx = none → H' a = some (exo a C (some dx)) → H' dx = some (exd dx (fs.zip us).reverse) → DpAll K H' us (fixAll ds) → (∀ b o, H b = some o → b ≠ a → H' b = some o) → us.length = fs.length → Q .non H'
theorem spInit_self {K : PySem.W.Frag} {C : Addr} {fs : List Str} : ∀ vs H Q E, spInit K C fs vs H Q E → ∃ a ws, vs = .ref a :: ws ∧ H a = some (exo a C none) := fun vs H Q E h => by
  obtain ⟨a, ws, ds, e, _, h, _⟩ := h
  exact ⟨a, ws, e, h⟩
theorem spInit_len {K : PySem.W.Frag} {C : Addr} {fs : List Str} : ∀ vs H Q E, spInit K C fs vs H Q E → vs.length = ("self" :: fs : List Str).length := fun vs H Q E h => by
  obtain ⟨a, ws, ds, rfl, e, _⟩ := h
  rw [List.length_cons, List.length_cons, e]
theorem keeps_ext {H : Hp} {a : Addr} {φ : Heap → Prop} {o : HO} (h : H a = some (.ext φ)) : Keeps H (upd H a o) :=
  ⟨fun b ys e => by rw [upd_ne (ne_of e h (by intro z; cases z))]; exact e, fun b ob u e => by rw [upd_ne (ne_of e h (by intro z; cases z))]; exact e⟩
theorem Keeps.of_same {H H' : Hp} (h : Same H H') : Keeps H H' := ⟨fun a xs => h a _, fun a o u => h a _⟩
theorem SupFn.ok {CX : CXT} {P : Program} {w : World} {K : PySem.W.Frag} {mg : Str → Option Value} {base : Heap} {k : Nat} {f C cda cc : Addr} {qual : Str} {st : Stmt} {fd : FuncData} {N ps : List Str} {sp : Sp} {p0 p1 p2 p3 p4 : Pos} {rest : List Stmt} {ar : Arg}
    (F : SupFn K qual st f cda cc fd) (S : ScopeS N ps (defScope st)) (T : SupC P K C cda cc) (hb : defBody st = .Expr (.Call (.Attribute (.Call (.Name "super" p0) [] [] p1) "__init__" p2) [] [] p3) p4 :: rest)
    (hp : ((defArgs st).posonlyargs ++ (defArgs st).args).head? = some ar) (hps : ps[0]? = some ar.arg) (len : ∀ vs H Q E, sp vs H Q E → vs.length = ps.length) (slf : ∀ vs H Q E, sp vs H Q E → ∃ a ws, vs = .ref a :: ws ∧ H a = some (exo a C none))
    (hi : ∀ L, interactive (PySem.W.ksEnv qual (defScope st) L f (.ref cda) cc) = false)
    (hsw : ∀ L, swapsWith (.Call (.Attribute (.Call (.Name "super" p0) [] [] p1) "__init__" p2) [] [] p3) none p4.line (PySem.W.ksEnv qual (defScope st) L f (.ref cda) cc) = pure false)
    (he : ∀ L, ∃ pl : Sem Bool, eval (.Call (.Attribute (.Call (.Name "super" p0) [] [] p1) "__init__" p2) [] [] p3) (PySem.W.ksEnv qual (defScope st) L f (.ref cda) cc) = (do
      let ov ← attributeBase (.Call (.Name "super" p0) [] [] p1) "__init__" (PySem.W.ksEnv qual (defScope st) L f (.ref cda) cc) (eval (.Call (.Name "super" p0) [] [] p1) (PySem.W.ksEnv qual (defScope st) L f (.ref cda) cc))
      standAt p2.atName
      let (fx, first) ← holding [ov] (getMethod ov "__init__" pl)
      callWith p3 fx first (backTo p3 (starEach [] (PySem.W.ksEnv qual (defScope st) L f (.ref cda) cc))) []))
    (hbody : ∀ (A : Around) (outer : List Env) (s : Shared) (H : Hp) (vs : List V) (Q : VK) (E : XK), Room k (A.deeper (PySem.W.ksEnv qual (defScope st) s.heap.objs.size f (.ref cda) cc)) → sp vs H Q E →
      ∃ t, PSs (cxS CX P w K mg base N qual (defScope st) f (.ref cda) cc A outer s H E) rest t ∧ t { nx := fun _ H' => Q .non H', rt := Q } (L2.start N vs) H) : FnOk P w K mg base CX (k + 1) f fd ps sp := by
  obtain ⟨oc, od, kV, doc, pm, an, ct, osl, rfl, lk, hcd⟩ := F.ex
  rw [hb] at lk ⊢
  exact fn_super lk hcd S T hp hps len slf hbody hi hsw he
mutual
theorem dp_but {K : PySem.W.Frag} {H H' : Hp} {a : Addr} {φ : Heap → Prop} (ha : H a = some (.ext φ)) (k : ∀ b o, H b = some o → b ≠ a → H' b = some o) : ∀ {v : V} {d : PyData}, Dp K H v d → Dp K H' v d
  | _, _, .non => .non
  | _, _, .bl b => .bl b
  | _, _, .int i => .int i
  | _, _, .str x => .str x
  | _, _, .lst h1 h2 => .lst (by
      rcases h1 with (h | ⟨o, h⟩) | h
      · exact .inl (.inl (k _ _ h (ne_of h ha (by intro z; cases z))))
      · exact .inl (.inr ⟨o, k _ _ h (ne_of h ha (by intro z; cases z))⟩)
      · exact .inr h) (dpAll_but ha k h2)
  | _, _, .tup h1 h2 => .tup (by
      rcases h1 with (h | ⟨o, h⟩) | h
      · exact .inl (.inl (k _ _ h (ne_of h ha (by intro z; cases z))))
      · exact .inl (.inr ⟨o, k _ _ h (ne_of h ha (by intro z; cases z))⟩)
      · exact .inr h) (dpAll_but ha k h2)
theorem dpAll_but {K : PySem.W.Frag} {H H' : Hp} {a : Addr} {φ : Heap → Prop} (ha : H a = some (.ext φ)) (k : ∀ b o, H b = some o → b ≠ a → H' b = some o) : ∀ {vs : List V} {ds : List PyData}, DpAll K H vs ds → DpAll K H' vs ds
  | _, _, .nil => .nil
  | _, _, .cons h1 h2 => .cons (dp_but ha k h1) (dpAll_but ha k h2)
end
/-! ### an error that stands in the heap -/
def ErrAt (K : PySem.W.Frag) (H : Hp) (v : V) (C : Addr) (fs : List Str) (es : List PyData) : Prop := ∃ (a d : Addr) (us : List V), v = .ref a ∧ H a = some (exo a C (some d)) ∧ H d = some (exd d (fs.zip us).reverse) ∧ DpAll K H us es ∧ us.length = fs.length
theorem ErrAt.same {K : PySem.W.Frag} {H H' : Hp} {v : V} {C : Addr} {fs : List Str} {es : List PyData} (h : ErrAt K H v C fs es) (e : Same H H') : ErrAt K H' v C fs es := by
  obtain ⟨a, d, us, h1, h2, h3, h4, h5⟩ := h
  exact ⟨a, d, us, h1, e _ _ h2, e _ _ h3, dpAll_same e h4, h5⟩
/-- how the arguments of an error bind -/
def gB {α : Type} (us ws : List α) : List α := us ++ ws.reverse
theorem vals_rev : ∀ {xs : List V} {us : List Value}, Vals xs us → Vals xs.reverse us.reverse
  | _, _, .nil => .nil
  | _, _, .cons r t => by
    rw [List.reverse_cons, List.reverse_cons]
    exact (vals_rev t).append (.cons r .nil)
theorem gB_rel {vs : List V} {us : List Value} {zs : List V} {ws : List Value} (h1 : Vals vs us) (h2 : Vals zs ws) : Vals (gB vs zs) (gB us ws) := h1.append (vals_rev h2)
/-- what the written part and the promise say of an error's class -/
structure ErrT (P : Program) (w : World) (K : PySem.W.Frag) (mg : Str → Option Value) (base : Heap) (x : Str) (C : Addr) (fs : List Str) : Prop where
  oex : OexC K C
  err : ErrC K C
  mgx : mg x = some (.ref C)
  no : ∀ f ∈ fs, PySem.W.findIn K (.ref C) f = some none
  ini : ∃ (f : Addr) (fd : FuncData), PySem.W.findIn K (.ref C) "__init__" = some (some (.ref f)) ∧ PySem.W.typeIn K (.ref f) = some (.type "function") ∧ FnOk P w K mg base CX0 2 f fd ("self" :: fs) (spInit K C fs) ∧
    KBn K fd ("self" :: fs) (fs.length + 1) [] gB gB ∧ KBn K fd ("self" :: fs) 1 fs.reverse gB gB
/-! ### what the top has left of the errors' classes -/
abbrev veT : List Value := [.type "ValueError", .type "Exception", .type "BaseException", .type "object"]
def ClsAt (K : PySem.W.Frag) (x : Str) (C : Addr) (bm : List Value) : Prop := ∃ (N : Addr) (bs : List Value) (sn : List Str) (sub : List Value) (ab : Bool) (col : Option Bool) (dd : Option Addr) (k0 k1 k2 k3 k5 : Option Value), K.lookup C = some (excClassObj x x C N bs bm true sn sub ab col dd k0 k1 k2 k3 k5 "ValueError.__new__")
theorem ClsAt.cls {K : PySem.W.Frag} {x : Str} {C : Addr} {bm : List Value} (h : ClsAt K x C bm) : ∃ cd, PySem.W.clsIn K C = some cd ∧ cd.mro = .ref C :: bm ∧ cd.hasDict = true ∧ cd.name = x ∧ PySem.W.typeIn K (.ref C) = some (.type "type") := by
  obtain ⟨N, bs, sn, sub, ab, col, dd, k0, k1, k2, k3, k5, h⟩ := h
  have hcl : PySem.W.clsIn K C = some { name := x, bases := bs, mro := .ref C :: bm, ns := N, qualname := x, hasDict := true, slotNames := sn, subclasses := sub, abstract := ab, collection := col, hasDel := false } := by unfold PySem.W.clsIn; rw [h] <;> rfl
  refine ⟨_, hcl, rfl, rfl, rfl, ?_⟩
  show (K.lookup C).map (·.cls) = _
  rw [h]
  rfl
theorem ClsAt.mro {K : PySem.W.Frag} {x : Str} {C : Addr} {bm : List Value} (h : ClsAt K x C bm) (b : Value) : PySem.W.mroIn K C b = some ((Value.ref C :: bm).contains b) := by
  obtain ⟨cd, h1, h2, _⟩ := h.cls
  unfold PySem.W.mroIn
  rw [h1, Option.bind_some, h2]
  rfl
theorem ClsAt.ne {K : PySem.W.Frag} {x y : Str} {C D : Addr} {bm bn : List Value} (h : ClsAt K x C bm) (g : ClsAt K y D bn) (n : x ≠ y) : C ≠ D := fun z => by
  obtain ⟨cd, h1, _, _, h2, _⟩ := h.cls
  obtain ⟨ce, g1, _, _, g2, _⟩ := g.cls
  rw [z, g1] at h1
  cases h1
  exact n (h2.symm.trans g2)
theorem ClsAt.kit {K : PySem.W.Frag} {x y : Str} {C D : Addr} {bm bn : List Value} (h : ClsAt K x C bm) (g : ClsAt K y D bn) : PySem.W.kitOne K (.ref C) (.ref D) = some ((Value.ref C :: bm).contains (.ref D)) := by
  unfold PySem.W.kitOne
  by_cases e : C = D
  · subst e
    rw [if_pos (by simp)]
    simp
  · rw [if_neg (by simpa using e)]
    obtain ⟨ce, g1, _, _, _, g2⟩ := g.cls
    show (if ((PySem.W.clsIn K D).isSome && PySem.W.typeIn K (.ref D) == some (.type "type")) = true then PySem.W.subIn K (.ref C) (.ref D) else none) = _
    rw [if_pos (by rw [g1, g2]; rfl)]
    exact h.mro _
/-- one class of them, and its __init__ -/
structure ClsF (P : Program) (K : PySem.W.Frag) (x qual : Str) (st : Stmt) (R C f cda cc : Addr) (fd : FuncData) (fs : List Str) : Prop where
  aC : PySem.W.nsIn K mainGlobals x = some (some (.ref C))
  at_ : ClsAt K x C (.ref R :: veT)
  sa : PySem.W.findIn K (.ref C) "__setattr__" = some (some (.builtin "object.__setattr__"))
  ga : PySem.W.findIn K (.ref C) "__getattribute__" = some (some (.builtin "BaseException.__getattribute__"))
  gg : PySem.W.findIn K (.ref C) "__getattr__" = some none
  ac : PySem.W.findIn K (.ref C) "__class__" = some (some (.builtin "object.__class__"))
  kC : PySem.W.keepIn K (.ref C) = true
  no : ∀ g ∈ fs, PySem.W.findIn K (.ref C) g = some none
  ini : PySem.W.findIn K (.ref C) "__init__" = some (some (.ref f))
  fn : SupFn K qual st f cda cc fd
  tf : PySem.W.typeIn K (.ref f) = some (.type "function")
  code : ∃ (ccl : Value) (cdd : Option Addr) (vs : Array Value) (ccs : Array (Option Value)) (file : Str) (tk : Tok), K.lookup cda = some ⟨ccl, cdd, .fields vs, ccs⟩ ∧ vs[2]? = some (.str file tk) ∧ ((P.main.file : Str) == file) = true
  cell : ∃ (cl : Value) (cld : Option Addr) (csl : Array (Option Value)), K.lookup cc = some ⟨cl, cld, .cell (some (.ref C)), csl⟩
  sup : PySem.W.ks_superIn K C C "__init__" = some (some (.builtin "ValueError.__init__"))
section
variable {P : Program} {K : PySem.W.Frag} {x qual : Str} {st : Stmt} {R C f cda cc : Addr} {fd : FuncData} {fs : List Str}
theorem ClsF.oex (F : ClsF P K x qual st R C f cda cc fd fs) : OexC K C := by
  obtain ⟨N, bs, sn, sub, ab, col, dd, k0, k1, k2, k3, k5, h⟩ := F.at_
  obtain ⟨cd, h1, h2, h3, h4, h5⟩ := F.at_.cls
  exact ⟨⟨x, x, N, bs, _, sn, sub, ab, col, dd, k0, k1, k2, k3, k5, h, by show HandSPX.refsVE veT = true; decide +kernel⟩, F.sa, by show PySem.W.mroIn K C _ = _; rw [F.at_.mro]; rfl, h5, F.kC⟩
theorem ClsF.err (F : ClsF P K x qual st R C f cda cc fd fs) : ErrC K C := by
  obtain ⟨cd, h1, h2, h3, h4, h5⟩ := F.at_.cls
  exact ⟨by rw [h1]; rfl, F.ga, F.gg, by show PySem.W.mroIn K C _ = _; rw [F.at_.mro]; rfl, by unfold PySem.W.hasDictIn; rw [h1]; exact h3, F.ac, by rw [F.at_.mro]; rfl⟩
theorem ClsF.supC (F : ClsF P K x qual st R C f cda cc fd fs) (sp : PySem.W.nsIn K mainGlobals "super" = some none) (opq : PySem.W.nsIn K cStatics "thirdparty.any" = some none) (ht : (P.main.scope.names.lookup ("super" : Str)).isSome = false) : SupC P K C cda cc :=
  ⟨F.oex, F.code, F.cell, by rw [F.at_.mro]; simp, sp, opq, F.sup, by show PySem.W.mroIn K C _ = _; rw [F.at_.mro]; rfl, ht⟩
/-- all of it -/
theorem ClsF.errT {w : World} {mg : Str → Option Value} {base h : Heap} (F : ClsF P K x qual st R C f cda cc fd fs) (X : K.In h) (G : h.Ns mainGlobals mg) (ok : FnOk P w K mg base CX0 2 f fd ("self" :: fs) (spInit K C fs))
    (b1 : KBn K fd ("self" :: fs) (fs.length + 1) [] gB gB) (b2 : KBn K fd ("self" :: fs) 1 fs.reverse gB gB) : ErrT P w K mg base x C fs :=
  ⟨F.oex, F.err, PySem.W.mg_of X G F.aC, F.no, f, fd, F.ini, F.tf, ok, b1, b2⟩
end
/-- what is wanted of an error's class so that it can be raised and its fields read -/
structure RaiT (P : Program) (w : World) (K : PySem.W.Frag) (mg : Str → Option Value) (base : Heap) (x : Str) (C : Addr) (fs : List Str) : Prop where
  oex : OexC K C
  xf : XfC K C
  mgx : mg x = some (.ref C)
  no : ∀ f ∈ fs, PySem.W.findIn K (.ref C) f = some none
  self : PySem.W.exmOne K (.ref C) (.ref C) = some true
  ini : ∃ (f : Addr) (fd : FuncData), PySem.W.findIn K (.ref C) "__init__" = some (some (.ref f)) ∧ PySem.W.typeIn K (.ref f) = some (.type "function") ∧ FnOk P w K mg base CX0 2 f fd ("self" :: fs) (spInit K C fs) ∧ Binds K fd ("self" :: fs) []
theorem ClsF.exm {P : Program} {K : PySem.W.Frag} {x qual : Str} {st : Stmt} {R C f cda cc : Addr} {fd : FuncData} {fs : List Str} (F : ClsF P K x qual st R C f cda cc fd fs) : PySem.W.exmOne K (.ref C) (.ref C) = some true := by
  unfold PySem.W.exmOne
  rw [if_pos (by rw [F.err.hsb]; rfl)]
  obtain ⟨ce, g1, _, _, _, g2⟩ := F.at_.cls
  show (if ((PySem.W.clsIn K C).isSome && PySem.W.typeIn K (.ref C) == some (.type "type")) = true then PySem.W.subIn K (.ref C) (.ref C) else none) = _
  rw [if_pos (by rw [g1, g2]; rfl)]
  show PySem.W.mroIn K C _ = _
  rw [F.at_.mro]
  simp
theorem ClsF.raiT {P : Program} {w : World} {K : PySem.W.Frag} {mg : Str → Option Value} {base h : Heap} {x qual : Str} {st : Stmt} {R C f cda cc : Addr} {fd : FuncData} {fs : List Str} (F : ClsF P K x qual st R C f cda cc fd fs) (X : K.In h) (G : h.Ns mainGlobals mg) (ok : FnOk P w K mg base CX0 2 f fd ("self" :: fs) (spInit K C fs))
    (b : Binds K fd ("self" :: fs) []) : RaiT P w K mg base x C fs :=
  ⟨F.oex, ⟨F.ga, F.gg, F.err.hsb, F.err.hdc⟩, PySem.W.mg_of X G F.aC, F.no, F.exm, f, fd, F.ini, F.tf, ok, b⟩
/-- kinds of errors, as isinstance sees them -/
theorem ClsF.kitR {P : Program} {K : PySem.W.Frag} {x qual : Str} {st : Stmt} {R C f cda cc : Addr} {fd : FuncData} {fs : List Str} (F : ClsF P K x qual st R C f cda cc fd fs) (hR : ClsAt K "RerunError" R veT) : PySem.W.kitOne K (.ref C) (.ref R) = some true := by
  rw [F.at_.kit hR]
  simp
theorem ClsF.kitV {P : Program} {K : PySem.W.Frag} {x qual : Str} {st : Stmt} {R C f cda cc : Addr} {fd : FuncData} {fs : List Str} (F : ClsF P K x qual st R C f cda cc fd fs) : PySem.W.kitOne K (.ref C) (.type "ValueError") = some true := by
  unfold PySem.W.kitOne
  rw [if_neg (by simp)]
  show (if PySem.W.kitMeta "ValueError" = true then PySem.W.subIn K (.ref C) (.type "ValueError") else none) = _
  rw [if_pos (by decide +kernel)]
  show PySem.W.mroIn K C _ = _
  rw [F.at_.mro]
  simp
theorem ClsF.kitN {P : Program} {K : PySem.W.Frag} {x qual y qual' : Str} {st st' : Stmt} {R C f cda cc D f' cda' cc' : Addr} {fd fd' : FuncData} {fs fs' : List Str} (F : ClsF P K x qual st R C f cda cc fd fs) (F' : ClsF P K y qual' st' R D f' cda' cc' fd' fs') (hR : ClsAt K "RerunError" R veT) (n : x ≠ y) (m : y ≠ "RerunError") : PySem.W.kitOne K (.ref C) (.ref D) = some false := by
  rw [F.at_.kit F'.at_]
  have n1 : C ≠ D := F.at_.ne F'.at_ n
  have n2 : D ≠ R := F'.at_.ne hR m
  simp [n1.symm, n2]
end Rx
set_option Elab.async false
set_option linter.all false
set_option maxRecDepth 100000
set_option maxHeartbeats 4000000
namespace Rx
open PySem PySem.Spec PyProof.Rows L2 SX
/-! ### signs, words, numbers of a text -/
def isLet (c : Nat) : Bool := decide (97 ≤ c) && decide (c ≤ 122)
def isDig (c : Nat) : Bool := decide (48 ≤ c) && decide (c ≤ 57)
def lettersS : Str := "abcdefghijklmnopqrstuvwxyz"
def reservedL : List Str := ["and", "checkpoint", "else", "end", "if", "input", "mod", "not", "or", "process", "receive", "send", "set", "take", "while"]
def wordsL : List Str := ["and", "mod", "not", "or"]
def signsL : List Str := ["//", "!=", "<=", ">=", "+", "-", "*", "(", ")", "[", "]", "=", "<", ">"]
theorem let_mem (c : Nat) : decide (c ∈ lettersS.cps.toList) = isLet c := by
  have h : lettersS.cps.toList = List.range' 97 26 := by decide +kernel
  rw [h, Bool.eq_iff_iff]
  simp only [isLet, decide_eq_true_eq, Bool.and_eq_true, List.mem_range'_1]
  omega
def isName (cs : List Nat) : Bool := !(reservedL.contains (S cs)) && (decide (cs ≠ []) && (decide (cs.length ≤ 8) && cs.all isLet))
def isNum (cs : List Nat) : Bool := decide (cs ≠ []) && (decide (cs.length ≤ 30) && (!(decide (cs.head? = some 48) && decide (cs ≠ [48])) && cs.all isDig))
/-- the token at the head of a text: its sign, its worth, its size -/
def wordTok (w : List Nat) : Str × V × Nat := if wordsL.contains (S w) then (S w, .non, w.length) else if isName w then ("variable", .str (S w), w.length) else ("bad", .non, w.length)
def numTok (w : List Nat) : Str × V × Nat := if isNum w then ("number", .int (NumText.digitsVal w : Nat), w.length) else ("bad", .non, w.length)
def signTok (cs : List Nat) : Str × V × Nat := match signsL.find? (fun s => s.cps.toList.isPrefixOf cs) with
  | some s => (s, .non, s.length)
  | none => ("bad", .non, 1)
def tokAt (cs : List Nat) : Str × V × Nat := match cs with
  | [] => ("bad", .non, 1)
  | c :: _ => if isLet c then wordTok (cs.takeWhile isLet) else if isDig c then numTok (cs.takeWhile isDig) else signTok cs
/-- the tokens of the rest of a text that stands from the place at on -/
def toksF : Nat → Nat → List Nat → List (Str × V × Nat)
  | 0, at_, _ => [("end", .non, at_)]
  | _ + 1, at_, [] => [("end", .non, at_)]
  | n + 1, at_, c :: r => if c = 32 then toksF n (at_ + 1) r else ((tokAt (c :: r)).1, (tokAt (c :: r)).2.1, at_) :: toksF n (at_ + (tokAt (c :: r)).2.2) ((c :: r).drop (tokAt (c :: r)).2.2)
def toks (cs : List Nat) : List (Str × V × Nat) := toksF cs.length 0 cs
/-! ### constants of the module -/
/-- a written tuple -/
def KTup (K : PySem.W.Frag) (a : Addr) (xs : List V) : Prop := ∃ (o : Obj) (its : Array Value) (n : Nat), K.lookup a = some o ∧ o.cls = .type "tuple" ∧ o.data = .seq its n ∧ its.size ≤ sizeLine ∧ Vals xs its.toList
theorem KTup.sq {K : PySem.W.Frag} {a : Addr} {xs : List V} (h : KTup K a xs) (H : Hp) : SqT K H a xs := .inr h
theorem inV_strs (x : Str) (l : List Str) : inV (.str x) (l.map V.str) = l.contains x := by
  induction l with
  | nil => rfl
  | cons y l ih =>
    show (eqV (.str y) (.str x) || inV (.str x) (l.map V.str)) = _
    rw [ih, List.contains_cons]
    congr 1
    show decide (y = x) = (x == y)
    by_cases e : y = x
    · subst e; simp
    · have : ¬ x = y := fun z => e z.symm
      simp [e, this]
theorem flat_strs (l : List Str) : (l.map V.str).all flatV = true := by
  induction l with
  | nil => rfl
  | cons y l ih => rw [List.map_cons, List.all_cons, ih]; rfl
end Rx
set_option Elab.async false
set_option linter.all false
set_option maxRecDepth 100000
set_option maxHeartbeats 1000000
/-! RxEnum: enumerate(t) and enumerate(t, start=k) of a tuple -/
namespace PyProof.Rows
open PySem PySem.Calls
section
variable {M : Model} {A : Around} {E : Value → Shared → Prop} {s : Shared} {env : Env}
theorem callWith_type_kwB {pos : Pos} {T : String} {first : List Value} {args : List (Bool × Sem Value)} {keywords : List (Option Str × Sem Value)} {Q : Value → Shared → Prop}
    (hplain : args.any (·.1) = false) (hkw : keywords.any (·.1.isNone) = false)
    (h : wpAny M A (evalArgs (.type T) true args keywords) (fun a s₁ => wpAny M A (call (.type T) (first ++ a.pos) a.kw) Q E s₁) E s) :
    wpAny M A (callWith pos (.type T) first args keywords) Q E s := by
  unfold callWith
  refine wpAny_bind (wpAny_holding (wpAny_mono h (fun a s₁ h₁ => wpAny_bind (wpAny_standAt ?_)) fun _ _ x => x))
  simp only [hplain, hkw, Bool.or_false]
  refine wpAny_bind (wpAny_pure ?_)
  exact wpAny_bind (wpAny_mono h₁ (fun r s₂ hr => wpAny_bind (wpAny_holding (wpAny_point (wpAny_pure hr)))) fun _ _ x => x)
theorem callWith_type_kw {pos : Pos} {T : String} {e : Expr} {rest : List Expr} {kws : List Keyword} {Q : Value → Shared → Prop}
    (h : wpAny M A (spliced (backTo pos (starEach (e :: rest) env))) (fun vs s₁ => wpAny M A (evalAll ((backToKw pos (keywordEach kws env)).map (·.2)))
      (fun kvs s₂ => wpAny M A (call (.type T) vs (((backToKw pos (keywordEach kws env)).filterMap (·.1)).zip kvs)) Q E s₂) E s₁) E s)
    (he : backTo pos (starEach (e :: rest) env) = (false, eval e env) :: backTo pos (starEach rest env) := by rfl)
    (hplain : (backTo pos (starEach (e :: rest) env)).any (·.1) = false := by rfl)
    (hall : (backToKw pos (keywordEach kws env)).all (·.1.isSome) = true := by rfl)
    (hkw : (backToKw pos (keywordEach kws env)).any (·.1.isNone) = false := by rfl) :
    wpAny M A (callWith pos (.type T) [] (backTo pos (starEach (e :: rest) env)) (backToKw pos (keywordEach kws env))) Q E s := by
  refine callWith_type_kwB hplain hkw ?_
  rw [he] at h ⊢
  exact evalArgs_kwB hall h
end
end PyProof.Rows
namespace PySem
set_option maxHeartbeats 1000000 in
theorem meets_enumerate_new0 {v : Value} {o : Obj} {H : Heap → Prop} (B : Begins v o H) :
    Meets (Builtin.«enumerate.__new__» ⟨[.type "enumerate", v], []⟩) (fun _ R s => H s.heap ∧
      R (.ok (.ret (.ref (s.heap.push o).objs.size))) { s with heap := (s.heap.push o).push { cls := .type "enumerate", data := .fields #[.none, .bool false, .ref s.heap.objs.size, rawInt 0, .none, .none] } }) :=
  .of_wp fun prog w A R s h => by
    obtain ⟨hp, g, d, tk, os⟩ := s; obtain ⟨h1, h⟩ := h
    have hsub := sub_enumerate
    have q1 : ∀ {A' : Around} {E : Value → Shared → Prop} {Q : Value → Shared → Prop}, Q (.ref hp.objs.size) ⟨hp.push o, g, d, tk, os⟩ → wpAny (model prog w) A' (pyIter v) Q E ⟨hp, g, d, tk, os⟩ :=
      fun q => B.iter prog w _ _ ⟨hp, g, d, tk, os⟩ _ h1 q
    wp_walk using q1
    refine wpAny_stack_any fun st => wpAny_pure ?_
    split
    · rename_i c _ _ _ _ _
      cases (c == Value.type "enumerate")
      · wp_walk using q1
        exact ⟨_, rfl, h⟩
      · wp_walk using q1
        exact ⟨_, rfl, h⟩
    · wp_walk using q1
      exact ⟨_, rfl, h⟩
section
variable {prog : Program} {w : World} {A : Around} {E : Value → Shared → Prop} {s : Shared}
theorem enum_begins0 {v : Value} {o : Obj} {H : Heap → Prop} {Q : Value → Shared → Prop} (B : Begins v o H) (h1 : H s.heap)
    (h : ∀ h', IsEnum h' (s.heap.objs.size + 1) s.heap.objs.size 0 .none → h'.get? s.heap.objs.size = some o → h'.objs.size = s.heap.objs.size + 2 →
      (∀ b o, s.heap.get? b = some o → h'.get? b = some o) → Q (.ref (s.heap.objs.size + 1)) { s with heap := h' }) :
    wpAny (model prog w) A (call (.type "enumerate") [v]) Q E s := by
  refine callType_new F.called_enumerate (by decide) (by kernel_rfl) (F.newCall_enumerate_1 _) (fun obj => by unfold argsOk; kernel_rfl) F.entry_enumerate_new
    (meets_enumerate_new0 B) ⟨h1, ?_⟩
  have hz : (s.heap.push o).objs.size = s.heap.objs.size + 1 := Heap.size_push ..
  show _ ∧ _
  rw [hz]
  have he : IsEnum ((s.heap.push o).push { cls := .type "enumerate", data := .fields #[.none, .bool false, .ref s.heap.objs.size, rawInt 0, .none, .none] }) (s.heap.objs.size + 1) s.heap.objs.size 0 .none := by
    have := Heap.get?_push_size (s.heap.push o) (o := { cls := .type "enumerate", data := .fields #[.none, .bool false, .ref s.heap.objs.size, rawInt 0, .none, .none] }) rfl
    rw [hz] at this; exact this
  refine ⟨⟨_, he, rfl⟩, h _ he (Heap.get?_push_of_some _ (Heap.get?_push_size _ B.free)) (by rw [Heap.size_push, hz]) fun b o x => Heap.get?_push_of_some _ (Heap.get?_push_of_some _ x)⟩
theorem enum_endT {e it t : Addr} {j : Nat} {items : Array Value} {i : Int} {old : Value} {Q : Option Value → Shared → Prop} (hh : A.in1.handled = none)
    (he : IsEnum s.heap e it i old) (hit : s.heap.IsTupleIter it t j) (ht : s.heap.IsTuple t items) (hx : items[j]? = none)
    (hQ : ∀ h', Heap.ExtBut it s.heap h' → Q none { s with heap := h' }) : wpAny (model prog w) A (pyNext (.ref e)) Q E s := by
  have hT : s.TypeIs (.ref e) "enumerate" := ⟨_, he, rfl⟩
  unfold pyNext
  refine wpAny_bind (wpAny_attempt (wpAny_callSpecial?_slot (name := Str.ofString "__next__") hT F.slot_enumerate_next
    (wpAny_call_entry F.slot_enumerate_next hT F.entry_enumerate_next ?_ (F.args_enumerate_next_1 _))))
  show wpAny _ _ (field (.ref e) 2 >>= _) _ _ _
  refine wpAny_bind (wpAny_field he rfl (x := .ref it) rfl ?_)
  refine wpAny_bind (wpAny_nextOf_tuple_end hh hit ht hx fun h' x he' hx' => ?_)
  obtain ⟨o, ho, hc⟩ := hx'
  refine wpAny_bind (wpAny_isInstance (T := "StopIteration") (b := true) ⟨o, ho, hc⟩ isSubtype_stop ?_)
  exact wpAny_pure (hQ _ he')
end
end PySem
namespace L2
open PySem PySem.Spec PyProof.Rows
/-- the tuple at a, each item in a new pair with its number, from k on -/
def Itet (K : PySem.W.Frag) (a : Addr) (k : Int) : It :=
  ⟨fun i H => ∃ (xs : List V) (x : V), SqT K H a xs ∧ xs[i]? = some x, fun i H v H' => ∃ T x, v = .ref T ∧ H T = none ∧ H' = upd H T (.tup [.int (k + (i : Nat)), x]) ∧ ∀ xs, SqT K H a xs → xs[i]? = some x, fun i H => ∃ xs : List V, SqT K H a xs ∧ xs.length ≤ i⟩
theorem turn_enumT {P : Program} {w : World} {K : PySem.W.Frag} {elts : List Expr} {kk : Nat} {tpos : Pos} {k : Int} (a e it : Addr) (hta : a ≠ it) (hea : e ≠ a) :
    Turn P w K (.Tuple elts kk tpos) (Itet K a k) [e, it] e (fun i h => (∃ old, IsEnum h e it (k + ((i : Nat) : Int)) old) ∧ h.IsTupleIter it a i ∧ e ≠ it) where
  mem := by simp
  obj := fun i h st b hb => by
    obtain ⟨⟨old, he⟩, ⟨o, ho, hc, hd⟩, _⟩ := st
    have e' : b = e ∨ b = it := by simpa using hb
    rcases e' with z | z
    · rw [z]; exact ⟨_, he, fun v q => nomatch q⟩
    · rw [z]; exact ⟨o, ho, fun v q => by rw [hd] at q; cases q⟩
  keep := fun i h h' st kp => let ⟨⟨old, he⟩, hi, hne⟩ := st; ⟨⟨old, kp e (by simp) _ he⟩, hi.at fun o q => kp it (by simp) o q, hne⟩
  item := by
    intro X hP hw hK hc i pins s σ H E I hf st hg
    subst hP hw hK
    obtain ⟨⟨old, he⟩, hit, hne⟩ := st
    obtain ⟨xs, x, hq, hx⟩ := hg
    obtain ⟨its, rv, p, hz⟩ := I.tuple hq
    obtain ⟨u, hu, ru⟩ := rv.get hx
    have p' : s.heap.IsTuple a its.toArray := p
    have hel : e < s.heap.objs.size := Heap.lt_size he
    have hil : it < s.heap.objs.size := by obtain ⟨_, q, _⟩ := hit; exact Heap.lt_size q
    have hlt : i < its.toArray.size := by
      have := (List.getElem?_eq_some_iff.mp hx).1
      rw [List.size_toArray, ← rv.length]; exact this
    have D := Draws.tuple (prog := X.prog) (w := X.w) (A := X.A.in1) (show X.A.in1.handled = none from I.ok.hd hc) it a hta its.toArray
    refine wpAny_pyNext_enum_itemC D he ⟨hit, p'⟩ hlt hne (by simp [hne, hea]) fun y h' tk hP ho hs' hT hsz hk => ?_
    have hy : y = u := by
      have h2 : its.toArray[i]? = some y := hP
      have h3 : its.toArray[i]? = some u := by simpa using hu
      rw [h3] at h2
      injection h2 with h2
      exact h2.symm
    subst hy
    refine ⟨_, rfl, wpAny_letOwnedTupleGo_enum (s := { s with heap := h', toks := tk + 1 }) ho fun h'' he' sb => ?_⟩
    have hT2 : h''.get? s.heap.objs.size = some { cls := .type "tuple", data := .seq #[.int (k + (i : Nat)) tk, y] } := (sb.2 _ (Nat.ne_of_gt hel)).trans hT
    have new : ObjOk X.prog X.w (upd H s.heap.objs.size (.tup [.int (k + (i : Nat)), x])) h'' s.heap.objs.size (.tup [.int (k + (i : Nat)), x]) :=
      ⟨by show 2 ≤ sizeLine; decide, [.int (k + (i : Nat)) tk, y], .cons ⟨_, rfl⟩ (.cons ru .nil), ⟨_, hT2, rfl, _, rfl⟩⟩
    have I1 : Inv X pins σ (upd H s.heap.objs.size (.tup [.int (k + (i : Nat)), x])) { s with heap := h'', toks := tk + 1 } :=
      I.turnedNew (ch := [e, it]) (fun b ob hb q => (sb.2 b (fun z => hb (by simp [z]))).trans (hk b ob (fun z => hb (by simp [z])) (fun z => hb (by simp [z])) q)) hf (Nat.le_refl _) new
    refine ⟨.ref s.heap.objs.size, _, I1, rfl, ⟨_, x, rfl, I.hok.fresh (Nat.le_refl _), rfl, fun ys hy => by rw [I.tuple_inj hy hq]; exact hx⟩, ⟨⟨y, ?_⟩, hs'.1.at fun o q => (sb.2 it (Ne.symm hne)).trans q, hne⟩, fun b hb => ?_⟩
    · have e1 : k + ((i + 1 : Nat) : Int) = k + (i : Int) + 1 := by omega
      rw [e1]; exact he'
    · have hb' : b < s.heap.objs.size := by
        have e' : b = e ∨ b = it := by simpa using hb
        rcases e' with z | z
        · rw [z]; exact hel
        · rw [z]; exact hil
      rw [upd_ne (Nat.ne_of_lt hb')]
      exact (hf b hb).1
  done := by
    intro X hP hw hK hc i pins s σ H E I hf st hg
    subst hP hw hK
    obtain ⟨⟨old, he⟩, hit, hne⟩ := st
    obtain ⟨xs, hq, hx⟩ := hg
    obtain ⟨its, rv, p, hz⟩ := I.tuple hq
    obtain ⟨f0, f1, f2, f3, f4, f5⟩ := hf it (by simp)
    have hl := rv.length
    exact enum_endT (show X.A.in1.handled = none from I.ok.hd hc) he hit (show s.heap.IsTuple a its.toArray from p) (by simp; omega) fun h' eb => ⟨rfl, I.turned (t' := s.toks) (fun b o hb q => eb b o hb q) f0 f1 f3 f4 f5⟩
  self := fun A i s Q E st h => let ⟨⟨_, he⟩, _⟩ := st; wpAny_pyIter_enum he h
def iEnumT (K : PySem.W.Frag) (k : Int) (ta : TA) : TI := fun σ H R => ta σ H fun vs H1 => ∃ a xs, vs = [.ref a] ∧ SqT K H1 a xs ∧ R (Itet K a k) H1
section
variable {X : Cx} {e : Expr} {ta : TA} {p pos tpos : Pos} {elts : List Expr} {kk : Nat}
theorem enumT_fin {pins : List (Addr × Obj)} {σ : L2.St} {H : Hp} {s : Shared} {a : Addr} {k : Int} {its : List Value} {R : It → Hp → Prop} (I : Inv X pins σ H s) (hlt : a < s.heap.objs.size) (h' : Heap) (he : IsEnum h' (s.heap.objs.size + 1) s.heap.objs.size k .none)
    (hit : h'.get? s.heap.objs.size = some { cls := .type "tuple_iterator", data := .fields #[.ref a, .int 0 0] }) (hk : ∀ b o, s.heap.get? b = some o → h'.get? b = some o) (q : R (Itet X.K a k) H) :
    PIE X pins σ (.Tuple elts kk tpos) R (.ref (s.heap.objs.size + 1)) { s with heap := h' } := by
  have I2 : Inv X pins σ H { s with heap := h' } := I.kept (t' := s.toks) hk
  have hne : s.heap.objs.size + 1 ≠ s.heap.objs.size := Nat.succ_ne_self _
  refine ⟨s.heap.objs.size + 1, [s.heap.objs.size + 1, s.heap.objs.size], _, _, H, rfl, I2, turn_enumT (k := k) a (s.heap.objs.size + 1) s.heap.objs.size (Nat.ne_of_lt hlt) (Nat.ne_of_gt (Nat.lt_succ_of_lt hlt)), ⟨⟨.none, ?_⟩, ⟨_, hit, rfl, rfl⟩, hne⟩, fun b hb => ?_, q⟩
  · rw [show k + ((0 : Nat) : Int) = k by omega]; exact he
  · have e' : b = s.heap.objs.size + 1 ∨ b = s.heap.objs.size := by simpa using hb
    have hle : s.heap.objs.size ≤ b := by
      rcases e' with z | z
      · rw [z]; exact Nat.le_add_right _ _
      · rw [z]; exact Nat.le_refl _
    exact I.fpOk hle (I.hok.fresh hle)
/-- enumerate(t), t a tuple -/
theorem pi_enumT (hg : Gl X "enumerate") (hm : X.mg "enumerate" = none) (ha : PA X [e] ta) (hs : starEach [e] X.env = [(false, eval e X.env)] := by rfl) :
    PI X (.Tuple elts kk tpos) (.Call (.Name "enumerate" p) [e] [] pos) (iEnumT X.K 0 ta) := by
  refine ⟨fun pins s σ H R I h => ?_⟩
  refine Call_ (ld_blt I hg hm boot_enumerate (PyProof.Rows.callWith_type1 (thn (ha.run pos pins s σ H _ I h) fun us s1 ⟨vs, H1, I1, r1, q1⟩ => ?_) hs rfl))
  obtain ⟨a, xs, ex, hq, q⟩ := q1
  subst ex
  cases r1 with
  | cons r rr =>
    cases rr
    cases r
    obtain ⟨its, rv, p', hz⟩ := I1.tuple hq
    have p2 : s1.heap.IsTuple a its.toArray := p'
    have hlt : a < s1.heap.objs.size := by obtain ⟨_, q, _⟩ := p2; exact Heap.lt_size q
    refine enum_begins0 (begins_tuple a its.toArray) p2 fun h' he hit hsz hk => wpAny_pyIter_enum he (enumT_fin (its := its) I1 hlt h' he hit hk q)
/-- enumerate(t, start=k), t a tuple -/
theorem pi_enumTS {kp vp : Pos} {k : Int} {jn : Nat} (hg : Gl X "enumerate") (hm : X.mg "enumerate" = none) (ha : PA X [e] ta) (hk0 : -(2 ^ 63) ≤ k := by decide) (hk1 : k < 2 ^ 63 := by decide) (hs : starEach [e] X.env = [(false, eval e X.env)] := by rfl) :
    PI X (.Tuple elts kk tpos) (.Call (.Name "enumerate" p) [e] [⟨some "start", .Constant (.int k) jn vp, kp⟩] pos) (iEnumT X.K k ta) := by
  refine ⟨fun pins s σ H R I h => ?_⟩
  refine wpAny_Call_Name_kw (ld_blt I hg hm boot_enumerate (PyProof.Rows.callWith_type_kw (thn (ha.run pos pins s σ H _ I h) fun us s1 ⟨vs, H1, I1, r1, q1⟩ => ?_) (by
    show backTo pos (starEach [e] X.env) = _
    rw [hs]; rfl) (by
    show (backTo pos (starEach [e] X.env)).any (·.1) = false
    rw [hs]; rfl)))
  obtain ⟨a, xs, ex, hq, q⟩ := q1
  subst ex
  cases r1 with
  | cons r rr =>
    cases rr
    cases r
    refine kws_cons (thn ((pe_int (X := X) (i := k) (j := jn) (pos := vp)).run pins s1 σ H1 (fun x H2 => x = .int k ∧ H2 = H1) I1 ⟨rfl, rfl⟩) fun v s2 ⟨x, H2, I2, r2, ex, e2⟩ => kws_nil ?_)
    subst ex e2
    obtain ⟨its, rv, p', hz⟩ := I2.tuple hq
    have p2 : s2.heap.IsTuple a its.toArray := p'
    have hlt : a < s2.heap.objs.size := by obtain ⟨_, q, _⟩ := p2; exact Heap.lt_size q
    obtain ⟨tk, rfl⟩ := (show ∃ t, v = Value.int k t from r2)
    show wpAny (model X.prog X.w) X.A (call (.type "enumerate") [Value.ref a] [(Str.ofString "start", .int k tk)]) _ _ _
    exact enum_begins_start (begins_tuple a its.toArray) p2 hk0 hk1 fun h' he hit hsz hk => wpAny_pyIter_enum he (enumT_fin (its := its) I2 hlt h' he hit hk q)
end
end L2
set_option Elab.async false
set_option linter.all false
set_option maxRecDepth 100000
set_option maxHeartbeats 1000000
/-! RxSetd: d.setdefault(t, x), t a tuple -/
namespace PySem
open Sem (wp)
section
variable {prog : Program} {w : World} {K : Type} [DecidableEq K] {knd : HeapKind prog w K} {A : Around} {E : Value → Shared → Prop} {s : Shared}
theorem wpAny_dictSetDef_own {d a : Addr} {xs : List (K × Addr × Value)} {k : K} {v : Value} {Q : Value → Shared → Prop} (hu : knd.room A) (hkey : knd.is s.heap k a) (hm : s.heap.DictOfH knd d xs)
    (h1 : ∀ p, atKey xs k = some p → Q p.2 { s with toks := s.toks + knd.draws k })
    (h2 : atKey xs k = none → ∀ h', h'.DictOfH knd d (storedH xs k a v) → Heap.SameBut d s.heap h' → Q v { s with heap := h', toks := s.toks + knd.draws k })
    (hsz : xs.length ≤ sizeLine) :
    wpAny (model prog w) A (dictSetDefault d (.ref a) v) Q E s := by
  obtain ⟨o, es, ep, ho, hc, hd, he, his, hn⟩ := hm
  unfold dictSetDefault
  try with_reducible refine wpAny_holding ?_
  refine wpAny_bind (knd.pyHash hu hkey ?_)
  refine wpAny_bind (wpAny_dictFind_heap (s := { s with toks := s.toks + knd.draws k }) hu hkey ho hd he his hn ?_ ?_)
  · intro hno
    have hnot : k ∉ xs.map (·.1) := not_mem_keys_of_get hno
    refine wpAny_bind (wpAny_rule (wpAny_bind (wpAny_updateDictKeys (hz := by have e := size_of_entries he; omega) (s := { s with toks := s.toks + knd.draws k }) ho hd (wpAny_pure (h2 (atKey_none_of_get hno) _ ⟨_, _, ep + 1, Heap.get?_update_self _ ho (Obj.isFreed_of_dict (Obj.data_mapDictKeys hd _)),
      hc.mapDictKeys _, Obj.data_mapDictKeys hd _, ?_, ?_, ?_⟩ (Heap.SameBut.update ..))))))
    · rw [storedH_new (atKey_none_of_get hno)]
      simp [he, entryOfKey]
    · rw [storedH_new (atKey_none_of_get hno)]
      intro x hx
      rcases List.mem_append.mp hx with hx | hx
      · exact knd.keeps (his x hx) ho hd (Heap.SameBut.update ..)
      · simp only [List.mem_singleton] at hx
        subst hx
        exact knd.keeps hkey ho hd (Heap.SameBut.update ..)
    · rw [storedH_new (atKey_none_of_get hno)]
      rw [List.map_append, List.nodup_append]
      refine ⟨hn, by simp, ?_⟩
      intro x hx y hy
      simp only [List.map_cons, List.map_nil, List.mem_singleton] at hy
      subst hy
      exact fun e => hnot (e ▸ hx)
  · intro j p hj
    refine wpAny_bind (wpAny_dictEntries (s := { s with toks := s.toks + knd.draws k }) ho hd ?_)
    rw [entry_at he j, hj]
    exact wpAny_bind (wpAny_rule (wpAny_pure (h1 p (atKey_of_get hn hj))))
theorem meetsH_setdefault (knd : HeapKind prog w K) {k : K} (d a : Addr) (hd : (d == sysModules) = false) (dflt : Value) :
    MeetsIn prog w (Builtin.«dict.setdefault» ⟨[.ref d, .ref a, dflt], []⟩) (fun A R s => knd.room A.in1 ∧ knd.is s.heap k a ∧ ∃ xs, s.heap.DictOfH knd d xs ∧ xs.length ≤ sizeLine ∧
      (∀ p, atKey xs k = some p → R (.ok (.ret p.2)) { s with toks := s.toks + knd.draws k }) ∧
      (atKey xs k = none → ∀ h', h'.DictOfH knd d (storedH xs k a dflt) → Heap.SameBut d s.heap h' → R (.ok (.ret dflt)) { s with heap := h', toks := s.toks + knd.draws k })) :=
  .of_wp fun A R s ⟨hu, hkey, xs, hm, hz, h1, h2⟩ => by
    unfold Builtin.«dict.setdefault»
    refine wpAny_bind ?_
    unfold Builtin.Dict.keyAndDefault
    refine wpAny_bind (wpAny_notOrdered_dict hm.typeIs ?_)
    show wpAny _ _ (pure (d, Value.ref a, some dflt)) _ _ s
    refine wpAny_pure ?_
    show wpAny _ _ (if (d == sysModules) = true then _ else (dictSetDefault d (.ref a) dflt >>= _)) _ _ s
    rw [if_neg (by rw [hd]; exact Bool.false_ne_true)]
    exact wpAny_bind (wpAny_dictSetDef_own (hsz := hz) hu hkey hm (fun p hp => wpAny_pure ⟨p.2, rfl, h1 p hp⟩) fun hn h' hm' hs' => wpAny_pure ⟨dflt, rfl, h2 hn h' hm' hs'⟩)
end
end PySem
namespace L2
open PySem PySem.Spec PyProof.Rows
section
variable {X : Cx} {pins : List (Addr × Obj)} {σ : St} {H : Hp} {s : Shared} {a b : Addr} {r : Value} {d : V} {k : List Key} {A : Around} {E : Value → Shared → Prop}
theorem d_setdT {kvs : List (List Key × V)} {Q : Value → Shared → Prop} (hu : A.units + 2 < cLine) (I : Inv X pins σ H s) (e : H a = some (.dT kvs)) (eb : H b = some (.tup (k.map kV))) (rd : RelV d r) (hl : kvs.length < sizeLine)
    (h1 : ∀ v, valV kvs k = some v → ∀ (w' : Value) (s' : Shared), Inv X pins σ H s' → RelV v w' → Q w' s') (h2 : valV kvs k = none → ∀ (w' : Value) (s' : Shared), Inv X pins σ (upd H a (.dT (putK kvs k d))) s' → RelV d w' → Q w' s') :
    wpAny (model X.prog X.w) A (call (.builtin "dict.setdefault") [.ref a, .ref b, r]) Q E s := by
  obtain ⟨z, hd, xs, rel, dd⟩ := dt_of I.hok e
  have hz : xs.length ≤ sizeLine := by rw [← Paired.length rel]; exact z
  refine call_meetsIn PySem.F.slot_dict_setdefault dd.typeIs PySem.F.entry_dict_setdefault (PySem.F.args_dict_setdefault_3 _ _ _) (meetsH_setdefault _ a b hd r (k := k)) ⟨?_, key_of I.hok eb, xs, dd, hz, fun p hp => ?_, fun hn h' dd' hs => ?_⟩
  · exact tupleKind_room_in1 (by omega)
  · obtain ⟨v0, q0, rv⟩ : ∃ v0, valV kvs k = some v0 ∧ RelV v0 p.2 := by
      have q := rel.val k
      rw [hp] at q
      cases q0 : valV kvs k with
      | none => rw [q0] at q; exact (show False from q).elim
      | some v0 => rw [q0] at q; exact ⟨v0, rfl, q⟩
    exact h1 v0 q0 _ _ (I.tok _) rv
  · have q0 : valV kvs k = none := by
      have q := rel.val k
      rw [hn] at q
      cases q0 : valV kvs k with
      | none => rfl
      | some v0 => rw [q0] at q; exact (show False from q).elim
    have hl2 : (putK kvs k d).length ≤ sizeLine := by have := length_putK kvs k d; omega
    obtain ⟨q, es, ep, hq, g2, g3, g4, _, g5⟩ := dd'
    refine h2 q0 _ _ (d_write (t' := _) I (by rw [e]; exact True.intro) hs ⟨q, hq⟩ ⟨hl2, hd, _, (rel.put k eb rd).keeps fun c ys ec => ?_, q, es, ep, hq, g2, g3, g4, g5⟩) rd
    rw [upd_ne (ne_of ec e (fun z => nomatch z))]
    exact ec
end
/-- d.setdefault(y, z), y a tuple of ints and texts -/
def tDSetdT (td ty tx : TE) : TE := fun σ H Q => td σ H fun x H1 => ∃ a kv1, x = .ref a ∧ H1 a = some (.dT kv1) ∧ ty σ H1 fun y H2 => tx σ H2 fun z H3 => ∃ (kvs : List (List Key × V)) (k : List Key) (b : Addr), H3 a = some (.dT kvs) ∧ y = .ref b ∧ H3 b = some (.tup (k.map kV)) ∧ kvs.length < sizeLine ∧
  (∀ v, valV kvs k = some v → Q v H3) ∧ (valV kvs k = none → Q z (upd H3 a (.dT (putK kvs k z))))
section
variable {X : Cx} {o e f : Expr} {td ty tx : TE} {apos cpos : Pos}
theorem pe_dsetdT (hu : X.A.units + 2 < cLine) (ho : PE X o td) (he : PE X e ty) (hf : PE X f tx) (m : M2 X o "setdefault" apos e f cpos) : PE X (.Call (.Attribute o "setdefault" apos) [e, f] [] cpos) (tDSetdT td ty tx) := by
  refine ⟨fun pins s σ H Q I h => ?_⟩
  refine wpAny_Call_method m.base m.few m.line PySem.F.plainAttrs_dict PySem.F.slot_dict_setdefault PySem.F.type_dict_setdefault (thn (ho.run pins s σ H _ I h) fun u s1 ⟨x, H1, I1, rx, a, kv1, ex, d, q1⟩ => ?_)
  subst ex
  obtain rfl : u = Value.ref a := rx
  obtain ⟨z1, hd1, xs1, rel1, dd1⟩ := dt_of I1.hok d
  refine ⟨dd1.typeIs, (fun b' q => by
    cases q
    obtain ⟨ob, _, _, g1, g2, _⟩ := dd1
    exact ⟨ob, g1, g2.2.1⟩), ?_⟩
  rw [m.trees]
  refine Calls.callWith_builtin rfl (Calls.evalArgs_plain (Calls.spliced_cons (thn (he.run pins s1 σ H1 _ I1 q1) fun iv s2 ⟨y, H2, I2, ry, q2⟩ =>
    Calls.spliced_cons (thn (hf.run pins s2 σ H2 _ I2 q2) fun fv s3 ⟨z, H3, I3, rz, kvs, k, b, ea, ey, eb, hl, q3, q4⟩ => Calls.spliced_nil ?_))))
  subst ey
  cases (show iv = Value.ref b from ry)
  exact d_setdT hu I3 ea eb rz hl (fun v hv w' s4 I4 rw' => ⟨v, _, I4, rw', q3 v hv⟩) fun hn w' s4 I4 rw' => ⟨z, _, I4, rw', q4 hn⟩
end
end L2
set_option Elab.async false
set_option linter.all false
set_option maxRecDepth 100000
set_option maxHeartbeats 1000000
/-! RxNil: xs != [] and xs == [], whatever is in xs -/
namespace L2
open PySem PySem.Spec PySem.SeqAt PyProof.Rows
section
variable {X : Cx}
def rNeNil (K : PySem.W.Frag) : R2 := fun x y H Q => ∃ a b xs, x = .ref a ∧ y = .ref b ∧ SqL K H a xs ∧ SqL K H b [] ∧ Q (.bl (!xs.isEmpty)) H
theorem op_neNil (hu : X.A.units < cLine) : OpR X (compareOp .NotEq) (rNeNil X.K) := by
  intro pins s σ H x y v u Q I rx ry h
  obtain ⟨a, b, xs, rfl, rfl, ha, hb, q⟩ := h
  cases rx
  cases ry
  obtain ⟨its, r, ht, hz⟩ := I.list ha
  obtain ⟨its2, r2, ht2, hz2⟩ := I.list hb
  cases r2
  show wpAny (model X.prog X.w) X.A (richCompare .NotEq (.ref a) (.ref b)) (EP X pins σ Q) X.xe s
  cases r with
  | nil => exact RcNeAt.lists (e := fun _ => true) ht.isList ht2.isList rfl hu (fun j j1 _ => absurd j1 (by simp)) X.prog X.w X.xe _ ⟨.bl false, H, I, rfl, q⟩
  | cons r1 r2 => exact RcNeAt.lists_lengths ht.isList ht2.isList (by simp) hu X.prog X.w X.xe _ ⟨.bl true, H, I, rfl, q⟩
end
end L2
set_option Elab.async false
set_option linter.all false
set_option maxRecDepth 100000
set_option maxHeartbeats 1000000
/-! RxRev: t[::-1] of a tuple -/
namespace HT
open PySem PySem.Spec PyProof.Rows L2
end HT
namespace L2
open PySem PySem.Spec PyProof.Rows HT
end L2
set_option Elab.async false
set_option linter.all false
set_option maxRecDepth 100000
set_option maxHeartbeats 1000000
/-! RxRec: records, what rows and events are -/
namespace Rx
open PySem PySem.Spec PyProof.Rows L2
/-! ### the type of data -/
def tyN : PyData → String
  | .none => "NoneType" | .bool _ => "bool" | .int _ => "int" | .str _ => "str" | .list _ => "list" | .tuple _ => "tuple" | .dict _ => "dict"
theorem dp_tyX {K : PySem.W.Frag} {H : Hp} {v : V} {d : PyData} (h : Dp K H v d) : TyX K H v (.type (tyN d)) := by
  cases h with
  | non => exact .base .non
  | bl b => exact .base (.bl b)
  | int i => exact .base (.int i)
  | str x => exact .base (.str x)
  | lst h1 _ =>
    rcases h1 with (h | ⟨o, h⟩) | ⟨o, its, n, h, hc, _⟩
    · exact .base (.lst h)
    · exact .base (.frz h)
    · exact .kList h hc
  | tup h1 _ =>
    rcases h1 with (h | ⟨o, h⟩) | ⟨o, its, n, h, hc, _⟩
    · exact .base (.tup h)
    · exact .fTuple h
    · exact .kTuple h hc
def isStrD : PyData → Bool
  | .str _ => true | _ => false
def isIntD : PyData → Bool
  | .int _ => true | .bool _ => true | _ => false
def isBoolD : PyData → Bool
  | .bool _ => true | _ => false
def isTupD : PyData → Bool
  | .tuple _ => true | _ => false
def isListD : PyData → Bool
  | .list _ => true | _ => false
theorem kit_d {K : PySem.W.Frag} {H : Hp} {v : V} {d : PyData} (h : Dp K H v d) {T : String} {f : PyData → Bool} (h1 : kitB "NoneType" T = some (f .none)) (h2 : ∀ b, kitB "bool" T = some (f (.bool b))) (h3 : ∀ b, kitB "int" T = some (f (.int b))) (h4 : ∀ b, kitB "str" T = some (f (.str b))) (h5 : ∀ b, kitB "list" T = some (f (.list b))) (h6 : ∀ b, kitB "tuple" T = some (f (.tuple b))) :
    PySem.W.kitOne K (.type (tyN d)) (.type T) = some (f d) := by
  cases h with
  | non => exact kit_ty h1
  | bl b => exact kit_ty (h2 b)
  | int i => exact kit_ty (h3 i)
  | str x => exact kit_ty (h4 x)
  | lst _ _ => exact kit_ty (h5 _)
  | tup _ _ => exact kit_ty (h6 _)
section
variable {K : PySem.W.Frag} {H : Hp} {v : V} {d : PyData}
theorem kit_str (h : Dp K H v d) : PySem.W.kitOne K (.type (tyN d)) (.type "str") = some (isStrD d) := kit_d (f := isStrD) h (show _ = some false by decide +kernel) (fun _ => show _ = some false by decide +kernel) (fun _ => show _ = some false by decide +kernel) (fun _ => show _ = some true by decide +kernel) (fun _ => show _ = some false by decide +kernel) (fun _ => show _ = some false by decide +kernel)
theorem kit_int (h : Dp K H v d) : PySem.W.kitOne K (.type (tyN d)) (.type "int") = some (isIntD d) := kit_d (f := isIntD) h (show _ = some false by decide +kernel) (fun _ => show _ = some true by decide +kernel) (fun _ => show _ = some true by decide +kernel) (fun _ => show _ = some false by decide +kernel) (fun _ => show _ = some false by decide +kernel) (fun _ => show _ = some false by decide +kernel)
theorem kit_bool (h : Dp K H v d) : PySem.W.kitOne K (.type (tyN d)) (.type "bool") = some (isBoolD d) := kit_d (f := isBoolD) h (show _ = some false by decide +kernel) (fun _ => show _ = some true by decide +kernel) (fun _ => show _ = some false by decide +kernel) (fun _ => show _ = some false by decide +kernel) (fun _ => show _ = some false by decide +kernel) (fun _ => show _ = some false by decide +kernel)
theorem kit_tup (h : Dp K H v d) : PySem.W.kitOne K (.type (tyN d)) (.type "tuple") = some (isTupD d) := kit_d (f := isTupD) h (show _ = some false by decide +kernel) (fun _ => show _ = some false by decide +kernel) (fun _ => show _ = some false by decide +kernel) (fun _ => show _ = some false by decide +kernel) (fun _ => show _ = some false by decide +kernel) (fun _ => show _ = some true by decide +kernel)
theorem kit_list (h : Dp K H v d) : PySem.W.kitOne K (.type (tyN d)) (.type "list") = some (isListD d) := kit_d (f := isListD) h (show _ = some false by decide +kernel) (fun _ => show _ = some false by decide +kernel) (fun _ => show _ = some false by decide +kernel) (fun _ => show _ = some false by decide +kernel) (fun _ => show _ = some true by decide +kernel) (fun _ => show _ = some false by decide +kernel)
end
end Rx
namespace Rc
open PySem PySem.Spec PyProof.Rows L2 Rx SX
/-! ### events -/
inductive Ev where
  | set (x : Str) (v : Int) | inp (x : Str) (v : Int) | send (p : Str) (v : Int)
  | recv (p x : Str) (v : Int) | take (p x : Str) (v : Int) | chk
deriving DecidableEq
def Ev.word : Ev → Str
  | .set _ _ => "set" | .inp _ _ => "input" | .send _ _ => "send" | .recv _ _ _ => "receive" | .take _ _ _ => "take" | .chk => "checkpoint"
def Ev.rest : Ev → List PyData
  | .set x v => [.str x, .int v] | .inp x v => [.str x, .int v] | .send p v => [.str p, .int v] | .recv p x v => [.str p, .str x, .int v] | .take p x v => [.str p, .str x, .int v] | .chk => []
def Ev.data (e : Ev) : PyData := .tuple (.str e.word :: e.rest)
abbrev Rows := List (Str × List Ev)
def rowE (r : Str × List Ev) : PyData := .tuple [.str r.1, .tuple (r.2.map Ev.data)]
def bigZ : Int := 10 ^ 30
def nameB (x : Str) : Bool := isName x.cps.toList
def valB (v : Int) : Bool := decide ((v.natAbs : Int) < bigZ)
/-- a good event of a process whose others are these -/
def Ev.ok (os : List Str) : Ev → Bool
  | .set x v => nameB x && valB v
  | .inp x v => nameB x && valB v
  | .send p v => decide (p ∈ os) && valB v
  | .recv p x v => decide (p ∈ os) && nameB x && valB v
  | .take p x v => decide (p ∈ os) && nameB x && valB v
  | .chk => true
/-! ### what is checked -/
/-- a pair of a name and a tuple -/
def rowOf : PyData → Option (Str × List PyData)
  | .tuple [.str n, .tuple es] => if nameB n = true then some (n, es) else none
  | _ => none
/-- the first row that is none, from number i on -/
def rowBad : List Str → Nat → List PyData → Option Nat
  | _, _, [] => none
  | kn, i, d :: ds => match rowOf d with
    | none => some i
    | some (n, _) => if i = 40 ∨ n ∈ kn then some i else rowBad (kn ++ [n]) (i + 1) ds
/-- the rows of good data -/
def rowsOfD (ds : List PyData) : List (Str × List PyData) := ds.filterMap rowOf
def shapeL : List (Str × List Str) := [("set", ["variable", "value"]), ("send", ["process", "value"]), ("receive", ["process", "variable", "value"]), ("take", ["process", "variable", "value"]), ("input", ["variable", "value"]), ("checkpoint", [])]
def shapeOf (w : Str) : Option (List Str) := (shapeL.find? fun p => decide (p.1 = w)).map (·.2)
def fitsB (kind : Str) (d : PyData) (os : List Str) : Bool :=
  if kind = "process" then (match d with | .str p => decide (p ∈ os) | _ => false)
  else if kind = "variable" then (match d with | .str x => nameB x | _ => false)
  else (match d with | .int v => valB v | _ => false)
/-- the event that data tells -/
def evOf (os : List Str) : PyData → Option Ev
  | .tuple [.str w] => if w = "checkpoint" then some .chk else none
  | .tuple [.str w, .str p, .int v] => if w = "set" then (if nameB p && valB v then some (.set p v) else none) else if w = "input" then (if nameB p && valB v then some (.inp p v) else none) else if w = "send" then (if decide (p ∈ os) && valB v then some (.send p v) else none) else none
  | .tuple [.str w, .str p, .str x, .int v] => if w = "receive" then (if decide (p ∈ os) && nameB x && valB v then some (.recv p x v) else none) else if w = "take" then (if decide (p ∈ os) && nameB x && valB v then some (.take p x v) else none) else none
  | _ => none
theorem evOf_data {os : List Str} {d : PyData} {e : Ev} (h : evOf os d = some e) : d = e.data ∧ e.ok os = true := by
  unfold evOf at h
  split at h
  · split at h
    · rename_i hw
      injection h with h
      subst h hw
      exact ⟨rfl, rfl⟩
    · cases h
  · split at h
    · rename_i hw
      split at h
      · rename_i hc
        injection h with h
        subst h hw
        exact ⟨rfl, hc⟩
      · cases h
    · split at h
      · rename_i hw
        split at h
        · rename_i hc
          injection h with h
          subst h hw
          exact ⟨rfl, hc⟩
        · cases h
      · split at h
        · rename_i hw
          split at h
          · rename_i hc
            injection h with h
            subst h hw
            exact ⟨rfl, hc⟩
          · cases h
        · cases h
  · split at h
    · rename_i hw
      split at h
      · rename_i hc
        injection h with h
        subst h hw
        exact ⟨rfl, hc⟩
      · cases h
    · split at h
      · rename_i hw
        split at h
        · rename_i hc
          injection h with h
          subst h hw
          exact ⟨rfl, hc⟩
        · cases h
      · cases h
  · cases h
theorem evOf_ok {os : List Str} {e : Ev} (h : e.ok os = true) : evOf os e.data = some e := by
  have e1 : ("input" : Str) ≠ "set" := by decide +kernel
  have e2 : ("send" : Str) ≠ "set" := by decide +kernel
  have e3 : ("send" : Str) ≠ "input" := by decide +kernel
  have e4 : ("take" : Str) ≠ "receive" := by decide +kernel
  cases e <;> simp only [Ev.ok] at h <;> simp only [Ev.data, Ev.word, Ev.rest, evOf]
  · rw [if_pos trivial, if_pos h]
  · rw [if_neg e1, if_pos trivial, if_pos h]
  · rw [if_neg e2, if_neg e3, if_pos trivial, if_pos h]
  · rw [if_pos trivial, if_pos h]
  · rw [if_neg e4, if_pos trivial, if_pos h]
  · rw [if_pos trivial]
def othersL (names : List Str) (n : Str) : List Str := names.filter fun o => decide (o ≠ n)
/-- the first event without a form, counted from k -/
def evBad (os : List Str) : Nat → List PyData → Option Nat
  | _, [] => none
  | k, d :: ds => if (evOf os d).isSome then evBad os (k + 1) ds else some k
def evsBad (names : List Str) : List (Str × List PyData) → Option (Str × Nat)
  | [] => none
  | (n, es) :: rs => match evBad (othersL names n) 1 es with
    | some k => some (n, k)
    | none => evsBad names rs
def rowsTy (names : List Str) (rs : List (Str × List PyData)) : Rows := rs.map fun r => (r.1, r.2.filterMap (evOf (othersL names r.1)))
end Rc
set_option Elab.async false
set_option linter.all false
set_option maxRecDepth 100000
set_option maxHeartbeats 1000000
/-! RxRec2: data of a good shape, a table of the module, zip of tuples -/
namespace L2
open PySem PySem.Spec PyProof.Rows RZ
theorem walk_zipT {K : PySem.W.Frag} {a b : Addr} {xs ys : List V} {n : Nat} (hn : n = min xs.length ys.length) : Walk (ItzT K a b) n (fun H => SqT K H a xs ∧ SqT K H b ys) (YPair (fun i => xs[i]?) (fun i => ys[i]?)) := by
  subst hn
  refine ⟨fun i _ hi q => ?_, fun _ q => ⟨xs, ys, q.1, q.2, by omega⟩, fun i H v H' _ q y => ?_⟩
  · have h1 : i < xs.length := by omega
    have h2 : i < ys.length := by omega
    exact ⟨xs, ys, xs[i], ys[i], q.1, q.2, by simp [h1], by simp [h2]⟩
  · obtain ⟨T, x, z, h1, h2, h3, h4, h5⟩ := y
    exact ⟨T, x, z, h1, h2, h3, h4 xs q.1, h5 ys q.2⟩
end L2
namespace Rc
open PySem PySem.Spec PyProof.Rows L2 Rx SX
mutual
/-- no text is long -/
def smD : PyData → Bool
  | .str z => decide (z.length ≤ 100000)
  | .list xs | .tuple xs => smAll xs
  | _ => true
def smAll : List PyData → Bool
  | [] => true
  | x :: xs => smD x && smAll xs
end
theorem smAll_mem : ∀ {xs : List PyData} {x : PyData}, smAll xs = true → x ∈ xs → smD x = true
  | [], _, _, h => nomatch h
  | y :: ys, x, h, hm => by
    simp only [smAll, Bool.and_eq_true] at h
    rcases List.mem_cons.mp hm with rfl | hm
    · exact h.1
    · exact smAll_mem h.2 hm
structure Gd (d : PyData) : Prop where
  sh : SeqAt.shaped d = true
  sm : smD d = true
theorem depthAll_le : ∀ {xs : List PyData} {x : PyData}, x ∈ xs → x.depth ≤ PyData.depthAll xs
  | [], _, h => nomatch h
  | y :: ys, x, hm => by
    simp only [PyData.depthAll]
    rcases List.mem_cons.mp hm with rfl | hm
    · exact Nat.le_max_left _ _
    · exact Nat.le_trans (depthAll_le hm) (Nat.le_max_right _ _)
theorem shaped_mem {xs : List PyData} {x : PyData} (h : SeqAt.shaped (.tuple xs) = true) (hm : x ∈ xs) : SeqAt.shaped x = true := by
  unfold SeqAt.shaped at h ⊢
  rw [Bool.and_eq_true, decide_eq_true_eq] at h ⊢
  refine ⟨PyData.canLay0_of_mem xs x (by simpa [PyData.canLay0] using h.1) hm, ?_⟩
  have := depthAll_le hm
  have h2 := h.2
  simp only [PyData.depth] at h2
  omega
theorem Gd.mem {xs : List PyData} {x : PyData} (h : Gd (.tuple xs)) (hm : x ∈ xs) : Gd x := ⟨shaped_mem h.sh hm, smAll_mem (by have := h.sm; simpa [smD] using this) hm⟩
theorem Gd.str {z : Str} (h : Gd (.str z)) : z.length ≤ 100000 := by
  have := h.sm
  simpa [smD] using this
/-- a table of the module: texts and tuples of texts -/
def KTab (K : PySem.W.Frag) (w : World) (d : Addr) (kvs : List (Str × List Str)) : Prop :=
  ∃ es n, KDict K w d es n ∧ Paired (fun (p : Str × List Str) (e : DictEntry) => (∃ t, e.key = .str p.1 t) ∧ ∃ b, e.val = .ref b ∧ KTup K b (p.2.map V.str)) kvs es.toList
theorem isStr_str (x z : Str) (t : Tok) : (Value.str x t).isStr z = decide (x = z) := by
  by_cases h : x = z
  · subst h; simp [Value.isStr]
  · simp [Value.isStr, h]
theorem tab_find {K : PySem.W.Frag} {kvs : List (Str × List Str)} {es : List DictEntry} (h : Paired (fun (p : Str × List Str) (e : DictEntry) => (∃ t, e.key = .str p.1 t) ∧ ∃ b, e.val = .ref b ∧ KTup K b (p.2.map V.str)) kvs es) (z : Str) :
    (es.any (·.refKey) = false) ∧ ((kvs.find? (fun p => decide (p.1 = z)) = none ∧ es.find? (·.key.isStr z) = none) ∨
      ∃ p e b, kvs.find? (fun p => decide (p.1 = z)) = some p ∧ es.find? (·.key.isStr z) = some e ∧ e.val = .ref b ∧ KTup K b (p.2.map V.str)) := by
  induction h with
  | nil => exact ⟨rfl, .inl ⟨rfl, rfl⟩⟩
  | @cons p e r s hp _ ih =>
    obtain ⟨⟨t, hk⟩, b, hv, kt⟩ := hp
    obtain ⟨i1, i2⟩ := ih
    have hr : e.refKey = false := by simp [DictEntry.refKey, hk]
    refine ⟨by rw [List.any_cons, hr, i1]; rfl, ?_⟩
    have e1 : e.key.isStr z = decide (p.1 = z) := by rw [hk, isStr_str]
    rw [List.find?_cons, List.find?_cons, e1]
    cases hd : decide (p.1 = z) with
    | true => exact .inr ⟨p, e, b, rfl, rfl, hv, kt⟩
    | false => exact i2
theorem KTab.look {K : PySem.W.Frag} {w : World} {d : Addr} {kvs : List (Str × List Str)} (h : KTab K w d kvs) : ∃ es n, KDict K w d es n ∧ ∀ z : Str, (kvs.find? (fun p => decide (p.1 = z)) = none ∧ PySem.W.nsIn K d z = some none) ∨
    ∃ p b, kvs.find? (fun p => decide (p.1 = z)) = some p ∧ PySem.W.nsIn K d z = some (some (.ref b)) ∧ KTup K b (p.2.map V.str) := by
  obtain ⟨es, n, D, P⟩ := h
  refine ⟨es, n, D, fun z => ?_⟩
  obtain ⟨hr, h⟩ := tab_find P z
  have hl := D.at_
  rcases h with ⟨h1, h2⟩ | ⟨p, e, b, h1, h2, h3, h4⟩
  · refine .inl ⟨h1, ?_⟩
    unfold PySem.W.nsIn
    rw [hl]
    dsimp only
    rw [h2]
    dsimp only
    rw [if_neg (by rw [hr]; decide)]
  · refine .inr ⟨p, b, h1, ?_, h4⟩
    unfold PySem.W.nsIn
    rw [hl]
    dsimp only
    rw [h2]
    dsimp only
    rw [h3]
end Rc
namespace Rc
open PySem PySem.Spec PyProof.Rows L2 RZ Rx SX
theorem abs_lt (z B : Int) : decide ((z.natAbs : Int) < B) = decide ((if z < 0 then -z else z) < B) := by
  rw [show (z.natAbs : Int) = if z < 0 then -z else z by split <;> omega]
theorem dpAll_inv {K : PySem.W.Frag} {H : Hp} {v : V} {vs : List V} {ds : List PyData} (h : DpAll K H (v :: vs) ds) : ∃ d ds', ds = d :: ds' ∧ Dp K H v d ∧ DpAll K H vs ds' := by
  cases h with
  | cons a b => exact ⟨_, _, rfl, a, b⟩
theorem dpAll_inv0 {K : PySem.W.Frag} {H : Hp} {ds : List PyData} (h : DpAll K H [] ds) : ds = [] := by
  cases h
  rfl
theorem dpAll_at {K : PySem.W.Frag} {H : Hp} : ∀ {vs : List V} {ds : List PyData}, DpAll K H vs ds → ∀ {i : Nat} {v : V}, vs[i]? = some v → ∃ d, ds[i]? = some d ∧ Dp K H v d
  | [], _, _, _, _, hi => nomatch hi
  | v :: vs, _, .cons a r, 0, _, hi => by
    injection hi with hi
    subst hi
    exact ⟨_, rfl, a⟩
  | v :: vs, _, .cons a r, i + 1, _, hi => dpAll_at (vs := vs) r (i := i) hi
def isNameD : PyData → Bool
  | .str z => nameB z | _ => false
def isIntegerD : PyData → Bool
  | .int _ => true | _ => false
def isValueD : PyData → Bool
  | .int v => valB v | _ => false
def isRowD (d : PyData) : Bool := (rowOf d).isSome
theorem isRowD_two (d1 d2 : PyData) : isRowD (.tuple [d1, d2]) = (isNameD d1 && isTupD d2) := by
  unfold isRowD
  cases d1 with
  | str z =>
    cases d2 with
    | tuple es =>
      show (if nameB z = true then some (z, es) else none).isSome = (nameB z && true)
      cases nameB z <;> rfl
    | _ => exact (Bool.and_false _).symm
  | _ => cases d2 <;> rfl
end Rc
namespace Rc
open PySem
theorem isValueD_no {d : PyData} (h : isIntegerD d = false) : isValueD d = false := by
  cases d with
  | int z => exact absurd h (by intro q; cases q)
  | _ => rfl
end Rc
namespace Rc
open PySem
/-- an event's form, part by part -/
def partsB (os : List Str) (ps : List PyData) : Option (List Str) → Bool
  | none => false
  | some ks => decide (ps.length = ks.length) && (ks.zip ps).all fun q => fitsB q.1 q.2 os
def hasB (os : List Str) : PyData → Bool
  | .tuple (.str w :: ps) => partsB os ps (shapeOf w)
  | _ => false
theorem vS {d : PyData} {os : List Str} : fitsB "variable" d os = isNameD d := by
  unfold fitsB
  rw [if_neg (by decide +kernel), if_pos rfl]
  cases d <;> rfl
theorem vP {d : PyData} {os : List Str} : fitsB "process" d os = match d with | .str p => decide (p ∈ os) | _ => false := by
  unfold fitsB
  rw [if_pos rfl] <;> cases d <;> rfl
theorem vV {d : PyData} {os : List Str} : fitsB "value" d os = isValueD d := by
  unfold fitsB
  rw [if_neg (by decide +kernel), if_neg (by decide +kernel)]
  cases d <;> rfl
def inB (os : List Str) : PyData → Bool
  | .str p => decide (p ∈ os) | _ => false
theorem vP' {d : PyData} {os : List Str} : fitsB "process" d os = inB os d := by
  rw [vP]
  cases d <;> rfl
theorem shapeOf_eq (w : Str) : shapeOf w = (if w = "set" then some ["variable", "value"] else if w = "send" then some ["process", "value"] else if w = "receive" then some ["process", "variable", "value"] else if w = "take" then some ["process", "variable", "value"] else if w = "input" then some ["variable", "value"] else if w = "checkpoint" then some [] else none : Option (List Str)) := by
  unfold shapeOf shapeL
  by_cases h1 : w = "set"
  · rw [if_pos h1]; subst h1; decide +kernel
  rw [if_neg h1]
  by_cases h2 : w = "send"
  · rw [if_pos h2]; subst h2; decide +kernel
  rw [if_neg h2]
  by_cases h3 : w = "receive"
  · rw [if_pos h3]; subst h3; decide +kernel
  rw [if_neg h3]
  by_cases h4 : w = "take"
  · rw [if_pos h4]; subst h4; decide +kernel
  rw [if_neg h4]
  by_cases h5 : w = "input"
  · rw [if_pos h5]; subst h5; decide +kernel
  rw [if_neg h5]
  by_cases h6 : w = "checkpoint"
  · rw [if_pos h6]; subst h6; decide +kernel
  rw [if_neg h6]
  have d : ∀ x : Str, w ≠ x → decide (x = w) = false := fun x h => decide_eq_false fun z => h z.symm
  simp only [List.find?_cons, List.find?_nil, d _ h1, d _ h2, d _ h3, d _ h4, d _ h5, d _ h6, Option.map_none]
theorem ev2 (os : List Str) (w : Str) (p q : PyData) : (evOf os (.tuple [.str w, p, q])).isSome = if w = "set" then isNameD p && isValueD q else if w = "input" then isNameD p && isValueD q else if w = "send" then inB os p && isValueD q else false := by
  have z : ((if w = "set" then false else if w = "input" then false else if w = "send" then false else false) : Bool) = false := by split; rfl; split; rfl; split <;> rfl
  cases p with
  | str x =>
    cases q with
    | int v =>
      show (if w = "set" then (if nameB x && valB v then some (Ev.set x v) else none) else if w = "input" then (if nameB x && valB v then some (Ev.inp x v) else none) else if w = "send" then (if decide (x ∈ os) && valB v then some (Ev.send x v) else none) else none : Option Ev).isSome = if w = "set" then nameB x && valB v else if w = "input" then nameB x && valB v else if w = "send" then decide (x ∈ os) && valB v else false
      generalize (nameB x && valB v) = a
      generalize (decide (x ∈ os) && valB v) = b
      split
      · cases a <;> rfl
      · split
        · cases a <;> rfl
        · split
          · cases b <;> rfl
          · rfl
    | _ => simp only [evOf, isValueD, Bool.and_false, Option.isSome_none, z]
  | _ => simp only [evOf, isNameD, inB, Bool.false_and, Option.isSome_none, z]
theorem ev3 (os : List Str) (w : Str) (p q r : PyData) : (evOf os (.tuple [.str w, p, q, r])).isSome = if w = "receive" then inB os p && (isNameD q && isValueD r) else if w = "take" then inB os p && (isNameD q && isValueD r) else false := by
  have z : ((if w = "receive" then false else if w = "take" then false else false) : Bool) = false := by split; rfl; split <;> rfl
  cases p with
  | str x =>
    cases q with
    | str y =>
      cases r with
      | int v =>
        show (if w = "receive" then (if decide (x ∈ os) && nameB y && valB v then some (Ev.recv x y v) else none) else if w = "take" then (if decide (x ∈ os) && nameB y && valB v then some (Ev.take x y v) else none) else none : Option Ev).isSome = if w = "receive" then decide (x ∈ os) && (nameB y && valB v) else if w = "take" then decide (x ∈ os) && (nameB y && valB v) else false
        rw [Bool.and_assoc]
        generalize (decide (x ∈ os) && (nameB y && valB v)) = a
        split
        · cases a <;> rfl
        · split
          · cases a <;> rfl
          · rfl
      | _ => simp only [evOf, isValueD, Bool.and_false, Option.isSome_none, z]
    | _ => simp only [evOf, isNameD, Bool.false_and, Bool.and_false, Option.isSome_none, z]
  | _ => simp only [evOf, inB, Bool.false_and, Option.isSome_none, z]
theorem hasB_ev (os : List Str) (d : PyData) : hasB os d = (evOf os d).isSome := by
  have n1 : ("send" : Str) ≠ "set" := by decide +kernel
  have n2 : ("send" : Str) ≠ "input" := by decide +kernel
  have n3 : ("input" : Str) ≠ "set" := by decide +kernel
  have n4 : ("take" : Str) ≠ "receive" := by decide +kernel
  cases d with
  | tuple xs =>
    cases xs with
    | nil => rfl
    | cons x ps =>
      cases x with
      | str w =>
        show partsB os ps (shapeOf w) = _
        rw [shapeOf_eq]
        match ps with
        | [] =>
          show _ = (if w = "checkpoint" then some Ev.chk else none).isSome
          by_cases h6 : w = "checkpoint"
          · subst h6
            rw [if_neg (by decide +kernel), if_neg (by decide +kernel), if_neg (by decide +kernel), if_neg (by decide +kernel), if_neg (by decide +kernel), if_pos rfl, if_pos rfl]
            rfl
          rw [if_neg h6, if_neg h6]
          by_cases h1 : w = "set"
          · rw [if_pos h1]; rfl
          by_cases h2 : w = "send"
          · rw [if_neg h1, if_pos h2]; rfl
          by_cases h3 : w = "receive"
          · rw [if_neg h1, if_neg h2, if_pos h3]; rfl
          by_cases h4 : w = "take"
          · rw [if_neg h1, if_neg h2, if_neg h3, if_pos h4]; rfl
          by_cases h5 : w = "input"
          · rw [if_neg h1, if_neg h2, if_neg h3, if_neg h4, if_pos h5]; rfl
          rw [if_neg h1, if_neg h2, if_neg h3, if_neg h4, if_neg h5]
          rfl
        | [p] =>
          rw [show (evOf os (.tuple [.str w, p])).isSome = false by cases p <;> rfl]
          by_cases h1 : w = "set"
          · rw [if_pos h1]; rfl
          by_cases h2 : w = "send"
          · rw [if_neg h1, if_pos h2]; rfl
          by_cases h3 : w = "receive"
          · rw [if_neg h1, if_neg h2, if_pos h3]; rfl
          by_cases h4 : w = "take"
          · rw [if_neg h1, if_neg h2, if_neg h3, if_pos h4]; rfl
          by_cases h5 : w = "input"
          · rw [if_neg h1, if_neg h2, if_neg h3, if_neg h4, if_pos h5]; rfl
          by_cases h6 : w = "checkpoint"
          · rw [if_neg h1, if_neg h2, if_neg h3, if_neg h4, if_neg h5, if_pos h6]; rfl
          rw [if_neg h1, if_neg h2, if_neg h3, if_neg h4, if_neg h5, if_neg h6]
          rfl
        | [p, q] =>
          rw [ev2]
          by_cases h1 : w = "set"
          · rw [if_pos h1, if_pos h1]
            show (true && (fitsB "variable" p os && (fitsB "value" q os && true))) = _
            rw [vS, vV, Bool.true_and, Bool.and_true]
          by_cases h2 : w = "send"
          · subst h2
            rw [if_neg h1, if_pos rfl, if_neg n1, if_neg n2, if_pos rfl]
            show (true && (fitsB "process" p os && (fitsB "value" q os && true))) = _
            rw [vP', vV, Bool.true_and, Bool.and_true]
          by_cases h3 : w = "receive"
          · subst h3; rw [if_neg h1, if_neg h2, if_pos rfl, if_neg h1, if_neg (by decide +kernel), if_neg h2]; rfl
          by_cases h4 : w = "take"
          · subst h4; rw [if_neg h1, if_neg h2, if_neg h3, if_pos rfl, if_neg h1, if_neg (by decide +kernel), if_neg h2]; rfl
          by_cases h5 : w = "input"
          · subst h5
            rw [if_neg h1, if_neg h2, if_neg h3, if_neg h4, if_pos rfl, if_neg h1, if_pos rfl]
            show (true && (fitsB "variable" p os && (fitsB "value" q os && true))) = _
            rw [vS, vV, Bool.true_and, Bool.and_true]
          by_cases h6 : w = "checkpoint"
          · subst h6; rw [if_neg h1, if_neg h2, if_neg h3, if_neg h4, if_neg h5, if_pos rfl, if_neg h1, if_neg h5, if_neg h2]; rfl
          rw [if_neg h1, if_neg h2, if_neg h3, if_neg h4, if_neg h5, if_neg h6, if_neg h1, if_neg h5, if_neg h2]
          rfl
        | [p, q, r] =>
          rw [ev3]
          by_cases h1 : w = "set"
          · subst h1; rw [if_pos rfl, if_neg (by decide +kernel), if_neg (by decide +kernel)]; rfl
          by_cases h2 : w = "send"
          · subst h2; rw [if_neg h1, if_pos rfl, if_neg (by decide +kernel), if_neg (by decide +kernel)]; rfl
          by_cases h3 : w = "receive"
          · subst h3; rw [if_neg h1, if_neg h2, if_pos rfl, if_pos rfl]
            show (true && (fitsB "process" p os && (fitsB "variable" q os && (fitsB "value" r os && true)))) = _
            rw [vP', vS, vV, Bool.true_and, Bool.and_true]
          by_cases h4 : w = "take"
          · subst h4; rw [if_neg h1, if_neg h2, if_neg h3, if_pos rfl, if_neg n4, if_pos rfl]
            show (true && (fitsB "process" p os && (fitsB "variable" q os && (fitsB "value" r os && true)))) = _
            rw [vP', vS, vV, Bool.true_and, Bool.and_true]
          by_cases h5 : w = "input"
          · subst h5; rw [if_neg h1, if_neg h2, if_neg h3, if_neg h4, if_pos rfl, if_neg h3, if_neg h4]; rfl
          by_cases h6 : w = "checkpoint"
          · subst h6; rw [if_neg h1, if_neg h2, if_neg h3, if_neg h4, if_neg h5, if_pos rfl, if_neg h3, if_neg h4]; rfl
          rw [if_neg h1, if_neg h2, if_neg h3, if_neg h4, if_neg h5, if_neg h6, if_neg h3, if_neg h4]
          rfl
        | p :: q :: r :: u :: rest =>
          rw [show (evOf os (.tuple (.str w :: p :: q :: r :: u :: rest))).isSome = false by cases p <;> first | rfl | (cases q <;> first | rfl | (cases r <;> rfl))]
          by_cases h1 : w = "set"
          · rw [if_pos h1]; simp [partsB]
          by_cases h2 : w = "send"
          · rw [if_neg h1, if_pos h2]; simp [partsB]
          by_cases h3 : w = "receive"
          · rw [if_neg h1, if_neg h2, if_pos h3]; simp [partsB]
          by_cases h4 : w = "take"
          · rw [if_neg h1, if_neg h2, if_neg h3, if_pos h4]; simp [partsB]
          by_cases h5 : w = "input"
          · rw [if_neg h1, if_neg h2, if_neg h3, if_neg h4, if_pos h5]; simp [partsB]
          by_cases h6 : w = "checkpoint"
          · rw [if_neg h1, if_neg h2, if_neg h3, if_neg h4, if_neg h5, if_pos h6]; simp [partsB]
          rw [if_neg h1, if_neg h2, if_neg h3, if_neg h4, if_neg h5, if_neg h6]
          rfl
      | _ => rfl
  | _ => rfl
end Rc
namespace Rc
open PySem PySem.Spec PyProof.Rows L2
theorem partsB_ne {os : List Str} {ps : List PyData} {ks : List Str} (h : ps.length ≠ ks.length) : partsB os ps (some ks) = false := by
  show (decide (ps.length = ks.length) && _) = false
  rw [decide_eq_false h]
  rfl
theorem partsB_eq {os : List Str} {ps : List PyData} {ks : List Str} (h : ps.length = ks.length) : partsB os ps (some ks) = (ks.zip ps).all fun q => fitsB q.1 q.2 os := by
  show (decide (ps.length = ks.length) && _) = _
  rw [decide_eq_true h, Bool.true_and]
theorem int_ne1 {a b : Nat} : ((!decide (V.int (a : Int) = V.int ((b : Int) + 1))) = true) ↔ a ≠ b + 1 := by
  by_cases h : a = b + 1
  · subst h
    simp
  · have : V.int (a : Int) ≠ V.int ((b : Int) + 1) := fun z => h (by injection z with z; omega)
    simp [this, h]
end Rc
namespace Rc
open PySem PySem.Spec PyProof.Rows L2
theorem fitR {n : Nat} (h : n ≤ 3000000) : n < sizeLine := Nat.lt_of_le_of_lt h (by decide)
theorem mapS_get {ks : List Str} {i : Nat} {y : V} (h : (ks.map V.str)[i]? = some y) : ∃ k, ks[i]? = some k ∧ y = V.str k := by
  rw [List.getElem?_map] at h
  cases hp : ks[i]? with
  | none => rw [hp] at h; cases h
  | some z => rw [hp] at h; injection h with h; exact ⟨z, rfl, h.symm⟩
theorem zip_get {α β : Type} {xs : List α} {ys : List β} {i : Nat} {x : α} {y : β} (h : xs[i]? = some x) (h2 : ys[i]? = some y) : (xs.zip ys)[i]? = some (x, y) := List.getElem?_zip_eq_some.mpr ⟨h, h2⟩
end Rc
set_option Elab.async false
set_option linter.all false
set_option maxRecDepth 100000
set_option maxHeartbeats 1000000
/-! RxHk: what the top leaves, told by Bools and looks; nothing of the heap is written out -/
namespace Hk
open PySem PySem.Spec PyProof.Rows L2 Rx Rc
theorem nth {bs : List Bool} (h : bs.all id = true) (i : Nat) {b : Bool} (e : bs[i]? = some b := by rfl) : b = true :=
  List.all_eq_true.mp h b (List.mem_of_getElem? e)
/-! a tuple of the top -/
def ktB (K : PySem.W.Frag) (a : Addr) (xs : List V) : Bool := match K.lookup a with
  | some ⟨.type c, _, .seq ys _, _⟩ => decide (c = "tuple") && (decide (ys.size ≤ sizeLine) && He.relAll xs ys.toList)
  | _ => false
theorem kt_ok {K : PySem.W.Frag} {a : Addr} {xs : List V} (h : ktB K a xs = true) : KTup K a xs := by
  unfold ktB at h
  split at h
  · rename_i e
    simp only [Bool.and_eq_true, decide_eq_true_eq] at h
    obtain ⟨rfl, h2, h3⟩ := h
    exact ⟨_, _, _, e, rfl, rfl, h2, He.relAll_ok h3⟩
  · cases h
/-! a number, a text of the top -/
def litB (K : PySem.W.Frag) (a : Addr) (x : Str) (v : V) : Bool := match PySem.W.nsIn K a x with
  | some (some u) => He.relB v u
  | _ => false
theorem lit_ok {K : PySem.W.Frag} {a : Addr} {x : Str} {v : V} (h : litB K a x v = true) : ∃ u, PySem.W.nsIn K a x = some (some u) ∧ RelV v u := by
  unfold litB at h
  split at h
  · rename_i e
    exact ⟨_, e, He.relB_ok h⟩
  · cases h
theorem int_of {K : PySem.W.Frag} {a : Addr} {x : Str} {i : Int} (h : litB K a x (.int i) = true) : ∃ t, PySem.W.nsIn K a x = some (some (.int i t)) := by
  obtain ⟨u, e, t, rfl⟩ := lit_ok h
  exact ⟨t, e⟩
theorem str_of {K : PySem.W.Frag} {a : Addr} {x z : Str} (h : litB K a x (.str z) = true) : ∃ t, PySem.W.nsIn K a x = some (some (.str z t)) := by
  obtain ⟨u, e, t, rfl⟩ := lit_ok h
  exact ⟨t, e⟩
/-! a dict of the top whose values are tuples of texts -/
def prB (K : PySem.W.Frag) : List (Str × List Str) → List DictEntry → Bool
  | [], [] => true
  | p :: ps, e :: es => (match e.key with | .str z _ => decide (z = p.1) | _ => false) && ((match e.val with | .ref b => ktB K b (p.2.map V.str) | _ => false) && prB K ps es)
  | _, _ => false
theorem pr_ok {K : PySem.W.Frag} : ∀ {ps : List (Str × List Str)} {es : List DictEntry}, prB K ps es = true → Paired (fun (p : Str × List Str) (e : DictEntry) => (∃ t, e.key = .str p.1 t) ∧ ∃ b, e.val = .ref b ∧ KTup K b (p.2.map V.str)) ps es
  | [], [], _ => .nil
  | [], _ :: _, h => by cases h
  | _ :: _, [], h => by cases h
  | p :: ps, e :: es, h => by
    unfold prB at h
    simp only [Bool.and_eq_true] at h
    obtain ⟨h1, h2, h3⟩ := h
    refine .cons ⟨?_, ?_⟩ (pr_ok h3)
    · split at h1
      · rename_i z t q
        exact ⟨t, by rw [q, of_decide_eq_true h1]⟩
      · cases h1
    · split at h2
      · rename_i b q
        exact ⟨b, q, kt_ok h2⟩
      · cases h2
def tabB (K : PySem.W.Frag) (a : Addr) (ps : List (Str × List Str)) : Bool := match K.lookup a with
  | some ⟨_, _, .dict es _, _⟩ => prB K ps es.toList
  | _ => false
theorem tab_ok {K : PySem.W.Frag} {w : World} {a : Addr} {ps : List (Str × List Str)} (h : tabB K a ps = true) (d : ∃ es n, KDict K w a es n) : KTab K w a ps := by
  obtain ⟨es, n, D⟩ := d
  unfold tabB at h
  rw [D.at_] at h
  exact ⟨es, n, D, pr_ok h⟩
/-! a class of errors -/
def clB (K : PySem.W.Frag) (C : Addr) (x : Str) (bm : List Value) : Bool := match K.lookup C with
  | some ⟨.type t, _, .cls cd, sl⟩ => decide (t = "type") && (decide (cd.name = x) && (decide (cd.qualname = x) && (decide (cd.mro = .ref C :: bm) && (cd.hasDict && (!cd.hasDel && (match sl.toList with | [_, _, _, _, some (.builtin s), _] => decide (s = "ValueError.__new__") | _ => false))))))
  | _ => false
theorem cl_ok {K : PySem.W.Frag} {C : Addr} {x : Str} {bm : List Value} (h : clB K C x bm = true) : ClsAt K x C bm := by
  unfold clB at h
  split at h
  · rename_i t dd cd sl e
    obtain ⟨nm, bs, mro, N, q, hdct, sn, sub, ab, col, hdl⟩ := cd
    simp only [Bool.and_eq_true, decide_eq_true_eq, Bool.not_eq_true'] at h
    obtain ⟨rfl, rfl, rfl, rfl, rfl, rfl, h7⟩ := h
    split at h7
    · rename_i k0 k1 k2 k3 s k5 es
      obtain rfl := of_decide_eq_true h7
      have hs : sl = #[k0, k1, k2, k3, some (.builtin "ValueError.__new__"), k5] := by
        rw [← Array.toArray_toList (xs := sl), es]
      subst hs
      exact ⟨N, bs, sn, sub, ab, col, dd, k0, k1, k2, k3, k5, e⟩
    · cases h7
  · cases h
/-! a def with a cell (an error's __init__) -/
abbrev FC : Type := Option (Str × Str × Arguments × FuncBody × Scope × Addr × List Str × Value × Addr)
def fc (K : PySem.W.Frag) (a : Addr) : FC := match K.lookup a with
  | some ⟨_, _, .func d, _⟩ => some (d.name, d.qualname, d.params, d.body, d.scope, d.globals, d.closure.map (·.1), d.defaults, d.builtins)
  | _ => none
structure CsD where
  cls : Str
  qual : Str
  st : Stmt
  fs : List Str
def CsD.f (K : PySem.W.Frag) (d : CsD) : Addr := He.ma K (He.ga K d.cls) "__init__"
def CsD.val (d : CsD) : FC := some ("__init__", d.qual, defArgs d.st, .stmts (defBody d.st), defScope d.st, mainGlobals, ["__class__"], .none, builtinsNs)
def endB (file : Str) (K : PySem.W.Frag) (C f : Addr) (qual : Str) : Bool := match K.lookup f with
  | some ⟨_, _, .func d, _⟩ => (match d.code with
    | .ref c => PySem.W.codeIn K (.ref c) qual && (match K.lookup c with
      | some ⟨_, _, .fields vs, _⟩ => (match (vs[2]? : Option Value) with
        | some (.str z _) => file == z
        | _ => false)
      | _ => false)
    | _ => false) && (match d.closure with
    | [q] => (match K.lookup q.2 with
      | some ⟨_, _, .cell (some (.ref z)), _⟩ => decide (z = C)
      | _ => false)
    | _ => false)
  | _ => false
def isB (K : PySem.W.Frag) (C : Addr) (x : Str) (r : Option Value) : Bool := He.eqO (PySem.W.findIn K (.ref C) x) (some r)
def csB (file : Str) (K : PySem.W.Frag) (R C f : Addr) (d : CsD) : Bool :=
  He.eqO (PySem.W.nsIn K mainGlobals d.cls) (some (some (.ref C))) && (clB K C d.cls (.ref R :: veT) && (isB K C "__setattr__" (some (.builtin "object.__setattr__")) && (isB K C "__getattribute__" (some (.builtin "BaseException.__getattribute__")) &&
    (isB K C "__getattr__" none && (isB K C "__class__" (some (.builtin "object.__class__")) && (PySem.W.keepIn K (.ref C) && ((d.fs.all fun g => isB K C g none) && (isB K C "__init__" (some (.ref f)) &&
      (decide (PySem.W.typeIn K (.ref f) = some (.type "function")) && (endB file K C f d.qual && He.eqO (PySem.W.ks_superIn K C C "__init__") (some (some (.builtin "ValueError.__init__")))))))))))))
def CsD.ok (file : Str) (K : PySem.W.Frag) (d : CsD) : Bool := csB file K (He.ga K "RerunError") (He.ga K d.cls) (d.f K) d
theorem cs_ok {P : Program} {K : PySem.W.Frag} {d : CsD} (e : fc K (d.f K) = d.val) (h : d.ok P.main.file K = true) : ∃ (C f cda cc : Addr) (fd : FuncData), ClsF P K d.cls d.qual d.st (He.ga K "RerunError") C f cda cc fd d.fs := by
  unfold CsD.ok at h
  generalize He.ga K d.cls = C at h
  generalize d.f K = f at h e
  unfold csB at h
  simp only [Bool.and_eq_true] at h
  obtain ⟨h1, h2, h3, h4, h5, h6, h7, h8, h9, h10, h11, h12⟩ := h
  unfold endB at h11
  split at h11
  · rename_i oc od fd osl lk
    obtain ⟨n1, n2, n3, n4, n5, n6, n7, n8, n9, n10, n11, n12, n13, n14, n15⟩ := fd
    unfold fc at e
    rw [lk] at e
    simp only [CsD.val, Option.some.injEq, Prod.mk.injEq] at e
    obtain ⟨rfl, rfl, rfl, rfl, rfl, rfl, e7, rfl, rfl⟩ := e
    simp only [Bool.and_eq_true] at h11
    obtain ⟨ha, hb⟩ := h11
    split at ha
    · rename_i c
      simp only [Bool.and_eq_true] at ha
      obtain ⟨hc, hd⟩ := ha
      split at hd
      · rename_i ccl cdd vs ccs lc
        split at hd
        · rename_i z tk hv
          split at hb
          · rename_i q
            obtain ⟨q1, q2⟩ := q
            cases (show ([q1] : List Str) = (["__class__"] : List Str) from e7)
            split at hb
            · rename_i cl cld z2 csl lcell
              obtain rfl := of_decide_eq_true hb
              exact ⟨_, f, c, q2, _, He.eqO_ok h1, cl_ok h2, He.eqO_ok h3, He.eqO_ok h4, He.eqO_ok h5, He.eqO_ok h6, h7, fun g hg => He.eqO_ok (List.all_eq_true.mp h8 g hg), He.eqO_ok h9, ⟨oc, od, _, _, _, _, _, osl, rfl, lk, hc⟩, of_decide_eq_true h10, ⟨ccl, cdd, vs, ccs, z, tk, lc, hv, hd⟩, ⟨cl, cld, csl, lcell⟩, He.eqO_ok h12⟩
            · cases hb
          · cases hb
        · cases hd
      · cases hd
    · cases ha
  · cases h11
/-! the Hook -/
abbrev dn (x : Str) (st : Stmt) : He.DefD := ⟨(x, none), x, x, defArgs st, defBody st, defScope st, [], []⟩
abbrev dm (C m q : Str) (st : Stmt) : He.DefD := ⟨(C, some m), m, q, defArgs st, defBody st, defScope st, [], []⟩
/-- a method whose one default is an object -/
abbrev dd (C m q : Str) (st : Stmt) : He.DefD := ⟨(C, some m), m, q, defArgs st, defBody st, defScope st, [.adr (He.dflAt (C, some m) 0)], []⟩
abbrev Al : Type := He.AlT × List FC × Bool
def ob (fn : List He.DefD) (ts : List He.Tab) (cs : List CsD) (bs : PySem.W.Frag → List Bool) (file : Str) (K : PySem.W.Frag) : Al := (He.obsT [] fn ts K, cs.map (fun d => fc K (d.f K)), ((cs.all fun d => d.ok file K) && (bs K).all id))
def va (fn : List He.DefD) (ts : List He.Tab) (cs : List CsD) (w : World) : Al := (He.valT fn ts w, cs.map CsD.val, true)
def look (as : List Addr) (fn : List He.DefD) (ts : List He.Tab) (cs : List CsD) (bs : PySem.W.Frag → List Bool) (file : Str) (g : Addr → Option Obj) : Al := ob fn ts cs bs file (He.frG g as)
def hook (as : List Addr) (fn : List He.DefD) (ts : List He.Tab) (cs : List CsD) (bs : PySem.W.Frag → List Bool) (file : Str) : PySem.W.Hook where
  α := Al
  obs := fun s => look as fn ts cs bs file s.heap.get?
  val := fun w => va fn ts cs w
  says := fun w h => ∃ K : PySem.W.Frag, K.In h ∧ ob fn ts cs bs file K = va fn ts cs w
  of := fun _ _ e => ⟨_, He.frG_in, e⟩
  keeps := fun _ _ _ ⟨K, hK, c⟩ k => ⟨K, PySem.W.Frag.In.keeps hK k, c⟩
theorem look_eq {as : List Addr} {fn : List He.DefD} {ts : List He.Tab} {cs : List CsD} {bs : PySem.W.Frag → List Bool} {file : Str} {g : Addr → Option Obj} {s : Shared} (h : ∀ a, g a = s.heap.get? a) : look as fn ts cs bs file g = (hook as fn ts cs bs file).obs s := by
  obtain rfl : g = s.heap.get? := funext h
  rfl
section
variable {fn : List He.DefD} {ts : List He.Tab} {cs : List CsD} {bs : PySem.W.Frag → List Bool} {file : Str} {w : World} {K : PySem.W.Frag}
theorem sT (c : ob fn ts cs bs file K = va fn ts cs w) : He.SaysT [] fn ts w K := congrArg (fun z : Al => z.1) c
theorem sD (c : ob fn ts cs bs file K = va fn ts cs w) : He.SaysD [] fn K := (sT c).d
theorem sB (c : ob fn ts cs bs file K = va fn ts cs w) : (bs K).all id = true := by
  have e : ((cs.all fun d => d.ok file K) && (bs K).all id) = true := congrArg (fun z : Al => z.2.2) c
  exact (Bool.and_eq_true_iff.mp e).2
theorem sC {P : Program} (c : ob fn ts cs bs P.main.file K = va fn ts cs w) (i : Nat) {d : CsD} (h : cs[i]? = some d := by rfl) : ∃ (C f cda cc : Addr) (fd : FuncData), ClsF P K d.cls d.qual d.st (He.ga K "RerunError") C f cda cc fd d.fs := by
  have e : ((cs.all fun d => d.ok P.main.file K) && (bs K).all id) = true := congrArg (fun z : Al => z.2.2) c
  have e1 : cs.map (fun d => fc K (d.f K)) = cs.map CsD.val := congrArg (fun z : Al => z.2.1) c
  have e2 : (cs.map fun d => fc K (d.f K))[i]? = (cs.map CsD.val)[i]? := by rw [e1]
  rw [List.getElem?_map, List.getElem?_map, h] at e2
  exact cs_ok (Option.some.inj e2) (List.all_eq_true.mp (Bool.and_eq_true_iff.mp e).1 d (List.mem_of_getElem? h))
end
/-- the law's end over such a head -/
theorem walk_ofH {l : PySem.W.OpenLaw} {m k : Nat} {q : Program} {loose : List Str} {XP : (Str → Option Value) → Heap → Prop} {YP : World → Heap → Prop} {d : DefRec} {sp : PySem.W.Frag → Sp} {x : Str}
    (hn : l.most = some m) (hs : m ≤ sizeLine) (hdf : d.params.defaults = []) (hr : Room k callerA)
    (F : ∀ (w : World) (mg : Str → Option Value) (fa : Addr) (h : Heap), YP w h → h.Ns mainGlobals mg → mg d.name = some (.ref fa) →
      ∃ K : PySem.W.Frag, K.In h ∧ ∃ fd : FuncData, (∀ (s : Shared) (u : Value), BindsTo s fd ⟨[u], []⟩ [(x, u)]) ∧ ∀ base : Heap, K.In base → base.Ns mainGlobals mg → FnG l.prog w K mg base k fa fd [x] (sp K))
    (hsp : ∀ (K : PySem.W.Frag) (H : Hp) (a : Addr) (is : List Int), is.length ≤ m → Only H → SqL K H a (is.map V.int) → sp K [.ref a] H (fun v _ => v = .bl true) E0) :
    PySem.W.WalkO q loose XP YP l.row.toRowW d [] (fun f vs => PySem.call f vs) := by
  refine Att.attach_call hn hdf fun w s₀ s₁ mg mb fa o pm cd doc a vs is G Y ho hd hcd hmg hobj hints hlen hg => ?_
  obtain ⟨K, hK, fd, hb, hF⟩ := F w mg fa _ Y G.T.g hmg
  exact law_callG hK G.T.g G.T.b G.T.builtins G.T.nolimit hg hobj hints (Nat.le_trans hlen hs) hr hF hb fun H hO hS => hsp _ H a is hlen hO hS
end Hk
set_option Elab.async false
set_option linter.all false
set_option maxRecDepth 100000
set_option maxHeartbeats 4000000
namespace XE
open PySem PySem.Spec PyProof.Rows L2 Rx SX
def topS (i : Nat) : Stmt := PySem.Challenge.pw_rerunrein_k32_orders_refused.main.body.getD i (.Pass ⟨0, 0, 0, 0⟩)
/-- a def of the module, as its callers see it -/
structure Cal (P : Program) (w : World) (K : PySem.W.Frag) (mg : Str → Option Value) (base : Heap) (k : Nat) (x : Str) (f : Addr) (fd : FuncData) (ps : List Str) (sp : Sp) : Prop where
  ok : FnOk P w K mg base CX0 k f fd ps sp
  mg : mg x = some (.ref f)
  kp : PySem.W.keepIn K (.ref f) = true
  bi : Binds K fd ps []
section
variable {P : Program} {w : World} {K : PySem.W.Frag} {mg : Str → Option Value} {base : Heap}
theorem iteTc {c : Bool} {A B : Prop} (h : c = true) (a : A) : if c = true then A else B := by rw [if_pos h]; exact a
theorem iteFc {c : Bool} {A B : Prop} (h : c = false) (b : B) : if c = true then A else B := by rw [if_neg (by rw [h]; decide)]; exact b
theorem len_tl (z : Str) : z.cps.toList.length = z.length := by simp [Str.length]
theorem nil_tl (z : Str) : (z = ("" : Str)) ↔ z.cps.toList = [] := by
  constructor
  · intro h; subst h; decide +kernel
  · intro h
    have := S_tl z
    rw [h] at this
    exact this.symm
/-- the list of answers, sign by sign -/
theorem all_read {z : Str} {p : Nat → Bool} {D : Addr} {H : Hp} {Q : VK} (h : ∃ bs : List Bool, H D = some (.lst (bs.map V.bl)) ∧ bs = z.cps.toList.map p) (k : Q (.bl (z.cps.toList.all p)) H) :
    ∃ a bs, [V.ref D] = [V.ref a] ∧ SqL K H a (List.map V.bl bs) ∧ Q (.bl (bs.all id)) H := by
  obtain ⟨bs, h1, h2⟩ := h
  refine ⟨D, bs, rfl, SqL.of h1, ?_⟩
  rw [h2, List.all_map]
  exact k
end
end XE
set_option Elab.async false
set_option linter.all false
set_option maxRecDepth 100000
set_option maxHeartbeats 4000000
namespace XE
open PySem PySem.Spec PyProof.Rows L2 Rx SX
abbrev sFrozen : Stmt := topS 12
/-- the built-in names that stand as they were -/
structure TxtB (mg : Str → Option Value) : Prop where
  len : mg "len" = none
  tup : mg "tuple" = none
  lst : mg "list" = none
  isi : mg "isinstance" = none
def spFrozenN (K : PySem.W.Frag) (N : Nat) : Sp := fun vs H Q _ => ∃ (v : V) (d : PyData), vs = [v] ∧ Dp K H v d ∧ sz d ≤ N ∧ ∀ H' v', Same H H' → Dp K H' v' (fix d) → Q v' H'
abbrev spFrozen (K : PySem.W.Frag) : Sp := spFrozenN K 1000
section
variable {P : Program} {w : World} {K : PySem.W.Frag} {mg : Str → Option Value} {base : Heap}
theorem scFz : FnScope ["thing", "sources", "places", "results", "source", "place", "finished", "item"] ["thing"] (defScope sFrozen) := ⟨rfl, rfl, rfl, by decide +kernel, rfl, by decide +kernel, by decide +kernel⟩
theorem set_last (xs : List V) (v u : V) : (xs ++ [v]).set xs.length u = xs ++ [u] := by
  rw [List.set_append_right _ _ (Nat.le_refl _), Nat.sub_self]
  rfl
theorem ixN_last (n : Nat) : ixN (n + 1) (-1) = some n := by
  unfold ixN
  rw [if_neg (by decide), if_pos (by omega)]
  congr 1
  omega
theorem last_get (xs : List V) (v : V) : (xs ++ [v])[(xs ++ [v]).length - 1]? = some v := by simp
theorem ix_any {H : Hp} {x v : V} {a : Addr} {xs : List V} {i : Nat} {Q : VK} (h : SqL K H a xs ∨ SqT K H a xs) (e : x = .ref a) (hv : xs[i]? = some v) (q : Q v H) : rIx K x (.int i) H Q :=
  h.elim (fun h => .inl ⟨a, xs, _, v, e, rfl, h, atI_nat hv, q⟩) (fun h => .inr (.inl ⟨a, xs, _, v, e, rfl, h, atI_nat hv, q⟩))
theorem ok_frozenN {f : Addr} {fd : FuncData} (N : Nat) (hN : N + 20 < sizeLine) (F : Fun K "frozen" "frozen" sFrozen f fd) (T : TxtB mg) : FnOk P w K mg base CX0 1 f fd ["thing"] (spFrozenN K N) := by
  refine F.ok scFz (fun vs H Q E h => ?_) (fun cdv A outer s H vs Q E hr h => ?_)
  · obtain ⟨v, d, rfl, _⟩ := h
    rfl
  · obtain ⟨v, d, rfl, hv, hsz, k⟩ := h
    refine ⟨_, pss_cons (ps_set (i := 1) scFz.nd rfl (.inl rfl) (pe_lst (pa_cons (pe_lst (pa_cons (pv 0) pa_nil)) pa_nil)))
      (pss_cons (ps_set (i := 2) scFz.nd rfl (.inl rfl) (pe_lst (pa_cons pe_int pa_nil)))
      (pss_cons (ps_set (i := 3) scFz.nd rfl (.inl rfl) (pe_lst (pa_cons (pe_lst pa_nil) pa_nil)))
      (pss_cons (ps_while PassesOwn.never
        (PW.pt (pw_or (pt_cmpR op_gt (pe_callB call_len_seq (by rfl) T.len PySem.boot_len (pa_cons (pv 1) pa_nil)) pe_int (nomark _)) (pw_or1 (pt_cmpR op_eq (pe_ix ix_list (pv 2) pe_int (fun _ _ => rfl)) pe_int (nomark _)))))
        (pss_cons (ps_set (i := 4) scFz.nd rfl (.inl rfl) (pe_ix ix_list (pv 1) (pe_un un_neg pe_int) (fun _ _ => rfl)))
        (pss_cons (ps_set (i := 5) scFz.nd rfl (.inl rfl) (pe_ix ix_list (pv 2) (pe_un un_neg pe_int) (fun _ _ => rfl)))
        (pss_cons (ps_if (pt_cmpR op_eq (pv 5) (pe_callB call_len_seq (by rfl) T.len PySem.boot_len (pa_cons (pv 4) pa_nil)) (nomark _))
          (pss_cons (ps_expr (pe_bm0 PySem.F.plainAttrs_list PySem.F.slot_list_pop PySem.F.type_list_pop mt_pop (pv 1)))
          (pss_cons (ps_expr (pe_bm0 PySem.F.plainAttrs_list PySem.F.slot_list_pop PySem.F.type_list_pop mt_pop (pv 2)))
          (pss_cons (ps_set (i := 6) scFz.nd rfl (.inl rfl) (pe_callTy call_tuple_of (by rfl) T.tup (by decide +kernel) (pa_cons (pe_bm0 PySem.F.plainAttrs_list PySem.F.slot_list_pop PySem.F.type_list_pop mt_pop (pv 3)) pa_nil)))
          (pss_cons (ps_expr (pe_bm PySem.F.plainAttrs_list PySem.F.slot_list_append PySem.F.type_list_append mt_append (pe_ix ix_list (pv 3) (pe_un un_neg pe_int) (fun _ _ => rfl)) (pa_cons (pv 6) pa_nil)))
          (pss_one ps_continue))))) pss_nil)
        (pss_cons (ps_asg (pe_op op_add (pv 5) pe_int) (pg_sub (pv 2) (pe_un un_neg pe_int) set_list))
        (pss_cons (ps_set (i := 7) scFz.nd rfl (.inl rfl) (pe_ix ix_seq (pv 4) (pv 5) (fun _ _ => rfl)))
        (pss_one (ps_if (pt_val (pe_callB call_isiT (by rfl) T.isi (by decide +kernel) (pa_cons (pv 7) (pa_cons (pe_tup (pa_cons (pe_bltn (v := .ty "list") (by rfl) T.lst (by decide +kernel) rfl) (pa_cons (pe_bltn (v := .ty "tuple") (by rfl) T.tup (by decide +kernel) rfl) pa_nil))) pa_nil))))
          (pss_cons (ps_expr (pe_bm PySem.F.plainAttrs_list PySem.F.slot_list_append PySem.F.type_list_append mt_append (pv 1) (pa_cons (pv 7) pa_nil)))
          (pss_cons (ps_expr (pe_bm PySem.F.plainAttrs_list PySem.F.slot_list_append PySem.F.type_list_append mt_append (pv 2) (pa_cons pe_int pa_nil)))
          (pss_one (ps_expr (pe_bm PySem.F.plainAttrs_list PySem.F.slot_list_append PySem.F.type_list_append mt_append (pv 3) (pa_cons (pe_lst pa_nil) pa_nil))))))
          (pss_one (ps_expr (pe_bm PySem.F.plainAttrs_list PySem.F.slot_list_append PySem.F.type_list_append mt_append (pe_ix ix_list (pv 3) (pe_un un_neg pe_int) (fun _ _ => rfl)) (pa_cons (pv 7) pa_nil))))))))))))
      (pss_one (ps_ret (pe_ix ix_list (pe_ix ix_list (pv 3) pe_int (fun _ _ => rfl)) pe_int (fun _ _ => rfl))))))), ?_⟩
    refine ⟨_, rfl, (by show 1 ≤ sizeLine; decide), fun B0 hB => ⟨(by show 1 ≤ sizeLine; decide), fun S hS => ?_⟩⟩
    refine ⟨(by show 1 ≤ sizeLine; decide), fun Pp hP => ?_⟩
    refine ⟨(by show 0 ≤ sizeLine; decide), fun E1 hE => ⟨(by show 1 ≤ sizeLine; decide), fun R hR => ?_⟩⟩
    have nSB : S ≠ B0 := fun z => by rw [z, upd_same] at hS; cases hS
    have nPS : Pp ≠ S := fun z => by rw [z, upd_same] at hP; cases hP
    have hP1 : upd H B0 (.lst [v]) Pp = none := by rw [upd_ne nPS] at hP; exact hP
    have nEP : E1 ≠ Pp := fun z => by rw [z, upd_same] at hE; cases hE
    have hE1 : upd (upd H B0 (.lst [v])) S (.lst [V.ref B0]) E1 = none := by rw [upd_ne nEP] at hE; exact hE
    have nES : E1 ≠ S := fun z => by rw [z, upd_same] at hE1; cases hE1
    have hE2 : upd H B0 (.lst [v]) E1 = none := by rw [upd_ne nES] at hE1; exact hE1
    have nRE : R ≠ E1 := fun z => by rw [z, upd_same] at hR; cases hR
    have hR1 : upd (upd (upd H B0 (.lst [v])) S (.lst [V.ref B0])) Pp (.lst [V.int 0]) R = none := by rw [upd_ne nRE] at hR; exact hR
    have nRP : R ≠ Pp := fun z => by rw [z, upd_same] at hR1; cases hR1
    have hR2 : upd (upd H B0 (.lst [v])) S (.lst [V.ref B0]) R = none := by rw [upd_ne nRP] at hR1; exact hR1
    have nRS : R ≠ S := fun z => by rw [z, upd_same] at hR2; cases hR2
    have hR3 : upd H B0 (.lst [v]) R = none := by rw [upd_ne nRS] at hR2; exact hR2
    have sm : Same H (upd H B0 (.lst [v])) := same_new hB
    refine ⟨fun m σ H' => ∃ (t : Lv) (r : List Lv) (x4 x5 x6 x7 : Option V), m = mu (t :: r) ∧ σ = [some v, some (.ref S), some (.ref Pp), some (.ref R), x4, x5, x6, x7] ∧ Mid K (upd H B0 (.lst [v])) H' (sz d) (sz d + 2) d S Pp R t r,
      ⟨_, ⟨.ref B0, [d], 0, E1, []⟩, [], none, none, none, none, rfl, rfl, ?_⟩, ?_⟩
    · refine ⟨?_, ?_, ?_, ?_, nPS.symm, nRS.symm, nRP.symm, ?_, ?_, ?_, hS, hP1, hR3, ⟨⟨B0, [v], rfl, .inl (SqL.of upd_same), .cons (dp_same sm hv) .nil⟩, .nil, ?_⟩, ?_, rfl, ?_⟩
      · rw [upd_ne nRS.symm, upd_ne nES.symm, upd_ne nPS.symm, upd_same]; rfl
      · rw [upd_ne nRP.symm, upd_ne nEP.symm, upd_same]; rfl
      · rw [upd_same]; rfl
      · intro l hl
        obtain rfl : l = _ := List.mem_singleton.mp hl
        rw [upd_ne nRE.symm, upd_same]
      · simp
      · intro l hl
        obtain rfl : l = _ := List.mem_singleton.mp hl
        exact ⟨nES, nEP, nRE.symm, hE2⟩
      · exact same_upd (same_upd (same_upd (same_upd (Same.refl _) hS) hP1) hE2) hR3
      · simp [szAll]
      · exact Nat.zero_le _
      · simp [mu, szAll]
    · rintro m σ Hc ⟨t, r, x4, x5, x6, x7, rfl, rfl, M⟩
      have hS' : Hc S = some (.lst (colS r ++ [t.src])) := by rw [← colS_cons]; exact M.hS
      have hP' : Hc Pp = some (.lst (colP r ++ [V.int t.pl])) := by rw [← colP_cons]; exact M.hP
      have hR' : Hc R = some (.lst (colR r ++ [V.ref t.rs])) := by rw [← colR_cons]; exact M.hR
      by_cases hx : r = [] ∧ t.pl ≠ 0
      · obtain ⟨rfl, hx⟩ := hx
        have hits : t.its = [d] := M.bl
        have hpl : t.pl = 1 := by
          have := M.le
          rw [hits] at this
          simp at this
          omega
        have hvl := M.ok.2.1
        rw [hits, hpl] at hvl
        simp only [List.take_succ_cons, List.take_nil, fixAll] at hvl
        obtain ⟨vl0, e0, q0⟩ := dpAll_get (i := 0) hvl rfl
        refine ⟨_, rfl, S, _, rfl, .inl (SqL.of M.hS), _, _, rfl, rfl, _, rfl, iteFc ?_ ?_⟩
        · simp [colS]
        refine ⟨_, rfl, Pp, _, _, _, rfl, rfl, SqL.of hP', atI_nat (j := 0) rfl, rfl, _, rfl, iteFc ?_ ?_⟩
        · simp [hpl]
        refine ⟨_, rfl, R, _, _, _, rfl, rfl, SqL.of hR', atI_nat (j := 0) rfl, t.rs, _, _, _, rfl, rfl, SqL.of (M.hv t (by simp)), atI_nat (j := 0) e0, ?_⟩
        exact k _ _ (sm.trans M.same) q0
      · have go : r = [] → t.pl = 0 := fun z => Classical.byContradiction fun n => hx ⟨z, n⟩
        have big : ∀ n, n ≤ N + 10 → n < sizeLine := fun n hn => Nat.lt_of_le_of_lt hn (by omega)
        have hLen : (t :: r).length ≤ N + 2 := by have := M.bd; omega
        obtain ⟨a, xs, hsrc, hsq, hxs⟩ := M.ok.1
        have hlen := dpAll_len hxs
        have hsq' : SqL K Hc a xs ∨ SqT K Hc a xs := hsq.imp (sqL_same M.same) (sqT_same M.same)
        refine ⟨_, rfl, S, _, rfl, .inl (SqL.of M.hS), _, _, rfl, rfl, _, rfl, ite2 (fun _ => iteT ?g1) (fun hn => ?g2)⟩
        case' g2 =>
          have hr0 : r = [] := by
            cases r with
            | nil => rfl
            | cons l r => exact absurd (by simp [colS]; omega) hn
          refine ⟨_, rfl, Pp, _, _, _, rfl, rfl, SqL.of hP', atI_nat (j := 0) (v := V.int t.pl) (by rw [hr0]; rfl), rfl, _, rfl, iteTc (by simp [go hr0]) ?_⟩
        all_goals
          refine ⟨fun σ' H' => ∃ m', m' < mu (t :: r) ∧ ∃ (t' : Lv) (r' : List Lv) (x4 x5 x6 x7 : Option V), m' = mu (t' :: r') ∧ σ' = [some v, some (.ref S), some (.ref Pp), some (.ref R), x4, x5, x6, x7] ∧ Mid K (upd H B0 (.lst [v])) H' (sz d) (sz d + 2) d S Pp R t' r', fun _ _ h => h, ?_⟩
          refine ⟨_, rfl, _, rfl, S, _, _, _, rfl, rfl, SqL.of hS', atI_last _ _, ?_⟩
          refine ⟨_, rfl, _, rfl, Pp, _, _, _, rfl, rfl, SqL.of hP', atI_last _ _, ?_⟩
          refine ⟨_, rfl, _, rfl, a, xs, (by rw [hsrc]), hsq', rfl, _, rfl, ?_⟩
          refine ite2 (fun h => ?_) (fun h => ?_)
          · have hpl : t.pl = t.its.length := by
              have h2 := of_decide_eq_true h
              injection h2 with h2
              omega
            cases r with
            | nil =>
              have hits : t.its = [d] := M.bl
              have := go rfl
              rw [hits] at hpl
              simp at hpl
              omega
            | cons l r =>
              refine ⟨_, rfl, .inl ⟨rfl, _, SqL.of hS'⟩, S, _, _, rfl, rfl, hS', last_get _ _, ?_⟩
              have hP2 : upd Hc S (.lst ((colS (l :: r) ++ [t.src]).dropLast)) Pp = some (.lst (colP (l :: r) ++ [V.int t.pl])) := by rw [upd_ne nPS]; exact hP'
              refine ⟨_, rfl, .inl ⟨rfl, _, SqL.of hP2⟩, Pp, _, _, rfl, rfl, hP2, last_get _ _, ?_⟩
              have hR2' : upd (upd Hc S (.lst ((colS (l :: r) ++ [t.src]).dropLast))) Pp (.lst ((colP (l :: r) ++ [V.int t.pl]).dropLast)) R = some (.lst (colR (l :: r) ++ [V.ref t.rs])) := by rw [upd_ne nRP, upd_ne nRS]; exact hR'
              refine ⟨_, rfl, .inl ⟨rfl, _, SqL.of hR2'⟩, R, _, _, rfl, rfl, hR2', last_get _ _, ?_⟩
              obtain ⟨tS, tP, tR, t1⟩ := M.out t (by simp)
              refine ⟨t.rs, t.vl, rfl, .inl ⟨SqL.of (by rw [upd_ne tR, upd_ne tP, upd_ne tS]; exact M.hv t (by simp)), fun p hp => ?_⟩⟩
              obtain ⟨M', lt⟩ := mid_pop M hpl (List.dropLast_concat) (List.dropLast_concat) (List.dropLast_concat) hp
              obtain ⟨lS, lP, lR, l1⟩ := M.out l (by simp)
              have hR3' : upd (upd (upd (upd Hc S (.lst ((colS (l :: r) ++ [t.src]).dropLast))) Pp (.lst ((colP (l :: r) ++ [V.int t.pl]).dropLast))) R (.lst ((colR (l :: r) ++ [V.ref t.rs]).dropLast))) p (.tup t.vl) R = some (.lst (colR r ++ [V.ref l.rs])) := by
                rw [upd_ne (fun z => by rw [← z, upd_same] at hp; cases hp), upd_same, List.dropLast_concat, colR_cons]
              have hvl' : upd (upd (upd (upd Hc S (.lst ((colS (l :: r) ++ [t.src]).dropLast))) Pp (.lst ((colP (l :: r) ++ [V.int t.pl]).dropLast))) R (.lst ((colR (l :: r) ++ [V.ref t.rs]).dropLast))) p (.tup t.vl) l.rs = some (.lst l.vl) := by
                have e : upd (upd (upd Hc S (.lst ((colS (l :: r) ++ [t.src]).dropLast))) Pp (.lst ((colP (l :: r) ++ [V.int t.pl]).dropLast))) R (.lst ((colR (l :: r) ++ [V.ref t.rs]).dropLast)) l.rs = some (.lst l.vl) := by
                  rw [upd_ne lR, upd_ne lP, upd_ne lS]; exact M.hv l (by simp)
                rw [upd_ne (ne_of_none e hp)]
                exact e
              refine ⟨_, rfl, _, rfl, R, _, _, _, rfl, rfl, SqL.of hR3', atI_last _ _, .inl ⟨rfl, _, SqL.of hvl'⟩, _, rfl, l.rs, _, _, rfl, rfl, hvl', big _ (by have := below_len M.bl l (by simp); omega), ?_⟩
              exact ⟨_, lt, _, r, _, _, _, _, rfl, rfl, M'⟩
          · have hlt : t.pl < t.its.length := by
              have h2 : ¬ (V.int (t.pl : Int) = V.int (xs.length : Int)) := fun z => h (decide_eq_true z)
              have h3 : t.pl ≠ xs.length := fun z => h2 (by rw [z])
              have := M.le
              omega
            obtain ⟨c, hc⟩ : ∃ c, t.its[t.pl]? = some c := ⟨_, List.getElem?_eq_getElem hlt⟩
            obtain ⟨vi, hvi, hdp⟩ := dpAll_get hxs hc
            have eP : (colP r ++ [V.int t.pl]).set (colP r).length (V.int ((t.pl : Int) + 1)) = colP ({ t with pl := t.pl + 1 } :: r) := by
              rw [set_last, colP_cons]
              simp
            refine ⟨_, rfl, _, _, rfl, rfl, _, rfl, _, rfl, Pp, _, _, (colP r).length, rfl, rfl, hP', (by rw [List.length_append]; exact ixN_last _), ?_⟩
            have sm2 : Same (upd H B0 (.lst [v])) (upd Hc Pp (.lst ((colP r ++ [V.int t.pl]).set (colP r).length (V.int ((t.pl : Int) + 1))))) := same_upd M.same hP1
            refine ⟨_, rfl, _, rfl, ix_any (hsq.imp (sqL_same sm2) (sqT_same sm2)) hsrc hvi ?_⟩
            refine ⟨_, rfl, (by show 2 ≤ sizeLine; decide), fun q hq => ?_⟩
            have qP : q ≠ Pp := fun z => by rw [z, upd_same] at hq; cases hq
            have hqn : Hc q = none := by rw [upd_ne qP] at hq; exact hq
            have q1 : upd H B0 (.lst [v]) q = none := M.same.free hqn
            have qS : S ≠ q := ne_of_none M.hS hqn
            have qR : R ≠ q := ne_of_none M.hR hqn
            obtain ⟨ty, tx, tk⟩ := ty_dp (dp_same (same_upd (o := .tup [.ty "list", .ty "tuple"]) sm2 q1) hdp)
            refine ⟨_, q, _, ty, _, _, rfl, upd_same, .cons (.ty "list") (.cons (.ty "tuple") .nil), tx, tk, _, rfl, ?_⟩
            cases kc : kids c with
            | some its =>
              refine iteTc rfl ?_
              have hS3 : upd (upd Hc Pp (.lst ((colP r ++ [V.int t.pl]).set (colP r).length (V.int ((t.pl : Int) + 1))))) q (.tup [.ty "list", .ty "tuple"]) S = some (.lst (colS (t :: r))) := by rw [upd_ne qS, upd_ne nPS.symm]; exact M.hS
              refine ⟨_, rfl, .inl ⟨rfl, _, SqL.of hS3⟩, _, rfl, S, _, _, rfl, rfl, hS3, big _ (by rw [(col_lens _).1]; omega), ?_⟩
              have hP3 : upd (upd (upd Hc Pp (.lst ((colP r ++ [V.int t.pl]).set (colP r).length (V.int ((t.pl : Int) + 1))))) q (.tup [.ty "list", .ty "tuple"])) S (.lst (colS (t :: r) ++ [vi])) Pp = some (.lst (colP ({ t with pl := t.pl + 1 } :: r))) := by rw [upd_ne nPS, upd_ne qP.symm, upd_same, eP]
              refine ⟨_, rfl, .inl ⟨rfl, _, SqL.of hP3⟩, Pp, _, _, rfl, rfl, hP3, big _ (by rw [(col_lens _).2.1]; simp only [List.length_cons] at hLen ⊢; omega), ?_⟩
              have hR4 : upd (upd (upd (upd Hc Pp (.lst ((colP r ++ [V.int t.pl]).set (colP r).length (V.int ((t.pl : Int) + 1))))) q (.tup [.ty "list", .ty "tuple"])) S (.lst (colS (t :: r) ++ [vi]))) Pp (.lst (colP ({ t with pl := t.pl + 1 } :: r) ++ [V.int 0])) R = some (.lst (colR (t :: r))) := by
                rw [upd_ne nRP, upd_ne nRS, upd_ne qR, upd_ne nRP]; exact M.hR
              refine ⟨_, rfl, .inl ⟨rfl, _, SqL.of hR4⟩, (by show 0 ≤ sizeLine; decide), fun e he => ?_⟩
              have neR : R ≠ e := ne_of_none hR4 he
              refine ⟨R, _, _, rfl, rfl, (by rw [upd_ne neR]; exact hR4), big _ (by rw [(col_lens _).2.2]; omega), ?_⟩
              obtain ⟨M', lt⟩ := mid_push (oq := .tup [.ty "list", .ty "tuple"]) (oS := colS (t :: r) ++ [vi]) (oR := colR (t :: r) ++ [V.ref e]) M hc kc hdp eP hq (by simp [colS]) rfl (by simp [colR]) he
              exact ⟨_, lt, _, _, _, _, _, _, rfl, rfl, M'⟩
            | none =>
              refine iteFc rfl ?_
              obtain ⟨tS, tP, tR, t1⟩ := M.out t (by simp)
              have hR3' : upd (upd Hc Pp (.lst ((colP r ++ [V.int t.pl]).set (colP r).length (V.int ((t.pl : Int) + 1))))) q (.tup [.ty "list", .ty "tuple"]) R = some (.lst (colR r ++ [V.ref t.rs])) := by rw [upd_ne qR, upd_ne nRP]; exact hR'
              have ht3 : upd (upd Hc Pp (.lst ((colP r ++ [V.int t.pl]).set (colP r).length (V.int ((t.pl : Int) + 1))))) q (.tup [.ty "list", .ty "tuple"]) t.rs = some (.lst t.vl) := by rw [upd_ne (ne_of_none (M.hv t (by simp)) hqn), upd_ne tP]; exact M.hv t (by simp)
              have hvlen : t.vl.length ≤ N := by
                have h1 := dpAll_len M.ok.2.1
                rw [fixAll_map, List.length_map, List.length_take] at h1
                have h2 := len_le_sz t.its
                have h3 := M.ok.2.2
                omega
              refine ⟨_, rfl, _, rfl, R, _, _, _, rfl, rfl, SqL.of hR3', atI_last _ _, .inl ⟨rfl, _, SqL.of ht3⟩, _, rfl, t.rs, _, _, rfl, rfl, ht3, big _ (by omega), ?_⟩
              obtain ⟨M', lt⟩ := mid_leaf (oq := .tup [.ty "list", .ty "tuple"]) M hc kc hdp eP hq
              exact ⟨_, lt, _, _, _, _, _, _, rfl, rfl, M'⟩
theorem ok_frozen {f : Addr} {fd : FuncData} (F : Fun K "frozen" "frozen" sFrozen f fd) (T : TxtB mg) : FnOk P w K mg base CX0 1 f fd ["thing"] (spFrozen K) := ok_frozenN 1000 (by decide) F T
end
end XE
set_option Elab.async false
set_option linter.all false
set_option maxRecDepth 100000
set_option maxHeartbeats 4000000
namespace Rx
open PySem PySem.Spec PyProof.Rows L2 SX
/-! ### what the reader of tokens does -/
def arithL : List Str := ["+", "-", "*", "//", "mod"]
def compL : List Str := ["=", "!=", "<", "<=", ">", ">="]
def prefL : List Str := ["not", "negate"]
def bindL : List (Str × Int) := [("or", 1), ("and", 2), ("not", 3), ("=", 4), ("!=", 4), ("<", 4), ("<=", 4), (">", 4), (">=", 4), ("+", 5), ("-", 5), ("*", 6), ("//", 6), ("mod", 6), ("negate", 7), ("number", 8), ("variable", 8)]
/-- what may stand among the operators -/
def opsL : List Str := ["or", "and", "not", "=", "!=", "<", "<=", ">", ">=", "+", "-", "*", "//", "mod", "negate", "(", "["]
def bindO (s : Str) : Option Int := bindL.lookup s
def bindOf (s : Str) : Int := (bindO s).getD (-1)
/-- the lists stand here with their last item first -/
structure RS where
  cond : Bool
  stage : Str
  cmp : Bool
  nodes : List PyData
  ops : List Str
  brs : List Str
def joinOp (x : Str) (ns : List PyData) : Option (List PyData) := if prefL.contains x then (match ns with
    | r :: t => some (.tuple [.str x, r] :: t)
    | [] => none) else (match ns with
    | r :: l :: t => some (.tuple [.str x, l, r] :: t)
    | _ => none)
def joinDown (b : Int) : List Str → List PyData → Option (List Str × List PyData)
  | [], ns => some ([], ns)
  | o :: os, ns => if b ≤ bindOf o then (match joinOp o ns with
    | some ns' => joinDown b os ns'
    | none => none) else some (o :: os, ns)
def RS.down (r : RS) (b : Int) : Option RS := (joinDown b r.ops r.nodes).map fun x => { r with ops := x.1, nodes := x.2 }
def begL : List Str := ["number", "variable", "-", "("]
def notL : List Str := ["not", "["]
def RS.starts (r : RS) : Bool := r.stage = "condition" || r.stage = "factor"
def RS.mayBegin (r : RS) (s : Str) : Bool := begL.contains s || (decide (r.stage = "condition") && notL.contains s)
def RS.mayFollow (r : RS) (s : Str) : Bool :=
  if (decide (r.stage = "expression") && arithL.contains s) = true then true
  else if r.brs.head? = some ("(" : Str) then decide (s = ")")
  else if r.cond = false then decide (s = "end")
  else if (decide (r.stage = "expression") && !r.cmp) = true then compL.contains s
  else if r.brs.head? = some ("[" : Str) then (["and", "or", "]"] : List Str).contains s
  else (["and", "or", "end"] : List Str).contains s
def RS.fits (r : RS) (s : Str) : Bool := if r.starts = true then r.mayBegin s else r.mayFollow s
/-- what a flat value is as data -/
def dOf : V → PyData
  | .int i => .int i
  | .str x => .str x
  | _ => .none
def FlatW (v : V) : Prop := v = .non ∨ (∃ i, v = .int i) ∨ ∃ x, v = .str x
theorem FlatW.dp {K : PySem.W.Frag} {H : Hp} {v : V} (h : FlatW v) : Dp K H v (dOf v) := by
  rcases h with rfl | ⟨i, rfl⟩ | ⟨x, rfl⟩
  · exact .non
  · exact .int i
  · exact .str x
def RS.begin_ (r : RS) (s : Str) (v : V) : RS :=
  if s = "number" ∨ s = "variable" then { r with nodes := .tuple [.str s, dOf v] :: r.nodes, stage := "expression" }
  else if s = "-" then { r with ops := "negate" :: r.ops, stage := "factor" }
  else if s = "(" then { r with ops := s :: r.ops, brs := s :: r.brs, stage := "factor" }
  else if s = "[" then { r with ops := s :: r.ops, brs := s :: r.brs }
  else { r with ops := s :: r.ops }
def RS.close_ (r : RS) (s : Str) : Option RS := (r.down 0).bind fun q => match q.ops, q.brs with
  | _ :: os, _ :: bs => some { q with ops := os, brs := bs, stage := if s = "]" then "bracket" else "expression" }
  | _, _ => none
def RS.between (r : RS) (s : Str) : Option RS := (r.down (bindOf s)).map fun q =>
  if s = "and" ∨ s = "or" then { q with ops := s :: q.ops, stage := "condition", cmp := false }
  else { q with ops := s :: q.ops, stage := "factor", cmp := q.cmp || compL.contains s }
def RS.takeIn (r : RS) (s : Str) (v : V) : Option RS :=
  if r.starts = true then some (r.begin_ s v)
  else if s = ")" ∨ s = "]" then r.close_ s
  else if s = "end" then r.down 0
  else r.between s
def RS.start (c : Bool) : RS := ⟨c, if c = true then "condition" else "factor", false, [], [], []⟩
def runR : RS → List (Str × V × Nat) → Option RS
  | r, [] => some r
  | r, t :: ts => if r.fits t.1 = true then (r.takeIn t.1 t.2.1).bind fun q => runR q ts else none
/-! lengths -/
theorem joinOp_len {x : Str} {ns ms : List PyData} (h : joinOp x ns = some ms) : ms.length ≤ ns.length := by
  unfold joinOp at h
  split at h
  · split at h
    · injection h with h; subst h; simp
    · cases h
  · split at h
    · injection h with h; subst h; simp
    · cases h
theorem joinDown_len {b : Int} : ∀ {os : List Str} {ns : List PyData} {x : List Str × List PyData}, joinDown b os ns = some x → x.1.length ≤ os.length ∧ x.2.length ≤ ns.length ∧ (∀ o ∈ x.1, o ∈ os)
  | [], ns, x, h => by
    simp only [joinDown, Option.some.injEq] at h
    subst h
    simp
  | o :: os, ns, x, h => by
    unfold joinDown at h
    split at h
    · split at h
      · rename_i ms hm
        obtain ⟨h1, h2, h3⟩ := joinDown_len h
        have := joinOp_len hm
        exact ⟨by simp; omega, by omega, fun y hy => List.mem_cons_of_mem _ (h3 y hy)⟩
      · cases h
    · injection h with h
      subst h
      simp
theorem down_len {r q : RS} {b : Int} (h : r.down b = some q) : q.ops.length ≤ r.ops.length ∧ q.nodes.length ≤ r.nodes.length ∧ q.brs = r.brs ∧ q.stage = r.stage ∧ q.cmp = r.cmp ∧ q.cond = r.cond ∧ (∀ o ∈ q.ops, o ∈ r.ops) := by
  unfold RS.down at h
  obtain ⟨x, hx, rfl⟩ := Option.map_eq_some_iff.mp h
  obtain ⟨h1, h2, h3⟩ := joinDown_len hx
  exact ⟨h1, h2, rfl, rfl, rfl, rfl, h3⟩
/-- none of its lists has more than n items -/
structure Few (n : Nat) (r : RS) : Prop where
  nd : r.nodes.length ≤ n
  op : r.ops.length ≤ n
  br : r.brs.length ≤ n
theorem Few.down {n : Nat} {r q : RS} {b : Int} (f : Few n r) (h : r.down b = some q) : Few n q := by
  obtain ⟨h1, h2, h3, _⟩ := down_len h
  exact ⟨Nat.le_trans h2 f.nd, Nat.le_trans h1 f.op, by rw [h3]; exact f.br⟩
theorem Few.take {n : Nat} {r q : RS} {s : Str} {v : V} (f : Few n r) (h : r.takeIn s v = some q) : Few (n + 1) q := by
  have f1 := f.nd
  have f2 := f.op
  have f3 := f.br
  unfold RS.takeIn at h
  split at h
  · injection h with h
    subst h
    unfold RS.begin_
    split
    · exact ⟨by simp; omega, by simp; omega, by simp; omega⟩
    split
    · exact ⟨by simp; omega, by simp; omega, by simp; omega⟩
    split
    · exact ⟨by simp; omega, by simp; omega, by simp; omega⟩
    split
    · exact ⟨by simp; omega, by simp; omega, by simp; omega⟩
    · exact ⟨by simp; omega, by simp; omega, by simp; omega⟩
  split at h
  · unfold RS.close_ at h
    obtain ⟨q', h1, h2⟩ := Option.bind_eq_some_iff.mp h
    have g := f.down h1
    have g1 := g.nd
    have g2 := g.op
    have g3 := g.br
    split at h2
    · rename_i e1 e2
      injection h2 with h2
      subst h2
      rw [e1] at g2
      rw [e2] at g3
      simp only [List.length_cons] at g2 g3
      exact ⟨by simp; omega, by simp; omega, by simp; omega⟩
    · cases h2
  split at h
  · have g := f.down h
    exact ⟨Nat.le_succ_of_le g.nd, Nat.le_succ_of_le g.op, Nat.le_succ_of_le g.br⟩
  · unfold RS.between at h
    obtain ⟨q', h1, h2⟩ := Option.map_eq_some_iff.mp h
    have g := f.down h1
    have g1 := g.nd
    have g2 := g.op
    have g3 := g.br
    subst h2
    split
    · exact ⟨by simp; omega, by simp; omega, by simp; omega⟩
    · exact ⟨by simp; omega, by simp; omega, by simp; omega⟩
/-! ### get of a written dict -/
end Rx
set_option Elab.async false
set_option linter.all false
set_option maxRecDepth 100000
set_option maxHeartbeats 4000000
namespace Rx
open PySem PySem.Spec PyProof.Rows L2 SX
/-! ### a row of tokens of an expression is read as its tree -/
/-- what a token's text is to the reader -/
def cls (s : Str) : Str × V := ((tokAt s.cps.toList).1, (tokAt s.cps.toList).2.1)
def addL : List Str := ["+", "-"]
def mulL : List Str := ["*", "//", "mod"]
def numL : List Int := [0, 1, 2, 7, 10, 999, 10 ^ 29, 10 ^ 30 - 1]
def numS (n : Int) : Str := Str.ofString (toString n)
def nNum (n : Int) : PyData := .tuple [.str "number", .int n]
def nVar (x : Str) : PyData := .tuple [.str "variable", .str x]
def nNeg (a : PyData) : PyData := .tuple [.str "negate", a]
def nBin (w : Str) (a b : PyData) : PyData := .tuple [.str w, a, b]
inductive ET : Nat → PyData → List Str → Prop where
  | num {l : Nat} {n : Int} (h : n ∈ numL) : ET l (nNum n) [numS n]
  | var {l : Nat} {x : Str} (h : isName x.cps.toList = true) : ET l (nVar x) [x]
  | neg {l : Nat} {a : PyData} {ta : List Str} : ET 3 a ta → ET l (nNeg a) ("-" :: ta)
  | add {l : Nat} {w : Str} {a b : PyData} {ta tb : List Str} : w ∈ addL → l ≤ 1 → ET 1 a ta → ET 2 b tb → ET l (nBin w a b) (ta ++ w :: tb)
  | mul {l : Nat} {w : Str} {a b : PyData} {ta tb : List Str} : w ∈ mulL → l ≤ 2 → ET 2 a ta → ET 3 b tb → ET l (nBin w a b) (ta ++ w :: tb)
  | par {l : Nat} {d : PyData} {ts : List Str} : ET 1 d ts → ET l d ("(" :: (ts ++ [(")" : Str)]))
/-! what tokens are -/
/-- the tokens that stand for themselves -/
def selfL : List Str := ["+", "-", "*", "//", "mod", "(", ")", "[", "]", "=", "!=", "<", "<=", ">", ">=", "and", "or", "not"]
theorem name_parts {cs : List Nat} (h : isName cs = true) : reservedL.contains (S cs) = false ∧ cs ≠ [] ∧ cs.length ≤ 8 ∧ cs.all isLet = true := by
  unfold isName at h
  simp only [Bool.and_eq_true, Bool.not_eq_true', decide_eq_true_eq] at h
  exact h
/-! the reading -/
theorem starts_no {r : RS} (h : r.stage = "expression") : r.starts = false := by
  unfold RS.starts
  rw [h]
  decide +kernel
theorem begin_take {r : RS} {s : Str} {v : V} (h : r.starts = true) : r.takeIn s v = some (r.begin_ s v) := by
  unfold RS.takeIn
  rw [if_pos h]
theorem down_eq {r : RS} {b : Int} {os : List Str} {ns : List PyData} (h : joinDown b r.ops r.nodes = some (os, ns)) : r.down b = some { r with ops := os, nodes := ns } := by
  unfold RS.down
  rw [h]
  rfl
theorem mid_take {r : RS} {w : Str} {os : List Str} {ns : List PyData} (hs : r.stage = "expression") (hw : w ∈ arithL) (h : joinDown (bindOf w) r.ops r.nodes = some (os, ns)) :
    r.fits w = true ∧ ∀ v, r.takeIn w v = some { r with ops := w :: os, nodes := ns, stage := "factor" } := by
  have h1 : ∀ x ∈ arithL, ¬ (x = ")" ∨ x = "]") ∧ ¬ x = "end" ∧ ¬ (x = "and" ∨ x = "or") ∧ compL.contains x = false := by decide +kernel
  obtain ⟨n1, n2, n3, n4⟩ := h1 w hw
  refine ⟨?_, fun v => ?_⟩
  · unfold RS.fits RS.mayFollow
    rw [starts_no hs, if_neg (by decide), List.contains_iff_mem.mpr hw, hs, if_pos (by decide +kernel)]
  · unfold RS.takeIn
    rw [starts_no hs, if_neg (by decide), if_neg n1, if_neg n2]
    unfold RS.between
    rw [down_eq h, Option.map_some, if_neg n3, n4, Bool.or_false]
theorem bind_add : ∀ w ∈ addL, bindOf w = 5 ∧ w ∈ arithL ∧ prefL.contains w = false ∧ w ∈ selfL := by decide +kernel
theorem bind_mul : ∀ w ∈ mulL, bindOf w = 6 ∧ w ∈ arithL ∧ prefL.contains w = false ∧ w ∈ selfL := by decide +kernel
end Rx
set_option Elab.async false
set_option linter.all false
set_option maxRecDepth 100000
set_option maxHeartbeats 4000000
namespace Rx
open PySem PySem.Spec PyProof.Rows L2 SX
/-! ### tokens laid out with spaces are found again -/
abbrev cod (s : Str) : List Nat := s.cps.toList
/-- such a sign behind the token would make another token of it -/
def glue (s : Str) (c : Nat) : Bool := (((cod s).getLast?.any isLet && isLet c) || ((cod s).getLast?.any isDig && isDig c)) || (((["<", ">", "!"] : List Str).contains s && decide (c = 61)) || (decide (s = "/") && decide (c = 47)))
def glueS (s t : Str) : Bool := (cod t).head?.any (glue s)
/-- the signs that are tokens by themselves -/
def singles : List Nat := [43, 45, 42, 40, 41, 91, 93, 61, 60, 62]
inductive GoodT (s : Str) : Prop where
  | let_ : (cod s).all isLet = true → cod s ≠ [] → GoodT s
  | dig : (cod s).all isDig = true → cod s ≠ [] → GoodT s
  | sign : s ∈ signsL → GoodT s
  | odd (c : Nat) : cod s = [c] → isLet c = false → isDig c = false → c ≠ 32 → c ∉ singles → c < 1000 → GoodT s
/-! the text, piece by piece -/
def flat (ps : List (Nat × Str)) : List Nat := ps.flatMap fun p => List.replicate p.1 32 ++ cod p.2
def sp (n : Nat) : List Nat := List.replicate n 32
structure LayI (ps : List (Nat × Str)) : Prop where
  good : ∀ p ∈ ps, GoodT p.2
  apart : ∀ (i : Nat) (p q : Nat × Str), ps[i]? = some p → ps[i + 1]? = some q → q.1 = 0 → glueS p.2 q.2 = false
theorem LayI.snoc {ps : List (Nat × Str)} (h : LayI ps) {p : Nat × Str} (g : GoodT p.2) (a : ∀ q, ps.getLast? = some q → p.1 = 0 → glueS q.2 p.2 = false) : LayI (ps ++ [p]) := by
  refine ⟨fun q hq => ?_, fun i x y hx hy hz => ?_⟩
  · rcases List.mem_append.mp hq with h1 | h1
    · exact h.good q h1
    · rw [List.mem_singleton.mp h1]; exact g
  · by_cases hi : i + 1 < ps.length
    · rw [List.getElem?_append_left hi] at hy
      rw [List.getElem?_append_left (by omega)] at hx
      exact h.apart i x y hx hy hz
    · have hi2 : i + 1 = ps.length := by
        have := (List.getElem?_eq_some_iff.mp hy).1
        rw [List.length_append, List.length_singleton] at this
        omega
      rw [hi2, List.getElem?_append_right (Nat.le_refl _), Nat.sub_self] at hy
      simp only [List.getElem?_cons_zero, Option.some.injEq] at hy
      subst hy
      rw [List.getElem?_append_left (by omega)] at hx
      refine a x ?_ hz
      rw [List.getLast?_eq_getElem?, show ps.length - 1 = i by omega]
      exact hx
end Rx
set_option Elab.async false
set_option linter.all false
set_option maxRecDepth 100000
set_option maxHeartbeats 4000000
namespace Rx
open PySem PySem.Spec PyProof.Rows L2 SX
/-! ### texts so many times; repr of data -/
end Rx
set_option Elab.async false
set_option linter.all false
set_option maxRecDepth 100000
set_option maxHeartbeats 4000000
namespace Rx
open PySem PySem.Spec PyProof.Rows L2 SX
/-! ### trees that are drawn, and rows of tokens for them -/
def nNot (a : PyData) : PyData := .tuple [.str "not", a]
def logL : List Str := ["or", "and"]
def allW : List Str := ["number", "variable", "negate", "not", "=", "!=", "<", "<=", ">", ">=", "+", "-", "*", "//", "mod", "or", "and"]
/-- false: expressions; true: conditions; so deep at most -/
inductive TR : Bool → Nat → PyData → Prop where
  | num {k : Nat} {n : Int} (h : n ∈ numL) : TR false k (nNum n)
  | var {k : Nat} {x : Str} (h : isName (cod x) = true) : TR false k (nVar x)
  | neg {k : Nat} {a : PyData} : TR false k a → TR false (k + 1) (nNeg a)
  | bin {k : Nat} {w : Str} {a b : PyData} : w ∈ arithL → TR false k a → TR false k b → TR false (k + 1) (nBin w a b)
  | cmp {k : Nat} {w : Str} {a b : PyData} : w ∈ compL → TR false k a → TR false k b → TR true (k + 1) (nBin w a b)
  | not_ {k : Nat} {a : PyData} : TR true k a → TR true (k + 1) (nNot a)
  | log {k : Nat} {w : Str} {a b : PyData} : w ∈ logL → TR true k a → TR true k b → TR true (k + 1) (nBin w a b)
inductive CT : Nat → PyData → List Str → Prop where
  | cmp {l : Nat} {w : Str} {a b : PyData} {ta tb : List Str} : w ∈ compL → ET 1 a ta → ET 1 b tb → CT l (nBin w a b) (ta ++ w :: tb)
  | not_ {l : Nat} {a : PyData} {ta : List Str} : CT 3 a ta → CT l (nNot a) ("not" :: ta)
  | and_ {l : Nat} {a b : PyData} {ta tb : List Str} : l ≤ 2 → CT 2 a ta → CT 3 b tb → CT l (nBin "and" a b) (ta ++ ("and" : Str) :: tb)
  | or_ {l : Nat} {a b : PyData} {ta tb : List Str} : l ≤ 1 → CT 1 a ta → CT 2 b tb → CT l (nBin "or" a b) (ta ++ ("or" : Str) :: tb)
  | br {l : Nat} {d : PyData} {ts : List Str} : CT 1 d ts → CT l d ("[" :: (ts ++ [("]" : Str)]))
def TT : Bool → Nat → PyData → List Str → Prop
  | false => ET
  | true => CT
theorem TR.mono {b : Bool} {k m : Nat} {d : PyData} (h : TR b k d) : k ≤ m → TR b m d := by
  induction h generalizing m with
  | num h => intro _; exact .num h
  | var h => intro _; exact .var h
  | @neg k a _ ih => intro hm; cases m with | zero => omega | succ m => exact .neg (ih (by omega))
  | @bin k w a b hw _ _ ih1 ih2 => intro hm; cases m with | zero => omega | succ m => exact .bin hw (ih1 (by omega)) (ih2 (by omega))
  | @cmp k w a b hw _ _ ih1 ih2 => intro hm; cases m with | zero => omega | succ m => exact .cmp hw (ih1 (by omega)) (ih2 (by omega))
  | @not_ k a _ ih => intro hm; cases m with | zero => omega | succ m => exact .not_ (ih (by omega))
  | @log k w a b hw _ _ ih1 ih2 => intro hm; cases m with | zero => omega | succ m => exact .log hw (ih1 (by omega)) (ih2 (by omega))
/-! every token is a good one, of at most thirty signs -/
def Tok30 (s : Str) : Prop := GoodT s ∧ s.length ≤ 31
theorem num_good : ∀ n ∈ numL, (cod (numS n)).all isDig = true ∧ cod (numS n) ≠ [] ∧ (numS n).length ≤ 30 := by decide +kernel
theorem tok_num {n : Int} (h : n ∈ numL) : Tok30 (numS n) := by
  obtain ⟨h1, h2, h3⟩ := num_good n h
  exact ⟨.dig h1 h2, by omega⟩
theorem tok_name {x : Str} (h : isName (cod x) = true) : Tok30 x := by
  obtain ⟨_, h2, h3, h4⟩ := name_parts h
  refine ⟨.let_ h4 h2, ?_⟩
  have : (cod x).length = x.length := by simp [Str.length]
  omega
theorem tok_self {s : Str} (h : s ∈ selfL) : Tok30 s := by
  have h1 : ∀ s ∈ selfL, (s ∈ signsL ∨ ((cod s).all isLet = true ∧ cod s ≠ [])) ∧ s.length ≤ 30 := by decide +kernel
  obtain ⟨h2, h3⟩ := h1 s h
  refine ⟨?_, by omega⟩
  rcases h2 with h2 | ⟨h2, h4⟩
  · exact .sign h2
  · exact .let_ h2 h4
theorem ET.tok {l : Nat} {d : PyData} {ts : List Str} (h : ET l d ts) : ∀ t ∈ ts, Tok30 t := by
  induction h with
  | num h => intro t ht; rw [List.mem_singleton.mp ht]; exact tok_num h
  | var h => intro t ht; rw [List.mem_singleton.mp ht]; exact tok_name h
  | neg _ ih =>
    intro t ht
    rcases List.mem_cons.mp ht with h | h
    · rw [h]; exact tok_self (by decide +kernel)
    · exact ih t h
  | add hw _ _ _ ih1 ih2 =>
    intro t ht
    rcases List.mem_append.mp ht with h | h
    · exact ih1 t h
    · rcases List.mem_cons.mp h with h | h
      · rw [h]; exact tok_self (bind_add _ hw).2.2.2
      · exact ih2 t h
  | mul hw _ _ _ ih1 ih2 =>
    intro t ht
    rcases List.mem_append.mp ht with h | h
    · exact ih1 t h
    · rcases List.mem_cons.mp h with h | h
      · rw [h]; exact tok_self (bind_mul _ hw).2.2.2
      · exact ih2 t h
  | par _ ih =>
    intro t ht
    rcases List.mem_cons.mp ht with h | h
    · rw [h]; exact tok_self (by decide +kernel)
    · rcases List.mem_append.mp h with h | h
      · exact ih t h
      · rw [List.mem_singleton.mp h]; exact tok_self (by decide +kernel)
theorem comp_self : ∀ w ∈ compL, w ∈ selfL := by decide +kernel
theorem CT.tok {l : Nat} {d : PyData} {ts : List Str} (h : CT l d ts) : ∀ t ∈ ts, Tok30 t := by
  induction h with
  | cmp hw h1 h2 =>
    intro t ht
    rcases List.mem_append.mp ht with h | h
    · exact h1.tok t h
    · rcases List.mem_cons.mp h with h | h
      · rw [h]; exact tok_self (comp_self _ hw)
      · exact h2.tok t h
  | not_ _ ih =>
    intro t ht
    rcases List.mem_cons.mp ht with h | h
    · rw [h]; exact tok_self (by decide +kernel)
    · exact ih t h
  | and_ _ _ _ ih1 ih2 =>
    intro t ht
    rcases List.mem_append.mp ht with h | h
    · exact ih1 t h
    · rcases List.mem_cons.mp h with h | h
      · rw [h]; exact tok_self (by decide +kernel)
      · exact ih2 t h
  | or_ _ _ _ ih1 ih2 =>
    intro t ht
    rcases List.mem_append.mp ht with h | h
    · exact ih1 t h
    · rcases List.mem_cons.mp h with h | h
      · rw [h]; exact tok_self (by decide +kernel)
      · exact ih2 t h
  | br _ ih =>
    intro t ht
    rcases List.mem_cons.mp ht with h | h
    · rw [h]; exact tok_self (by decide +kernel)
    · rcases List.mem_append.mp h with h | h
      · exact ih t h
      · rw [List.mem_singleton.mp h]; exact tok_self (by decide +kernel)
theorem TT.tok : ∀ {b : Bool} {l : Nat} {d : PyData} {ts : List Str}, TT b l d ts → ∀ t ∈ ts, Tok30 t
  | false, _, _, _, h => ET.tok h
  | true, _, _, _, h => CT.tok h
/-! dicts as written -/
end Rx
set_option Elab.async false
set_option linter.all false
set_option maxRecDepth 100000
set_option maxHeartbeats 4000000
namespace Rx
open PySem PySem.Spec PyProof.Rows L2 SX
/-! ### where the tokens of a laid out text begin -/
theorem cod_len (s : Str) : (cod s).length = s.length := by simp [Str.length]
end Rx
set_option Elab.async false
set_option linter.all false
set_option maxRecDepth 100000
set_option maxHeartbeats 4000000
namespace Rx
open PySem PySem.Spec PyProof.Rows L2 SX
/-! ### how long the texts of drawn data are -/
theorem textFrom_le : ∀ (ts : List Str) (k : Nat) (acc : Str), (textFrom k acc ts).length ≤ acc.length + piled ts
  | [], _, acc => by simp [textFrom, piled]
  | t :: r, k, acc => by
    have ih := textFrom_le r (k + 1) (acc ++ (if k > 0 then ", " else "" : String) ++ t)
    have e : (acc ++ (if k > 0 then ", " else "" : String) ++ t).length ≤ acc.length + 2 + t.length := by
      rw [strLen_append, strLen_append]
      split
      · exact Nat.le_refl _
      · show acc.length + 0 + t.length ≤ _
        omega
    rw [piled_cons]
    show (textFrom (k + 1) _ r).length ≤ _
    omega
theorem listText_le (ts : List Str) : (listText ts).length ≤ piled ts + 2 := by
  have h := textFrom_le ts 0 "["
  unfold listText
  rw [strLen_append]
  have e1 : ("[" : Str).length = 1 := rfl
  have e2 : ("]" : Str).length = 1 := rfl
  omega
theorem piled_le {b : Nat} : ∀ {xs : List PyData}, (∀ x ∈ xs, x.shown.length ≤ b) → piled (PyData.shownAll xs) ≤ xs.length * (b + 2)
  | [], _ => by simp [PyData.shownAll, piled]
  | x :: xs, h => by
    have h1 := h x (by simp)
    have h2 := piled_le (xs := xs) fun y hy => h y (by simp [hy])
    rw [PyData.shownAll, piled_cons, List.length_cons, Nat.add_mul]
    omega
theorem list_le {b : Nat} {xs : List PyData} (h : ∀ x ∈ xs, x.shown.length ≤ b) (hl : xs.length ≤ 3) : (PyData.list xs).shown.length ≤ 3 * (b + 2) + 2 ∧ (PyData.tuple xs).shown.length ≤ 3 * (b + 2) + 2 := by
  have h1 := piled_le h
  have h2 : xs.length * (b + 2) ≤ 3 * (b + 2) := Nat.mul_le_mul_right _ hl
  have h3 := listText_le (PyData.shownAll xs)
  have h4 := fmt_text (PyData.shownAll xs)
  simp only [PyData.shown]
  omega
theorem all_show : ∀ {xs : List PyData}, (∀ x ∈ xs, x.showable = true) → PyData.showableAll xs = true
  | [], _ => by simp [PyData.showableAll]
  | x :: xs, h => by simp [PyData.showableAll, h x (by simp), all_show (xs := xs) fun y hy => h y (by simp [hy])]
theorem all_dict : ∀ {xs : List PyData}, (∀ x ∈ xs, x.hasDict = false) → PyData.hasDictAll xs = false
  | [], _ => by simp [PyData.hasDictAll]
  | x :: xs, h => by simp [PyData.hasDictAll, h x (by simp), all_dict (xs := xs) fun y hy => h y (by simp [hy])]
theorem all_depth {n : Nat} : ∀ {xs : List PyData}, (∀ x ∈ xs, x.depth ≤ n) → PyData.depthAll xs ≤ n
  | [], _ => by simp [PyData.depthAll]
  | x :: xs, h => by
    have h1 := h x (by simp)
    have h2 := all_depth (xs := xs) fun y hy => h y (by simp [hy])
    simp only [PyData.depthAll]
    omega
/-- what may be shown: within b signs, n deep -/
structure Showy (n b : Nat) (d : PyData) : Prop where
  sh : d.showable = true
  nd : d.hasDict = false
  dp : d.depth ≤ n
  ln : d.shown.length ≤ b
theorem Showy.seq {n b : Nat} {xs : List PyData} (h : ∀ x ∈ xs, Showy n b x) (hl : xs.length ≤ 3) : Showy (n + 1) (3 * (b + 2) + 2) (.list xs) ∧ Showy (n + 1) (3 * (b + 2) + 2) (.tuple xs) := by
  have h1 := all_show fun x hx => (h x hx).sh
  have h2 := all_dict fun x hx => (h x hx).nd
  have h3 := all_depth fun x hx => (h x hx).dp
  have h4 := list_le (fun x hx => (h x hx).ln) hl
  exact ⟨⟨by simp [PyData.showable, h1], by simp [PyData.hasDict, h2], by simp only [PyData.depth]; omega, h4.1⟩, ⟨by simp [PyData.showable, h1], by simp [PyData.hasDict, h2], by simp only [PyData.depth]; omega, h4.2⟩⟩
def shB : Nat → Nat
  | 0 => 100
  | n + 1 => 3 * (shB n + 2) + 2
theorem shB_ge (n : Nat) : 100 ≤ shB n := by
  induction n with
  | zero => simp [shB]
  | succ n ih => simp only [shB]; omega
/-- a piece of a tree: short, and as good as any -/
structure Leafy (d : PyData) : Prop where
  sh : Showy 0 100 d
  ly : d.canLay0 = true
theorem leaf_words : ∀ x ∈ allW, (x.cps.toList.all (fun c => decide (c < 1000)) = true) ∧ x.length ≤ 9 := by decide +kernel
theorem leaf_str {x : Str} (h : (cod x).all (fun c => decide (c < 1000)) = true) (hl : x.length ≤ 9) : Leafy (.str x) := by
  have h1 : ∀ c ∈ cod x, c < 1000 := fun c hc => of_decide_eq_true (List.all_eq_true.mp h c hc)
  refine ⟨⟨rfl, rfl, Nat.le_refl _, ?_⟩, ?_⟩
  · have := StrLaws.reprText_len x (fun c hc => Nat.lt_of_lt_of_le (h1 c hc) (by decide))
    simp only [PyData.shown]
    omega
  · simp only [PyData.canLay0, PySem.PyData.strOk]
    rw [← Array.all_toList, List.all_eq_true]
    exact fun c hc => decide_eq_true (Nat.lt_of_lt_of_le (h1 c hc) (by decide))
theorem str_ok {x : Str} (h : ∀ c ∈ cod x, c < 1000) : PyData.strOk x = true := by
  unfold PySem.PyData.strOk
  rw [← Array.all_toList, List.all_eq_true]
  intro c hc
  have := h c hc
  exact decide_eq_true (by omega)
theorem leaf_name {x : Str} (h : isName (cod x) = true) : Leafy (.str x) := by
  obtain ⟨_, _, h3, h4⟩ := name_parts h
  refine leaf_str (List.all_eq_true.mpr fun c hc => ?_) (by rw [← cod_len]; omega)
  have := List.all_eq_true.mp h4 c hc
  simp only [isLet, Bool.and_eq_true, decide_eq_true_eq] at this
  exact decide_eq_true (by omega)
theorem leaf_word {x : Str} (h : x ∈ allW) : Leafy (.str x) := leaf_str (leaf_words x h).1 (leaf_words x h).2
theorem leaf_num {n : Int} (h : n ∈ numL) : Leafy (.int n) := by
  have h1 : ∀ n ∈ numL, (PyData.int n).showable = true ∧ (PyData.int n).shown.length ≤ 100 := by decide +kernel
  exact ⟨⟨(h1 n h).1, rfl, Nat.le_refl _, (h1 n h).2⟩, rfl⟩
/-- what a tree is -/
structure Good (n : Nat) (d : PyData) : Prop where
  sh : Showy n (shB n) d
  ly : d.canLay0 = true
theorem Leafy.good {d : PyData} (h : Leafy d) (n : Nat) : Good n d := by
  have := shB_ge n
  exact ⟨⟨h.sh.sh, h.sh.nd, Nat.le_trans h.sh.dp (Nat.zero_le _), Nat.le_trans h.sh.ln (by omega)⟩, h.ly⟩
theorem good_tup {n : Nat} {xs : List PyData} (h : ∀ x ∈ xs, Good n x) (hl : xs.length ≤ 3) : Good (n + 1) (.tuple xs) := by
  refine ⟨(Showy.seq (fun x hx => (h x hx).sh) hl).2, ?_⟩
  have : ∀ xs : List PyData, (∀ x ∈ xs, x.canLay0 = true) → PyData.canLayAll0 xs = true := fun xs => by
    induction xs with
    | nil => intro _; simp [PyData.canLayAll0]
    | cons x xs ih => intro h; simp only [PyData.canLayAll0, h x (by simp), ih fun y hy => h y (by simp [hy]), Bool.and_self]
  simp only [PyData.canLay0]
  exact this xs fun x hx => (h x hx).ly
theorem good2 {n : Nat} {a b : PyData} (h1 : Good n a) (h2 : Good n b) : Good (n + 1) (.tuple [a, b]) := good_tup (fun x hx => by
  simp only [List.mem_cons, List.not_mem_nil, or_false] at hx
  rcases hx with rfl | rfl
  · exact h1
  · exact h2) (by simp)
theorem good3 {n : Nat} {a b c : PyData} (h1 : Good n a) (h2 : Good n b) (h3 : Good n c) : Good (n + 1) (.tuple [a, b, c]) := good_tup (fun x hx => by
  simp only [List.mem_cons, List.not_mem_nil, or_false] at hx
  rcases hx with rfl | rfl | rfl
  · exact h1
  · exact h2
  · exact h3) (by simp)
theorem TR.good {b : Bool} {n : Nat} {d : PyData} (h : TR b n d) : Good (n + 1) d := by
  have hA : ∀ x ∈ arithL, x ∈ allW := by decide +kernel
  have hC : ∀ x ∈ compL, x ∈ allW := by decide +kernel
  have hL : ∀ x ∈ logL, x ∈ allW := by decide +kernel
  induction h with
  | @num k n h => exact good2 ((leaf_word (by decide +kernel)).good k) ((leaf_num h).good k)
  | @var k x h => exact good2 ((leaf_word (by decide +kernel)).good k) ((leaf_name h).good k)
  | neg _ ih => exact good2 ((leaf_word (by decide +kernel)).good _) ih
  | bin hw _ _ ih1 ih2 => exact good3 ((leaf_word (hA _ hw)).good _) ih1 ih2
  | cmp hw _ _ ih1 ih2 => exact good3 ((leaf_word (hC _ hw)).good _) ih1 ih2
  | not_ _ ih => exact good2 ((leaf_word (by decide +kernel)).good _) ih
  | log hw _ _ ih1 ih2 => exact good3 ((leaf_word (hL _ hw)).good _) ih1 ih2
theorem Good.shaped {n : Nat} {d : PyData} (h : Good n d) (hn : n ≤ 64) : SeqAt.shaped d = true := by
  unfold SeqAt.shaped
  rw [h.ly, decide_eq_true (Nat.le_trans h.sh.dp hn)]
  rfl
end Rx
set_option Elab.async false
set_option linter.all false
set_option maxRecDepth 100000
set_option maxHeartbeats 4000000
namespace Rx
open PySem PySem.Spec PyProof.Rows L2 SX
/-! ### written texts -/
end Rx
set_option Elab.async false
set_option linter.all false
set_option maxRecDepth 100000
set_option maxHeartbeats 4000000
namespace Rx
open PySem PySem.Spec PyProof.Rows L2 SX
/-! ### a row of tokens of a condition is read as its tree -/
def DoneC (q : RS) : Prop := q.stage = "bracket" ∨ (q.stage = "expression" ∧ q.cmp = true)
/-- a condition may begin -/
structure BegC (l : Nat) (r : RS) : Prop where
  st : r.stage = "condition"
  cm : r.cmp = false
  co : r.cond = true
  br : r.brs.head? ≠ some ("(" : Str)
  t3 : ∀ s t, r.ops = s :: t → bindOf s ≤ 3
  lo : l ≤ 2 → ∀ s t, r.ops = s :: t → bindOf s < (l : Int)
theorem BegC.starts {l : Nat} {r : RS} (h : BegC l r) : r.starts = true := by
  unfold RS.starts
  rw [h.st]
  decide +kernel
theorem done_no {q : RS} (h : DoneC q) : q.starts = false ∧ (decide (q.stage = "expression") && !q.cmp) = false := by
  unfold RS.starts
  rcases h with h | ⟨h, h2⟩
  · rw [h]
    refine ⟨by decide +kernel, ?_⟩
    rw [show decide (Str.ofString "bracket" = Str.ofString "expression") = false by decide +kernel]
    rfl
  · rw [h, h2]
    exact ⟨by decide +kernel, by simp⟩
theorem log_take {q : RS} {s : Str} {os : List Str} {ns : List PyData} (h : DoneC q) (hs : s ∈ logL) (hj : joinDown (bindOf s) q.ops q.nodes = some (os, ns)) (v : V) : q.takeIn s v = some { q with ops := s :: os, nodes := ns, stage := "condition", cmp := false } := by
  have h1 : ∀ s ∈ logL, ¬ (s = ")" ∨ s = "]") ∧ ¬ s = "end" ∧ (s = "and" ∨ s = "or") := by decide +kernel
  obtain ⟨a, b, c⟩ := h1 s hs
  unfold RS.takeIn
  rw [(done_no h).1, if_neg (by decide), if_neg a, if_neg b]
  unfold RS.between
  rw [down_eq hj, Option.map_some, if_pos c]
theorem cmp_step {q : RS} {w : Str} {os : List Str} {ns : List PyData} (hs : q.stage = "expression") (hm : q.cmp = false) (hc : q.cond = true) (hb : q.brs.head? ≠ some ("(" : Str)) (hw : w ∈ compL) (h : joinDown 4 q.ops q.nodes = some (os, ns)) :
    q.fits w = true ∧ ∀ v, q.takeIn w v = some { q with ops := w :: os, nodes := ns, stage := "factor", cmp := true } := by
  have h1 : ∀ x ∈ compL, ¬ (x = ")" ∨ x = "]") ∧ ¬ x = "end" ∧ ¬ (x = "and" ∨ x = "or") ∧ arithL.contains x = false ∧ bindOf x = 4 := by decide +kernel
  obtain ⟨n1, n2, n3, n4, n5⟩ := h1 w hw
  refine ⟨?_, fun v => ?_⟩
  · unfold RS.fits RS.mayFollow
    rw [starts_no hs, if_neg (by decide), n4, Bool.and_false, if_neg (by decide), if_neg hb, hc, if_neg (by decide), hs, hm, if_pos (by decide +kernel)]
    exact List.contains_iff_mem.mpr hw
  · unfold RS.takeIn
    rw [starts_no hs, if_neg (by decide), if_neg n1, if_neg n2]
    unfold RS.between
    rw [n5, down_eq h, Option.map_some, if_neg n3, List.contains_iff_mem.mpr hw, Bool.or_true]
end Rx
set_option Elab.async false
set_option linter.all false
set_option maxRecDepth 100000
set_option maxHeartbeats 4000000
namespace Rx
open PySem PySem.Spec PyProof.Rows L2 SX
/-! ### where a row of tokens stops fitting: the reader, and a machine driven by a table -/
inductive Sy where
  | C | J | G | K | E | T | F | Cs | Js | Es | Fs
  | and_ | mod_ | not_ | or_ | plus | minus | star | slash | lp | rp | lb | rb | eq | ne | lt | le | gt | ge | integer | name | odd | end_
deriving DecidableEq
def Sy.all : List Sy := [.C, .J, .G, .K, .E, .T, .F, .Cs, .Js, .Es, .Fs, .and_, .mod_, .not_, .or_, .plus, .minus, .star, .slash, .lp, .rp, .lb, .rb, .eq, .ne, .lt, .le, .gt, .ge, .integer, .name, .odd, .end_]
def Sy.terms : List Sy := [.and_, .mod_, .not_, .or_, .plus, .minus, .star, .slash, .lp, .rp, .lb, .rb, .eq, .ne, .lt, .le, .gt, .ge, .integer, .name, .odd, .end_]
/-- its text to the machine -/
def Sy.str : Sy → Str
  | .C => "C" | .J => "J" | .G => "G" | .K => "K" | .E => "E" | .T => "T" | .F => "F" | .Cs => "Cs" | .Js => "Js" | .Es => "Es" | .Fs => "Fs"
  | .and_ => "and" | .mod_ => "mod" | .not_ => "not" | .or_ => "or" | .plus => "+" | .minus => "-" | .star => "*" | .slash => "//" | .lp => "(" | .rp => ")" | .lb => "[" | .rb => "]"
  | .eq => "=" | .ne => "!=" | .lt => "<" | .le => "<=" | .gt => ">" | .ge => ">=" | .integer => "integer" | .name => "name" | .odd => "odd" | .end_ => "end"
/-- its sign to the reader -/
def Sy.sign : Sy → Str
  | .integer => "number" | .name => "variable" | .odd => "bad" | k => k.str
/-- what the table says -/
def more : Sy → Sy → List Sy
  | .G, .not_ => [.not_, .G] | .G, .lb => [.lb, .C, .rb] | .G, .integer => [.E, .K] | .G, .name => [.E, .K] | .G, .minus => [.E, .K] | .G, .lp => [.E, .K]
  | .K, .eq => [.eq, .E] | .K, .ne => [.ne, .E] | .K, .lt => [.lt, .E] | .K, .le => [.le, .E] | .K, .gt => [.gt, .E] | .K, .ge => [.ge, .E]
  | .Es, .plus => [.plus, .T, .Es] | .Es, .minus => [.minus, .T, .Es] | .Fs, .star => [.star, .F, .Fs] | .Fs, .slash => [.slash, .F, .Fs] | .Fs, .mod_ => [.mod_, .F, .Fs]
  | .F, .integer => [.integer] | .F, .name => [.name] | .F, .minus => [.minus, .F] | .F, .lp => [.lp, .E, .rp] | .Cs, .or_ => [.or_, .J, .Cs] | .Js, .and_ => [.and_, .G, .Js]
  | .C, _ => [.J, .Cs] | .J, _ => [.G, .Js] | .E, _ => [.T, .Es] | .T, _ => [.F, .Fs]
  | _, _ => []
def nul : Sy → Bool
  | .Cs => true | .Js => true | .Es => true | .Fs => true | _ => false
inductive DR where
  | out | bad | at_ (pl : List Sy)
/-- the pile, its top first, until its top is the key -/
def downL : Nat → List Sy → Sy → DR
  | 0, _, _ => .out
  | _ + 1, [], _ => .at_ []
  | n + 1, t :: pl, k => if t = k then .at_ (t :: pl) else if more t k = [] ∧ nul t = false then .bad else downL n (more t k ++ pl) k
def stopL : List Sy → List (Sy × Nat) → Option Nat
  | _, [] => none
  | pl, (k, p) :: ks => match downL 12 pl k with
    | .at_ [] => if k = .end_ then none else some p
    | .at_ (_ :: q) => stopL q ks
    | _ => some p
theorem downL_more : ∀ (n m : Nat) (pl : List Sy) (k : Sy), n ≤ m → downL n pl k ≠ .out → downL m pl k = downL n pl k
  | 0, _, _, _, _, h => absurd rfl h
  | n + 1, 0, _, _, h, _ => by omega
  | n + 1, m + 1, [], _, _, _ => rfl
  | n + 1, m + 1, t :: pl, k, h, ho => by
    unfold downL at ho ⊢
    split
    · rfl
    · rename_i h1
      rw [if_neg h1] at ho
      split
      · rfl
      · rename_i h2
        rw [if_neg h2] at ho
        exact downL_more n m _ _ (by omega) ho
/-- a pile that does as another one does -/
def Like (sp pl : List Sy) : Prop := ∀ k ∈ Sy.terms, downL 8 sp k ≠ .out → downL 12 pl k = downL 8 sp k
theorem like_self (sp : List Sy) : Like sp sp := fun k _ h => downL_more 8 12 sp k (by decide) h
theorem like_E (r : List Sy) : Like (.F :: .Fs :: .Es :: r) (.E :: r) := fun k hk h => by
  have e : downL 10 (.E :: r) k = downL 8 (.F :: .Fs :: .Es :: r) k := by
    simp only [Sy.terms, List.mem_cons, List.not_mem_nil, or_false] at hk
    rcases hk with rfl | rfl | rfl | rfl | rfl | rfl | rfl | rfl | rfl | rfl | rfl | rfl | rfl | rfl | rfl | rfl | rfl | rfl | rfl | rfl | rfl | rfl <;> rfl
  rw [downL_more 10 12 _ k (by decide) (by rw [e]; exact h), e]
theorem like_T (r : List Sy) : Like (.F :: .Fs :: r) (.T :: r) := fun k hk h => by
  have e : downL 9 (.T :: r) k = downL 8 (.F :: .Fs :: r) k := by
    simp only [Sy.terms, List.mem_cons, List.not_mem_nil, or_false] at hk
    rcases hk with rfl | rfl | rfl | rfl | rfl | rfl | rfl | rfl | rfl | rfl | rfl | rfl | rfl | rfl | rfl | rfl | rfl | rfl | rfl | rfl | rfl | rfl <;> rfl
  rw [downL_more 9 12 _ k (by decide) (by rw [e]; exact h), e]
theorem like_C (r : List Sy) : Like (.G :: .Js :: .Cs :: r) (.C :: r) := fun k hk h => by
  have e : downL 10 (.C :: r) k = downL 8 (.G :: .Js :: .Cs :: r) k := by
    simp only [Sy.terms, List.mem_cons, List.not_mem_nil, or_false] at hk
    rcases hk with rfl | rfl | rfl | rfl | rfl | rfl | rfl | rfl | rfl | rfl | rfl | rfl | rfl | rfl | rfl | rfl | rfl | rfl | rfl | rfl | rfl | rfl <;> rfl
  rw [downL_more 10 12 _ k (by decide) (by rw [e]; exact h), e]
theorem like_J (r : List Sy) : Like (.G :: .Js :: r) (.J :: r) := fun k hk h => by
  have e : downL 9 (.J :: r) k = downL 8 (.G :: .Js :: r) k := by
    simp only [Sy.terms, List.mem_cons, List.not_mem_nil, or_false] at hk
    rcases hk with rfl | rfl | rfl | rfl | rfl | rfl | rfl | rfl | rfl | rfl | rfl | rfl | rfl | rfl | rfl | rfl | rfl | rfl | rfl | rfl | rfl | rfl <;> rfl
  rw [downL_more 9 12 _ k (by decide) (by rw [e]; exact h), e]
/-! the reader's state as a pile -/
def restC : Nat → List Sy
  | 0 => []
  | m + 1 => .rb :: .Js :: .Cs :: restC m
def restE (c cmp : Bool) (m : Nat) : Nat → List Sy
  | 0 => if c = true then (if cmp = true then .Js :: .Cs :: restC m else .K :: .Js :: .Cs :: restC m) else []
  | n + 1 => .rp :: .Fs :: .Es :: restE c cmp m n
inductive Stg where
  | cond | fac | expr | brk
deriving DecidableEq
def Stg.str : Stg → Str
  | .cond => "condition" | .fac => "factor" | .expr => "expression" | .brk => "bracket"
def specP (g : Stg) (c cmp : Bool) (m n : Nat) : List Sy := match g with
  | .cond => .G :: .Js :: .Cs :: restC m
  | .brk => .Js :: .Cs :: restC m
  | .fac => .F :: .Fs :: .Es :: restE c cmp m n
  | .expr => .Fs :: .Es :: restE c cmp m n
def binL : List Str := ["or", "and", "=", "!=", "<", "<=", ">", ">=", "+", "-", "*", "//", "mod"]
def brkL : List Str := ["(", "["]
def bins (os : List Str) : Nat := os.countP fun o => binL.contains o
def brksOf (os : List Str) : List Str := os.filter fun o => brkL.contains o
def isTup : PyData → Bool
  | .tuple _ => true
  | _ => false
/-- what the reader's state keeps to -/
structure Sound (g : Stg) (m n : Nat) (r : RS) : Prop where
  st : r.stage = g.str
  br : r.brs = List.replicate n ("(" : Str) ++ List.replicate m ("[" : Str)
  bo : r.brs = brksOf r.ops
  nd : r.nodes.length = bins r.ops + (match g with | .cond => 0 | .fac => 0 | _ => 1)
  tp : ∀ d ∈ r.nodes, isTup d = true
  op : ∀ o ∈ r.ops, o ∈ opsL
  c0 : r.cond = false → m = 0 ∧ (g = .fac ∨ g = .expr)
  c1 : g = .cond → n = 0 ∧ r.cmp = false
  c2 : g = .brk → n = 0
/-- all that is joined can be joined -/
theorem joinDown_ok {b : Int} (hb : 0 ≤ b) : ∀ (os : List Str) (ns : List PyData), (∀ o ∈ os, o ∈ opsL) → ns.length = bins os + 1 → (∀ d ∈ ns, isTup d = true) →
    ∃ os' ns', joinDown b os ns = some (os', ns') ∧ ns'.length = bins os' + 1 ∧ brksOf os' = brksOf os ∧ (∀ o ∈ os', o ∈ opsL) ∧ (∀ d ∈ ns', isTup d = true) ∧ (∀ s t, os' = s :: t → bindOf s < b)
  | [], ns, ho, hl, ht => ⟨[], ns, rfl, hl, rfl, ho, ht, fun s t h => by cases h⟩
  | o :: os, ns, ho, hl, ht => by
    have ho1 : o ∈ opsL := ho o List.mem_cons_self
    have ho2 : ∀ x ∈ os, x ∈ opsL := fun x hx => ho x (List.mem_cons_of_mem _ hx)
    by_cases h : b ≤ bindOf o
    · have kind : ∀ o ∈ opsL, (0 : Int) ≤ bindOf o → brkL.contains o = false ∧ (prefL.contains o = true ∧ binL.contains o = false ∨ prefL.contains o = false ∧ binL.contains o = true) := by decide +kernel
      obtain ⟨hk, hk2⟩ := kind o ho1 (by omega)
      have eb : brksOf (o :: os) = brksOf os := by unfold brksOf; rw [List.filter_cons, hk]; rfl
      rcases hk2 with ⟨hp, hn⟩ | ⟨hp, hn⟩
      · have en : bins (o :: os) = bins os := by unfold bins; rw [List.countP_cons, hn]; rfl
        rw [en] at hl
        cases ns with
        | nil => simp at hl
        | cons d ns =>
          obtain ⟨os', ns', h1, h2, h3, h4, h5, h6⟩ := joinDown_ok hb os (.tuple [.str o, d] :: ns) ho2 hl (fun x hx => by
            rcases List.mem_cons.mp hx with e | hx
            · rw [e]; rfl
            · exact ht x (List.mem_cons_of_mem _ hx))
          refine ⟨os', ns', ?_, h2, h3.trans eb.symm, h4, h5, h6⟩
          rw [joinDown, if_pos h]
          unfold joinOp
          rw [hp, if_pos rfl]
          exact h1
      · have en : bins (o :: os) = bins os + 1 := by unfold bins; rw [List.countP_cons, hn]; rfl
        rw [en] at hl
        match ns, hl with
        | d :: e :: ns, hl =>
          obtain ⟨os', ns', h1, h2, h3, h4, h5, h6⟩ := joinDown_ok hb os (.tuple [.str o, e, d] :: ns) ho2 (by simp only [List.length_cons] at hl ⊢; omega) (fun x hx => by
            rcases List.mem_cons.mp hx with e | hx
            · rw [e]; rfl
            · exact ht x (List.mem_cons_of_mem _ (List.mem_cons_of_mem _ hx)))
          refine ⟨os', ns', ?_, h2, h3.trans eb.symm, h4, h5, h6⟩
          rw [joinDown, if_pos h]
          unfold joinOp
          rw [hp, if_neg (by decide)]
          exact h1
        | [d], hl => simp at hl
        | [], hl => simp at hl
    · refine ⟨o :: os, ns, ?_, hl, rfl, ho, ht, fun s t e => ?_⟩
      · rw [joinDown, if_neg h]
      · injection e with e _
        rw [← e]
        omega
end Rx
set_option Elab.async false
set_option linter.all false
set_option maxRecDepth 100000
set_option maxHeartbeats 4000000
namespace Rx
open PySem PySem.Spec PyProof.Rows L2 SX
def fitsB (st : Str) (c cmp : Bool) (hd : Option Str) (s : Str) : Bool :=
  if (decide (st = "condition") || decide (st = "factor")) = true then (begL.contains s || (decide (st = "condition") && notL.contains s))
  else if (decide (st = "expression") && arithL.contains s) = true then true
  else if hd = some ("(" : Str) then decide (s = ")")
  else if c = false then decide (s = "end")
  else if (decide (st = "expression") && !cmp) = true then compL.contains s
  else if hd = some ("[" : Str) then (["and", "or", "]"] : List Str).contains s
  else (["and", "or", "end"] : List Str).contains s
theorem fits_B (r : RS) (s : Str) : r.fits s = fitsB r.stage r.cond r.cmp r.brs.head? s := by
  unfold RS.fits RS.starts RS.mayBegin RS.mayFollow fitsB
  rfl
def hdB (mm nn : Bool) : Option Str := if nn = true then some "(" else if mm = true then some "[" else none
def okB (g : Stg) (c cmp mm nn : Bool) (k : Sy) : Bool := match g with
  | .cond => [Sy.integer, .name, .minus, .lp, .not_, .lb].contains k
  | .fac => [Sy.integer, .name, .minus, .lp].contains k
  | .expr => if [Sy.plus, .minus, .star, .slash, .mod_].contains k then true else if nn then decide (k = .rp) else if !c then decide (k = .end_) else if !cmp then [Sy.eq, .ne, .lt, .le, .gt, .ge].contains k
    else if mm then [Sy.and_, .or_, .rb].contains k else [Sy.and_, .or_, .end_].contains k
  | .brk => if mm then [Sy.and_, .or_, .rb].contains k else [Sy.and_, .or_, .end_].contains k
theorem fits_ok : ∀ k ∈ Sy.terms, ∀ c cmp mm nn : Bool, fitsB Stg.cond.str c cmp (hdB mm nn) k.sign = okB .cond c cmp mm nn k ∧ fitsB Stg.fac.str c cmp (hdB mm nn) k.sign = okB .fac c cmp mm nn k ∧
    fitsB Stg.expr.str c cmp (hdB mm nn) k.sign = okB .expr c cmp mm nn k ∧ fitsB Stg.brk.str true cmp (hdB mm false) k.sign = okB .brk true cmp mm false k := by decide +kernel
theorem hd_rep (n m : Nat) : (List.replicate n ("(" : Str) ++ List.replicate m ("[" : Str)).head? = hdB (decide (0 < m)) (decide (0 < n)) := by
  cases n with
  | zero => cases m <;> rfl
  | succ n => rfl
theorem Sound.fits {g : Stg} {m n : Nat} {r : RS} (S : Sound g m n r) {k : Sy} (hk : k ∈ Sy.terms) : r.fits k.sign = okB g r.cond r.cmp (decide (0 < m)) (decide (0 < n)) k := by
  have h := fits_ok k hk r.cond r.cmp (decide (0 < m)) (decide (0 < n))
  rw [fits_B, S.st, S.br, hd_rep]
  cases g with
  | cond => exact h.1
  | fac => exact h.2.1
  | expr => exact h.2.2.1
  | brk =>
    have hn := S.c2 rfl
    subst hn
    have hc : r.cond = true := by
      cases e : r.cond with
      | true => rfl
      | false => rcases (S.c0 e).2 with z | z <;> cases z
    have h2 := (fits_ok k hk true r.cmp (decide (0 < m)) false).2.2.2
    rw [hc]
    exact h2
theorem no_fit {g : Stg} {c cmp : Bool} {m n : Nat} {k : Sy} (hk : k ∈ Sy.terms) (h : okB g c cmp (decide (0 < m)) (decide (0 < n)) k = false) : downL 8 (specP g c cmp m n) k = .bad ∨ (downL 8 (specP g c cmp m n) k = .at_ [] ∧ k ≠ .end_) := by
  simp only [Sy.terms, List.mem_cons, List.not_mem_nil, or_false] at hk
  cases g with
  | cond => cases m <;> rcases hk with rfl | rfl | rfl | rfl | rfl | rfl | rfl | rfl | rfl | rfl | rfl | rfl | rfl | rfl | rfl | rfl | rfl | rfl | rfl | rfl | rfl | rfl <;> first | exact .inl rfl | exact .inr ⟨rfl, by decide⟩ | exact absurd h (by simp [okB])
  | fac => rcases hk with rfl | rfl | rfl | rfl | rfl | rfl | rfl | rfl | rfl | rfl | rfl | rfl | rfl | rfl | rfl | rfl | rfl | rfl | rfl | rfl | rfl | rfl <;> first | exact .inl rfl | exact .inr ⟨rfl, by decide⟩ | exact absurd h (by simp [okB])
  | brk => cases m <;> rcases hk with rfl | rfl | rfl | rfl | rfl | rfl | rfl | rfl | rfl | rfl | rfl | rfl | rfl | rfl | rfl | rfl | rfl | rfl | rfl | rfl | rfl | rfl <;> first | exact .inl rfl | exact .inr ⟨rfl, by decide⟩ | exact absurd h (by simp [okB])
  | expr =>
    cases n with
    | succ n => rcases hk with rfl | rfl | rfl | rfl | rfl | rfl | rfl | rfl | rfl | rfl | rfl | rfl | rfl | rfl | rfl | rfl | rfl | rfl | rfl | rfl | rfl | rfl <;> first | exact .inl rfl | exact .inr ⟨rfl, by decide⟩ | exact absurd h (by simp [okB])
    | zero =>
      cases c with
      | false => rcases hk with rfl | rfl | rfl | rfl | rfl | rfl | rfl | rfl | rfl | rfl | rfl | rfl | rfl | rfl | rfl | rfl | rfl | rfl | rfl | rfl | rfl | rfl <;> first | exact .inl rfl | exact .inr ⟨rfl, by decide⟩ | exact absurd h (by simp [okB])
      | true =>
        cases cmp with
        | false => rcases hk with rfl | rfl | rfl | rfl | rfl | rfl | rfl | rfl | rfl | rfl | rfl | rfl | rfl | rfl | rfl | rfl | rfl | rfl | rfl | rfl | rfl | rfl <;> first | exact .inl rfl | exact .inr ⟨rfl, by decide⟩ | exact absurd h (by simp [okB])
        | true => cases m <;> rcases hk with rfl | rfl | rfl | rfl | rfl | rfl | rfl | rfl | rfl | rfl | rfl | rfl | rfl | rfl | rfl | rfl | rfl | rfl | rfl | rfl | rfl | rfl <;> first | exact .inl rfl | exact .inr ⟨rfl, by decide⟩ | exact absurd h (by simp [okB])
/-! the reader goes on -/
theorem bins_skip {o : Str} {os : List Str} (h : binL.contains o = false) : bins (o :: os) = bins os := by unfold bins; rw [List.countP_cons, h]; rfl
theorem bins_one {o : Str} {os : List Str} (h : binL.contains o = true) : bins (o :: os) = bins os + 1 := by unfold bins; rw [List.countP_cons, h]; rfl
theorem brks_skip {o : Str} {os : List Str} (h : brkL.contains o = false) : brksOf (o :: os) = brksOf os := by unfold brksOf; rw [List.filter_cons, h]; rfl
theorem brks_one {o : Str} {os : List Str} (h : brkL.contains o = true) : brksOf (o :: os) = o :: brksOf os := by unfold brksOf; rw [List.filter_cons, h]; rfl
def Stg.beg : Stg → Bool
  | .cond => true | .fac => true | _ => false
theorem beg_str : ∀ g ∈ [Stg.cond, .fac, .expr, .brk], (decide (g.str = ("condition" : Str)) || decide (g.str = ("factor" : Str))) = g.beg := by decide +kernel
theorem Sound.starts {g : Stg} {m n : Nat} {r : RS} (S : Sound g m n r) : r.starts = g.beg := by
  unfold RS.starts
  rw [S.st]
  exact beg_str g (by cases g <;> decide)
/-- what one token does -/
structure Goes (g : Stg) (m n : Nat) (r : RS) (k : Sy) (v : V) (q : RS) : Prop where
  tk : r.takeIn k.sign v = some q
  to_ : ∃ g' m' n' pl', Sound g' m' n' q ∧ downL 8 (specP g r.cond r.cmp m n) k = .at_ (k :: pl') ∧ Like (specP g' q.cond q.cmp m' n') pl'
section
variable {g : Stg} {m n : Nat} {r : RS}
theorem opCons {o : Str} {os : List Str} (ho : o ∈ opsL) (h : ∀ x ∈ os, x ∈ opsL) : ∀ x ∈ o :: os, x ∈ opsL := fun x hx => by
  rcases List.mem_cons.mp hx with e | hx
  · rw [e]; exact ho
  · exact h x hx
theorem go_leaf (S : Sound g m n r) (hg : g = .cond ∨ g = .fac) {k : Sy} (hk : k = .integer ∨ k = .name) (v : V) : ∃ q, Goes g m n r k v q := by
  have hs : r.starts = true := by rw [S.starts]; rcases hg with rfl | rfl <;> rfl
  have hsg : k.sign = "number" ∨ k.sign = "variable" := by rcases hk with rfl | rfl; exact .inl rfl; exact .inr rfl
  have e : r.begin_ k.sign v = { r with nodes := .tuple [.str k.sign, dOf v] :: r.nodes, stage := "expression" } := by unfold RS.begin_; rw [if_pos hsg]
  refine ⟨_, by rw [begin_take hs, e], .expr, m, n, ?_⟩
  have S' : Sound .expr m n { r with nodes := .tuple [.str k.sign, dOf v] :: r.nodes, stage := "expression" } := by
    refine ⟨rfl, S.br, S.bo, ?_, ?_, S.op, fun z => ⟨(S.c0 z).1, .inr rfl⟩, (fun z => by cases z), fun z => by cases z⟩
    · have := S.nd
      rcases hg with rfl | rfl <;> simp only [List.length_cons] at this ⊢ <;> omega
    · intro d hd
      rcases List.mem_cons.mp hd with e | hd
      · rw [e]; rfl
      · exact S.tp d hd
  rcases hg with rfl | rfl
  · obtain ⟨hn, hc⟩ := S.c1 rfl
    subst hn
    have hcc : r.cond = true := by
      cases e : r.cond with
      | true => rfl
      | false => rcases (S.c0 e).2 with z | z <;> cases z
    refine ⟨.Fs :: .Es :: .K :: .Js :: .Cs :: restC m, S', ?_, ?_⟩
    · rcases hk with rfl | rfl <;> rfl
    · have := like_self (.Fs :: .Es :: .K :: .Js :: .Cs :: restC m)
      show Like (specP .expr r.cond r.cmp m 0) _
      rw [hc, hcc]
      exact this
  · refine ⟨.Fs :: .Es :: restE r.cond r.cmp m n, S', ?_, like_self _⟩
    rcases hk with rfl | rfl <;> rfl
theorem go_minus (S : Sound g m n r) (hg : g = .cond ∨ g = .fac) (v : V) : ∃ q, Goes g m n r .minus v q := by
  have hs : r.starts = true := by rw [S.starts]; rcases hg with rfl | rfl <;> rfl
  have e : r.begin_ "-" v = { r with ops := "negate" :: r.ops, stage := "factor" } := by unfold RS.begin_; rw [if_neg (by decide +kernel), if_pos rfl]
  refine ⟨_, (begin_take hs).trans (congrArg some e), .fac, m, n, ?_⟩
  have S' : Sound .fac m n { r with ops := "negate" :: r.ops, stage := "factor" } := by
    refine ⟨rfl, S.br, S.bo.trans (brks_skip (by decide +kernel)).symm, ?_, S.tp, opCons (by decide +kernel) S.op, fun z => ⟨(S.c0 z).1, .inl rfl⟩, (fun z => by cases z), fun z => by cases z⟩
    show r.nodes.length = bins (("negate" : Str) :: r.ops) + 0
    rw [bins_skip (by decide +kernel), S.nd]
    rcases hg with rfl | rfl <;> rfl
  rcases hg with rfl | rfl
  · obtain ⟨hn, hc⟩ := S.c1 rfl
    subst hn
    have hcc : r.cond = true := by
      cases e : r.cond with
      | true => rfl
      | false => rcases (S.c0 e).2 with z | z <;> cases z
    refine ⟨.F :: .Fs :: .Es :: .K :: .Js :: .Cs :: restC m, S', rfl, ?_⟩
    have := like_self (.F :: .Fs :: .Es :: .K :: .Js :: .Cs :: restC m)
    show Like (specP .fac r.cond r.cmp m 0) _
    rw [hc, hcc]
    exact this
  · exact ⟨.F :: .Fs :: .Es :: restE r.cond r.cmp m n, S', rfl, like_self _⟩
theorem go_lp (S : Sound g m n r) (hg : g = .cond ∨ g = .fac) (v : V) : ∃ q, Goes g m n r .lp v q := by
  have hs : r.starts = true := by rw [S.starts]; rcases hg with rfl | rfl <;> rfl
  have e : r.begin_ "(" v = { r with ops := "(" :: r.ops, brs := "(" :: r.brs, stage := "factor" } := by unfold RS.begin_; rw [if_neg (by decide +kernel), if_neg (by decide +kernel), if_pos rfl]
  refine ⟨_, (begin_take hs).trans (congrArg some e), .fac, m, n + 1, ?_⟩
  have S' : Sound .fac m (n + 1) { r with ops := "(" :: r.ops, brs := "(" :: r.brs, stage := "factor" } := by
    refine ⟨rfl, ?_, ?_, ?_, S.tp, opCons (by decide +kernel) S.op, fun z => ⟨(S.c0 z).1, .inl rfl⟩, (fun z => by cases z), fun z => by cases z⟩
    · show ("(" : Str) :: r.brs = _
      rw [S.br]; rfl
    · show ("(" : Str) :: r.brs = _
      rw [brks_one (by decide +kernel), S.bo]
    · show r.nodes.length = bins (("(" : Str) :: r.ops) + 0
      rw [bins_skip (by decide +kernel), S.nd]
      rcases hg with rfl | rfl <;> rfl
  rcases hg with rfl | rfl
  · obtain ⟨hn, hc⟩ := S.c1 rfl
    subst hn
    have hcc : r.cond = true := by
      cases e : r.cond with
      | true => rfl
      | false => rcases (S.c0 e).2 with z | z <;> cases z
    refine ⟨.E :: .rp :: .Fs :: .Es :: .K :: .Js :: .Cs :: restC m, S', rfl, ?_⟩
    have := like_E (.rp :: .Fs :: .Es :: .K :: .Js :: .Cs :: restC m)
    show Like (specP .fac r.cond r.cmp m 1) _
    rw [hc, hcc]
    exact this
  · exact ⟨.E :: .rp :: .Fs :: .Es :: restE r.cond r.cmp m n, S', rfl, like_E _⟩
theorem go_not (S : Sound .cond m n r) (v : V) : ∃ q, Goes .cond m n r .not_ v q := by
  have hs : r.starts = true := S.starts
  have e : r.begin_ "not" v = { r with ops := "not" :: r.ops } := by
    unfold RS.begin_
    rw [if_neg (by decide +kernel), if_neg (by decide +kernel), if_neg (by decide +kernel), if_neg (by decide +kernel)]
  refine ⟨_, (begin_take hs).trans (congrArg some e), .cond, m, n, .G :: .Js :: .Cs :: restC m, ?_, rfl, like_self _⟩
  refine ⟨S.st, S.br, S.bo.trans (brks_skip (by decide +kernel)).symm, ?_, S.tp, opCons (by decide +kernel) S.op, S.c0, S.c1, fun z => by cases z⟩
  show r.nodes.length = bins (("not" : Str) :: r.ops) + 0
  rw [bins_skip (by decide +kernel), S.nd]
theorem go_lb (S : Sound .cond m n r) (v : V) : ∃ q, Goes .cond m n r .lb v q := by
  have hs : r.starts = true := S.starts
  have e : r.begin_ "[" v = { r with ops := "[" :: r.ops, brs := "[" :: r.brs } := by
    unfold RS.begin_
    rw [if_neg (by decide +kernel), if_neg (by decide +kernel), if_neg (by decide +kernel), if_pos rfl]
  obtain ⟨hn, hc⟩ := S.c1 rfl
  subst hn
  refine ⟨_, (begin_take hs).trans (congrArg some e), .cond, m + 1, 0, .C :: .rb :: .Js :: .Cs :: restC m, ?_, rfl, like_C _⟩
  refine ⟨S.st, ?_, ?_, ?_, S.tp, opCons (by decide +kernel) S.op, (fun z => ?_), (fun _ => ⟨rfl, hc⟩), fun z => by cases z⟩
  · show ("[" : Str) :: r.brs = _
    rw [S.br]; rfl
  · show ("[" : Str) :: r.brs = _
    rw [brks_one (by decide +kernel), S.bo]
  · show r.nodes.length = bins (("[" : Str) :: r.ops) + 0
    rw [bins_skip (by decide +kernel), S.nd]
  · rcases (S.c0 z).2 with z | z <;> cases z
theorem go_arith (S : Sound .expr m n r) {k : Sy} (hk : k ∈ [Sy.plus, .minus, .star, .slash, .mod_]) (v : V) : ∃ q, Goes .expr m n r k v q := by
  have h0 : ∀ k ∈ [Sy.plus, .minus, .star, .slash, .mod_], k.sign ∈ arithL ∧ (0 : Int) ≤ bindOf k.sign ∧ binL.contains k.sign = true ∧ brkL.contains k.sign = false ∧ k.sign ∈ opsL := by decide +kernel
  obtain ⟨a1, a2, a3, a4, a5⟩ := h0 k hk
  obtain ⟨os', ns', h1, h2, h3, h4, h5, h6⟩ := joinDown_ok a2 r.ops r.nodes S.op S.nd S.tp
  obtain ⟨_, ht⟩ := mid_take S.st a1 h1
  refine ⟨_, ht v, .fac, m, n, ?_⟩
  have S' : Sound .fac m n { r with ops := k.sign :: os', nodes := ns', stage := "factor" } := by
    refine ⟨rfl, S.br, ?_, ?_, h5, opCons a5 h4, fun z => ⟨(S.c0 z).1, .inl rfl⟩, (fun z => by cases z), fun z => by cases z⟩
    · show r.brs = brksOf (k.sign :: os')
      rw [brks_skip a4, h3, S.bo]
    · show ns'.length = bins (k.sign :: os') + 0
      rw [bins_one a3, h2]
  simp only [List.mem_cons, List.not_mem_nil, or_false] at hk
  rcases hk with rfl | rfl | rfl | rfl | rfl
  · exact ⟨.T :: .Es :: restE r.cond r.cmp m n, S', rfl, like_T _⟩
  · exact ⟨.T :: .Es :: restE r.cond r.cmp m n, S', rfl, like_T _⟩
  · exact ⟨.F :: .Fs :: .Es :: restE r.cond r.cmp m n, S', rfl, like_self _⟩
  · exact ⟨.F :: .Fs :: .Es :: restE r.cond r.cmp m n, S', rfl, like_self _⟩
  · exact ⟨.F :: .Fs :: .Es :: restE r.cond r.cmp m n, S', rfl, like_self _⟩
theorem go_cmp (S : Sound .expr m 0 r) (hc : r.cond = true) (hm : r.cmp = false) {k : Sy} (hk : k ∈ [Sy.eq, .ne, .lt, .le, .gt, .ge]) (v : V) : ∃ q, Goes .expr m 0 r k v q := by
  have h0 : ∀ k ∈ [Sy.eq, .ne, .lt, .le, .gt, .ge], k.sign ∈ compL ∧ binL.contains k.sign = true ∧ brkL.contains k.sign = false ∧ k.sign ∈ opsL := by decide +kernel
  obtain ⟨a1, a3, a4, a5⟩ := h0 k hk
  obtain ⟨os', ns', h1, h2, h3, h4, h5, h6⟩ := joinDown_ok (b := 4) (by decide) r.ops r.nodes S.op S.nd S.tp
  have hb : r.brs.head? ≠ some ("(" : Str) := by
    rw [S.br, hd_rep]
    have h : ∀ b : Bool, hdB b false ≠ some ("(" : Str) := by decide +kernel
    exact h _
  obtain ⟨_, ht⟩ := cmp_step S.st hm hc hb a1 h1
  refine ⟨_, ht v, .fac, m, 0, .E :: .Js :: .Cs :: restC m, ?_, ?_, ?_⟩
  · refine ⟨rfl, S.br, ?_, ?_, h5, opCons a5 h4, fun z => ⟨(S.c0 z).1, .inl rfl⟩, (fun z => by cases z), fun z => by cases z⟩
    · show r.brs = brksOf (k.sign :: os')
      rw [brks_skip a4, h3, S.bo]
    · show ns'.length = bins (k.sign :: os') + 0
      rw [bins_one a3, h2]
  · rw [hc, hm]
    simp only [List.mem_cons, List.not_mem_nil, or_false] at hk
    rcases hk with rfl | rfl | rfl | rfl | rfl | rfl <;> rfl
  · show Like (specP .fac r.cond true m 0) _
    rw [hc]
    exact like_E _
theorem done_of (S : Sound g m 0 r) (hg : g = .brk ∨ (g = .expr ∧ r.cmp = true)) : DoneC r := by
  rcases hg with rfl | ⟨rfl, h⟩
  · exact .inl S.st
  · exact .inr ⟨S.st, h⟩
theorem nd_done (S : Sound g m n r) (hg : g = .brk ∨ g = .expr) : r.nodes.length = bins r.ops + 1 := by
  have := S.nd
  rcases hg with rfl | rfl <;> exact this
theorem go_log (S : Sound g m 0 r) (hc : r.cond = true) (hg : g = .brk ∨ (g = .expr ∧ r.cmp = true)) {k : Sy} (hk : k = .and_ ∨ k = .or_) (v : V) : ∃ q, Goes g m 0 r k v q := by
  have h0 : ∀ k ∈ [Sy.and_, .or_], k.sign ∈ logL ∧ (0 : Int) ≤ bindOf k.sign ∧ binL.contains k.sign = true ∧ brkL.contains k.sign = false ∧ k.sign ∈ opsL := by decide +kernel
  obtain ⟨a1, a2, a3, a4, a5⟩ := h0 k (by rcases hk with rfl | rfl <;> decide)
  obtain ⟨os', ns', h1, h2, h3, h4, h5, h6⟩ := joinDown_ok a2 r.ops r.nodes S.op (nd_done S (hg.imp id fun h => h.1)) S.tp
  refine ⟨_, log_take (done_of S hg) a1 h1 v, .cond, m, 0, ?_⟩
  have S' : Sound .cond m 0 { r with ops := k.sign :: os', nodes := ns', stage := "condition", cmp := false } := by
    refine ⟨rfl, S.br, ?_, ?_, h5, opCons a5 h4, (fun z => ?_), (fun _ => ⟨rfl, rfl⟩), fun z => by cases z⟩
    · show r.brs = brksOf (k.sign :: os')
      rw [brks_skip a4, h3, S.bo]
    · show ns'.length = bins (k.sign :: os') + 0
      rw [bins_one a3, h2]
    · have z' : r.cond = false := z
      rw [hc] at z'
      cases z'
  rcases hk with rfl | rfl
  · refine ⟨.G :: .Js :: .Cs :: restC m, S', ?_, like_self _⟩
    rcases hg with rfl | ⟨rfl, h⟩
    · rfl
    · rw [hc, h]; rfl
  · refine ⟨.J :: .Cs :: restC m, S', ?_, like_J _⟩
    rcases hg with rfl | ⟨rfl, h⟩
    · rfl
    · rw [hc, h]; rfl
/-- the innermost bracket is closed -/
theorem close_ok (S : Sound g m n r) (hg : g = .brk ∨ g = .expr) {b : Str} {bs : List Str} (hb : r.brs = b :: bs) {s : Str} (hs : s = ")" ∨ s = "]") (v : V) :
    ∃ os ns, r.takeIn s v = some { r with ops := os, nodes := ns, brs := bs, stage := if s = "]" then "bracket" else "expression" } ∧ ns.length = bins os + 1 ∧ bs = brksOf os ∧ (∀ o ∈ os, o ∈ opsL) ∧ (∀ d ∈ ns, isTup d = true) := by
  have hst : r.starts = false := by rw [S.starts]; rcases hg with rfl | rfl <;> rfl
  obtain ⟨os', ns', h1, h2, h3, h4, h5, h6⟩ := joinDown_ok (b := 0) (by decide) r.ops r.nodes S.op (nd_done S hg) S.tp
  have h7 : brksOf os' = b :: bs := by rw [h3, ← S.bo, hb]
  cases os' with
  | nil => cases h7
  | cons o t =>
    have kind : ∀ o ∈ opsL, bindOf o < 0 → brkL.contains o = true ∧ binL.contains o = false := by decide +kernel
    obtain ⟨k1, k2⟩ := kind o (h4 o List.mem_cons_self) (h6 o t rfl)
    rw [brks_one k1] at h7
    injection h7 with h7 h8
    refine ⟨t, ns', ?_, by rw [← bins_skip k2]; exact h2, h8.symm, fun x hx => h4 x (List.mem_cons_of_mem _ hx), h5⟩
    unfold RS.takeIn
    rw [hst, if_neg (by decide), if_pos hs]
    unfold RS.close_
    rw [down_eq h1, Option.bind_some]
    dsimp only
    rw [hb]
theorem go_rp (S : Sound .expr m (n + 1) r) (v : V) : ∃ q, Goes .expr m (n + 1) r .rp v q := by
  obtain ⟨os, ns, h1, h2, h3, h4, h5⟩ := close_ok S (.inr rfl) (b := "(") (bs := List.replicate n ("(" : Str) ++ List.replicate m ("[" : Str)) (by rw [S.br]; rfl) (.inl rfl) v
  rw [if_neg (by decide +kernel)] at h1
  exact ⟨_, h1, .expr, m, n, .Fs :: .Es :: restE r.cond r.cmp m n, ⟨rfl, rfl, h3, h2, h5, h4, (fun z => ⟨(S.c0 z).1, .inr rfl⟩), (fun z => by cases z), fun z => by cases z⟩, rfl, like_self _⟩
theorem go_rb (S : Sound g (m + 1) 0 r) (hc : r.cond = true) (hg : g = .brk ∨ (g = .expr ∧ r.cmp = true)) (v : V) : ∃ q, Goes g (m + 1) 0 r .rb v q := by
  obtain ⟨os, ns, h1, h2, h3, h4, h5⟩ := close_ok S (hg.imp id fun h => h.1) (b := "[") (bs := List.replicate m ("[" : Str)) (by rw [S.br]; rfl) (.inr rfl) v
  rw [if_pos rfl] at h1
  refine ⟨_, h1, .brk, m, 0, .Js :: .Cs :: restC m, ⟨rfl, rfl, h3, h2, h5, h4, (fun z => ?_), (fun z => by cases z), fun _ => rfl⟩, ?_, like_self _⟩
  · have z' : r.cond = false := z
    rw [hc] at z'
    cases z'
  · rcases hg with rfl | ⟨rfl, h⟩
    · rfl
    · rw [hc, h]; rfl
theorem go_end (S : Sound g 0 0 r) (hg : g = .brk ∨ (g = .expr ∧ (r.cond = false ∨ r.cmp = true))) (v : V) : ∃ q d, r.takeIn "end" v = some q ∧ q.nodes = [d] ∧ isTup d = true ∧ downL 8 (specP g r.cond r.cmp 0 0) .end_ = .at_ [] := by
  have hg' : g = .brk ∨ g = .expr := hg.imp id fun h => h.1
  have hst : r.starts = false := by rw [S.starts]; rcases hg' with rfl | rfl <;> rfl
  obtain ⟨os', ns', h1, h2, h3, h4, h5, h6⟩ := joinDown_ok (b := 0) (by decide) r.ops r.nodes S.op (nd_done S hg') S.tp
  have h7 : brksOf os' = [] := by rw [h3, ← S.bo, S.br]; rfl
  have h8 : os' = [] := by
    cases os' with
    | nil => rfl
    | cons o t =>
      have kind : ∀ o ∈ opsL, bindOf o < 0 → brkL.contains o = true := by decide +kernel
      rw [brks_one (kind o (h4 o List.mem_cons_self) (h6 o t rfl))] at h7
      cases h7
  subst h8
  match ns', h2, h5, h1 with
  | [d], _, h5, h1 =>
    refine ⟨{ r with ops := [], nodes := [d] }, d, ?_, rfl, h5 d (by simp), ?_⟩
    · unfold RS.takeIn
      rw [hst, if_neg (by decide), if_neg (by decide +kernel), if_pos rfl, down_eq h1]
    · rcases hg with rfl | ⟨rfl, h | h⟩
      · rfl
      · rw [h]; rfl
      · cases e : r.cond with
        | false => rfl
        | true => rw [h]; rfl
end
theorem Sound.cond {g : Stg} {m n : Nat} {r : RS} (S : Sound g m n r) (h : g = .cond ∨ g = .brk) : r.cond = true := by
  cases e : r.cond with
  | true => rfl
  | false => rcases (S.c0 e).2 with z | z <;> subst z <;> rcases h with h | h <;> cases h
/-- a token that fits is taken in; the machine takes it too -/
theorem fit_goes {g : Stg} {m n : Nat} {r : RS} (S : Sound g m n r) {k : Sy} (hk : k ∈ Sy.terms) (h : r.fits k.sign = true) (v : V) :
    (k ≠ .end_ ∧ ∃ q, Goes g m n r k v q) ∨ (k = .end_ ∧ ∃ q d, r.takeIn "end" v = some q ∧ q.nodes = [d] ∧ isTup d = true ∧ downL 8 (specP g r.cond r.cmp m n) .end_ = .at_ []) := by
  rw [S.fits hk] at h
  cases g with
  | cond =>
    simp only [okB, List.contains_eq_mem, List.mem_cons, List.not_mem_nil, or_false, decide_eq_true_eq] at h
    rcases h with rfl | rfl | rfl | rfl | rfl | rfl
    · exact .inl ⟨by decide, go_leaf S (.inl rfl) (.inl rfl) v⟩
    · exact .inl ⟨by decide, go_leaf S (.inl rfl) (.inr rfl) v⟩
    · exact .inl ⟨by decide, go_minus S (.inl rfl) v⟩
    · exact .inl ⟨by decide, go_lp S (.inl rfl) v⟩
    · exact .inl ⟨by decide, go_not S v⟩
    · exact .inl ⟨by decide, go_lb S v⟩
  | fac =>
    simp only [okB, List.contains_eq_mem, List.mem_cons, List.not_mem_nil, or_false, decide_eq_true_eq] at h
    rcases h with rfl | rfl | rfl | rfl
    · exact .inl ⟨by decide, go_leaf S (.inr rfl) (.inl rfl) v⟩
    · exact .inl ⟨by decide, go_leaf S (.inr rfl) (.inr rfl) v⟩
    · exact .inl ⟨by decide, go_minus S (.inr rfl) v⟩
    · exact .inl ⟨by decide, go_lp S (.inr rfl) v⟩
  | brk =>
    have hn := S.c2 rfl
    subst hn
    have hc := S.cond (.inr rfl)
    cases m with
    | zero =>
      have h' : [Sy.and_, .or_, .end_].contains k = true := h
      simp only [List.contains_eq_mem, List.mem_cons, List.not_mem_nil, or_false, decide_eq_true_eq] at h'
      rcases h' with rfl | rfl | rfl
      · exact .inl ⟨by decide, go_log S hc (.inl rfl) (.inl rfl) v⟩
      · exact .inl ⟨by decide, go_log S hc (.inl rfl) (.inr rfl) v⟩
      · exact .inr ⟨rfl, go_end S (.inl rfl) v⟩
    | succ m =>
      have h' : [Sy.and_, .or_, .rb].contains k = true := h
      simp only [List.contains_eq_mem, List.mem_cons, List.not_mem_nil, or_false, decide_eq_true_eq] at h'
      rcases h' with rfl | rfl | rfl
      · exact .inl ⟨by decide, go_log S hc (.inl rfl) (.inl rfl) v⟩
      · exact .inl ⟨by decide, go_log S hc (.inl rfl) (.inr rfl) v⟩
      · exact .inl ⟨by decide, go_rb S hc (.inl rfl) v⟩
  | expr =>
    unfold okB at h
    dsimp only at h
    split at h
    · rename_i ha
      have hm : k ∈ [Sy.plus, .minus, .star, .slash, .mod_] := List.contains_iff_mem.mp ha
      exact .inl ⟨(by rintro rfl; revert hm; decide), go_arith S hm v⟩
    · cases n with
      | succ n =>
        have h' : decide (k = Sy.rp) = true := h
        have e : k = .rp := of_decide_eq_true h'
        subst e
        exact .inl ⟨by decide, go_rp S v⟩
      | zero =>
        cases hc : r.cond with
        | false =>
          rw [hc] at h
          have h' : decide (k = Sy.end_) = true := h
          have e : k = .end_ := of_decide_eq_true h'
          subst e
          have hm := (S.c0 hc).1
          subst hm
          have := go_end S (.inr ⟨rfl, .inl hc⟩) v
          rw [hc] at this
          exact .inr ⟨rfl, this⟩
        | true =>
          cases hm : r.cmp with
          | false =>
            rw [hc, hm] at h
            have h' : [Sy.eq, .ne, .lt, .le, .gt, .ge].contains k = true := h
            have hmem := List.contains_iff_mem.mp h'
            exact .inl ⟨(by rintro rfl; revert hmem; decide), go_cmp S hc hm hmem v⟩
          | true =>
            rw [hc, hm] at h
            cases m with
            | zero =>
              have h' : [Sy.and_, .or_, .end_].contains k = true := h
              simp only [List.contains_eq_mem, List.mem_cons, List.not_mem_nil, or_false, decide_eq_true_eq] at h'
              rcases h' with rfl | rfl | rfl
              · exact .inl ⟨by decide, go_log S hc (.inr ⟨rfl, hm⟩) (.inl rfl) v⟩
              · exact .inl ⟨by decide, go_log S hc (.inr ⟨rfl, hm⟩) (.inr rfl) v⟩
              · have := go_end S (.inr ⟨rfl, .inr hm⟩) v
                rw [hc, hm] at this
                exact .inr ⟨rfl, this⟩
            | succ m =>
              have h' : [Sy.and_, .or_, .rb].contains k = true := h
              simp only [List.contains_eq_mem, List.mem_cons, List.not_mem_nil, or_false, decide_eq_true_eq] at h'
              rcases h' with rfl | rfl | rfl
              · exact .inl ⟨by decide, go_log S hc (.inr ⟨rfl, hm⟩) (.inl rfl) v⟩
              · exact .inl ⟨by decide, go_log S hc (.inr ⟨rfl, hm⟩) (.inr rfl) v⟩
              · exact .inl ⟨by decide, go_rb S hc (.inr ⟨rfl, hm⟩) v⟩
/-- where the reader stops -/
def stopR : RS → List (Str × V × Nat) → Option Nat
  | _, [] => none
  | r, t :: ts => if r.fits t.1 = true then (match r.takeIn t.1 t.2.1 with
    | some q => stopR q ts
    | none => none) else some t.2.2
/-- tokens and the machine's keys for them -/
inductive Keys : List (Str × V × Nat) → List (Sy × Nat) → Prop where
  | end_ {v : V} {p : Nat} : Keys [("end", v, p)] [(.end_, p)]
  | cons {k : Sy} {v : V} {p : Nat} {ts : List (Str × V × Nat)} {ks : List (Sy × Nat)} : k ∈ Sy.terms → k ≠ .end_ → Keys ts ks → Keys ((k.sign, v, p) :: ts) ((k, p) :: ks)
theorem stops {ts : List (Str × V × Nat)} {ks : List (Sy × Nat)} (h : Keys ts ks) : ∀ {g : Stg} {m n : Nat} {r : RS} {pl : List Sy}, Sound g m n r → Like (specP g r.cond r.cmp m n) pl →
    stopR r ts = stopL pl ks ∧ (stopR r ts = none → ∃ q d, runR r ts = some q ∧ q.nodes = [d] ∧ isTup d = true) := by
  have out : ∀ {l : List Sy} {x : List Sy} {k : Sy}, downL 8 l k = .at_ x → downL 8 l k ≠ .out := fun e z => by rw [e] at z; cases z
  have outb : ∀ {l : List Sy} {k : Sy}, downL 8 l k = .bad → downL 8 l k ≠ .out := fun e z => by rw [e] at z; cases z
  induction h with
  | @end_ v p =>
    intro g m n r pl S L
    have hk : Sy.end_ ∈ Sy.terms := by decide
    cases hf : r.fits "end" with
    | true =>
      rcases fit_goes S hk hf v with ⟨z, _⟩ | ⟨_, q, d, h1, h2, h3, h4⟩
      · exact absurd rfl z
      · refine ⟨?_, fun _ => ⟨q, d, ?_, h2, h3⟩⟩
        · unfold stopR stopL
          dsimp only
          rw [hf, if_pos rfl, h1, L _ hk (out h4), h4]
          rfl
        · unfold runR
          dsimp only
          rw [hf, if_pos rfl, h1]
          rfl
    | false =>
      refine ⟨?_, fun z => ?_⟩
      · unfold stopR stopL
        dsimp only
        rw [hf, if_neg (by decide)]
        rcases no_fit hk ((S.fits hk).symm.trans hf) with e | ⟨_, e⟩
        · rw [L _ hk (outb e), e]
        · exact absurd rfl e
      · unfold stopR at z
        dsimp only at z
        rw [hf, if_neg (by decide)] at z
        cases z
  | @cons k v p ts ks hk hne _ ih =>
    intro g m n r pl S L
    cases hf : r.fits k.sign with
    | true =>
      rcases fit_goes S hk hf v with ⟨_, q, hq, g', m', n', pl', S', e, L'⟩ | ⟨z, _⟩
      · obtain ⟨i1, i2⟩ := ih S' L'
        have es : stopR r ((k.sign, v, p) :: ts) = stopR q ts := by
          rw [stopR]
          dsimp only
          rw [hf, if_pos rfl, hq]
        refine ⟨?_, fun z => ?_⟩
        · rw [es, i1, stopL, L _ hk (out e), e]
        · obtain ⟨q', d, h1, h2⟩ := i2 (es.symm.trans z)
          refine ⟨q', d, ?_, h2⟩
          rw [runR]
          dsimp only
          rw [hf, if_pos rfl, hq]
          exact h1
      · exact absurd z hne
    | false =>
      have es : stopR r ((k.sign, v, p) :: ts) = some p := by
        rw [stopR]
        dsimp only
        rw [hf, if_neg (by decide)]
      refine ⟨?_, fun z => by rw [es] at z; cases z⟩
      rw [es, stopL]
      rcases no_fit hk ((S.fits hk).symm.trans hf) with e | ⟨e, _⟩
      · rw [L _ hk (outb e), e]
      · rw [L _ hk (out e), e, if_neg hne]
end Rx
set_option Elab.async false
set_option linter.all false
set_option maxRecDepth 100000
set_option maxHeartbeats 4000000
namespace Rx
open PySem PySem.Spec PyProof.Rows L2 SX
/-! ### words and their keys -/
/-! ### the other scanner -/
end Rx
set_option Elab.async false
set_option linter.all false
set_option maxRecDepth 100000
set_option maxHeartbeats 4000000
namespace Rx
open PySem PySem.Spec PyProof.Rows L2 SX
end Rx
set_option Elab.async false
set_option linter.all false
set_option maxRecDepth 100000
set_option maxHeartbeats 4000000
namespace Rx
open PySem PySem.Spec PyProof.Rows L2 SX
/-! the other machine's table, row by row -/
/-- rows and where their lists stand -/
inductive TabAt (H : Hp) : List (Sy × Sy × List Sy) → List Addr → Prop where
  | nil : TabAt H [] []
  | cons {t k : Sy} {l : List Sy} {rs : List (Sy × Sy × List Sy)} {a : Addr} {as : List Addr} : H a = some (.lst ((l.map Sy.str).map V.str)) → TabAt H rs as → TabAt H ((t, k, l) :: rs) (a :: as)
theorem TabAt.keep {H H' : Hp} (k : ∀ a xs, H a = some (.lst xs) → a ∉ ([] : List Addr) → H' a = some (.lst xs)) {rs : List (Sy × Sy × List Sy)} {as : List Addr} (h : TabAt H rs as) : TabAt H' rs as := by
  induction h with
  | nil => exact .nil
  | cons h1 _ ih => exact .cons (k _ _ h1 (by simp)) ih
theorem TabAt.same {H H' : Hp} (e : Same H H') {rs : List (Sy × Sy × List Sy)} {as : List Addr} (h : TabAt H rs as) : TabAt H' rs as := h.keep fun a xs h _ => e a _ h
theorem TabAt.snoc {H : Hp} {t k : Sy} {l : List Sy} {a : Addr} (ha : H a = some (.lst ((l.map Sy.str).map V.str))) {rs : List (Sy × Sy × List Sy)} {as : List Addr} (h : TabAt H rs as) : TabAt H (rs ++ [(t, k, l)]) (as ++ [a]) := by
  induction h with
  | nil => exact .cons ha .nil
  | cons h1 _ ih => exact .cons h1 ih
theorem TabAt.len {H : Hp} {rs : List (Sy × Sy × List Sy)} {as : List Addr} (h : TabAt H rs as) : rs.length = as.length := by
  induction h with
  | nil => rfl
  | cons _ _ ih => simp [ih]
end Rx
set_option Elab.async false
set_option linter.all false
set_option maxRecDepth 100000
set_option maxHeartbeats 4000000
namespace Rx
open PySem PySem.Spec PyProof.Rows L2 SX
def alwK (a1 a2 a3 a4 : Addr) : List (Key × V) := [(Sum.inr "C", .ref a1), (Sum.inr "J", .ref a2), (Sum.inr "E", .ref a3), (Sum.inr "T", .ref a4)]
def symL (H : Hp) (a : Addr) (l : List Sy) : Prop := H a = some (.lst ((l.map Sy.str).map V.str))
structure AlwAt (H : Hp) (d a1 a2 a3 a4 : Addr) : Prop where
  at_ : H d = some (.dK (alwK a1 a2 a3 a4))
  h1 : symL H a1 [.J, .Cs]
  h2 : symL H a2 [.G, .Js]
  h3 : symL H a3 [.T, .Es]
  h4 : symL H a4 [.F, .Fs]
theorem AlwAt.same {H H' : Hp} {d a1 a2 a3 a4 : Addr} (h : AlwAt H d a1 a2 a3 a4) (e : Same H H') : AlwAt H' d a1 a2 a3 a4 := ⟨e _ _ h.at_, e _ _ h.h1, e _ _ h.h2, e _ _ h.h3, e _ _ h.h4⟩
end Rx
set_option Elab.async false
set_option linter.all false
set_option maxRecDepth 100000
set_option maxHeartbeats 4000000
namespace Rx
open PySem PySem.Spec PyProof.Rows L2 SX
/-! ### the keys of a laid out text -/
end Rx
set_option Elab.async false
set_option linter.all false
set_option maxRecDepth 100000
set_option maxHeartbeats 4000000
namespace Rx
open PySem PySem.Spec PyProof.Rows L2 SX
/-! ### trees, and their texts -/
inductive Tr where
  | num (n : Int) | var (x : Str) | pre (w : Str) (a : Tr) | bin (w : Str) (a b : Tr)
def Tr.word : Tr → Str
  | .num _ => "number" | .var _ => "variable" | .pre w _ => w | .bin w _ _ => w
def Tr.data : Tr → PyData
  | .num n => nNum n | .var x => nVar x | .pre w a => .tuple [.str w, a.data] | .bin w a b => nBin w a.data b.data
inductive Ty : Bool → Nat → Tr → Prop where
  | num {k : Nat} {n : Int} (h : n ∈ numL) : Ty false k (.num n)
  | var {k : Nat} {x : Str} (h : isName (cod x) = true) : Ty false k (.var x)
  | neg {k : Nat} {a : Tr} : Ty false k a → Ty false (k + 1) (.pre "negate" a)
  | bin {k : Nat} {w : Str} {a b : Tr} : w ∈ arithL → Ty false k a → Ty false k b → Ty false (k + 1) (.bin w a b)
  | cmp {k : Nat} {w : Str} {a b : Tr} : w ∈ compL → Ty false k a → Ty false k b → Ty true (k + 1) (.bin w a b)
  | not_ {k : Nat} {a : Tr} : Ty true k a → Ty true (k + 1) (.pre "not" a)
  | log {k : Nat} {w : Str} {a b : Tr} : w ∈ logL → Ty true k a → Ty true k b → Ty true (k + 1) (.bin w a b)
theorem TR.tr {b : Bool} {n : Nat} {d : PyData} (h : TR b n d) : ∃ t, d = t.data ∧ Ty b n t := by
  induction h with
  | @num k n h => exact ⟨.num n, rfl, .num h⟩
  | @var k x h => exact ⟨.var x, rfl, .var h⟩
  | neg _ ih => obtain ⟨t, rfl, h⟩ := ih; exact ⟨.pre "negate" t, rfl, .neg h⟩
  | @bin k w _ _ hw _ _ i1 i2 => obtain ⟨t, rfl, h⟩ := i1; obtain ⟨u, rfl, g⟩ := i2; exact ⟨.bin w t u, rfl, .bin hw h g⟩
  | @cmp k w _ _ hw _ _ i1 i2 => obtain ⟨t, rfl, h⟩ := i1; obtain ⟨u, rfl, g⟩ := i2; exact ⟨.bin w t u, rfl, .cmp hw h g⟩
  | not_ _ ih => obtain ⟨t, rfl, h⟩ := ih; exact ⟨.pre "not" t, rfl, .not_ h⟩
  | @log k w _ _ hw _ _ i1 i2 => obtain ⟨t, rfl, h⟩ := i1; obtain ⟨u, rfl, g⟩ := i2; exact ⟨.bin w t u, rfl, .log hw h g⟩
theorem Ty.tr {b : Bool} {n : Nat} {t : Tr} (h : Ty b n t) : TR b n t.data := by
  induction h with
  | num h => exact .num h
  | var h => exact .var h
  | neg _ ih => exact .neg ih
  | bin hw _ _ i1 i2 => exact .bin hw i1 i2
  | cmp hw _ _ i1 i2 => exact .cmp hw i1 i2
  | not_ _ ih => exact .not_ ih
  | log hw _ _ i1 i2 => exact .log hw i1 i2
/-! the other writing -/
def lv (b : Bool) (l : Nat) : Int := if b = true then (l : Int) else (l : Int) + 4
/-! the text, token by token -/
/-! no two tokens grow together -/
def openL : List Str := ["-", "(", "["]
def closeL : List Str := [")", "]"]
def Ch : Option Str → List (Nat × Str) → Prop
  | _, [] => True
  | p, (k, s) :: ps => (k = 0 → ∀ x, p = some x → x ∈ openL ∨ s ∈ closeL) ∧ Ch (some s) ps
theorem glue_open : ∀ x ∈ openL, ∀ t : Str, glueS x t = false := by
  have h : ∀ x ∈ openL, (cod x).getLast?.any isLet = false ∧ (cod x).getLast?.any isDig = false ∧ (["<", ">", "!"] : List Str).contains x = false ∧ decide (x = ("/" : Str)) = false := by decide +kernel
  intro x hx t
  obtain ⟨a, b, c, d⟩ := h x hx
  unfold glueS
  cases (cod t).head? with
  | none => rfl
  | some e =>
    show glue x e = false
    unfold glue
    rw [a, b, c, d]
    rfl
theorem glue_close : ∀ t ∈ closeL, ∀ x : Str, glueS x t = false := by
  have h : ∀ t ∈ closeL, ∃ c, (cod t).head? = some c ∧ isLet c = false ∧ isDig c = false ∧ decide (c = 61) = false ∧ decide (c = 47) = false := by
    intro t ht
    simp only [closeL, List.mem_cons, List.not_mem_nil, or_false] at ht
    rcases ht with rfl | rfl
    · exact ⟨41, by decide +kernel, by decide, by decide, by decide, by decide⟩
    · exact ⟨93, by decide +kernel, by decide, by decide, by decide, by decide⟩
  intro t ht x
  obtain ⟨c, e, a, b, d, f⟩ := h t ht
  unfold glueS
  rw [e]
  show glue x c = false
  unfold glue
  rw [a, b, d, f]
  simp
theorem Ch.apart : ∀ {ps : List (Nat × Str)} {o : Option Str}, Ch o ps → ∀ (i : Nat) (p q : Nat × Str), ps[i]? = some p → ps[i + 1]? = some q → q.1 = 0 → glueS p.2 q.2 = false
  | [], _, _, _, _, _, h, _, _ => by simp at h
  | (k, s) :: ps, o, hc, 0, p, q, h1, h2, h3 => by
    simp at h1
    subst h1
    match ps, hc.2, h2 with
    | (k', s') :: ps', hc2, h2 =>
      simp at h2
      subst h2
      rcases hc2.1 h3 s rfl with h | h
      · exact glue_open s h s'
      · exact glue_close s' h s
    | [], _, h2 => simp at h2
  | (k, s) :: ps, o, hc, i + 1, p, q, h1, h2, h3 => by
    simp only [List.getElem?_cons_succ] at h1 h2
    exact Ch.apart hc.2 i p q h1 h2 h3
/-! how long -/
end Rx
set_option Elab.async false
set_option linter.all false
set_option maxRecDepth 100000
set_option maxHeartbeats 1000000
namespace Rx
open PySem PySem.Spec PyProof.Rows L2 SX
/-! ### a text that is read as a tree has as many brackets as the tree needs -/
/-- the credit c pays for a node where l is wanted -/
def Gd (c n : Nat) (k l : Int) : Prop := n + (if k < l then 1 else 0) ≤ c
theorem Gd.mono {c n : Nat} {k l l' : Int} (h : Gd c n k l) (e : l' ≤ l) : Gd c n k l' := by
  unfold Gd at *
  split at h <;> split <;> omega
end Rx
set_option Elab.async false
set_option linter.all false
set_option maxRecDepth 100000
set_option maxHeartbeats 1000000
namespace Rx
open PySem PySem.Spec PyProof.Rows L2 SX
end Rx
set_option Elab.async false
set_option linter.all false
set_option maxRecDepth 100000
set_option maxHeartbeats 1000000
namespace Rx
open PySem PySem.Spec PyProof.Rows L2 SX
end Rx
set_option Elab.async false
set_option linter.all false
set_option maxRecDepth 100000
set_option maxHeartbeats 1000000
namespace L2
open PySem PySem.Spec PyProof.Rows
end L2
namespace Rx
open PySem PySem.Spec PyProof.Rows L2 SX
def NL (ns : List PyData) : Prop := ∀ d ∈ ns, d.canLay0 = true
def OL (os : List Str) : Prop := ∀ o ∈ os, PyData.strOk o = true
theorem OL.cons {s : Str} {os : List Str} (h : OL os) (hs : PyData.strOk s = true) : OL (s :: os) := fun o ho => by
  rcases List.mem_cons.mp ho with rfl | ho
  · exact hs
  · exact h o ho
theorem name_ok {w : List Nat} (h : isName w = true) : (dOf (.str (S w))).canLay0 = true := by
  show PyData.strOk (S w) = true
  refine str_ok fun c hc => ?_
  have e : cod (S w) = w := by simp [S]
  rw [e] at hc
  have h1 : w.all isLet = true := by
    have h2 := h
    rw [← e] at h2
    have := (name_parts h2).2.2.2
    rwa [e] at this
  have := (List.all_eq_true.mp h1) c hc
  unfold isLet at this
  rw [Bool.and_eq_true, decide_eq_true_eq, decide_eq_true_eq] at this
  omega
end Rx
set_option Elab.async false
set_option linter.all false
set_option maxRecDepth 100000
set_option maxHeartbeats 400000
namespace Rx
open PySem PySem.Spec PyProof.Rows L2 SX
/-! ### trees in a heap, of tuples or lists -/
inductive Rep : PyData → Tr → Prop where
  | num {d : PyData} {n : Int} : kids d = some [.str "number", .int n] → Rep d (.num n)
  | var {d : PyData} {x : Str} : kids d = some [.str "variable", .str x] → Rep d (.var x)
  | pre {d da : PyData} {w : Str} {a : Tr} : kids d = some [.str w, da] → Rep da a → Rep d (.pre w a)
  | bin {d da db : PyData} {w : Str} {a b : Tr} : kids d = some [.str w, da, db] → Rep da a → Rep db b → Rep d (.bin w a b)
def Tr.sz : Tr → Nat
  | .num _ => 3 | .var _ => 3 | .pre _ a => 6 + a.sz | .bin _ a b => 10 + (a.sz + b.sz)
def szB : Nat → Nat
  | 0 => 3
  | n + 1 => 2 * szB n + 10
theorem szB_ge (n : Nat) : 3 ≤ szB n := by
  induction n with
  | zero => simp [szB]
  | succ n ih => simp only [szB]; omega
theorem Ty.size {b : Bool} {n : Nat} {t : Tr} (h : Ty b n t) : t.sz ≤ szB n := by
  induction h with
  | @num k n h => exact szB_ge k
  | @var k x h => exact szB_ge k
  | neg _ ih => simp only [Tr.sz, szB]; omega
  | not_ _ ih => simp only [Tr.sz, szB]; omega
  | bin hw _ _ i1 i2 => simp only [Tr.sz, szB]; omega
  | cmp hw _ _ i1 i2 => simp only [Tr.sz, szB]; omega
  | log hw _ _ i1 i2 => simp only [Tr.sz, szB]; omega
/-! parts of a text -/
abbrev Part := Str ⊕ Tr
section
variable {K : PySem.W.Frag} {H : Hp}
theorem dpS {v : V} {x : Str} (h : Dp K H v (.str x)) : v = .str x := by cases h; rfl
theorem dpI {v : V} {i : Int} (h : Dp K H v (.int i)) : v = .int i := by cases h; rfl
def PartAt (K : PySem.W.Frag) (H : Hp) (v : V) : Part → Prop
  | .inl s => v = .str s
  | .inr t => ∃ d, Dp K H v d ∧ Rep d t
inductive PartsAt (K : PySem.W.Frag) (H : Hp) : List V → List Part → Prop where
  | nil : PartsAt K H [] []
  | cons {v : V} {p : Part} {vs : List V} {ps : List Part} : PartAt K H v p → PartsAt K H vs ps → PartsAt K H (v :: vs) (p :: ps)
theorem PartsAt.len {vs : List V} {ps : List Part} (h : PartsAt K H vs ps) : vs.length = ps.length := by
  induction h with
  | nil => rfl
  | cons _ _ ih => simp [ih]
end
end Rx
set_option Elab.async false
set_option linter.all false
set_option maxRecDepth 100000
set_option maxHeartbeats 1000000
namespace Rx
open PySem PySem.Spec PyProof.Rows L2 SX
/-! ### whatever is read is a good tree, not larger than its text -/
def Tr.gt : Tr → Prop
  | .num n => 0 ≤ n ∧ n.natAbs < 10 ^ 30
  | .var x => isName (cod x) = true
  | .pre w a => w ∈ prefL ∧ a.gt
  | .bin w a b => w ∈ binL ∧ a.gt ∧ b.gt
def opsB : List Str := prefL ++ (binL ++ (["(", "["] : List Str))
def GO (os : List Str) : Prop := ∀ o ∈ os, o ∈ opsB
theorem GO.cons {s : Str} {os : List Str} (h : GO os) (hs : s ∈ opsB) : GO (s :: os) := fun o ho => by
  rcases List.mem_cons.mp ho with rfl | ho
  · exact hs
  · exact h o ho
end Rx
set_option Elab.async false
set_option linter.all false
set_option maxRecDepth 100000
set_option maxHeartbeats 1000000
namespace Rx
open PySem PySem.Spec PyProof.Rows L2 SX
/-! ### programs: their lines, what stands in them, and what is wrong with them -/
inductive Stp where
  | proc (n : Str) | take (x : Str) | inp (x : Str) | recv (x s : Str) | set (x : Str) (t : Tr) | send (p : Str) (t : Tr) | iff (t : Tr) | whil (t : Tr) | els | fin | chk
def Stp.word : Stp → Str
  | .proc _ => "process" | .take _ => "take" | .inp _ => "input" | .recv _ _ => "receive" | .set _ _ => "set" | .send _ _ => "send" | .iff _ => "if" | .whil _ => "while" | .els => "else" | .fin => "end" | .chk => "checkpoint"
def Stp.rest : Stp → List PyData
  | .proc n => [.str n] | .take x => [.str x] | .inp x => [.str x] | .recv x s => [.str x, .str s] | .set x t => [.str x, t.data] | .send p t => [.str p, t.data] | .iff t => [t.data] | .whil t => [t.data] | _ => []
def Stp.data (s : Stp) : PyData := .tuple (.str s.word :: s.rest)
def Stp.good : Stp → Prop
  | .proc n => isName (cod n) = true | .take x => isName (cod x) = true | .inp x => isName (cod x) = true | .recv x s => isName (cod x) = true ∧ isName (cod s) = true
  | .set x t => isName (cod x) = true ∧ t.gt ∧ t.sz ≤ 9010 | .send x t => isName (cod x) = true ∧ t.gt ∧ t.sz ≤ 9010 | .iff t => t.gt ∧ t.sz ≤ 9010 | .whil t => t.gt ∧ t.sz ≤ 9010 | _ => True
/-! one line -/
abbrev par (z : Str) : Str × Str × Str := Txt.partition z " "
/-! the blocks of a program -/
/-! ### statements -/
inductive Smt where
  | lf (s : Stp)
  | wh (t : Tr) (b : List Smt)
  | ife (t : Tr) (a b : List Smt)
mutual
def Smt.data : Smt → PyData
  | .lf s => s.data
  | .wh t b => .tuple [.str "while", t.data, .tuple (sdata b)]
  | .ife t a b => .tuple [.str "if", t.data, .tuple (sdata a), .tuple (sdata b)]
def sdata : List Smt → List PyData
  | [] => []
  | s :: r => s.data :: sdata r
end
def leafS : Stp → Bool
  | .take _ => true | .inp _ => true | .recv _ _ => true | .set _ _ => true | .send _ _ => true | .chk => true | _ => false
mutual
def Smt.ok : Smt → Prop
  | .lf s => leafS s = true ∧ s.good
  | .wh t b => t.gt ∧ t.sz ≤ 9010 ∧ sok b
  | .ife t a b => t.gt ∧ t.sz ≤ 9010 ∧ sok a ∧ sok b
def sok : List Smt → Prop
  | [] => True
  | s :: r => s.ok ∧ sok r
end
/-! ### how the rows are built; last come first in heads and parts -/
structure BSt where
  rows : List (Str × List Smt)
  cur : Str
  parts : List (List Smt)
  heads : List Stp
def BSt.add (b : BSt) (x : Smt) : BSt := match b.parts with
  | [] => b
  | p :: ps => { b with parts := (p ++ [x]) :: ps }
def BSt.fin (b : BSt) : List (Str × List Smt) := match b.parts with
  | [p] => b.rows ++ [(b.cur, p)]
  | _ => b.rows
def BSt.close (b : BSt) : BSt := match b.heads, b.parts with
  | .whil t :: hs, p :: ps => BSt.add ⟨b.rows, b.cur, ps, hs⟩ (.wh t p)
  | .iff t :: hs, p :: ps => BSt.add ⟨b.rows, b.cur, ps, hs⟩ (.ife t p [])
  | .els :: .iff t :: hs, q :: p :: ps => BSt.add ⟨b.rows, b.cur, ps, hs⟩ (.ife t p q)
  | _, _ => b
def BSt.step (b : BSt) (s : Stp) : BSt := match s with
  | .proc n => ⟨b.fin, n, [[]], []⟩
  | .iff t => ⟨b.rows, b.cur, [] :: b.parts, .iff t :: b.heads⟩
  | .whil t => ⟨b.rows, b.cur, [] :: b.parts, .whil t :: b.heads⟩
  | .els => ⟨b.rows, b.cur, [] :: b.parts, .els :: b.heads⟩
  | .fin => b.close
  | s => b.add (.lf s)
def BSt.run (b : BSt) (ss : List Stp) : BSt := ss.foldl BSt.step b
end Rx
set_option Elab.async false
set_option linter.all false
set_option maxRecDepth 100000
set_option maxHeartbeats 1000000
namespace Rx
open PySem PySem.Spec PyProof.Rows L2 SX
theorem str_cod (z : Str) : S (cod z) = z := by simp [S]
end Rx
set_option Elab.async false
set_option linter.all false
set_option maxRecDepth 100000
set_option maxHeartbeats 1000000
namespace Rx
open PySem PySem.Spec PyProof.Rows L2 SX
theorem mk_readN {K : PySem.W.Frag} {C : Addr} {fs : List Str} {H : Hp} {vs : List V} {ps : List PyData} {Q : XK} (hd : DpAll K H vs ps) (hl : vs.length = fs.length) (hz : ∀ d ∈ ps, sz d ≤ 1000) (h1000 : fs.length ≤ 1000)
    (k : ∀ (H' : Hp) (dx : Addr) (us : List V), Same H H' → H dx = none → H' dx = some (.xd (fs.zip us).reverse) → DpAll K H' us (fixAll ps) → us.length = fs.length → Q (.ref C) (some dx) H') :
    vs.length ≤ 1000 ∧ ∀ a, H a = none → spInit K C fs (.ref a :: (vs ++ [])) (upd H a (exo a C none))
      (fun x H2 => x = .non ∧ ∃ (dx : Addr) (fs : List (Str × V)), H2 a = some (exo a C (some dx)) ∧ H2 dx = some (exd dx fs) ∧ H dx = none ∧ Q (.ref C) (some dx) (upd (del H2 a) dx (.xd fs))) (fun _ _ _ => False) := by
  refine ⟨by rw [hl]; exact h1000, fun a ha => ?_⟩
  rw [List.append_nil]
  refine ⟨a, vs, ps, rfl, hl, upd_same, dpAll_same (same_new ha) hd, hz, fun H' dx us h0 h1 h2 h3 h4 h5 => ⟨rfl, ?_⟩⟩
  have hda : dx ≠ a := fun z => by rw [z, upd_same] at h0; cases h0
  have hdn : H dx = none := by rw [upd_ne hda] at h0; exact h0
  have sm : Same H (upd (del H' a) dx (.xd (fs.zip us).reverse)) := fun b o e => by
    have ba := ne_of_none e ha
    rw [upd_ne (ne_of_none e hdn), del_ne ba]
    exact h4 b o (by rw [upd_ne ba]; exact e) ba
  refine ⟨dx, (fs.zip us).reverse, h1, h2, hdn, k _ dx us sm hdn upd_same ?_ h5⟩
  refine dpAll_keep (fun b xs e => ?_) (fun b ob w e => ?_) h3 (fixAll_noList _)
  · have n1 : b ≠ a := fun z => by rw [z, h1] at e; cases e
    have n2 : b ≠ dx := fun z => by rw [z, h2] at e; cases e
    rw [upd_ne n2, del_ne n1]
    exact e
  · have n1 : b ≠ a := fun z => by rw [z, h1] at e; cases e
    have n2 : b ≠ dx := fun z => by rw [z, h2] at e; cases e
    rw [upd_ne n2, del_ne n1]
    exact e
/-! ### the error for a program's line -/
def BadAt (CP : Addr) (H : Hp) (n : Nat) (r : Str) (E : XK) : Prop := ∀ (H' : Hp) (dx : Addr), Same H H' → H dx = none → H' dx = some (.xd [("reason", .str r), ("line", .int (n : Nat))]) → E (.ref CP) (some dx) H'
theorem BadAt.same {CP : Addr} {H H1 : Hp} {n : Nat} {r : Str} {E : XK} (h : BadAt CP H n r E) (s : Same H H1) : BadAt CP H1 n r E := fun H' dx sm hd hx => h H' dx (s.trans sm) (s.free hd) hx
end Rx
set_option Elab.async false
set_option linter.all false
set_option maxRecDepth 100000
set_option maxHeartbeats 1000000
/-! RxRec3: the error BadRecord, loops over enumerate of a tuple -/
namespace Rc
open PySem PySem.Spec PyProof.Rows L2 RZ Rx SX
/-- a name or None -/
inductive NmV : V → PyData → Prop where
  | non : NmV .non .none
  | str (x : Str) : NmV (.str x) (.str x)
theorem NmV.dp {K : PySem.W.Frag} {H : Hp} {v : V} {d : PyData} (h : NmV v d) : Dp K H v d := by
  cases h with
  | non => exact .non
  | str x => exact .str x
def RecAt (CR : Addr) (H : Hp) (r : Str) (v : V) (n : Nat) (E : XK) : Prop := ∀ (H' : Hp) (dx : Addr), Same H H' → H dx = none → H' dx = some (.xd [("number", .int (n : Nat)), ("name", v), ("reason", .str r)]) → E (.ref CR) (some dx) H'
theorem RecAt.same {CR : Addr} {H H1 : Hp} {n : Nat} {v : V} {r : Str} {E : XK} (h : RecAt CR H r v n E) (s : Same H H1) : RecAt CR H1 r v n E := fun H' dx sm hd hx => h H' dx (s.trans sm) (s.free hd) hx
theorem mk_rec {K : PySem.W.Frag} {CR : Addr} {H H0 : Hp} {n : Nat} {v : V} {d : PyData} {r : Str} {E : XK} (h : RecAt CR H0 r v n E) (s0 : Same H0 H) (hv : NmV v d) :
    [V.str r, v, V.int (n : Nat)].length ≤ 1000 ∧ ∀ a, H a = none → spInit K CR ["reason", "name", "number"] (.ref a :: ([V.str r, v, V.int (n : Nat)] ++ [])) (upd H a (exo a CR none))
      (fun x H2 => x = .non ∧ ∃ (dx : Addr) (fs : List (Str × V)), H2 a = some (exo a CR (some dx)) ∧ H2 dx = some (exd dx fs) ∧ H dx = none ∧ E (.ref CR) (some dx) (upd (del H2 a) dx (.xd fs))) (fun _ _ _ => False) := by
  refine mk_readN (ps := [.str r, d, .int (n : Nat)]) (.cons (.str _) (.cons hv.dp (.cons (.int _) .nil))) rfl (fun d' hd => ?_) (by decide) (fun H' dx us sm hdx hx hu hl => ?_)
  · simp only [List.mem_cons, List.not_mem_nil, or_false] at hd
    rcases hd with rfl | rfl | rfl
    · simp [sz]
    · cases hv <;> simp [sz]
    · simp [sz]
  · have e1 : ∀ {u}, Dp K H' u (fix d) → u = v := fun {u} hh => by
      cases hv with
      | non => cases (show Dp K H' u .none from hh); rfl
      | str x => exact dpS (show Dp K H' u (.str x) from hh)
    match us, hu with
    | [u0, u1, u2], .cons h0 (.cons h1 (.cons h2 .nil)) =>
      have e0 := dpS h0
      have e2 := dpI h2
      have e1 := e1 h1
      subst e0 e1 e2
      exact h H' dx (s0.trans sm) (s0.free hdx) hx
theorem walk_enumT {K : PySem.W.Frag} {a : Addr} {k : Int} {xs : List V} : Walk (Itet K a k) xs.length (fun H => SqT K H a xs) (YPair (fun i => some (.int (k + (i : Nat)))) (fun i => xs[i]?)) := by
  refine ⟨fun i _ hi q => ⟨xs, xs[i], q, by simp [hi]⟩, fun _ q => ⟨xs, q, Nat.le_refl _⟩, fun i H v H' _ q y => ?_⟩
  obtain ⟨T, x, h1, h2, h3, h4⟩ := y
  exact ⟨T, .int (k + (i : Nat)), x, h1, h2, h3, rfl, h4 xs q⟩
/-- for i, x in enumerate(t, start=k) -/
theorem for_enumT {K : PySem.W.Frag} {a : Addr} {k : Int} {xs : List V} {g : TG} {tb : TS} {D : Ends} {σ : L2.St} {H : Hp} (Pv : Nat → L2.St → Hp → Prop) (h0 : Pv 0 σ H) (hl : ∀ i σ H, i ≤ xs.length → Pv i σ H → SqT K H a xs)
    (hs : ∀ i x σ H, xs[i]? = some x → Pv i σ H → ∀ T, H T = none → g (.ref T) σ (upd H T (.tup [.int (k + (i : Nat)), x])) fun σ2 H2 => tb { D with nx := Pv (i + 1), ct := Pv (i + 1), bk := D.nx } σ2 H2) (hd : ∀ σ H, Pv xs.length σ H → D.nx σ H) :
    ∃ W : Nat → Nat → L2.St → Hp → Prop, (∃ m, W 0 m σ H) ∧ ∀ (i m : Nat) (σ : L2.St) (H : Hp), W i m σ H → (Itet K a k).stop i H ∧ D.nx σ H ∨ (Itet K a k).go i H ∧ ∃ N : L2.St → Hp → Prop, (∀ σ' H', N σ' H' → ∃ m', m' < m ∧ W (i + 1) m' σ' H') ∧ ∀ x H', (Itet K a k).yld i H x H' → g x σ H' fun σ2 H2 => tb { nx := N, rt := D.rt, bk := D.nx, ct := N } σ2 H2 := by
  refine for_it walk_enumT Pv h0 hl (fun i x σ H H' hi hp hy => ?_) hd
  obtain ⟨T, u, v, rfl, hT, rfl, h1, h2⟩ := hy
  injection h1 with h1
  subst h1
  exact hs i v σ H h2 hp T hT
/-! ### good rows -/
theorem rowOf_two {d : PyData} {n : Str} {es : List PyData} (h : rowOf d = some (n, es)) : d = .tuple [.str n, .tuple es] ∧ nameB n = true := by
  unfold rowOf at h
  split at h
  · split at h
    · rename_i hc
      injection h with h
      injection h with h1 h2
      subst h1 h2
      exact ⟨rfl, hc⟩
    · cases h
  · cases h
end Rc
namespace Rc
open PySem PySem.Spec PyProof.Rows L2 RZ Rx SX
theorem dpT_inv {K : PySem.W.Frag} {H : Hp} {x : V} {ds : List PyData} (h : Dp K H x (.tuple ds)) : ∃ q vs, x = .ref q ∧ SqT K H q vs ∧ DpAll K H vs ds := by
  cases h with
  | tup h1 h2 => exact ⟨_, _, rfl, h1, h2⟩
theorem dpAll_d {K : PySem.W.Frag} {H : Hp} {vs : List V} {d : PyData} {ds : List PyData} (h : DpAll K H vs (d :: ds)) : ∃ v vs', vs = v :: vs' ∧ Dp K H v d ∧ DpAll K H vs' ds := by
  cases h with
  | cons a b => exact ⟨_, _, rfl, a, b⟩
theorem dpAll_d0 {K : PySem.W.Frag} {H : Hp} {vs : List V} (h : DpAll K H vs []) : vs = [] := by
  cases h
  rfl
theorem row_dp {K : PySem.W.Frag} {H : Hp} {x : V} {n : Str} {es : List PyData} (h : Dp K H x (.tuple [.str n, .tuple es])) : ∃ q b vs, x = .ref q ∧ SqT K H q [.str n, .ref b] ∧ SqT K H b vs ∧ DpAll K H vs es := by
  obtain ⟨q, vs, rfl, hq, ha⟩ := dpT_inv h
  obtain ⟨v1, vs1, rfl, h1, ha⟩ := dpAll_d ha
  obtain ⟨v2, vs2, rfl, h2, ha⟩ := dpAll_d ha
  have := dpAll_d0 ha
  subst this
  have := dpS h1
  subst this
  obtain ⟨b, us, rfl, hb, hu⟩ := dpT_inv h2
  exact ⟨q, b, us, rfl, hq, hb, hu⟩
end Rc
namespace Rc
open PySem PySem.Spec PyProof.Rows L2 RZ Rx SX
def rowP (r : Str × List PyData) : PyData := .tuple [.str r.1, .tuple r.2]
theorem rows_of_bad : ∀ {ds : List PyData} {kn : List Str} {i : Nat}, rowBad kn i ds = none → ∃ rs : List (Str × List PyData), ds = rs.map rowP ∧ (∀ r ∈ rs, nameB r.1 = true) ∧ rowsOfD ds = rs
  | [], _, _, _ => ⟨[], rfl, fun _ h => (nomatch h), rfl⟩
  | d :: ds, kn, i, h => by
    cases hr : rowOf d with
    | none =>
      simp only [rowBad, hr] at h
      cases h
    | some r =>
      obtain ⟨n, es⟩ := r
      obtain ⟨hd, hn⟩ := rowOf_two hr
      simp only [rowBad, hr] at h
      split at h
      · cases h
      · obtain ⟨rs, h1, h2, h3⟩ := rows_of_bad h
        refine ⟨(n, es) :: rs, by rw [List.map_cons, ← h1, hd]; rfl, fun r hm => ?_, ?_⟩
        · rcases List.mem_cons.mp hm with rfl | hm
          · exact hn
          · exact h2 r hm
        · unfold rowsOfD
          rw [List.filterMap_cons, hr]
          exact congrArg _ h3
theorem evBad_off (os : List Str) : ∀ (ds : List PyData) (k : Nat), evBad os k ds = none → ∀ d ∈ ds, (evOf os d).isSome = true
  | [], _, _, _, h => nomatch h
  | d :: ds, k, h, e, hm => by
    unfold evBad at h
    split at h
    · rename_i hs
      rcases List.mem_cons.mp hm with rfl | hm
      · exact hs
      · exact evBad_off os ds (k + 1) h e hm
    · cases h
end Rc
set_option Elab.async false
set_option linter.all false
set_option maxRecDepth 100000
set_option maxHeartbeats 1000000
/-! RxMsg: messages of typed rows -/
namespace Rc
open PySem PySem.Spec PyProof.Rows L2 RZ Rx SX
abbrev EvId := Str × Nat
abbrev Flat := List (EvId × Ev)
def flatRow (n : Str) : Nat → List Ev → Flat
  | _, [] => []
  | k, e :: es => ((n, k), e) :: flatRow n (k + 1) es
def flatR : Rows → Flat
  | [] => []
  | (n, es) :: rs => flatRow n 1 es ++ flatR rs
theorem flatRow_snoc (n : Str) : ∀ (es : List Ev) (k : Nat) (e : Ev), flatRow n k (es ++ [e]) = flatRow n k es ++ [((n, k + es.length), e)]
  | [], k, e => rfl
  | x :: es, k, e => by
    show _ :: flatRow n (k + 1) (es ++ [e]) = _
    rw [flatRow_snoc n es (k + 1) e]
    show _ = _ :: (flatRow n (k + 1) es ++ [((n, k + (es.length + 1)), e)])
    rw [show k + 1 + es.length = k + (es.length + 1) by omega]
theorem flatRow_len (n : Str) : ∀ (es : List Ev) (k : Nat), (flatRow n k es).length = es.length
  | [], _ => rfl
  | x :: es, k => by
    show (flatRow n (k + 1) es).length + 1 = _
    rw [flatRow_len n es (k + 1)]
    rfl
theorem flatR_app : ∀ (rs qs : Rows), flatR (rs ++ qs) = flatR rs ++ flatR qs
  | [], _ => rfl
  | (n, es) :: rs, qs => by
    show flatRow n 1 es ++ flatR (rs ++ qs) = _
    rw [flatR_app rs qs, ← List.append_assoc]
    rfl
theorem flatR_one (n : Str) (es : List Ev) : flatR [(n, es)] = flatRow n 1 es := List.append_nil _
theorem flatRow_cons (n : Str) (es : List Ev) (k j : Nat) (e : Ev) (h : es[j]? = some e) : flatRow n (k + j) (es.drop j) = ((n, k + j), e) :: flatRow n (k + (j + 1)) (es.drop (j + 1)) := by
  have : es.drop j = e :: es.drop (j + 1) := by
    obtain ⟨h1, h2⟩ := List.getElem?_eq_some_iff.mp h
    rw [← h2, List.getElem_cons_drop]
  rw [this]
  rfl
def Ev.sendOf : Ev → Option (Str × Int)
  | .send p v => some (p, v) | _ => none
def Ev.recvOf : Ev → Option (Str × Int)
  | .recv p _ v => some (p, v) | .take p _ v => some (p, v) | _ => none
def sentF (fl : Flat) (a b : Str) : List (EvId × Int) := fl.filterMap fun x => if x.1.1 = a then (match x.2.sendOf with | some (p, v) => if p = b then some (x.1, v) else none | none => none) else none
/-- how many messages from a the process b has received -/
def recvN (fl : Flat) (a b : Str) : Nat := (fl.filter fun x => decide (x.1.1 = b) && decide (x.2.recvOf.map (·.1) = some a)).length
def matchF (all : Flat) : Flat → List (EvId × EvId) → Flat → Except EvId (List (EvId × EvId))
  | _, acc, [] => .ok acc
  | done, acc, x :: rest => match x.2.recvOf with
    | none => matchF all (done ++ [x]) acc rest
    | some (p, v) => match (sentF all p x.1.1)[recvN done p x.1.1]? with
      | some (s, v') => if v' = v then matchF all (done ++ [x]) (acc ++ [(s, x.1)]) rest else .error x.1
      | none => .error x.1
def matchR (rs : Rows) : Except EvId (List (EvId × EvId)) := matchF (flatR rs) [] [] (flatR rs)
theorem sentF_snoc (fl : Flat) (x : EvId × Ev) (a b : Str) : sentF (fl ++ [x]) a b = sentF fl a b ++ (if x.1.1 = a then (match x.2.sendOf with | some (p, v) => if p = b then [(x.1, v)] else [] | none => []) else []) := by
  unfold sentF
  rw [List.filterMap_append]
  congr 1
  rw [List.filterMap_cons]
  split
  · rename_i h
    split at h
    · rename_i h1
      rw [if_pos h1]
      split
      · rename_i p v hp
        rw [hp] at h
        simp only at h
        split at h
        · cases h
        · rename_i h2
          rw [if_neg h2]
          rfl
      · rfl
    · rename_i h1
      rw [if_neg h1]
      rfl
  · rename_i y h
    split at h
    · rename_i h1
      rw [if_pos h1]
      split at h
      · rename_i p v hp
        split at h
        · rename_i h2
          injection h with h
          rw [if_pos h2, ← h]
          rfl
        · cases h
      · cases h
    · cases h
theorem recvN_snoc (fl : Flat) (x : EvId × Ev) (a b : Str) : recvN (fl ++ [x]) a b = recvN fl a b + (if x.1.1 = b ∧ x.2.recvOf.map (·.1) = some a then 1 else 0) := by
  unfold recvN
  rw [List.filter_append, List.length_append]
  congr 1
  by_cases h1 : x.1.1 = b <;> by_cases h2 : x.2.recvOf.map (·.1) = some a <;> simp [h1, h2]
theorem sentF_le (fl : Flat) (a b : Str) : (sentF fl a b).length ≤ fl.length := List.length_filterMap_le ..
/-! ### values of an event's parts -/
def Ev.restV : Ev → List V
  | .set x v => [.str x, .int v] | .inp x v => [.str x, .int v] | .send p v => [.str p, .int v] | .recv p x v => [.str p, .str x, .int v] | .take p x v => [.str p, .str x, .int v] | .chk => []
theorem dp_two {K : PySem.W.Frag} {H : Hp} {vs : List V} {x : Str} {v : Int} (ha : DpAll K H vs [.str x, .int v]) : vs = [.str x, .int v] := by
  obtain ⟨v1, vs1, rfl, h1, ha⟩ := dpAll_d ha
  obtain ⟨v2, vs2, rfl, h2, ha⟩ := dpAll_d ha
  have := dpAll_d0 ha
  subst this
  rw [dpS h1, dpI h2]
theorem dp_three {K : PySem.W.Frag} {H : Hp} {vs : List V} {p x : Str} {v : Int} (ha : DpAll K H vs [.str p, .str x, .int v]) : vs = [.str p, .str x, .int v] := by
  obtain ⟨v1, vs1, rfl, h1, ha⟩ := dpAll_d ha
  rw [dp_two ha, dpS h1]
theorem ev_dp {K : PySem.W.Frag} {H : Hp} {x : V} {e : Ev} (h : Dp K H x e.data) : ∃ q, x = .ref q ∧ SqT K H q (V.str e.word :: e.restV) := by
  obtain ⟨q, vs, rfl, hq, ha⟩ := dpT_inv h
  obtain ⟨v0, vs0, rfl, h0, hb⟩ := dpAll_d ha
  have e0 := dpS h0
  subst e0
  refine ⟨q, rfl, ?_⟩
  suffices vs0 = e.restV by rw [← this]; exact hq
  cases e with
  | chk => exact dpAll_d0 hb
  | set x v => exact dp_two hb
  | inp x v => exact dp_two hb
  | send x v => exact dp_two hb
  | recv p x v => exact dp_three hb
  | take p x v => exact dp_three hb
theorem word_send (e : Ev) : decide (V.str e.word = V.str "send") = e.sendOf.isSome := by
  cases e with
  | set _ _ => exact (show decide (V.str "set" = V.str "send") = false by decide +kernel)
  | inp _ _ => exact (show decide (V.str "input" = V.str "send") = false by decide +kernel)
  | send _ _ => exact (show decide (V.str "send" = V.str "send") = true by decide +kernel)
  | recv _ _ _ => exact (show decide (V.str "receive" = V.str "send") = false by decide +kernel)
  | take _ _ _ => exact (show decide (V.str "take" = V.str "send") = false by decide +kernel)
  | chk => exact (show decide (V.str "checkpoint" = V.str "send") = false by decide +kernel)
theorem word_recv (e : Ev) : (["receive", "take"] : List Str).contains e.word = e.recvOf.isSome := by
  cases e with
  | set _ _ => exact (show (["receive", "take"] : List Str).contains "set" = false by decide +kernel)
  | inp _ _ => exact (show (["receive", "take"] : List Str).contains "input" = false by decide +kernel)
  | send _ _ => exact (show (["receive", "take"] : List Str).contains "send" = false by decide +kernel)
  | recv _ _ _ => exact (show (["receive", "take"] : List Str).contains "receive" = true by decide +kernel)
  | take _ _ _ => exact (show (["receive", "take"] : List Str).contains "take" = true by decide +kernel)
  | chk => exact (show (["receive", "take"] : List Str).contains "checkpoint" = false by decide +kernel)
theorem send_rest {e : Ev} {p : Str} {v : Int} (h : e.sendOf = some (p, v)) : e = .send p v ∧ e.restV = [.str p, .int v] := by
  cases e <;> first | (injection h with h; injection h with h1 h2; subst h1 h2; exact ⟨rfl, rfl⟩) | cases h
theorem recv_rest {e : Ev} {p : Str} {v : Int} (h : e.recvOf = some (p, v)) : ∃ x, e.restV = [.str p, .str x, .int v] := by
  cases e <;> first | (injection h with h; injection h with h1 h2; subst h1 h2; exact ⟨_, rfl⟩) | cases h
/-- rows of names and events -/
structure RowsT (K : PySem.W.Frag) (H : Hp) (t : Addr) (xs : List V) (rs : Rows) : Prop where
  tu : SqT K H t xs
  dp : DpAll K H xs (rs.map rowE)
  few : rs.length ≤ 40
  len : ∀ r ∈ rs, r.2.length ≤ 1000
theorem RowsT.same {K : PySem.W.Frag} {H H1 : Hp} {t : Addr} {xs : List V} {rs : Rows} (h : RowsT K H t xs rs) (s : Same H H1) : RowsT K H1 t xs rs := ⟨sqT_same s h.tu, dpAll_same s h.dp, h.few, h.len⟩
theorem RowsT.at_ {K : PySem.W.Frag} {H : Hp} {t : Addr} {xs : List V} {rs : Rows} (h : RowsT K H t xs rs) {i : Nat} {x : V} (hx : xs[i]? = some x) : ∃ r q b us, rs[i]? = some r ∧ x = .ref q ∧ SqT K H q [.str r.1, .ref b] ∧ SqT K H b us ∧ DpAll K H us (r.2.map Ev.data) := by
  obtain ⟨d, hd, hp⟩ := dpAll_at h.dp hx
  rw [List.getElem?_map] at hd
  cases hr : rs[i]? with
  | none => rw [hr] at hd; cases hd
  | some r =>
    rw [hr] at hd
    injection hd with hd
    subst hd
    obtain ⟨q, b, us, rfl, h1, h2, h3⟩ := row_dp hp
    exact ⟨r, q, b, us, rfl, rfl, h1, h2, h3⟩
theorem RowsT.ln {K : PySem.W.Frag} {H : Hp} {t : Addr} {xs : List V} {rs : Rows} (h : RowsT K H t xs rs) : xs.length = rs.length := by rw [dpAll_len h.dp, List.length_map]
theorem ev_at {K : PySem.W.Frag} {H : Hp} {us : List V} {es : List Ev} (h : DpAll K H us (es.map Ev.data)) {j : Nat} {x : V} (hx : us[j]? = some x) : ∃ e q, es[j]? = some e ∧ x = .ref q ∧ SqT K H q (V.str e.word :: e.restV) := by
  obtain ⟨d, hd, hp⟩ := dpAll_at h hx
  rw [List.getElem?_map] at hd
  cases hr : es[j]? with
  | none => rw [hr] at hd; cases hd
  | some e =>
    rw [hr] at hd
    injection hd with hd
    subst hd
    obtain ⟨q, rfl, hq⟩ := ev_dp hp
    exact ⟨e, q, rfl, rfl, hq⟩
theorem flat_len {rs : Rows} (h : ∀ r ∈ rs, r.2.length ≤ 1000) : (flatR rs).length ≤ 1000 * rs.length := by
  induction rs with
  | nil => exact Nat.le_refl _
  | cons r rs ih =>
    obtain ⟨n, es⟩ := r
    show (flatRow n 1 es ++ flatR rs).length ≤ _
    rw [List.length_append, flatRow_len, List.length_cons]
    have h1 := h (n, es) (List.mem_cons_self ..)
    have h2 := ih fun r hr => h r (List.mem_cons_of_mem _ hr)
    simp only at h1
    omega
end Rc
set_option Elab.async false
set_option linter.all false
set_option maxRecDepth 100000
set_option maxHeartbeats 1000000
/-! XRe: sends_by_channel -/
namespace XE
open PySem PySem.Spec PyProof.Rows L2 RZ Rx SX Rc
abbrev sSendsBy : Stmt := topS 27
abbrev chK (a b : Str) : List Key := [Sum.inr a, Sum.inr b]
/-- an event's tuple of name and number -/
def IdAt (H : Hp) (q : Addr) (x : EvId) : Prop := H q = some (.tup [.str x.1, .int (x.2 : Nat)])
/-- a tuple of an event and a value -/
def SentAt (H : Hp) (v : V) (s : EvId × Int) : Prop := ∃ q t, v = .ref q ∧ H q = some (.tup [.ref t, .int s.2]) ∧ IdAt H t s.1
def SentL (H : Hp) (us : List V) (ss : List (EvId × Int)) : Prop := Paired (SentAt H) us ss
structure SendsAt (H : Hp) (D : Addr) (fl : Flat) (kvs : List (List Key × V)) : Prop where
  at_ : H D = some (.dT kvs)
  few : kvs.length ≤ fl.length
  val : ∀ a b, (valV kvs (chK a b) = none ∧ sentF fl a b = []) ∨ ∃ L us, valV kvs (chK a b) = some (.ref L) ∧ H L = some (.lst us) ∧ SentL H us (sentF fl a b)
  inj : ∀ a b a' b' L, valV kvs (chK a b) = some (.ref L) → valV kvs (chK a' b') = some (.ref L) → a = a' ∧ b = b'
theorem SentAt.same {H H1 : Hp} {v : V} {s : EvId × Int} (h : SentAt H v s) (e : Same H H1) : SentAt H1 v s := by
  obtain ⟨q, t, h1, h2, h3⟩ := h
  exact ⟨q, t, h1, e _ _ h2, e _ _ h3⟩
theorem paired_imp {α β : Type} {R R' : α → β → Prop} (k : ∀ a b, R a b → R' a b) : ∀ {xs : List α} {ys : List β}, Paired R xs ys → Paired R' xs ys
  | _, _, .nil => .nil
  | _, _, .cons h t => .cons (k _ _ h) (paired_imp k t)
theorem paired_app {α β : Type} {R : α → β → Prop} : ∀ {xs : List α} {ys : List β} {zs : List α} {ws : List β}, Paired R xs ys → Paired R zs ws → Paired R (xs ++ zs) (ys ++ ws)
  | _, _, _, _, .nil, h2 => h2
  | _, _, _, _, .cons h t, h2 => .cons h (paired_app t h2)
theorem SentL.same {H H1 : Hp} {us : List V} {ss : List (EvId × Int)} (h : SentL H us ss) (e : Same H H1) : SentL H1 us ss := paired_imp (fun _ _ x => x.same e) h
theorem SendsAt.same {H H1 : Hp} {D : Addr} {fl : Flat} {kvs : List (List Key × V)} (h : SendsAt H D fl kvs) (e : Same H H1) : SendsAt H1 D fl kvs := by
  refine ⟨e _ _ h.at_, h.few, fun a b => ?_, h.inj⟩
  rcases h.val a b with h | ⟨L, us, h1, h2, h3⟩
  · exact .inl h
  · exact .inr ⟨L, us, h1, e _ _ h2, h3.same e⟩
/-- a tuple stays where lists and dicts change -/
theorem SentAt.keep {H H1 : Hp} {v : V} {s : EvId × Int} (h : SentAt H v s) (k : ∀ b xs, H b = some (.tup xs) → H1 b = some (.tup xs)) : SentAt H1 v s := by
  obtain ⟨q, t, h1, h2, h3⟩ := h
  exact ⟨q, t, h1, k _ _ h2, k _ _ h3⟩
theorem chK_eq {a b a' b' : Str} : chK a b = chK a' b' ↔ a = a' ∧ b = b' := by
  constructor
  · intro h
    injection h with h1 h2
    injection h1 with h1
    injection h2 with h2 _
    injection h2 with h2
    exact ⟨h1, h2⟩
  · rintro ⟨rfl, rfl⟩
    rfl
theorem SendsAt.skip {H : Hp} {D : Addr} {fl : Flat} {kvs : List (List Key × V)} (h : SendsAt H D fl kvs) {x : EvId × Ev} (hx : x.2.sendOf = none) : SendsAt H D (fl ++ [x]) kvs := by
  have e : ∀ a b, sentF (fl ++ [x]) a b = sentF fl a b := fun a b => by
    rw [sentF_snoc, hx]
    split <;> exact List.append_nil _
  refine ⟨h.at_, Nat.le_trans h.few (by simp), fun a b => ?_, h.inj⟩
  rw [e]
  exact h.val a b
theorem sends_step {Hs H7 : Hp} {D L T I : Addr} {fl : Flat} {kvs kvs' : List (List Key × V)} {us : List V} {n p : Str} {k : Nat} {v : Int} {e : Ev} (S : SendsAt Hs D fl kvs) (sm : ∀ b o, Hs b = some o → b ≠ D → H7 b = some o) (hD : H7 D = some (.dT kvs'))
    (hv : ∀ a b, valV kvs' (chK a b) = if a = n ∧ b = p then some (.ref L) else valV kvs (chK a b)) (hl : kvs'.length ≤ fl.length + 1) (hL : H7 L = some (.lst us)) (hS : SentL H7 us (sentF fl n p)) (hnew : ∀ a b, ¬ (a = n ∧ b = p) → valV kvs (chK a b) ≠ some (.ref L))
    (hT : H7 T = some (.tup [.ref I, .int v])) (hI : H7 I = some (.tup [.str n, .int (k : Nat)])) (he : e.sendOf = some (p, v)) : SendsAt (upd H7 L (.lst (us ++ [.ref T]))) D (fl ++ [((n, k), e)]) kvs' := by
  have LD : D ≠ L := ne_of hD hL (by intro z; cases z)
  have tk : ∀ b xs, H7 b = some (.tup xs) → upd H7 L (.lst (us ++ [.ref T])) b = some (.tup xs) := fun b xs h => by
    rw [upd_ne (ne_of h hL (by intro z; cases z))]
    exact h
  refine ⟨by rw [upd_ne LD]; exact hD, by rw [List.length_append]; exact hl, fun a b => ?_, fun a b a' b' L' h1 h2 => ?_⟩
  · rw [hv, sentF_snoc]
    by_cases c : a = n ∧ b = p
    · obtain ⟨rfl, rfl⟩ := c
      rw [if_pos ⟨rfl, rfl⟩]
      refine .inr ⟨L, _, rfl, upd_same, paired_app (paired_imp (fun _ _ x => x.keep tk) hS) ?_⟩
      rw [if_pos rfl, he]
      show Paired _ _ (if b = b then _ else _)
      rw [if_pos rfl]
      exact .cons ⟨T, I, rfl, tk _ _ hT, tk _ _ hI⟩ .nil
    · rw [if_neg c]
      have z : (if n = a then (match e.sendOf with | some (p, v) => if p = b then [(((n, k) : EvId), v)] else [] | none => []) else [] : List (EvId × Int)) = [] := by
        split
        · rename_i h1
          rw [he]
          show (if p = b then _ else _) = _
          rw [if_neg fun h2 => c ⟨h1.symm, h2.symm⟩]
        · rfl
      show (_ ∧ sentF fl a b ++ (if n = a then (match e.sendOf with | some (p, v) => if p = b then [(((n, k) : EvId), v)] else [] | none => []) else []) = []) ∨ ∃ L us, _ ∧ _ ∧ SentL _ us (sentF fl a b ++ (if n = a then (match e.sendOf with | some (p, v) => if p = b then [(((n, k) : EvId), v)] else [] | none => []) else []))
      rw [z, List.append_nil]
      rcases S.val a b with ⟨h1, h2⟩ | ⟨L', us', h1, h2, h3⟩
      · exact .inl ⟨h1, h2⟩
      · have nd : L' ≠ D := (ne_of S.at_ h2 (by intro z; cases z)).symm
        have nl : L' ≠ L := fun z => hnew a b c (by rw [h1, z])
        refine .inr ⟨L', us', h1, by rw [upd_ne nl]; exact sm _ _ h2 nd, paired_imp (fun _ _ x => x.keep fun b xs hb => tk b xs (sm _ _ hb (ne_of hb S.at_ (by intro z; cases z)))) h3⟩
  · rw [hv] at h1 h2
    by_cases c : a = n ∧ b = p <;> by_cases c' : a' = n ∧ b' = p
    · exact ⟨c.1.trans c'.1.symm, c.2.trans c'.2.symm⟩
    · rw [if_pos c] at h1
      rw [if_neg c'] at h2
      injection h1 with h1
      injection h1 with h1
      subst h1
      exact absurd h2 (hnew _ _ c')
    · rw [if_neg c] at h1
      rw [if_pos c'] at h2
      injection h2 with h2
      injection h2 with h2
      subst h2
      exact absurd h1 (hnew _ _ c)
    · rw [if_neg c] at h1
      rw [if_neg c'] at h2
      exact S.inj _ _ _ _ _ h1 h2
def spSends (K : PySem.W.Frag) : Sp := fun vs H Q _ => ∃ (t : Addr) (xs : List V) (rs : Rows), vs = [.ref t] ∧ RowsT K H t xs rs ∧ ∀ (D : Addr) (kvs : List (List Key × V)) (H' : Hp), Same H H' → SendsAt H' D (flatR rs) kvs → Q (.ref D) H'
section
variable {P : Program} {w : World} {K : PySem.W.Frag} {mg : Str → Option Value} {base : Heap}
abbrev sbN : List Str := ["rows", "sends", "name", "events", "number", "event"]
theorem scSB : FnScope sbN ["rows"] (defScope sSendsBy) := ⟨rfl, rfl, rfl, by decide +kernel, rfl, by decide +kernel, by decide +kernel⟩
theorem ok_sendsBy {f : Addr} {fd : FuncData} (F : Fun K "sends_by_channel" "sends_by_channel" sSendsBy f fd) (menum : mg "enumerate" = none) : FnOk P w K mg base CX0 1 f fd ["rows"] (spSends K) := by
  refine F.ok scSB (fun vs H Q E h => ?_) (fun cdv A outer s H vs Q E hr h => ?_)
  · obtain ⟨_, _, _, rfl, _⟩ := h
    rfl
  · obtain ⟨t, xs, rs, rfl, R, k⟩ := h
    have hu := hu_of hr
    have hu2 := Nat.lt_of_le_of_lt (Nat.add_le_add_left (show 2 ≤ 64 by decide) _) hr.units
    refine ⟨_, (pss_cons (ps_set (i := 1) scSB.nd rfl (.inl rfl) pe_dnewT) (pss_cons (ps_for PassesOwn.never rfl (pi_tup (pv 0)) (pg_tup rfl (pgs_cons (pg_name (i := 2) scSB.nd rfl (.inl rfl)) (pgs_cons (pg_name (i := 3) scSB.nd rfl (.inl rfl)) pgs_nil))) (pss_one (ps_for PassesOwn.never rfl (pi_enumTS (by rfl) menum (pa_cons (pv 3) pa_nil)) (pg_tup rfl (pgs_cons (pg_name (i := 4) scSB.nd rfl (.inl rfl)) (pgs_cons (pg_name (i := 5) scSB.nd rfl (.inl rfl)) pgs_nil))) (pss_one (ps_if (pt_cmpR op_eq (pe_ix ix_tup (pv 5) pe_int (fun _ _ => rfl)) pe_str (nomark _)) (pss_one (ps_expr (pe_bm PySem.F.plainAttrs_list PySem.F.slot_list_append PySem.F.type_list_append mt_append (pe_dsetdT hu2 (pv 1) (pe_tup (pa_cons (pv 2) (pa_cons (pe_ix ix_tup (pv 5) pe_int (fun _ _ => rfl)) pa_nil))) (pe_lst pa_nil) ⟨rfl, rfl, rfl, rfl⟩) (pa_cons (pe_tup (pa_cons (pe_tup (pa_cons (pv 2) (pa_cons (pv 4) pa_nil))) (pa_cons (pe_ix ix_tup (pv 5) pe_int (fun _ _ => rfl)) pa_nil))) pa_nil)))) pss_nil))))) (pss_one (ps_ret (pv 1))))), ?_⟩
    have hln := R.ln
    have hfl := flat_len R.len
    refine fun D nD => ?_
    have s0 := same_new (o := .dT []) nD
    have S0 : SendsAt (upd H D (.dT [])) D (flatR (rs.take 0)) [] := ⟨upd_same, Nat.le_refl _, fun a b => .inl ⟨rfl, rfl⟩, fun a b a' b' L h => nomatch h⟩
    refine ⟨_, rfl, t, rfl, ⟨_, sqT_same s0 R.tu⟩, ?_⟩
    refine for_tup (fun i σ Hx => ∃ (x2 x3 x4 x5 : Option V) (kvs : List (List Key × V)), σ = [some (.ref t), some (.ref D), x2, x3, x4, x5] ∧ Same H Hx ∧ SendsAt Hx D (flatR (rs.take i)) kvs ∧ ∀ a b L, valV kvs (chK a b) = some (.ref L) → H L = none) ⟨_, _, _, _, _, rfl, s0, S0, fun a b L h => nomatch h⟩ (fun i σ Hx _ ⟨_, _, _, _, _, _, sm, _⟩ => sqT_same sm R.tu) ?_ ?_
    · rintro i x σ Hx hx ⟨x2, x3, x4, x5, kvs, rfl, sm, S, nw⟩
      obtain ⟨r, q, b, us, hr', rfl, hq, hb', hus⟩ := R.at_ hx
      obtain ⟨n, es⟩ := r
      have hmem := List.mem_of_getElem? hr'
      have hul := dpAll_len hus
      rw [List.length_map] at hul
      refine ⟨q, _, rfl, sqT_same sm hq, rfl, _, _, rfl, _, _, rfl, rfl, ?_⟩
      refine ⟨_, rfl, b, us, rfl, sqT_same sm hb', ?_⟩
      have ei : flatR (rs.take i) = flatR (rs.take i) ++ flatRow n 1 (es.take 0) := (List.append_nil _).symm
      refine for_enumT (fun j σ Hy => ∃ (x4 x5 : Option V) (kvs : List (List Key × V)), σ = [some (.ref t), some (.ref D), some (.str n), some (.ref b), x4, x5] ∧ Same H Hy ∧ SendsAt Hy D (flatR (rs.take i) ++ flatRow n 1 (es.take j)) kvs ∧ ∀ a b L, valV kvs (chK a b) = some (.ref L) → H L = none) ⟨_, _, _, rfl, sm, by rw [← ei]; exact S, nw⟩ (fun i σ Hy _ ⟨_, _, _, _, sy, _⟩ => sqT_same sy hb') ?_ ?_
      · rintro j v σ Hy hv ⟨x4, x5, kvs, rfl, sy, S, nw⟩ T nT
        obtain ⟨e, qe, hej, rfl, hqe⟩ := ev_at (dpAll_same sy hus) hv
        have s3 : Same Hy (upd Hy T (.tup [.int (1 + (j : Nat)), .ref qe])) := same_new nT
        have hT := SqT.of (K := K) (upd_same (H := Hy) (a := T) (o := .tup [.int (1 + (j : Nat)), .ref qe]))
        generalize upd Hy T (.tup [.int (1 + (j : Nat)), .ref qe]) = H3 at s3 hT ⊢
        rw [show ((1 : Int) + (j : Int)) = ((1 + j : Nat) : Int) by omega] at hT
        refine ⟨T, _, rfl, hT, rfl, _, _, rfl, _, _, rfl, rfl, ?_⟩
        replace hej : es[j]? = some e := hej
        have hqe3 := sqT_same s3 hqe
        have ej : es.take (j + 1) = es.take j ++ [e] := by rw [List.take_add_one, hej]; rfl
        have hjl : (es.take j).length = j := by
          have := (List.getElem?_eq_some_iff.mp hej).1
          rw [List.length_take]; omega
        have ef : flatR (rs.take i) ++ flatRow n 1 (es.take (j + 1)) = (flatR (rs.take i) ++ flatRow n 1 (es.take j)) ++ [((n, 1 + j), e)] := by
          rw [ej, flatRow_snoc, hjl, List.append_assoc]
        have hlen : (flatR (rs.take i) ++ flatRow n 1 (es.take j)).length ≤ 41000 := by
          have h1 := flat_len (rs := rs.take i) fun r hr => R.len r (List.mem_of_mem_take hr)
          have h2 := R.len _ hmem
          have h3 := R.few
          simp only at h2
          rw [List.length_append, flatRow_len, hjl]
          rw [List.length_take] at h1
          have := (List.getElem?_eq_some_iff.mp hej).1
          omega
        generalize flatR (rs.take i) ++ flatRow n 1 (es.take j) = fl at S ef hlen
        rw [ef]
        refine ⟨_, rfl, qe, _, 0, _, rfl, rfl, hqe3, atI_nat (j := 0) rfl, rfl, _, rfl, ?_⟩
        rw [word_send]
        cases hso : e.sendOf with
        | none => exact iteFc rfl ⟨_, _, kvs, rfl, sy.trans s3, (S.same s3).skip hso, nw⟩
        | some pv =>
        obtain ⟨p, v⟩ := pv
        obtain ⟨_, hrest⟩ := send_rest hso
        rw [hrest] at hqe3
        refine iteTc rfl ?_
        have S3 := S.same s3
        have hD3 := S3.at_
        refine ⟨_, rfl, D, _, rfl, hD3, _, rfl, _, rfl, qe, _, 1, _, rfl, rfl, hqe3, atI_nat (j := 1) rfl, (by show 2 ≤ sizeLine; decide), fun U nU => ⟨by show 0 ≤ sizeLine; decide, fun O nO => ?_⟩⟩
        have hU := upd_same (H := H3) (a := U) (o := .tup [.str n, .str p])
        have s4 := (same_new (o := .tup [.str n, .str p]) nU).trans (same_new (o := .lst []) nO)
        have hU4 := same_new (o := .lst []) nO _ _ hU
        have hO4 := upd_same (H := upd H3 U (.tup [.str n, .str p])) (a := O) (o := .lst [])
        have nO3 := (same_new (o := .tup [.str n, .str p]) nU).free nO
        generalize upd (upd H3 U (.tup [.str n, .str p])) O (.lst []) = H4 at s4 hU4 hO4 ⊢
        have S4 := S3.same s4
        have hD4 := S4.at_
        have hqe4 := sqT_same s4 hqe3
        have sm4 := (sy.trans s3).trans s4
        have hDH : H D = none := nD
        have kl : kvs.length < sizeLine := fitR (Nat.le_trans S.few (Nat.le_trans hlen (by decide)))
        have uls : ∀ {Hz : Hp} {uz : List V}, SentL Hz uz (sentF fl n p) → uz.length < sizeLine := fun h => fitR (by rw [Paired.length h]; exact Nat.le_trans (sentF_le ..) (Nat.le_trans hlen (by decide)))
        refine ⟨kvs, chK n p, U, hD4, rfl, hU4, kl, fun v' hv' => ?_, fun hv' => ?_⟩
        · obtain ⟨L, us0, hL1, hL2, hL3⟩ : ∃ L us, valV kvs (chK n p) = some (.ref L) ∧ H4 L = some (.lst us) ∧ SentL H4 us (sentF fl n p) := by
            rcases S4.val n p with ⟨h, _⟩ | h
            · rw [h] at hv'; cases hv'
            · exact h
          rw [hL1] at hv'
          injection hv' with hv'
          subst hv'
          refine ⟨.inl ⟨rfl, _, SqL.of hL2⟩, _, rfl, _, rfl, (by show 2 ≤ sizeLine; decide), fun I nI => ?_⟩
          have s6 := same_new (o := .tup [.str n, .int ((1 + j : Nat) : Int)]) nI
          have hI := upd_same (H := H4) (a := I) (o := .tup [.str n, .int ((1 + j : Nat) : Int)])
          generalize upd H4 I (.tup [.str n, .int ((1 + j : Nat) : Int)]) = H6 at s6 hI ⊢
          refine ⟨_, rfl, qe, _, 2, _, rfl, rfl, sqT_same s6 hqe4, atI_nat (j := 2) rfl, (by show 2 ≤ sizeLine; decide), fun T7 nT7 => ?_⟩
          have s7 := same_new (o := .tup [.ref I, .int v]) nT7
          have hT7 := upd_same (H := H6) (a := T7) (o := .tup [.ref I, .int v])
          have hI7 := s7 _ _ hI
          generalize upd H6 T7 (.tup [.ref I, .int v]) = H7 at s7 hT7 hI7 ⊢
          have s67 := s6.trans s7
          have hL7 := s67 _ _ hL2
          have nLH := nw _ _ _ hL1
          refine ⟨L, _, _, rfl, rfl, hL7, uls hL3, _, _, kvs, rfl, same_upd (sm4.trans s67) nLH, sends_step S4 (fun b o h _ => s67 b o h) (s67 _ _ hD4) (fun a b => ?_) (Nat.le_succ_of_le S.few) hL7 (hL3.same s67) (fun a b hn hz => hn (S4.inj _ _ _ _ _ hz hL1)) hT7 hI7 hso, nw⟩
          split
          · rename_i h
            rw [h.1, h.2, hL1]
          · rfl
        · have h0 : sentF fl n p = [] := by
            rcases S4.val n p with ⟨_, h⟩ | ⟨L, us, h, _⟩
            · exact h
            · rw [h] at hv'; cases hv'
          have nOD : O ≠ D := (ne_of hD4 hO4 (by intro z; cases z)).symm
          have hO5 : upd H4 D (.dT (putK kvs (chK n p) (.ref O))) O = some (.lst []) := by rw [upd_ne nOD]; exact hO4
          have hD5 := upd_same (H := H4) (a := D) (o := .dT (putK kvs (chK n p) (.ref O)))
          have e5 : ∀ b o, H4 b = some o → b ≠ D → upd H4 D (.dT (putK kvs (chK n p) (.ref O))) b = some o := fun b o h nb => by rw [upd_ne nb]; exact h
          have sm5 := same_upd (o := .dT (putK kvs (chK n p) (.ref O))) sm4 hDH
          have hqe5 : SqT K (upd H4 D (.dT (putK kvs (chK n p) (.ref O)))) qe _ := sqT_keep (fun b xs h => e5 b _ h (ne_of h hD4 (by intro z; cases z))) (fun b o u h => e5 b _ h (ne_of h hD4 (by intro z; cases z))) hqe4
          generalize upd H4 D (.dT (putK kvs (chK n p) (.ref O))) = H5 at hO5 hD5 e5 sm5 hqe5 ⊢
          refine ⟨.inl ⟨rfl, _, SqL.of hO5⟩, _, rfl, _, rfl, (by show 2 ≤ sizeLine; decide), fun I nI => ?_⟩
          have s6 := same_new (o := .tup [.str n, .int ((1 + j : Nat) : Int)]) nI
          have hI := upd_same (H := H5) (a := I) (o := .tup [.str n, .int ((1 + j : Nat) : Int)])
          generalize upd H5 I (.tup [.str n, .int ((1 + j : Nat) : Int)]) = H6 at s6 hI ⊢
          refine ⟨_, rfl, qe, _, 2, _, rfl, rfl, sqT_same s6 hqe5, atI_nat (j := 2) rfl, (by show 2 ≤ sizeLine; decide), fun T7 nT7 => ?_⟩
          have s7 := same_new (o := .tup [.ref I, .int v]) nT7
          have hT7 := upd_same (H := H6) (a := T7) (o := .tup [.ref I, .int v])
          have hI7 := s7 _ _ hI
          generalize upd H6 T7 (.tup [.ref I, .int v]) = H7 at s7 hT7 hI7 ⊢
          have s67 := s6.trans s7
          have hL7 := s67 _ _ hO5
          have nLH : H O = none := ((sy.trans s3).free nO3)
          have pk : ∀ a b, valV (putK kvs (chK n p) (.ref O)) (chK a b) = if a = n ∧ b = p then some (.ref O) else valV kvs (chK a b) := fun a b => by
            rw [valV_put]
            by_cases h : a = n ∧ b = p
            · rw [if_pos h, if_pos (chK_eq.mpr h)]
            · rw [if_neg h, if_neg fun z => h (chK_eq.mp z)]
          refine ⟨O, _, _, rfl, rfl, hL7, (by show 0 < sizeLine; decide), _, _, _, rfl, same_upd (sm5.trans s67) nLH, sends_step S4 (fun b o h nb => s67 b o (e5 b o h nb)) (s67 _ _ hD5) pk ?_ hL7 (by rw [h0]; exact .nil) (fun a b hn hz => ?_) hT7 hI7 hso, fun a b L h => ?_⟩
          · have := length_putK kvs (chK n p) (V.ref O)
            have := S.few
            omega
          · rcases S3.val a b with ⟨h, _⟩ | ⟨L, us, h, hL, _⟩
            · rw [h] at hz; cases hz
            · rw [h] at hz
              injection hz with hz
              injection hz with hz
              subst hz
              rw [nO3] at hL
              cases hL
          · rw [pk] at h
            split at h
            · injection h with h
              injection h with h
              subst h
              exact nLH
            · exact nw _ _ _ h
      · rintro σ Hy ⟨x4, x5, kvs, rfl, sy, S, nw⟩
        rw [hul, List.take_length] at S
        have e1 : flatR (rs.take (i + 1)) = flatR (rs.take i) ++ flatRow n 1 es := by
          rw [List.take_add_one, hr', flatR_app]
          exact congrArg _ (flatR_one n es)
        exact ⟨_, _, _, _, kvs, rfl, sy, by rw [e1]; exact S, nw⟩
    · rintro σ Hx ⟨x2, x3, x4, x5, kvs, rfl, sm, S, _⟩
      rw [hln, List.take_length] at S
      exact ⟨_, rfl, k D kvs Hx sm S⟩
end
end XE
set_option Elab.async false
set_option linter.all false
set_option maxRecDepth 100000
set_option maxHeartbeats 4000000
namespace XE
open PySem PySem.Spec PyProof.Rows L2 Rx SX
section
variable {P : Program} {w : World} {K : PySem.W.Frag} {mg : Str → Option Value} {base : Heap}
abbrev cBadRecord : Stmt := topS 16
abbrev sBadRecord : Stmt := inClass cBadRecord 0
theorem scBadRecord : ScopeS ["self", "reason", "name", "number"] ["self", "reason", "name", "number"] (defScope sBadRecord) := ⟨rfl, rfl, rfl, by decide +kernel, rfl, by decide +kernel, by decide +kernel, by decide +kernel, rfl, rfl⟩
theorem okBadRecord {f C cda cc fF : Addr} {fd fdF : FuncData} (F : SupFn K "BadRecord.__init__" sBadRecord f cda cc fd) (T : SupC P K C cda cc) (CF : Cal P w K mg base 1 "frozen" fF fdF ["thing"] (spFrozen K)) (no : ∀ g ∈ (["reason", "name", "number"] : List Str), PySem.W.findIn K (.ref C) g = some none) :
    FnOk P w K mg base CX0 2 f fd ["self", "reason", "name", "number"] (spInit K C ["reason", "name", "number"]) := by
  refine F.ok scBadRecord T rfl rfl rfl spInit_len spInit_self (fun _ => rfl) (fun _ => rfl) (fun _ => ⟨_, rfl⟩) (fun A outer s H vs Q E hr h => ?_)
  obtain ⟨a, ws, ds, rfl, hl, ha, hd, hz, k⟩ := h
  refine ⟨_, pss_cons (ps_ost (pv 0) (pe_call CF.ok hr rfl CF.mg CF.kp CF.bi .nil pass0 (pa_cons (pv 1) pa_nil))) (pss_cons (ps_ost (pv 0) (pe_call CF.ok hr rfl CF.mg CF.kp CF.bi .nil pass0 (pa_cons (pv 2) pa_nil))) (pss_one (ps_ost (pv 0) (pe_call CF.ok hr rfl CF.mg CF.kp CF.bi .nil pass0 (pa_cons (pv 3) pa_nil))))), ?_⟩
  match ws, ds, hl, hd with
  | [v0, v1, v2], _, _, @DpAll.cons _ _ _ _ d0 _ h0 (@DpAll.cons _ _ _ _ d1 _ h1 (@DpAll.cons _ _ _ _ d2 _ h2 (.nil))) =>
    have z0 : sz d0 ≤ 1000 := hz _ (by simp)
    have z1 : sz d1 ≤ 1000 := hz _ (by simp)
    have z2 : sz d2 ≤ 1000 := hz _ (by simp)
    refine ⟨_, rfl, v0, d0, rfl, h0, z0, fun G0 u0 s0 r0 => ⟨_, rfl, a, C, rfl, T.oex, no _ (by simp), .inl ⟨s0 _ _ ha, fun dx hdx nda => ?_⟩⟩⟩
    have e0 : ∀ b o, H b = some o → b ≠ a → upd (upd G0 dx (exd dx [("reason", u0)])) a (exo a C (some dx)) b = some o := fun b o e nb => by rw [upd_ne nb, upd_ne (ne_of_none (s0 _ _ e) hdx)]; exact s0 _ _ e
    have k0 : Keeps G0 (upd (upd G0 dx (exd dx [("reason", u0)])) a (exo a C (some dx))) := (keeps_new hdx).trans (keeps_ext (φ := _) (by rw [upd_ne nda.symm]; exact s0 _ _ ha))
    have r0' := dp_keep k0.1 k0.2 r0 (fix_noList _)
    have ax : upd (upd G0 dx (exd dx [("reason", u0)])) a (exo a C (some dx)) a = some (exo a C (some dx)) := upd_same
    have dxx : upd (upd G0 dx (exd dx [("reason", u0)])) a (exo a C (some dx)) dx = some (exd dx [("reason", u0)]) := by rw [upd_ne nda, upd_same]
    have hdn : H dx = none := s0.free hdx
    generalize upd (upd G0 dx (exd dx [("reason", u0)])) a (exo a C (some dx)) = L0 at e0 r0' ax dxx ⊢
    have h1L := dp_but (a := a) (φ := _) ha e0 h1
    refine ⟨_, rfl, v1, d1, rfl, h1L, z1, fun G1 u1 s1 r1 => ⟨_, rfl, a, C, rfl, T.oex, no _ (by simp), .inr ⟨dx, _, s1 _ _ ax, s1 _ _ dxx, (by show 1 ≤ 900; decide), ?_⟩⟩⟩
    have e1 : ∀ b o, H b = some o → b ≠ a → upd G1 dx (exd dx (("name", u1) :: [("reason", u0)])) b = some o := fun b o e nb => by rw [upd_ne (ne_of_none e hdn)]; exact s1 _ _ (e0 b o e nb)
    have k1 : Keeps G1 (upd G1 dx (exd dx (("name", u1) :: [("reason", u0)]))) := keeps_ext (φ := _) (s1 _ _ dxx)
    have r1' := dp_keep k1.1 k1.2 r1 (fix_noList _)
    have r0' := dp_keep k1.1 k1.2 (dp_same s1 r0') (fix_noList _)
    have ax : upd G1 dx (exd dx (("name", u1) :: [("reason", u0)])) a = some (exo a C (some dx)) := by rw [upd_ne (fun z => nda z.symm)]; exact s1 _ _ ax
    have dxx : upd G1 dx (exd dx (("name", u1) :: [("reason", u0)])) dx = some (exd dx (("name", u1) :: [("reason", u0)])) := upd_same
    generalize upd G1 dx (exd dx (("name", u1) :: [("reason", u0)])) = L1 at e1 r0' r1' ax dxx ⊢
    have h2L := dp_but (a := a) (φ := _) ha e1 h2
    refine ⟨_, rfl, v2, d2, rfl, h2L, z2, fun G2 u2 s2 r2 => ⟨_, rfl, a, C, rfl, T.oex, no _ (by simp), .inr ⟨dx, _, s2 _ _ ax, s2 _ _ dxx, (by show 2 ≤ 900; decide), ?_⟩⟩⟩
    have e2 : ∀ b o, H b = some o → b ≠ a → upd G2 dx (exd dx (("number", u2) :: (("name", u1) :: [("reason", u0)]))) b = some o := fun b o e nb => by rw [upd_ne (ne_of_none e hdn)]; exact s2 _ _ (e1 b o e nb)
    have k2 : Keeps G2 (upd G2 dx (exd dx (("number", u2) :: (("name", u1) :: [("reason", u0)])))) := keeps_ext (φ := _) (s2 _ _ dxx)
    have r2' := dp_keep k2.1 k2.2 r2 (fix_noList _)
    have r0' := dp_keep k2.1 k2.2 (dp_same s2 r0') (fix_noList _)
    have r1' := dp_keep k2.1 k2.2 (dp_same s2 r1') (fix_noList _)
    have ax : upd G2 dx (exd dx (("number", u2) :: (("name", u1) :: [("reason", u0)]))) a = some (exo a C (some dx)) := by rw [upd_ne (fun z => nda z.symm)]; exact s2 _ _ ax
    have dxx : upd G2 dx (exd dx (("number", u2) :: (("name", u1) :: [("reason", u0)]))) dx = some (exd dx (("number", u2) :: (("name", u1) :: [("reason", u0)]))) := upd_same
    generalize upd G2 dx (exd dx (("number", u2) :: (("name", u1) :: [("reason", u0)]))) = L2 at e2 r0' r1' r2' ax dxx ⊢
    exact k L2 dx [u0, u1, u2] hdn ax dxx (.cons r0' (.cons r1' (.cons r2' (.nil)))) e2 rfl
theorem biBadRecord {f cda cc : Addr} {fd : FuncData} (F : SupFn K "BadRecord.__init__" sBadRecord f cda cc fd) : Binds K fd ["self", "reason", "name", "number"] [] := by
  obtain ⟨oc, od, kV, doc, pm, an, ct, osl, rfl, _, _⟩ := F.ex
  exact .all (fun us hl => match us, hl with | [_, _, _, _], _ => rfl)
theorem bpBadRecord {f cda cc : Addr} {fd : FuncData} (F : SupFn K "BadRecord.__init__" sBadRecord f cda cc fd) : KBn K fd ("self" :: ["reason", "name", "number"]) ((["reason", "name", "number"] : List Str).length + 1) [] gB gB := by
  obtain ⟨oc, od, kV, doc, pm, an, ct, osl, rfl, _, _⟩ := F.ex
  exact ⟨fun s us ws _ l1 l2 => match us, ws, l1, l2 with | [_, _, _, _], [], _, _ => .of_eq rfl, gB_rel⟩
theorem bkBadRecord {f cda cc : Addr} {fd : FuncData} (F : SupFn K "BadRecord.__init__" sBadRecord f cda cc fd) : KBn K fd ("self" :: ["reason", "name", "number"]) 1 (["reason", "name", "number"] : List Str).reverse gB gB := by
  obtain ⟨oc, od, kV, doc, pm, an, ct, osl, rfl, _, _⟩ := F.ex
  exact ⟨fun s us ws _ l1 l2 => match us, ws, l1, l2 with | [_], [_, _, _], _, _ => .of_eq rfl, gB_rel⟩
end
end XE
set_option Elab.async false
set_option linter.all false
set_option maxRecDepth 100000
set_option maxHeartbeats 1000000
/-! XRf: matched_messages -/
namespace XE
open PySem PySem.Spec PyProof.Rows L2 RZ Rx SX Rc
abbrev sMatched : Stmt := topS 26
def MsgAt (H : Hp) (v : V) (m : EvId × EvId) : Prop := ∃ q t1 t2, v = .ref q ∧ H q = some (.tup [.ref t1, .ref t2]) ∧ IdAt H t1 m.1 ∧ IdAt H t2 m.2
def MsgL (H : Hp) (us : List V) (ms : List (EvId × EvId)) : Prop := Paired (MsgAt H) us ms
theorem MsgAt.keep {H H1 : Hp} {v : V} {m : EvId × EvId} (h : MsgAt H v m) (k : ∀ b xs, H b = some (.tup xs) → H1 b = some (.tup xs)) : MsgAt H1 v m := by
  obtain ⟨q, t1, t2, e, h1, h2, h3⟩ := h
  exact ⟨q, t1, t2, e, k _ _ h1, k _ _ h2, k _ _ h3⟩
theorem MsgL.keep {H H1 : Hp} {us : List V} {ms : List (EvId × EvId)} (h : MsgL H us ms) (k : ∀ b xs, H b = some (.tup xs) → H1 b = some (.tup xs)) : MsgL H1 us ms := paired_imp (fun _ _ x => x.keep k) h
theorem MsgL.same {H H1 : Hp} {us : List V} {ms : List (EvId × EvId)} (h : MsgL H us ms) (e : Same H H1) : MsgL H1 us ms := h.keep fun b xs => e b _
/-- how many were received, by channel -/
structure RecvAt (H : Hp) (D : Addr) (fl : Flat) (kvs : List (List Key × V)) : Prop where
  at_ : H D = some (.dT kvs)
  few : kvs.length ≤ fl.length
  val : ∀ a b, (valV kvs (chK a b)).getD (.int 0) = .int (recvN fl a b : Nat)
theorem RecvAt.skip {H : Hp} {D : Addr} {fl : Flat} {kvs : List (List Key × V)} (h : RecvAt H D fl kvs) {x : EvId × Ev} (hx : x.2.recvOf = none) : RecvAt H D (fl ++ [x]) kvs := by
  refine ⟨h.at_, Nat.le_trans h.few (by simp), fun a b => ?_⟩
  rw [recvN_snoc, hx, if_neg (fun z => by cases z.2), Nat.add_zero]
  exact h.val a b
theorem RecvAt.at2 {H H' : Hp} {D : Addr} {fl : Flat} {kvs : List (List Key × V)} (h : RecvAt H D fl kvs) (e : H' D = H D) : RecvAt H' D fl kvs := ⟨by rw [e]; exact h.at_, h.few, h.val⟩
theorem recv_step {H : Hp} {D : Addr} {fl : Flat} {kvs : List (List Key × V)} (h : RecvAt H D fl kvs) {n p : Str} {k : Nat} {v : Int} {e : Ev} (he : e.recvOf = some (p, v)) {m : Int} (hm : m = (recvN fl p n : Nat) + 1) :
    RecvAt (upd H D (.dT (putK kvs (chK p n) (.int m)))) D (fl ++ [((n, k), e)]) (putK kvs (chK p n) (.int m)) := by
  subst hm
  refine ⟨upd_same, ?_, fun a b => ?_⟩
  · have := length_putK kvs (chK p n) (V.int ((recvN fl p n : Nat) + 1))
    have := h.few
    rw [List.length_append, List.length_singleton]
    omega
  · rw [valV_put, recvN_snoc]
    by_cases c : a = p ∧ b = n
    · obtain ⟨rfl, rfl⟩ := c
      rw [if_pos rfl, if_pos ⟨rfl, by rw [he]; rfl⟩]
      rfl
    · rw [if_neg fun z => c (chK_eq.mp z), if_neg fun z => c ?_]
      · exact h.val a b
      · obtain ⟨z1, z2⟩ := z
        rw [he] at z2
        injection z2 with z2
        exact ⟨z2.symm, z1.symm⟩
theorem matchF_none {all done rest : Flat} {acc : List (EvId × EvId)} {x : EvId × Ev} (h : x.2.recvOf = none) : matchF all done acc (x :: rest) = matchF all (done ++ [x]) acc rest := by
  simp only [matchF, h]
theorem matchF_some {all done rest : Flat} {acc : List (EvId × EvId)} {x : EvId × Ev} {p : Str} {v : Int} (h : x.2.recvOf = some (p, v)) : matchF all done acc (x :: rest) = match (sentF all p x.1.1)[recvN done p x.1.1]? with
      | some (s, v') => if v' = v then matchF all (done ++ [x]) (acc ++ [(s, x.1)]) rest else .error x.1
      | none => .error x.1 := by
  simp only [matchF, h] <;> rfl
theorem paired_get {α β : Type} {R : α → β → Prop} : ∀ {xs : List α} {ys : List β}, Paired R xs ys → ∀ {i : Nat} {y : β}, ys[i]? = some y → ∃ x, xs[i]? = some x ∧ R x y
  | _, _, .nil, _, _, h => nomatch h
  | _, _, .cons h t, 0, y, e => by
    injection e with e
    subst e
    exact ⟨_, rfl, h⟩
  | _, _, .cons h t, i + 1, y, e => paired_get t (i := i) e
theorem ixSeq {K : PySem.W.Frag} {H : Hp} {L : Addr} {us : List V} {i : Int} {v : V} {Q : VK} (h : SqL K H L us ∨ SqT K H L us) (e : atI us i = some v) (q : Q v H) : rIx K (.ref L) (.int i) H Q := by
  rcases h with h | h
  · exact .inl ⟨L, us, i, v, rfl, rfl, h, e, q⟩
  · exact .inr (.inl ⟨L, us, i, v, rfl, rfl, h, e, q⟩)
theorem sq_same {K : PySem.W.Frag} {H H1 : Hp} {L : Addr} {us : List V} (h : SqL K H L us ∨ SqT K H L us) (s : Same H H1) : SqL K H1 L us ∨ SqT K H1 L us := by
  rcases h with h | h
  · exact .inl (sqL_same s h)
  · exact .inr (sqT_same s h)
def spMatched (K : PySem.W.Frag) (CR : Addr) : Sp := fun vs H Q E => ∃ (t : Addr) (xs : List V) (rs : Rows), vs = [.ref t] ∧ RowsT K H t xs rs ∧
  (∀ ms, matchR rs = .ok ms → ∀ (T : Addr) (us : List V) (H' : Hp), Same H H' → H' T = some (.tup us) → MsgL H' us ms → Q (.ref T) H') ∧ (∀ x, matchR rs = .error x → RecAt CR H "message" (.str x.1) x.2 E)
section
variable {P : Program} {w : World} {K : PySem.W.Frag} {mg : Str → Option Value} {base : Heap} {CR : Addr}
abbrev mmN : List Str := ["rows", "sends", "pairs", "received", "name", "events", "number", "event", "channel", "place", "sent"]
theorem scMM : FnScope mmN ["rows"] (defScope sMatched) := ⟨rfl, rfl, rfl, by decide +kernel, rfl, by decide +kernel, by decide +kernel⟩
theorem ok_matched {f fS : Addr} {fd fdS : FuncData} (F : Fun K "matched_messages" "matched_messages" sMatched f fd) (menum : mg "enumerate" = none) (mlen : mg "len" = none) (mtup : mg "tuple" = none) (RV : ∃ a, mg "RECEIVING" = some (.ref a) ∧ KTup K a ((["receive", "take"] : List Str).map V.str))
    (TR : RaiT P w K mg base "BadRecord" CR ["reason", "name", "number"]) (CS : Cal P w K mg base 1 "sends_by_channel" fS fdS ["rows"] (spSends K)) : FnOk P w K mg base (L2.CX P w) 4 f fd ["rows"] (spMatched K CR) := by
  obtain ⟨fR, fdR, iR, tR, FR, bR⟩ := TR.ini
  obtain ⟨aV, mV, kRv⟩ := RV
  refine F.okX scMM (fun vs H Q E h => ?_) (fun cdv A outer s H vs Q E hr h => ?_)
  · obtain ⟨_, _, _, rfl, _⟩ := h
    rfl
  · obtain ⟨t, xs, rs, rfl, R, kQ, kE⟩ := h
    have hr3 : Room 1 _ := hr.mono (by decide)
    have hrR : Room 3 _ := hr.mono (by decide)
    have hu := hu_of hr
    have hu2 := Nat.lt_of_le_of_lt (Nat.add_le_add_left (show 2 ≤ 64 by decide) _) hr.units
    refine ⟨_, (pss_cons (ps_set (i := 1) scMM.nd rfl (.inl rfl) (pe_call CS.ok hr3 rfl CS.mg CS.kp CS.bi .nil pass0 (pa_cons (pv 0) pa_nil))) (pss_cons (ps_set (i := 2) scMM.nd rfl (.inl rfl) (pe_lst pa_nil)) (pss_cons (ps_set (i := 3) scMM.nd rfl (.inl rfl) pe_dnewT) (pss_cons (ps_for (passes_of rfl) rfl (pi_tup (pv 0)) (pg_tup rfl (pgs_cons (pg_name (i := 4) scMM.nd rfl (.inl rfl)) (pgs_cons (pg_name (i := 5) scMM.nd rfl (.inl rfl)) pgs_nil))) (pss_one (ps_for (passes_of rfl) rfl (pi_enumTS (by rfl) menum (pa_cons (pv 5) pa_nil)) (pg_tup rfl (pgs_cons (pg_name (i := 6) scMM.nd rfl (.inl rfl)) (pgs_cons (pg_name (i := 7) scMM.nd rfl (.inl rfl)) pgs_nil))) (pss_cons (ps_if (pt_cmpR op_notIn_seq (pe_ix ix_tup (pv 7) pe_int (fun _ _ => rfl)) (pe_glob (v := .ref aV) rfl mV rfl) rfl) (pss_one ps_continue) pss_nil) (pss_cons (ps_set (i := 8) scMM.nd rfl (.inl rfl) (pe_tup (pa_cons (pe_ix ix_tup (pv 7) pe_int (fun _ _ => rfl)) (pa_cons (pv 4) pa_nil)))) (pss_cons (ps_set (i := 9) scMM.nd rfl (.inl rfl) (pe_dget2 hu (pv 3) (pv 8) pe_int ⟨rfl, rfl, rfl, rfl⟩)) (pss_cons (ps_dput hu (pv 3) (pv 8) (pe_op op_add (pv 9) pe_int) rfl) (pss_cons (ps_set (i := 10) scMM.nd rfl (.inl rfl) (pe_dget2 hu (pv 1) (pv 8) (pe_tup pa_nil) ⟨rfl, rfl, rfl, rfl⟩)) (pss_cons (ps_if (PW.pt (pw_or (pt_cmpR op_ge (pv 9) (pe_callB call_len_seq (by rfl) mlen PySem.boot_len (pa_cons (pv 10) pa_nil)) (nomark _)) (pw_or1 (pt_cmpR op_ne (pe_ix ix_tup (pe_ix ix_seq (pv 10) (pv 9) (fun _ _ => rfl)) pe_int (fun _ _ => rfl)) (pe_ix ix_tup (pv 7) pe_int (fun _ _ => rfl)) (nomark _))))) (pss_one (ps_raise rfl (takes_of rfl rfl rfl rfl) (pmk_oex TR.oex iR tR FR hrR bR .nil pass0 rfl TR.mgx (pa_cons pe_str (pa_cons (pv 4) (pa_cons (pv 6) pa_nil)))))) pss_nil) (pss_one (ps_expr (pe_bm PySem.F.plainAttrs_list PySem.F.slot_list_append PySem.F.type_list_append mt_append (pv 2) (pa_cons (pe_tup (pa_cons (pe_ix ix_tup (pe_ix ix_seq (pv 10) (pv 9) (fun _ _ => rfl)) pe_int (fun _ _ => rfl)) (pa_cons (pe_tup (pa_cons (pv 4) (pa_cons (pv 6) pa_nil))) pa_nil))) pa_nil))))))))))))) (pss_one (ps_ret (pe_callTy call_tuple_of (by rfl) mtup (by decide +kernel) (pa_cons (pv 2) pa_nil)))))))), ?_⟩
    have hln := R.ln
    have hfl := flat_len R.len
    refine ⟨_, rfl, t, xs, rs, rfl, R, fun DS kvs H1 s1 SS => ⟨by show 0 ≤ sizeLine; decide, fun Pq nP => ?_⟩⟩
    refine fun DR nR => ?_
    have sP := same_new (o := .lst []) nP
    have s12 := sP.trans (same_new (o := .dT []) nR)
    have hP0 := same_new (o := .dT []) nR _ _ (upd_same (H := H1) (a := Pq) (o := .lst []))
    have hR0 := upd_same (H := upd H1 Pq (.lst [])) (a := DR) (o := .dT [])
    have hRn : H1 DR = none := sP.free nR
    have R1 := R.same s1
    have RV0 : RecvAt (upd (upd H1 Pq (.lst [])) DR (.dT [])) DR (flatR (rs.take 0)) [] := ⟨hR0, Nat.le_refl _, fun a b => rfl⟩
    refine ⟨_, rfl, t, rfl, ⟨_, sqT_same s12 R1.tu⟩, ?_⟩
    refine for_tup (fun i σ Hx => ∃ (x4 x5 x6 x7 x8 x9 x10 : Option V) (kvr : List (List Key × V)) (us : List V) (acc : List (EvId × EvId)), σ = [some (.ref t), some (.ref DS), some (.ref Pq), some (.ref DR), x4, x5, x6, x7, x8, x9, x10] ∧ Same H1 Hx ∧ Hx Pq = some (.lst us) ∧ MsgL Hx us acc ∧ acc.length ≤ (flatR (rs.take i)).length ∧ RecvAt Hx DR (flatR (rs.take i)) kvr ∧ matchR rs = matchF (flatR rs) (flatR (rs.take i)) acc (flatR (rs.drop i)))
      ⟨_, _, _, _, _, _, _, _, _, _, rfl, s12, hP0, .nil, Nat.le_refl _, RV0, rfl⟩ (fun i σ Hx _ ⟨_, _, _, _, _, _, _, _, _, _, _, sm, _⟩ => sqT_same sm R1.tu) ?_ ?_
    · rintro i x σ Hx hx ⟨x4, x5, x6, x7, x8, x9, x10, kvr, us, acc, rfl, sm, hP, hM, hacc, RV, hmt⟩
      obtain ⟨r, q, b, vs, hr', rfl, hq, hb', hus⟩ := R1.at_ hx
      obtain ⟨n, es⟩ := r
      have hmem := List.mem_of_getElem? hr'
      have hul := dpAll_len hus
      rw [List.length_map] at hul
      have hdr : flatR (rs.drop i) = flatRow n 1 es ++ flatR (rs.drop (i + 1)) := by
        have : rs.drop i = (n, es) :: rs.drop (i + 1) := by
          obtain ⟨h1, h2⟩ := List.getElem?_eq_some_iff.mp hr'
          rw [← h2, List.getElem_cons_drop]
        rw [this]
        rfl
      rw [hdr] at hmt
      refine ⟨q, _, rfl, sqT_same sm hq, rfl, _, _, rfl, _, _, rfl, rfl, ?_⟩
      refine ⟨_, rfl, b, vs, rfl, sqT_same sm hb', ?_⟩
      have ei : flatR (rs.take i) = flatR (rs.take i) ++ flatRow n 1 (es.take 0) := (List.append_nil _).symm
      refine for_enumT (fun j σ Hy => ∃ (x6 x7 x8 x9 x10 : Option V) (kvr : List (List Key × V)) (us : List V) (acc : List (EvId × EvId)), σ = [some (.ref t), some (.ref DS), some (.ref Pq), some (.ref DR), some (.str n), some (.ref b), x6, x7, x8, x9, x10] ∧ Same H1 Hy ∧ Hy Pq = some (.lst us) ∧ MsgL Hy us acc ∧ acc.length ≤ (flatR (rs.take i) ++ flatRow n 1 (es.take j)).length ∧ RecvAt Hy DR (flatR (rs.take i) ++ flatRow n 1 (es.take j)) kvr ∧ matchR rs = matchF (flatR rs) (flatR (rs.take i) ++ flatRow n 1 (es.take j)) acc (flatRow n (1 + j) (es.drop j) ++ flatR (rs.drop (i + 1))))
        ⟨_, _, _, _, _, _, _, _, rfl, sm, hP, hM, by rw [← ei]; exact hacc, by rw [← ei]; exact RV, by rw [← ei]; exact hmt⟩ (fun i σ Hy _ ⟨_, _, _, _, _, _, _, _, _, sy, _⟩ => sqT_same sy hb') ?_ ?_
      · rintro j v σ Hy hv ⟨x6, x7, x8, x9, x10, kvr, us, acc, rfl, sy, hP, hM, hacc, RV, hmt⟩ T nT
        obtain ⟨e, qe, hej, rfl, hqe⟩ := ev_at (dpAll_same sy hus) hv
        have s3 : Same Hy (upd Hy T (.tup [.int (1 + (j : Nat)), .ref qe])) := same_new nT
        have hT := SqT.of (K := K) (upd_same (H := Hy) (a := T) (o := .tup [.int (1 + (j : Nat)), .ref qe]))
        generalize upd Hy T (.tup [.int (1 + (j : Nat)), .ref qe]) = H3 at s3 hT ⊢
        rw [show ((1 : Int) + (j : Int)) = ((1 + j : Nat) : Int) by omega] at hT
        refine ⟨T, _, rfl, hT, rfl, _, _, rfl, _, _, rfl, rfl, ?_⟩
        replace hej : es[j]? = some e := hej
        have hqe3 := sqT_same s3 hqe
        have hP3 := s3 _ _ hP
        have hM3 := hM.same s3
        have RV3 := RV.at2 (H' := H3) (by rw [s3 _ _ RV.at_, RV.at_])
        have sm3 := sy.trans s3
        have ej : es.take (j + 1) = es.take j ++ [e] := by rw [List.take_add_one, hej]; rfl
        have hjl : (es.take j).length = j := by
          have := (List.getElem?_eq_some_iff.mp hej).1
          rw [List.length_take]; omega
        have ef : flatR (rs.take i) ++ flatRow n 1 (es.take (j + 1)) = (flatR (rs.take i) ++ flatRow n 1 (es.take j)) ++ [((n, 1 + j), e)] := by
          rw [ej, flatRow_snoc, hjl, List.append_assoc]
        have hlen : (flatR (rs.take i) ++ flatRow n 1 (es.take j)).length ≤ 41000 := by
          have h1 := flat_len (rs := rs.take i) fun r hr => R.len r (List.mem_of_mem_take hr)
          have h2 := R.len _ hmem
          have h3 := R.few
          simp only at h2
          rw [List.length_append, flatRow_len, hjl]
          rw [List.length_take] at h1
          have := (List.getElem?_eq_some_iff.mp hej).1
          omega
        have hfc : flatRow n (1 + j) (es.drop j) = ((n, 1 + j), e) :: flatRow n (1 + (j + 1)) (es.drop (j + 1)) := flatRow_cons n es 1 j e hej
        rw [hfc, List.cons_append] at hmt
        generalize flatR (rs.take i) ++ flatRow n 1 (es.take j) = fl at RV RV3 ef hlen hacc hmt
        rw [ef]
        generalize flatRow n (1 + (j + 1)) (es.drop (j + 1)) ++ flatR (rs.drop (i + 1)) = rest at hmt
        refine ⟨_, rfl, qe, _, 0, _, rfl, rfl, hqe3, atI_nat (j := 0) rfl, aV, _, rfl, .inr (kRv.sq H3), rfl, flat_strs _, _, rfl, ?_⟩
        show if (!inV (.str e.word) ((["receive", "take"] : List Str).map V.str)) = true then _ else _
        rw [inV_strs, word_recv]
        cases hro : e.recvOf with
        | none =>
          rw [matchF_none hro] at hmt
          exact iteTc rfl ⟨_, _, _, _, _, kvr, us, acc, rfl, sm3, hP3, hM3, by rw [List.length_append]; omega, RV3.skip hro, hmt⟩
        | some pv =>
        obtain ⟨p, v⟩ := pv
        obtain ⟨xv, hrest⟩ := recv_rest hro
        rw [hrest] at hqe3
        rw [matchF_some hro] at hmt
        refine iteFc rfl ?_
        refine ⟨_, rfl, qe, _, 1, _, rfl, rfl, hqe3, atI_nat (j := 1) rfl, _, rfl, (by show 2 ≤ sizeLine; decide), fun C nC => ?_⟩
        have s4 := same_new (o := .tup [.str p, .str n]) nC
        have hC4 : upd H3 C (.tup [.str p, .str n]) C = some (.tup ((chK p n).map kV)) := upd_same (H := H3) (a := C) (o := .tup [.str p, .str n])
        have RV4 := RV3.at2 (H' := upd H3 C (.tup [.str p, .str n])) (by rw [s4 _ _ RV3.at_, RV3.at_])
        generalize upd H3 C (.tup [.str p, .str n]) = H4 at s4 hC4 RV4 ⊢
        have sm4 := sm3.trans s4
        have hP4 := s4 _ _ hP3
        have hM4 := hM3.same s4
        have hqe4 := sqT_same s4 hqe3
        refine ⟨_, rfl, DR, rfl, .inr ⟨_, .inl RV4.at_⟩, _, rfl, _, DGet.t RV4.at_ hC4, ?_⟩
        rw [RV4.val p n]
        have kl : kvr.length < sizeLine := fitR (Nat.le_trans RV4.few (Nat.le_trans hlen (by decide)))
        refine ⟨_, rfl, _, _, rfl, rfl, _, rfl, _, rfl, DR, _, rfl, DPut.t RV4.at_ hC4 kl, ?_⟩
        have RV5 := recv_step RV4 (n := n) (k := 1 + j) hro (m := (recvN fl p n : Nat) + 1) rfl
        have e5 : ∀ b o, H4 b = some o → b ≠ DR → upd H4 DR (.dT (putK kvr (chK p n) (.int ((recvN fl p n : Nat) + 1)))) b = some o := fun b o h nb => by rw [upd_ne nb]; exact h
        have sm5 := same_upd (o := .dT (putK kvr (chK p n) (.int ((recvN fl p n : Nat) + 1)))) sm4 hRn
        generalize upd H4 DR (.dT (putK kvr (chK p n) (.int ((recvN fl p n : Nat) + 1)))) = H5 at RV5 e5 sm5 ⊢
        have tk5 : ∀ b xs, H4 b = some (.tup xs) → H5 b = some (.tup xs) := fun b xs h => e5 b _ h (ne_of h RV4.at_ (by intro z; cases z))
        have hP5 := e5 _ _ hP4 (ne_of hP4 RV4.at_ (by intro z; cases z))
        have hM5 := hM4.keep tk5
        have hC5 := tk5 _ _ hC4
        have hqe5 : SqT K H5 qe _ := sqT_keep tk5 (fun b o u h => e5 b _ h (ne_of h RV4.at_ (by intro z; cases z))) hqe4
        refine ⟨_, rfl, DS, rfl, .inr ⟨_, .inl (sm5 _ _ SS.at_)⟩, _, rfl, (by show 0 ≤ sizeLine; decide), fun E0 nE => ⟨_, DGet.t (same_new nE _ _ (sm5 _ _ SS.at_)) (same_new nE _ _ hC5), ?_⟩⟩
        have s6 := same_new (o := .tup []) nE
        have hE6 := upd_same (H := H5) (a := E0) (o := .tup [])
        generalize upd H5 E0 (.tup []) = H6 at s6 hE6 ⊢
        have sm6 := sm5.trans s6
        have SS6 := SS.same sm6
        obtain ⟨L, us0, hLv, hLs, hSL⟩ : ∃ L us0, (valV kvs (chK p n)).getD (.ref E0) = .ref L ∧ (SqL K H6 L us0 ∨ SqT K H6 L us0) ∧ SentL H6 us0 (sentF (flatR rs) p n) := by
          rcases SS6.val p n with ⟨h1, h2⟩ | ⟨L, us0, h1, h2, h3⟩
          · exact ⟨E0, [], by rw [h1]; rfl, .inr (SqT.of hE6), by rw [h2]; exact .nil⟩
          · exact ⟨L, us0, by rw [h1]; rfl, .inl (SqL.of h2), h3⟩
        rw [hLv]
        have hP6 := s6 _ _ hP5
        have hM6 := hM5.same s6
        have RV6 := RV5.at2 (H' := H6) (by rw [s6 _ _ RV5.at_, RV5.at_])
        have hqe6 := sqT_same s6 hqe5
        have hpl := Paired.length hSL
        refine ⟨_, rfl, _, rfl, L, us0, rfl, hLs, _, _, rfl, rfl, _, rfl, ?_⟩
        dsimp only at hmt
        cases hat : (sentF (flatR rs) p n)[recvN fl p n]? with
        | none =>
          rw [hat] at hmt
          have hge := List.getElem?_eq_none_iff.mp hat
          exact iteTc (decide_eq_true (by omega)) (iteTc rfl ⟨_, rfl, _, rfl, mk_rec (K := K) (n := 1 + j) (kE (n, 1 + j) hmt) (s1.trans sm6) (.str n)⟩)
        | some sv =>
        obtain ⟨s0, v'⟩ := sv
        rw [hat] at hmt
        dsimp only at hmt
        have hlt := (List.getElem?_eq_some_iff.mp hat).1
        refine iteFc (decide_eq_false (by omega)) ?_
        obtain ⟨xq, hxq, q1, t1, rfl, hq1, ht1⟩ := paired_get hSL hat
        refine ⟨_, rfl, _, rfl, ixSeq hLs (atI_nat hxq) ⟨q1, _, 1, _, rfl, rfl, SqT.of hq1, atI_nat (j := 1) rfl, _, rfl, qe, _, 3, _, rfl, rfl, hqe6, atI_nat (j := 3) rfl, rfl, _, rfl, ?_⟩⟩
        have dne : (!decide (V.int v' = V.int v)) = !decide (v' = v) := by
          congr 1
          rw [decide_eq_decide]
          exact ⟨fun z => by injection z, fun z => by rw [z]⟩
        rw [dne]
        by_cases hvv : v' = v
        · subst hvv
          rw [if_pos rfl] at hmt
          refine iteFc (by simp) ?_
          refine ⟨_, rfl, .inl ⟨rfl, _, SqL.of hP6⟩, _, rfl, _, rfl, ixSeq hLs (atI_nat hxq) ⟨q1, _, 0, _, rfl, rfl, SqT.of hq1, atI_nat (j := 0) rfl, _, rfl, _, rfl, (by show 2 ≤ sizeLine; decide), fun I nI => ⟨(by show 2 ≤ sizeLine; decide), fun T7 nT7 => ?_⟩⟩⟩
          have s7 := (same_new (o := .tup [.str n, .int ((1 + j : Nat) : Int)]) nI).trans (same_new (o := .tup [.ref t1, .ref I]) nT7)
          have hI7 := same_new (o := .tup [.ref t1, .ref I]) nT7 _ _ (upd_same (H := H6) (a := I) (o := .tup [.str n, .int ((1 + j : Nat) : Int)]))
          have hT7 := upd_same (H := upd H6 I (.tup [.str n, .int ((1 + j : Nat) : Int)])) (a := T7) (o := .tup [.ref t1, .ref I])
          generalize upd (upd H6 I (.tup [.str n, .int ((1 + j : Nat) : Int)])) T7 (.tup [.ref t1, .ref I]) = H7 at s7 hI7 hT7 ⊢
          have hP7 := s7 _ _ hP6
          have RV7 := RV6.at2 (H' := H7) (by rw [s7 _ _ RV6.at_, RV6.at_])
          have tk7 : ∀ b xs, H7 b = some (.tup xs) → upd H7 Pq (.lst (us ++ [.ref T7])) b = some (.tup xs) := fun b xs h => by
            rw [upd_ne (ne_of h hP7 (by intro z; cases z))]
            exact h
          refine ⟨Pq, _, _, rfl, rfl, hP7, ?_, _, _, _, _, _, putK kvr (chK p n) (.int ((recvN fl p n : Nat) + 1)), us ++ [.ref T7], acc ++ [(s0, (n, 1 + j))], rfl, same_upd (sm6.trans s7) nP, upd_same, ?_, ?_, ?_, hmt⟩
          · have := Paired.length hM6
            exact fitR (by omega)
          · refine paired_app ((hM6.same s7).keep tk7) (.cons ⟨T7, t1, I, rfl, tk7 _ _ hT7, tk7 _ _ (s7 _ _ ht1), tk7 _ _ hI7⟩ .nil)
          · rw [List.length_append, List.length_append, List.length_singleton, List.length_singleton]
            omega
          · exact RV7.at2 (upd_ne (ne_of RV7.at_ hP7 (by intro z; cases z)))
        · rw [if_neg hvv] at hmt
          refine iteTc (by simp [hvv]) ⟨_, rfl, _, rfl, mk_rec (K := K) (n := 1 + j) (kE (n, 1 + j) hmt) (s1.trans sm6) (.str n)⟩
      · rintro σ Hy ⟨x6, x7, x8, x9, x10, kvr, us, acc, rfl, sy, hP, hM, hacc, RV, hmt⟩
        rw [hul, List.take_length] at hacc RV hmt
        rw [List.drop_length] at hmt
        have e1 : flatR (rs.take (i + 1)) = flatR (rs.take i) ++ flatRow n 1 es := by
          rw [List.take_add_one, hr', flatR_app]
          exact congrArg _ (flatR_one n es)
        exact ⟨_, _, _, _, _, _, _, kvr, us, acc, rfl, sy, hP, hM, by rw [e1]; exact hacc, by rw [e1]; exact RV, by rw [e1]; exact hmt⟩
    · rintro σ Hx ⟨x4, x5, x6, x7, x8, x9, x10, kvr, us, acc, rfl, sm, hP, hM, hacc, RV, hmt⟩
      rw [hln, List.take_length, List.drop_length] at hmt
      refine ⟨_, rfl, Pq, us, rfl, .inl ⟨SqL.of hP, fun Tq nT => ?_⟩⟩
      exact kQ acc hmt Tq us _ ((s1.trans sm).trans (same_new nT)) upd_same (hM.same (same_new nT))
end
end XE
set_option Elab.async false
set_option linter.all false
set_option maxRecDepth 100000
set_option maxHeartbeats 1000000
namespace Rx
open PySem PySem.Spec PyProof.Rows L2 SX
/-! ### xs[:0:-1]: all but the first one, backwards -/
end Rx
set_option Elab.async false
set_option linter.all false
set_option maxRecDepth 100000
set_option maxHeartbeats 1000000
namespace Rx
open PySem PySem.Spec PyProof.Rows L2 SX
/-! ### values of trees -/
abbrev Lt30 (i : Int) : Prop := i.natAbs < 10 ^ 30
def addT (w : Str) (i j : Int) : Int := if w = "+" then i + j else if w = "-" then i - j else i * j
def calcT (w : Str) (i j : Int) : Except Str Int :=
  if w = "//" ∨ w = "mod" then (if j = 0 then .error "division" else .ok (if w = "//" then i.fdiv j else i.fmod j))
  else if (addT w i j).natAbs < 10 ^ 30 then .ok (addT w i j) else .error "overflow"
def cmpT (w : Str) (i j : Int) : Bool :=
  if w = "=" then decide (i = j) else if w = "!=" then !decide (i = j) else if w = "<" then decide (i < j) else if w = "<=" then decide (i ≤ j) else if w = ">" then decide (i > j) else decide (i ≥ j)
inductive PreR : Str → V → V → Prop where
  | neg (i : Int) : PreR "negate" (.int i) (.int (-i))
  | not (b : Bool) : PreR "not" (.bl b) (.bl (!b))
inductive BinR : Str → V → V → Except Str V → Prop where
  | ari {w : Str} {i j x : Int} : w ∈ arithL → Lt30 i → Lt30 j → calcT w i j = .ok x → BinR w (.int i) (.int j) (.ok (.int x))
  | ariE {w e : Str} {i j : Int} : w ∈ arithL → Lt30 i → Lt30 j → calcT w i j = .error e → BinR w (.int i) (.int j) (.error e)
  | cmp {w : Str} {i j : Int} : w ∈ compL → BinR w (.int i) (.int j) (.ok (.bl (cmpT w i j)))
  | and (a b : Bool) : BinR "and" (.bl a) (.bl b) (.ok (.bl (a && b)))
  | or (a b : Bool) : BinR "or" (.bl a) (.bl b) (.ok (.bl (a || b)))
inductive Ev (ρ : Str → Int) : Tr → Except Str V → Prop where
  | num (n : Int) : Ev ρ (.num n) (.ok (.int n))
  | var (x : Str) : Ev ρ (.var x) (.ok (.int (ρ x)))
  | pre {w : Str} {a : Tr} {x v : V} : Ev ρ a (.ok x) → PreR w x v → Ev ρ (.pre w a) (.ok v)
  | preE {w e : Str} {a : Tr} : Ev ρ a (.error e) → Ev ρ (.pre w a) (.error e)
  | bin {w : Str} {a b : Tr} {x y : V} {r : Except Str V} : Ev ρ a (.ok x) → Ev ρ b (.ok y) → BinR w x y r → Ev ρ (.bin w a b) r
  | binL {w e : Str} {a b : Tr} : Ev ρ a (.error e) → Ev ρ (.bin w a b) (.error e)
  | binR {w e : Str} {a b : Tr} {x : V} : Ev ρ a (.ok x) → Ev ρ b (.error e) → Ev ρ (.bin w a b) (.error e)
/-! computed -/
/-! bounds, and that drawn trees have a value -/
end Rx
set_option Elab.async false
set_option linter.all false
set_option maxRecDepth 100000
set_option maxHeartbeats 1000000
namespace Rx
open PySem PySem.Spec PyProof.Rows L2 SX
section
variable {X : Cx}
/-- name = {k: v for ..} on one line, the name a local -/
theorem ps_setDc {i : Nat} {y : Str} {py : Pos} {kx vx tg iter : Expr} {ifs : List Expr} {scope : Scope} {own : List (Str × Nat)} {pos spos : Pos} {wi : TI} {g : TG} {tt : L2.TT} {tk tv : TE} (hc : X.calm = true) (hN : X.N.Nodup) (hy : X.N[i]? = some y) (hyl : X.env.scope.names.lookup y = some .local)
    (hsw : swapsWith (.DictComp kx vx [⟨tg, iter, ifs, 0⟩] scope pos) (some (.Name y py)) spos.line X.env = pure true) (hi : PI X tg iter wi) (ok : BlkOk X.N X.env.scope scope own)
    (hg : ∀ (s : Shared) (H : Hp) (C : Addr) (cl : List (Str × Addr)) (fp : List Addr), PG (X.blk s H scope (compEnvC scope cl C X.env) fp) tg g) (ht : ∀ (s : Shared) (H : Hp) (C : Addr) (cl : List (Str × Addr)) (fp : List Addr), PTs (X.blk s H scope (compEnvC scope cl C X.env) fp) ifs tt)
    (hk : ∀ (s : Shared) (H : Hp) (C : Addr) (cl : List (Str × Addr)) (fp : List Addr), PE (X.blk s H scope (compEnvC scope cl C X.env) fp) kx tk)
    (he : ∀ (s : Shared) (H : Hp) (C : Addr) (cl : List (Str × Addr)) (fp : List Addr), PE (X.blk s H scope (compEnvC scope cl C X.env) fp) vx tv) (hs : ∀ x, foldedSetIterable iter X.env x = pure x := by intro _; rfl) :
    PS X (.Assign [.Name y py] (.DictComp kx vx [⟨tg, iter, ifs, 0⟩] scope pos) spos) (tAsg (tDc wi g tt tk tv (own.map (·.2))) (gName i)) := by
  refine ⟨fun pins s σ H D I h => ?_⟩
  rw [exec_Assign_Name_used _ _ _ _ hsw]
  refine wpAny_bind (wpAny_standAt (wpAny_bind ?_))
  show wpAny _ X.A (do let _ ← comprehension (.DictComp kx vx [⟨tg, iter, ifs, 0⟩] scope pos) scope X.env (firstIterPos [⟨tg, iter, ifs, 0⟩] pos) newDict false (eval iter X.env) (some (assign (.Name y py) X.env))) _ _ s
  have h : tDc wi g tt tk tv (own.map (·.2)) σ H (fun x H1 => gName i x σ H1 D.nx) := h
  refine wpAny_bind (thn (dc_core (Qf := fun _ s' => SP X pins D .next s') hc hN I hi ok hg ht hk he hs h fun L C s' m H' I' q hn f => ?_) fun _ s' hq => wpAny_pure (wpAny_pure hq))
  show wpAny _ _ (assign (.Name y py) X.env (.ref L)) _ _ _
  refine wpAny_assign_Name (store_ok2 (v := V.ref L) I' hN hy (.inl hyl) rfl (fun s2 I2 ⟨a, sb, ha⟩ => ?_) (.inr hyl))
  obtain ⟨f0, f1, f2, f3, f4, f5⟩ := f
  have haC : C ≠ a := by
    rcases ha with z | z
    · rw [z]; exact f1
    · exact fun e => f4 y a z e.symm
  refine ⟨m, hn.sameBut sb haC, fun h3 sb3 => ?_⟩
  exact ⟨_, H', I2.turned (t' := s2.toks) (fun b o hb e => (sb3.2 b hb).trans e) f0 f1 f3 f4 f5, q⟩
theorem sw_trueD {kx vx : Expr} {gs : List Comprehension} {scope : Scope} {pos py : Pos} {y : Str} {l : Nat} {env : Env} (hk : env.scope.kind = .function) (hy : env.scope.names.lookup y = some .local) (hl : (py.line == pos.line) = true)
    (ha : (scope.names.any fun (n, k) => n == y && (k == .local || k == .cell)) = false) : swapsWith (.DictComp kx vx gs scope pos) (some (.Name y py)) l env = pure true := by
  have ky : env.kindOf y = some .local := hy
  have hb : env.blockKind = .function := by unfold Env.blockKind; rw [hk]; rfl
  unfold swapsWith
  simp only [hb, ky, ha, Expr.pos, hl]
  rfl
end
end Rx
set_option Elab.async false
set_option linter.all false
set_option maxRecDepth 100000
set_option maxHeartbeats 1000000
/-! RxDi: for over a list or a tuple; a dict comprehension over any walk -/
namespace L2
open PySem PySem.Spec PyProof.Rows Rx
section
variable {X : Cx} {tg : Expr}
def SeqIt (K : PySem.W.Frag) (H1 : Hp) (a : Addr) (R : It → Hp → Prop) : Prop := ((∃ xs, SqL K H1 a xs) ∧ R (Itl K a) H1) ∨ ((∃ xs, SqT K H1 a xs) ∧ R (Itt K a) H1)
def iSeq (K : PySem.W.Frag) (tl : TE) : TI := fun σ H R => tl σ H fun x H1 => ∃ a, x = .ref a ∧ SeqIt K H1 a R
theorem pi_seq {l : Expr} {tl : TE} (hl : PE X l tl) : PI X tg l (iSeq X.K tl) := by
  refine ⟨fun pins s σ H R I h => ?_⟩
  refine thn (hl.run pins s σ H _ I h) fun v s1 ⟨x, H1, I1, r1, q1⟩ => ?_
  obtain ⟨a, e, q1⟩ := q1
  subst e
  cases r1
  rcases q1 with ⟨⟨xs, hq⟩, q⟩ | ⟨⟨xs, hq⟩, q⟩
  · obtain ⟨its, rv, p, hz⟩ := I1.list hq
    refine wpAny_pyIter_list p.isList ?_
    refine ⟨s1.heap.objs.size, [s1.heap.objs.size], _, _, H1, rfl, I1.kept (t' := s1.toks) fun b o e => Heap.get?_push_of_some _ e, turn_list a _, ⟨_, Heap.get?_push_size _ rfl, rfl, rfl⟩, fun b hb => ?_, q⟩
    have e : b = s1.heap.objs.size := by simpa using hb
    subst e
    exact I1.fpOk (Nat.le_refl _) (I1.hok.fresh (Nat.le_refl _))
  · obtain ⟨its, rv, p, hz⟩ := I1.tuple hq
    refine wpAny_pyIter_tuple (show s1.heap.IsTuple a its.toArray from p) ?_
    refine ⟨s1.heap.objs.size, [s1.heap.objs.size], _, _, H1, rfl, I1.kept (t' := s1.toks) fun b o e => Heap.get?_push_of_some _ e, turn_tuple a _, ⟨_, Heap.get?_push_size _ rfl, rfl, rfl⟩, fun b hb => ?_, q⟩
    have e : b = s1.heap.objs.size := by simpa using hb
    subst e
    exact I1.fpOk (Nat.le_refl _) (I1.hok.fresh (Nat.le_refl _))
end
theorem dc_it {J : It} {n : Nat} {G : Hp → Prop} {Y : Nat → Hp → V → Hp → Prop} (w : Walk J n G Y) {g : TG} {tt : TT} {tk tv : TE} {vs : List Nat} {σ : St} {H1 : Hp} {D : Addr} {Qd : Hp → Prop} (Pv : Nat → Hp → Prop) (h0 : Pv 0 (upd H1 D (.dK []))) (hG : ∀ i H, i ≤ n → Pv i H → G H)
    (hs : ∀ i x H H', i < n → Pv i H → Y i H x H' → g x (wipe σ vs) H' fun σ2 H2 => wipe σ2 vs = wipe σ vs ∧ tt σ2 H2 fun b H3 =>
      if b = true then tk σ2 H3 fun y H4 => tv σ2 H4 fun z H5 => ∃ kvs k, y = kV k ∧ H5 D = some (.dK kvs) ∧ kvs.length < sizeLine ∧ Pv (i + 1) (upd H5 D (.dK (putK kvs k z))) else Pv (i + 1) H3) (hd : ∀ H, Pv n H → Qd H) :
    ∃ W : Nat → Nat → Hp → Prop, (∃ m, W 0 m (upd H1 D (.dK []))) ∧ ∀ i m H, W i m H →
      (J.stop i H ∧ Qd H) ∨ (J.go i H ∧ ∃ Nx : Hp → Prop, (∀ H', Nx H' → ∃ m', m' < m ∧ W (i + 1) m' H') ∧ ∀ x H', J.yld i H x H' → g x (wipe σ vs) H' fun σ2 H2 => wipe σ2 vs = wipe σ vs ∧ tt σ2 H2 fun b H3 =>
        if b = true then tk σ2 H3 fun y H4 => tv σ2 H4 fun z H5 => ∃ kvs k, y = kV k ∧ H5 D = some (.dK kvs) ∧ kvs.length < sizeLine ∧ Nx (upd H5 D (.dK (putK kvs k z))) else Nx H3) := by
  refine ⟨fun i m H => m = n - i ∧ i ≤ n ∧ Pv i H, ⟨n, by simp, Nat.zero_le _, h0⟩, ?_⟩
  rintro i m H ⟨rfl, hi, p⟩
  have q := hG i H hi p
  by_cases hlt : i < n
  · exact .inr ⟨w.goes i H hlt q, Pv (i + 1), fun H' p' => ⟨n - (i + 1), by omega, rfl, hlt, p'⟩, fun x H' y => hs i x H H' hlt p (w.yields i H x H' hlt q y)⟩
  · have e : i = n := by omega
    subst e
    exact .inl ⟨w.stops H q, hd H p⟩
/-- over a list or a tuple -/
theorem it_seq {K : PySem.W.Frag} {H0 H : Hp} {a : Addr} {xs : List V} {R : It → Hp → Prop} (h : SqL K H0 a xs ∨ SqT K H0 a xs) (s : Same H0 H) (k : ∀ J G, (∀ H', Same H0 H' → G H') → Walk J xs.length G (YAt xs) → R J H) :
    SeqIt K H a R := by
  rcases h with h | h
  · exact .inl ⟨⟨xs, sqL_same s h⟩, k _ (fun H => SqL K H a xs) (fun _ s => sqL_same s h) walk_list⟩
  · exact .inr ⟨⟨xs, sqT_same s h⟩, k _ (fun H => SqT K H a xs) (fun _ s => sqT_same s h) walk_tup⟩
end L2
set_option Elab.async false
set_option linter.all false
set_option maxRecDepth 100000
set_option maxHeartbeats 1000000
/-! XRg: partners_by_event, numbers_reached -/
namespace XE
open PySem PySem.Spec PyProof.Rows L2 RZ Rx SX Rc
abbrev sPartnersBy : Stmt := topS 28
abbrev sReached : Stmt := topS 33
abbrev evK (x : EvId) : List Key := [Sum.inr x.1, Sum.inl (x.2 : Nat)]
theorem evK_eq {x y : EvId} : evK x = evK y ↔ x = y := by
  constructor
  · intro h
    injection h with h1 h2
    injection h1 with h1
    injection h2 with h2 _
    injection h2 with h2
    exact Prod.ext h1 (Int.ofNat_inj.mp h2)
  · rintro rfl
    rfl
def putE (f : EvId → Option EvId) (x y : EvId) : EvId → Option EvId := fun z => if z = x then some y else f z
def partF (ms : List (EvId × EvId)) : EvId → Option EvId := ms.foldl (fun f m => putE (putE f m.1 m.2) m.2 m.1) (fun _ => none)
theorem partF_snoc (ms : List (EvId × EvId)) (m : EvId × EvId) : partF (ms ++ [m]) = putE (putE (partF ms) m.1 m.2) m.2 m.1 := by
  unfold partF
  rw [List.foldl_append]
  rfl
def PartV (H : Hp) (o : Option V) : Option EvId → Prop
  | none => o = none
  | some y => ∃ q, o = some (.ref q) ∧ IdAt H q y
structure PartAt (H : Hp) (D : Addr) (kvs : List (List Key × V)) (f : EvId → Option EvId) : Prop where
  at_ : H D = some (.dT kvs)
  val : ∀ x, PartV H (valV kvs (evK x)) (f x)
theorem PartV.keep {H H1 : Hp} {o : Option V} {y : Option EvId} (h : PartV H o y) (k : ∀ b xs, H b = some (.tup xs) → H1 b = some (.tup xs)) : PartV H1 o y := by
  cases y with
  | none => exact h
  | some y =>
    obtain ⟨q, e, h⟩ := h
    exact ⟨q, e, k _ _ h⟩
theorem PartAt.same {H H1 : Hp} {D : Addr} {kvs : List (List Key × V)} {f : EvId → Option EvId} (h : PartAt H D kvs f) (e : Same H H1) : PartAt H1 D kvs f := ⟨e _ _ h.at_, fun x => (h.val x).keep fun b xs => e b _⟩
theorem part_put {H : Hp} {D q : Addr} {kvs : List (List Key × V)} {f : EvId → Option EvId} (h : PartAt H D kvs f) {x y : EvId} (hq : IdAt H q y) : PartAt (upd H D (.dT (putK kvs (evK x) (.ref q)))) D (putK kvs (evK x) (.ref q)) (putE f x y) := by
  have tk : ∀ b xs, H b = some (.tup xs) → upd H D (.dT (putK kvs (evK x) (.ref q))) b = some (.tup xs) := fun b xs e => by
    rw [upd_ne (ne_of e h.at_ (by intro z; cases z))]
    exact e
  refine ⟨upd_same, fun z => ?_⟩
  rw [valV_put]
  unfold putE
  by_cases c : z = x
  · subst c
    rw [if_pos rfl, if_pos rfl]
    exact ⟨q, rfl, tk _ _ hq⟩
  · rw [if_neg c, if_neg fun e => c (evK_eq.mp e)]
    exact (h.val z).keep tk
theorem IdAt.key {H : Hp} {q : Addr} {x : EvId} (h : IdAt H q x) : H q = some (.tup ((evK x).map kV)) := h
def spPartners (K : PySem.W.Frag) : Sp := fun vs H Q _ => ∃ (T : Addr) (us : List V) (ms : List (EvId × EvId)), vs = [.ref T] ∧ H T = some (.tup us) ∧ MsgL H us ms ∧ ms.length ≤ 100000 ∧ ∀ (D : Addr) (kvs : List (List Key × V)) (H' : Hp), Same H H' → PartAt H' D kvs (partF ms) → Q (.ref D) H'
/-- a dict of numbers by names -/
structure NumAt (H : Hp) (D : Addr) (ns : List Str) (ex : Str → Nat) (kvs : List (Key × V)) : Prop where
  at_ : H D = some (.dK kvs)
  keys : kvs.map (·.1) = ns.map Sum.inr
  val : ∀ n ∈ ns, valV kvs (Sum.inr n) = some (.int (ex n : Nat))
def IdsL (H : Hp) (us : List V) (ids : List EvId) : Prop := Paired (fun v y => ∃ q, v = .ref q ∧ IdAt H q y) us ids
def reachF (ids : List EvId) : Str → Nat := ids.foldl (fun f x n => if n = x.1 then x.2 else f n) (fun _ => 0)
def HistAt (H : Hp) (D : Addr) (ns : List Str) (vs : List V) : Prop := H D = some (.dK (ns.zip vs |>.map fun p => (Sum.inr p.1, p.2))) ∧ ns.length = vs.length
def spReached (K : PySem.W.Frag) : Sp := fun vs H Q _ => ∃ (h e : Addr) (ns : List Str) (hs us : List V) (ids : List EvId), vs = [.ref h, .ref e] ∧ HistAt H h ns hs ∧ ns.length ≤ 40 ∧ ns.Nodup ∧ (SqL K H e us ∨ SqT K H e us) ∧ IdsL H us ids ∧ ids.length ≤ 100000 ∧ (∀ x ∈ ids, x.1 ∈ ns) ∧
  ∀ (D : Addr) (kvs : List (Key × V)) (H' : Hp), Same H H' → H D = none → NumAt H' D ns (reachF ids) kvs → Q (.ref D) H'
theorem unlock_same {H H' : Hp} {d : Addr} {od : Obj} {u : HO} (s : Same (upd H d (.frz od u)) H') (h : H d = some u) : Same H (upd H' d u) := fun b o e => by
  by_cases c : b = d
  · subst c
    rw [upd_same, ← h, e]
  · rw [upd_ne c]
    exact s _ _ (by rw [upd_ne c]; exact e)
theorem valV_names {ns : List Str} {f : Str → V} {n : Str} (h : n ∉ ns) : valV (ns.map fun n => ((Sum.inr n : Key), f n)) (Sum.inr n) = none := by
  induction ns with
  | nil => rfl
  | cons m ns ih =>
    rw [List.map_cons, valV_neg (fun z => h (by injection z with z; rw [z]; exact List.mem_cons_self ..))]
    exact ih fun z => h (List.mem_cons_of_mem _ z)
theorem valV_name {ns : List Str} {f : Str → V} {n : Str} (h : n ∈ ns) : valV (ns.map fun n => ((Sum.inr n : Key), f n)) (Sum.inr n) = some (f n) := by
  induction ns with
  | nil => cases h
  | cons m ns ih =>
    rw [List.map_cons]
    by_cases c : m = n
    · subst c
      exact valV_pos rfl
    · rw [valV_neg (fun z => c (by injection z))]
      rcases List.mem_cons.mp h with rfl | h
      · exact absurd rfl c
      · exact ih h
theorem zip_key {ns : List Str} {vs : List V} {i : Nat} {k : Key} {v : V} (h : ((ns.zip vs).map fun p => ((Sum.inr p.1 : Key), p.2))[i]? = some (k, v)) : ∃ n, ns[i]? = some n ∧ vs[i]? = some v ∧ k = Sum.inr n := by
  rw [List.getElem?_map] at h
  cases hz : (ns.zip vs)[i]? with
  | none => rw [hz] at h; cases h
  | some p =>
    rw [hz] at h
    injection h with h
    injection h with h1 h2
    obtain ⟨q1, q2⟩ := List.getElem?_zip_eq_some.mp hz
    exact ⟨p.1, q1, by rw [← h2]; exact q2, h1.symm⟩
theorem putK_keys {kvs : List (Key × V)} {k : Key} {v : V} (h : (valV kvs k).isSome = true) : (putK kvs k v).map (·.1) = kvs.map (·.1) := by
  unfold putK
  rw [valV_any, if_pos h, List.map_map]
  refine List.map_congr_left fun p _ => ?_
  show (if p.1 = k then (p.1, v) else p).1 = p.1
  split <;> rfl
theorem NumAt.put {H : Hp} {D : Addr} {ns : List Str} {ex : Str → Nat} {kvs : List (Key × V)} (h : NumAt H D ns ex kvs) {n : Str} {k : Nat} (hn : n ∈ ns) : NumAt (upd H D (.dK (putK kvs (Sum.inr n) (.int (k : Nat))))) D ns (fun m => if m = n then k else ex m) (putK kvs (Sum.inr n) (.int (k : Nat))) := by
  refine ⟨upd_same, ?_, fun m hm => ?_⟩
  · rw [putK_keys (by rw [h.val n hn]; rfl)]
    exact h.keys
  · rw [valV_put]
    by_cases c : m = n
    · subst c
      rw [if_pos rfl, if_pos rfl]
    · rw [if_neg (fun z => c (by injection z)), if_neg c]
      exact h.val m hm
theorem NumAt.few {H : Hp} {D : Addr} {ns : List Str} {ex : Str → Nat} {kvs : List (Key × V)} (h : NumAt H D ns ex kvs) : kvs.length = ns.length := by
  have := congrArg List.length h.keys
  rw [List.length_map, List.length_map] at this
  exact this
theorem reachF_snoc (ids : List EvId) (x : EvId) : reachF (ids ++ [x]) = fun m => if m = x.1 then x.2 else reachF ids m := by
  unfold reachF
  rw [List.foldl_append]
  rfl
theorem NumAt.at2 {H H1 : Hp} {D : Addr} {ns : List Str} {ex : Str → Nat} {kvs : List (Key × V)} (h : NumAt H D ns ex kvs) (e : H1 D = H D) : NumAt H1 D ns ex kvs := ⟨by rw [e]; exact h.at_, h.keys, h.val⟩
section
variable {P : Program} {w : World} {K : PySem.W.Frag} {mg : Str → Option Value} {base : Heap}
abbrev pbN : List Str := ["messages", "partners", "one", "other"]
theorem scPB : FnScope pbN ["messages"] (defScope sPartnersBy) := ⟨rfl, rfl, rfl, by decide +kernel, rfl, by decide +kernel, by decide +kernel⟩
theorem ok_partnersBy {f : Addr} {fd : FuncData} (F : Fun K "partners_by_event" "partners_by_event" sPartnersBy f fd) : FnOk P w K mg base CX0 1 f fd ["messages"] (spPartners K) := by
  refine F.ok scPB (fun vs H Q E h => ?_) (fun cdv A outer s H vs Q E hr h => ?_)
  · obtain ⟨_, _, _, rfl, _⟩ := h
    rfl
  · obtain ⟨T, us, ms, rfl, hT, hM, hml, k⟩ := h
    have hu := hu_of hr
    refine ⟨_, (pss_cons (ps_set (i := 1) scPB.nd rfl (.inl rfl) pe_dnewT) (pss_cons (ps_for PassesOwn.never rfl (pi_tup (pv 0)) (pg_tup rfl (pgs_cons (pg_name (i := 2) scPB.nd rfl (.inl rfl)) (pgs_cons (pg_name (i := 3) scPB.nd rfl (.inl rfl)) pgs_nil))) (pss_cons (ps_dput hu (pv 1) (pv 2) (pv 3) rfl) (pss_one (ps_dput hu (pv 1) (pv 3) (pv 2) rfl)))) (pss_one (ps_ret (pv 1))))), ?_⟩
    refine fun D nD => ?_
    have s0 := same_new (o := .dT []) nD
    have hlen := Paired.length hM
    refine ⟨_, rfl, T, rfl, ⟨_, SqT.of (s0 _ _ hT)⟩, ?_⟩
    refine for_tup (fun i σ Hx => ∃ (x2 x3 : Option V) (kvs : List (List Key × V)), σ = [some (.ref T), some (.ref D), x2, x3] ∧ Same H Hx ∧ PartAt Hx D kvs (partF (ms.take i)) ∧ kvs.length ≤ 2 * i) ⟨_, _, [], rfl, s0, ⟨upd_same, fun x => rfl⟩, Nat.le_refl _⟩ (fun i σ Hx _ ⟨_, _, _, _, sm, _⟩ => SqT.of (sm _ _ hT)) ?_ ?_
    · rintro i x σ Hx hx ⟨x2, x3, kvs, rfl, sm, PA, kl⟩
      have hi := (List.getElem?_eq_some_iff.mp hx).1
      obtain ⟨m, hm⟩ : ∃ m, ms[i]? = some m := ⟨ms[i]'(by omega), by simp⟩
      obtain ⟨x', hx', q, t1, t2, rfl, hq, h1, h2⟩ := paired_get hM hm
      rw [hx] at hx'
      injection hx' with hx'
      subst hx'
      refine ⟨q, _, rfl, SqT.of (sm _ _ hq), rfl, _, _, rfl, _, _, rfl, rfl, ?_⟩
      refine ⟨_, rfl, _, rfl, _, rfl, D, _, rfl, DPut.t PA.at_ (sm _ _ h1) (fitR (by omega)) (k := evK m.1), ?_⟩
      have P1 := part_put PA (x := m.1) (y := m.2) (q := t2) (sm _ _ h2)
      have s1 := same_upd (o := .dT (putK kvs (evK m.1) (.ref t2))) sm nD
      have l1 := length_putK kvs (evK m.1) (.ref t2)
      generalize putK kvs (evK m.1) (.ref t2) = kv1 at P1 s1 l1 ⊢
      generalize upd Hx D (.dT kv1) = H1 at P1 s1 ⊢
      refine ⟨_, rfl, _, rfl, _, rfl, D, _, rfl, DPut.t P1.at_ (s1 _ _ h2) (fitR (by omega)) (k := evK m.2), ?_⟩
      have P2 := part_put P1 (x := m.2) (y := m.1) (q := t1) (s1 _ _ h1)
      have l2 := length_putK kv1 (evK m.2) (.ref t1)
      refine ⟨_, _, putK kv1 (evK m.2) (.ref t1), rfl, same_upd s1 nD, ?_, ?_⟩
      · rw [List.take_add_one, hm]
        show PartAt _ _ _ (partF (_ ++ [m]))
        rw [partF_snoc]
        exact P2
      · omega
    · rintro σ Hx ⟨x2, x3, kvs, rfl, sm, PA, kl⟩
      rw [hlen, List.take_length] at PA
      exact ⟨_, rfl, k D kvs Hx sm PA⟩
abbrev nrN : List Str := ["histories", "events", "executed", "name", "number"]
theorem scNR : FnScope nrN ["histories", "events"] (defScope sReached) := ⟨rfl, rfl, rfl, by decide +kernel, rfl, by decide +kernel, by decide +kernel⟩
theorem ok_reached {f : Addr} {fd : FuncData} (F : Fun K "numbers_reached" "numbers_reached" sReached f fd) : FnOk P w K mg base CX0 1 f fd ["histories", "events"] (spReached K) := by
  refine F.ok scNR (fun vs H Q E h => ?_) (fun cdv A outer s H vs Q E hr h => ?_)
  · obtain ⟨_, _, _, _, _, _, rfl, _⟩ := h
    rfl
  · obtain ⟨hd, e, ns, hs, us, ids, rfl, hH, hnl, hnd, hE, hI, hil, hin, k⟩ := h
    have hu := hu_of hr
    refine ⟨_, (pss_cons (ps_lock (ps_setDc (i := 2) (own := [("name", 3)]) (g := gName 3) (tt := tYes) (tk := tVar 3) (tv := tC (.int 0)) rfl scNR.nd rfl rfl (sw_trueD rfl rfl rfl (by decide +kernel)) (pi_keys (pv 0)) (blkOk_by (own := [("name", 3)]) (N := nrN) (sc := defScope sReached) (by decide +kernel)) (fun _ _ _ _ _ => (pg_name (i := 3) scNR.nd rfl (Or.inl rfl))) (fun _ _ _ _ _ => pts_nil) (fun _ _ _ _ _ => (pv 3)) (fun _ _ _ _ _ => pe_int))) (pss_cons (ps_for PassesOwn.never rfl (pi_seq (pv 1)) (pg_tup rfl (pgs_cons (pg_name (i := 3) scNR.nd rfl (.inl rfl)) (pgs_cons (pg_name (i := 4) scNR.nd rfl (.inl rfl)) pgs_nil))) (pss_one (ps_dput hu (pv 2) (pv 3) (pv 4) rfl))) (pss_one (ps_ret (pv 2))))), ?_⟩
    refine ⟨hd, _, hH.1, True.intro, fun od => ⟨_, rfl, hd, od, rfl, .inl ⟨_, upd_same, fun D nD => ?_⟩⟩⟩
    generalize hu0 : HO.dK ((ns.zip hs).map fun p => ((Sum.inr p.1 : Key), p.2)) = u0
    have hHd : H hd = some u0 := by rw [← hu0]; exact hH.1
    have hlz : ((ns.zip hs).map fun p => ((Sum.inr p.1 : Key), p.2)).length = ns.length := by
      rw [List.length_map, List.length_zip, ← hH.2, Nat.min_self]
    have nDd : D ≠ hd := fun z => by rw [z, upd_same] at nD; cases nD
    have nDH : H D = none := by rw [← nD, upd_ne nDd]
    rw [← hu0]
    refine dc_it walk_keys (fun i Hy => Hy D = some (.dK ((ns.take i).map fun n => ((Sum.inr n : Key), V.int 0))) ∧ Same (upd H hd (.frz od (.dK ((ns.zip hs).map fun p => ((Sum.inr p.1 : Key), p.2))))) Hy) ⟨upd_same, same_new nD⟩ (fun i Hy _ q => q.2 _ _ upd_same) ?_ ?_
    · rintro i x Hy Hy' hi ⟨hD, sm⟩ ⟨rfl, k0, v0, hk, rfl⟩
      obtain ⟨n, hn, _, rfl⟩ := zip_key hk
      refine ⟨rfl, ?_⟩
      dsimp only [tYes]
      rw [if_pos rfl]
      have e1 : ns.take (i + 1) = ns.take i ++ [n] := by rw [List.take_add_one, hn]; rfl
      have hnn : n ∉ ns.take i := fun z => by
        rw [List.nodup_iff_pairwise_ne] at hnd
        have hnd2 := hnd.sublist (List.take_sublist (i + 1) ns)
        rw [e1] at hnd2
        exact (List.pairwise_append.mp hnd2).2.2 n z n (List.mem_singleton_self _) rfl
      refine ⟨_, rfl, _, Sum.inr n, rfl, hD, ?_, ?_, same_upd sm nD⟩
      · rw [List.length_map, List.length_take]
        exact fitR (by omega)
      · rw [putK_new _ (valV_names (f := fun _ => V.int 0) hnn), upd_same, e1, List.map_append]
        rfl
    rintro H1 ⟨hD, sm⟩
    rw [hlz, List.take_length] at hD
    refine ⟨sm _ _ upd_same, ?_⟩
    rw [hu0] at sm ⊢
    have s1 := unlock_same sm hHd
    have hD1 : upd H1 hd u0 D = _ := (upd_ne nDd).trans hD
    generalize upd H1 hd u0 = H2 at s1 hD1 ⊢
    have N0 : NumAt H2 D ns (reachF (ids.take 0)) _ := ⟨hD1, by rw [List.map_map]; rfl, fun n hn => valV_name (f := fun _ => V.int 0) hn⟩
    have hlen := Paired.length hI
    refine ⟨_, rfl, e, rfl, ?_⟩
    refine it_seq (K := K) (xs := us) hE s1 fun J G hG wk => ?_
    refine for_it wk (fun i σ Hx => ∃ (x3 x4 : Option V) (kvs : List (Key × V)), σ = [some (.ref hd), some (.ref e), some (.ref D), x3, x4] ∧ Same H Hx ∧ NumAt Hx D ns (reachF (ids.take i)) kvs) ⟨_, _, _, rfl, s1, N0⟩ (fun i σ Hx _ ⟨_, _, _, _, sm, _⟩ => hG _ sm) ?_ ?_
    · rintro i x σ Hx Hx' hi ⟨x3, x4, kvs, rfl, sm, NA⟩ ⟨rfl, hx⟩
      obtain ⟨y, hy⟩ : ∃ y, ids[i]? = some y := ⟨ids[i]'(by omega), by simp⟩
      obtain ⟨x', hx', q, rfl, hq⟩ := paired_get hI hy
      rw [hx] at hx'
      injection hx' with hx'
      subst hx'
      have hyn := hin y (List.mem_of_getElem? hy)
      refine ⟨q, _, rfl, SqT.of (sm _ _ hq), rfl, _, _, rfl, _, _, rfl, rfl, ?_⟩
      refine ⟨_, rfl, _, rfl, _, rfl, D, _, rfl, DPut.k NA.at_ (by rw [NA.few]; exact fitR (by omega)) (k := Sum.inr y.1), _, _, putK kvs (Sum.inr y.1) (.int (y.2 : Nat)), rfl, same_upd sm nDH, ?_⟩
      rw [List.take_add_one, hy]
      show NumAt _ _ _ (reachF (_ ++ [y])) _
      rw [reachF_snoc]
      exact NA.put hyn
    · rintro σ Hx ⟨x3, x4, kvs, rfl, sm, NA⟩
      rw [hlen, List.take_length] at NA
      exact ⟨_, rfl, k D kvs Hx sm nDH NA⟩
end
end XE
set_option Elab.async false
set_option linter.all false
set_option maxRecDepth 100000
set_option maxHeartbeats 1000000
/-! XRh: causes_by_event, lacking -/
namespace XE
open PySem PySem.Spec PyProof.Rows L2 RZ Rx SX Rc
abbrev sCausesBy : Stmt := topS 30
abbrev sLacking : Stmt := topS 32
def causesF (ms : List (EvId × EvId)) (x : EvId) : List EvId := (ms.filter fun m => decide (m.2 = x)).map (·.1)
theorem causesF_snoc (ms : List (EvId × EvId)) (m : EvId × EvId) (x : EvId) : causesF (ms ++ [m]) x = causesF ms x ++ (if m.2 = x then [m.1] else []) := by
  unfold causesF
  rw [List.filter_append, List.map_append]
  congr 1
  by_cases h : m.2 = x <;> simp [h]
theorem causesF_le (ms : List (EvId × EvId)) (x : EvId) : (causesF ms x).length ≤ ms.length := by
  unfold causesF
  rw [List.length_map]
  exact List.length_filter_le ..
structure CauseAt (H : Hp) (D : Addr) (ms : List (EvId × EvId)) (kvs : List (List Key × V)) : Prop where
  at_ : H D = some (.dT kvs)
  few : kvs.length ≤ ms.length
  val : ∀ x, (valV kvs (evK x) = none ∧ causesF ms x = []) ∨ ∃ L us, valV kvs (evK x) = some (.ref L) ∧ H L = some (.lst us) ∧ IdsL H us (causesF ms x)
  inj : ∀ x y L, valV kvs (evK x) = some (.ref L) → valV kvs (evK y) = some (.ref L) → x = y
  ne : ∀ x L, valV kvs (evK x) = some (.ref L) → causesF ms x ≠ []
theorem IdsL.keep {H H1 : Hp} {us : List V} {ids : List EvId} (h : IdsL H us ids) (k : ∀ b xs, H b = some (.tup xs) → H1 b = some (.tup xs)) : IdsL H1 us ids := paired_imp (fun _ _ ⟨q, e, h⟩ => ⟨q, e, k _ _ h⟩) h
theorem IdsL.same {H H1 : Hp} {us : List V} {ids : List EvId} (h : IdsL H us ids) (e : Same H H1) : IdsL H1 us ids := h.keep fun b xs => e b _
theorem CauseAt.same {H H1 : Hp} {D : Addr} {ms : List (EvId × EvId)} {kvs : List (List Key × V)} (h : CauseAt H D ms kvs) (e : Same H H1) : CauseAt H1 D ms kvs := by
  refine ⟨e _ _ h.at_, h.few, fun x => ?_, h.inj, h.ne⟩
  rcases h.val x with h | ⟨L, us, h1, h2, h3⟩
  · exact .inl h
  · exact .inr ⟨L, us, h1, e _ _ h2, h3.same e⟩
theorem cause_step {Hs H7 : Hp} {D L T : Addr} {ms : List (EvId × EvId)} {kvs kvs' : List (List Key × V)} {us : List V} {m : EvId × EvId} (S : CauseAt Hs D ms kvs) (sm : ∀ b o, Hs b = some o → b ≠ D → H7 b = some o) (hD : H7 D = some (.dT kvs'))
    (hv : ∀ x, valV kvs' (evK x) = if x = m.2 then some (.ref L) else valV kvs (evK x)) (hl : kvs'.length ≤ ms.length + 1) (hL : H7 L = some (.lst us)) (hS : IdsL H7 us (causesF ms m.2)) (hnew : ∀ x, ¬ x = m.2 → valV kvs (evK x) ≠ some (.ref L))
    (hT : IdAt H7 T m.1) : CauseAt (upd H7 L (.lst (us ++ [.ref T]))) D (ms ++ [m]) kvs' := by
  have LD : D ≠ L := ne_of hD hL (by intro z; cases z)
  have tk : ∀ b xs, H7 b = some (.tup xs) → upd H7 L (.lst (us ++ [.ref T])) b = some (.tup xs) := fun b xs h => by
    rw [upd_ne (ne_of h hL (by intro z; cases z))]
    exact h
  refine ⟨by rw [upd_ne LD]; exact hD, by rw [List.length_append]; exact hl, fun x => ?_, fun x y L' h1 h2 => ?_, fun x L' h1 => ?_⟩
  · rw [hv, causesF_snoc]
    by_cases c : x = m.2
    · subst c
      rw [if_pos rfl, if_pos rfl]
      exact .inr ⟨L, _, rfl, upd_same, paired_app (IdsL.keep hS tk) (.cons ⟨T, rfl, tk _ _ hT⟩ .nil)⟩
    · rw [if_neg c, if_neg (fun z => c z.symm), List.append_nil]
      rcases S.val x with ⟨h1, h2⟩ | ⟨L', us', h1, h2, h3⟩
      · exact .inl ⟨h1, h2⟩
      · have nd : L' ≠ D := (ne_of S.at_ h2 (by intro z; cases z)).symm
        have nl : L' ≠ L := fun z => hnew x c (by rw [h1, z])
        exact .inr ⟨L', us', h1, by rw [upd_ne nl]; exact sm _ _ h2 nd, h3.keep fun b xs hb => tk b xs (sm _ _ hb (ne_of hb S.at_ (by intro z; cases z)))⟩
  · rw [hv] at h1 h2
    by_cases c : x = m.2 <;> by_cases c' : y = m.2
    · exact c.trans c'.symm
    · rw [if_pos c] at h1
      rw [if_neg c'] at h2
      injection h1 with h1
      injection h1 with h1
      subst h1
      exact absurd h2 (hnew _ c')
    · rw [if_neg c] at h1
      rw [if_pos c'] at h2
      injection h2 with h2
      injection h2 with h2
      subst h2
      exact absurd h1 (hnew _ c)
    · rw [if_neg c] at h1
      rw [if_neg c'] at h2
      exact S.inj _ _ _ h1 h2
  · rw [hv] at h1
    rw [causesF_snoc]
    by_cases c : x = m.2
    · rw [if_pos c.symm]
      simp
    · rw [if_neg c] at h1
      intro z
      exact S.ne _ _ h1 (List.append_eq_nil_iff.mp z).1
def spCauses (K : PySem.W.Frag) : Sp := fun vs H Q _ => ∃ (T : Addr) (us : List V) (ms : List (EvId × EvId)), vs = [.ref T] ∧ H T = some (.tup us) ∧ MsgL H us ms ∧ ms.length ≤ 100000 ∧ ∀ (D : Addr) (kvs : List (List Key × V)) (H' : Hp), Same H H' → CauseAt H' D ms kvs → Q (.ref D) H'
def lackF (ids : List EvId) (ex : Str → Nat) : List EvId := ids.filter fun x => decide (ex x.1 < x.2)
def spLacking (K : PySem.W.Frag) : Sp := fun vs H Q _ => ∃ (e D : Addr) (us : List V) (ids : List EvId) (ns : List Str) (ex : Str → Nat) (kvs : List (Key × V)), vs = [.ref e, .ref D] ∧ (SqL K H e us ∨ SqT K H e us) ∧ IdsL H us ids ∧ ids.length ≤ 100000 ∧ NumAt H D ns ex kvs ∧ (∀ x ∈ ids, x.1 ∈ ns) ∧
  ∀ (N : Addr) (zs : List V) (H' : Hp), Same H H' → H N = none → H' N = some (.lst zs) → IdsL H' zs (lackF ids ex) → Q (.ref N) H'
section
variable {P : Program} {w : World} {K : PySem.W.Frag} {mg : Str → Option Value} {base : Heap}
abbrev cbN : List Str := ["pairs", "causes", "one", "other"]
theorem scCB : FnScope cbN ["pairs"] (defScope sCausesBy) := ⟨rfl, rfl, rfl, by decide +kernel, rfl, by decide +kernel, by decide +kernel⟩
theorem ok_causesBy {f : Addr} {fd : FuncData} (F : Fun K "causes_by_event" "causes_by_event" sCausesBy f fd) : FnOk P w K mg base CX0 1 f fd ["pairs"] (spCauses K) := by
  refine F.ok scCB (fun vs H Q E h => ?_) (fun cdv A outer s H vs Q E hr h => ?_)
  · obtain ⟨_, _, _, rfl, _⟩ := h
    rfl
  · obtain ⟨T, us, ms, rfl, hT, hM, hml, k⟩ := h
    have hu := hu_of hr
    have hu2 := Nat.lt_of_le_of_lt (Nat.add_le_add_left (show 2 ≤ 64 by decide) _) hr.units
    refine ⟨_, (pss_cons (ps_set (i := 1) scCB.nd rfl (.inl rfl) pe_dnewT) (pss_cons (ps_for PassesOwn.never rfl (pi_tup (pv 0)) (pg_tup rfl (pgs_cons (pg_name (i := 2) scCB.nd rfl (.inl rfl)) (pgs_cons (pg_name (i := 3) scCB.nd rfl (.inl rfl)) pgs_nil))) (pss_one (ps_expr (pe_bm PySem.F.plainAttrs_list PySem.F.slot_list_append PySem.F.type_list_append mt_append (pe_dsetdT hu2 (pv 1) (pv 3) (pe_lst pa_nil) ⟨rfl, rfl, rfl, rfl⟩) (pa_cons (pv 2) pa_nil))))) (pss_one (ps_ret (pv 1))))), ?_⟩
    refine fun D nD => ?_
    have s0 := same_new (o := .dT []) nD
    have hlen := Paired.length hM
    refine ⟨_, rfl, T, rfl, ⟨_, SqT.of (s0 _ _ hT)⟩, ?_⟩
    refine for_tup (fun i σ Hx => ∃ (x2 x3 : Option V) (kvs : List (List Key × V)), σ = [some (.ref T), some (.ref D), x2, x3] ∧ Same H Hx ∧ CauseAt Hx D (ms.take i) kvs ∧ ∀ x L, valV kvs (evK x) = some (.ref L) → H L = none) ⟨_, _, [], rfl, s0, ⟨upd_same, Nat.le_refl _, fun x => .inl ⟨rfl, rfl⟩, (fun x y L h => nomatch h), fun x L h => nomatch h⟩, fun x L h => nomatch h⟩ (fun i σ Hx _ ⟨_, _, _, _, sm, _⟩ => SqT.of (sm _ _ hT)) ?_ ?_
    · rintro i x σ Hx hx ⟨x2, x3, kvs, rfl, sm, S, nw⟩
      have hi := (List.getElem?_eq_some_iff.mp hx).1
      obtain ⟨m, hm⟩ : ∃ m, ms[i]? = some m := ⟨ms[i]'(by omega), by simp⟩
      obtain ⟨x', hx', q, t1, t2, rfl, hq, h1, h2⟩ := paired_get hM hm
      rw [hx] at hx'
      injection hx' with hx'
      subst hx'
      have e1 : ms.take (i + 1) = ms.take i ++ [m] := by rw [List.take_add_one, hm]; rfl
      have htl : (ms.take i).length ≤ 100000 := by rw [List.length_take]; omega
      rw [e1]
      refine ⟨q, _, rfl, SqT.of (sm _ _ hq), rfl, _, _, rfl, _, _, rfl, rfl, ?_⟩
      generalize ms.take i = fl at S htl
      have hD := S.at_
      refine ⟨_, rfl, D, _, rfl, hD, _, rfl, (by show 0 ≤ sizeLine; decide), fun O nO => ?_⟩
      have s4 := same_new (o := .lst []) nO
      have hO4 := upd_same (H := Hx) (a := O) (o := .lst [])
      generalize upd Hx O (.lst []) = H4 at s4 hO4 ⊢
      have S4 := S.same s4
      have hD4 := S4.at_
      have sm4 := sm.trans s4
      refine ⟨kvs, evK m.2, t2, hD4, rfl, sm4 _ _ h2, fitR (Nat.le_trans S.few (Nat.le_trans htl (by decide))), fun v' hv' => ?_, fun hv' => ?_⟩
      · obtain ⟨L, us0, hL1, hL2, hL3⟩ : ∃ L us, valV kvs (evK m.2) = some (.ref L) ∧ H4 L = some (.lst us) ∧ IdsL H4 us (causesF fl m.2) := by
          rcases S4.val m.2 with ⟨h, _⟩ | h
          · rw [h] at hv'; cases hv'
          · exact h
        rw [hL1] at hv'
        injection hv' with hv'
        subst hv'
        have nLH := nw _ _ hL1
        refine ⟨.inl ⟨rfl, _, SqL.of hL2⟩, _, rfl, L, _, _, rfl, rfl, hL2, ?_, _, _, kvs, rfl, same_upd sm4 nLH, cause_step S4 (fun b o h _ => h) hD4 (fun x => ?_) (Nat.le_succ_of_le S.few) hL2 hL3 (fun x hn hz => hn (S4.inj _ _ _ hz hL1)) (sm4 _ _ h1), nw⟩
        · rw [Paired.length hL3]
          exact fitR (Nat.le_trans (causesF_le ..) (Nat.le_trans htl (by decide)))
        · split
          · rename_i h
            rw [h, hL1]
          · rfl
      · have h0 : causesF fl m.2 = [] := by
          rcases S4.val m.2 with ⟨_, h⟩ | ⟨L, us, h, _⟩
          · exact h
          · rw [h] at hv'; cases hv'
        have nOD : O ≠ D := (ne_of hD4 hO4 (by intro z; cases z)).symm
        have hO5 : upd H4 D (.dT (putK kvs (evK m.2) (.ref O))) O = some (.lst []) := by rw [upd_ne nOD]; exact hO4
        have hD5 := upd_same (H := H4) (a := D) (o := .dT (putK kvs (evK m.2) (.ref O)))
        have e5 : ∀ b o, H4 b = some o → b ≠ D → upd H4 D (.dT (putK kvs (evK m.2) (.ref O))) b = some o := fun b o h nb => by rw [upd_ne nb]; exact h
        have sm5 := same_upd (o := .dT (putK kvs (evK m.2) (.ref O))) sm4 nD
        generalize upd H4 D (.dT (putK kvs (evK m.2) (.ref O))) = H5 at hO5 hD5 e5 sm5 ⊢
        have nLH : H O = none := sm.free nO
        have pk : ∀ x, valV (putK kvs (evK m.2) (.ref O)) (evK x) = if x = m.2 then some (.ref O) else valV kvs (evK x) := fun x => by
          rw [valV_put]
          by_cases h : x = m.2
          · rw [if_pos h, if_pos (evK_eq.mpr h)]
          · rw [if_neg h, if_neg fun z => h (evK_eq.mp z)]
        refine ⟨.inl ⟨rfl, _, SqL.of hO5⟩, _, rfl, O, _, _, rfl, rfl, hO5, (by show 0 < sizeLine; decide), _, _, putK kvs (evK m.2) (.ref O), rfl, same_upd sm5 nLH, cause_step S4 e5 hD5 pk ?_ hO5 (by rw [h0]; exact .nil) (fun x hn hz => ?_) (sm5 _ _ h1), fun x L h => ?_⟩
        · have := length_putK kvs (evK m.2) (V.ref O)
          have := S.few
          omega
        · rcases S.val x with ⟨h, _⟩ | ⟨L, us, h, hL, _⟩
          · rw [h] at hz; cases hz
          · rw [h] at hz
            injection hz with hz
            injection hz with hz
            subst hz
            rw [nO] at hL
            cases hL
        · rw [pk] at h
          split at h
          · injection h with h
            injection h with h
            subst h
            exact nLH
          · exact nw _ _ h
    · rintro σ Hx ⟨x2, x3, kvs, rfl, sm, S, _⟩
      rw [hlen, List.take_length] at S
      exact ⟨_, rfl, k D kvs Hx sm S⟩
abbrev lkN : List Str := ["events", "executed", "name", "number"]
theorem scLK : FnScope lkN ["events", "executed"] (defScope sLacking) := ⟨rfl, rfl, rfl, by decide +kernel, rfl, by decide +kernel, by decide +kernel⟩
theorem ok_lacking {f : Addr} {fd : FuncData} (F : Fun K "lacking" "lacking" sLacking f fd) : FnOk P w K mg base CX0 1 f fd ["events", "executed"] (spLacking K) := by
  refine F.ok scLK (fun vs H Q E h => ?_) (fun cdv A outer s H vs Q E hr h => ?_)
  · obtain ⟨_, _, _, _, _, _, _, rfl, _⟩ := h
    rfl
  · obtain ⟨e, D, us, ids, ns, ex, kvs, rfl, hE, hI, hil, NA, hin, k⟩ := h
    have hu := hu_of hr
    refine ⟨_, (pss_one (ps_ret (pe_lc (own := [("name", 2), ("number", 3)]) (g := gTup K 2 (gCons (gName 2) (gCons (gName 3) gNil))) (te := tTup (tCons (tVar 2) (tCons (tVar 3) tNil))) rfl scLK.nd (pi_seq (pv 0)) (blkOk_by (own := [("name", 2), ("number", 3)]) (N := lkN) (sc := defScope sLacking) (by decide +kernel)) (fun _ _ _ _ _ => (pg_tup rfl (pgs_cons (pg_name (i := 2) scLK.nd rfl (Or.inl rfl)) (pgs_cons (pg_name (i := 3) scLK.nd rfl (Or.inl rfl)) pgs_nil)))) (fun _ _ _ _ _ => pts_one (pt_cmpR op_gt (pv 3) (pe_dget hu (pv 1) (pv 2) (fun _ _ => rfl)) (nomark _))) (fun _ _ _ _ _ => (pe_tup (pa_cons (pv 2) (pa_cons (pv 3) pa_nil))))))), ?_⟩
    have hlen := Paired.length hI
    refine ⟨_, rfl, e, rfl, it_seq hE (Same.refl H) fun J G hG wk => fun N nN => ?_⟩
    refine lc_it wk (fun j Hy => Same H Hy ∧ ∃ zs, Hy N = some (.lst zs) ∧ IdsL Hy zs (lackF (ids.take j) ex) ∧ zs.length ≤ j) ⟨same_new nN, [], upd_same, .nil, Nat.le_refl _⟩ (fun j Hy _ q => hG _ q.1) ?_ ?_
    · rintro j x Hy Hy' hj ⟨sm, zs, hN, hZ, hzl⟩ ⟨rfl, hx⟩
      obtain ⟨y, hy⟩ : ∃ y, ids[j]? = some y := ⟨ids[j]'(by omega), by simp⟩
      obtain ⟨x', hx', q, rfl, hq⟩ := paired_get hI hy
      rw [hx] at hx'
      injection hx' with hx'
      subst hx'
      have hyn := hin y (List.mem_of_getElem? hy)
      have e2 : lackF (ids.take (j + 1)) ex = lackF (ids.take j) ex ++ (if ex y.1 < y.2 then [y] else []) := by
        rw [List.take_add_one, hy]
        unfold lackF
        rw [List.filter_append]
        congr 1
        by_cases h : ex y.1 < y.2 <;> simp [h]
      refine ⟨q, _, rfl, SqT.of (sm _ _ hq), rfl, _, _, rfl, _, _, rfl, rfl, rfl, ?_⟩
      have hg : DGet Hy' D (.str y.1) (some (.int (ex y.1 : Nat))) := by
        have := DGet.k (k := Sum.inr y.1) (sm _ _ NA.at_)
        rw [NA.val _ hyn] at this
        exact this
      refine ⟨_, rfl, _, rfl, _, rfl, D, _, rfl, hg, _, _, rfl, rfl, _, rfl, ?_⟩
      rw [e2]
      by_cases h : ex y.1 < y.2
      · refine iteTc (decide_eq_true (by omega)) ⟨_, rfl, _, rfl, (by show 2 ≤ sizeLine; decide), fun T nT => ?_⟩
        have s1 := same_new (o := .tup [.str y.1, .int (y.2 : Nat)]) nT
        have hT := upd_same (H := Hy') (a := T) (o := .tup [.str y.1, .int (y.2 : Nat)])
        generalize upd Hy' T (.tup [.str y.1, .int (y.2 : Nat)]) = H2 at s1 hT ⊢
        have hN2 := s1 _ _ hN
        have tk : ∀ b xs, H2 b = some (.tup xs) → upd H2 N (.lst (zs ++ [.ref T])) b = some (.tup xs) := fun b xs h => by
          rw [upd_ne (ne_of h hN2 (by intro z; cases z))]
          exact h
        refine ⟨zs, hN2, fitR (by omega), same_upd (sm.trans s1) nN, _, upd_same, ?_, by rw [List.length_append, List.length_singleton]; omega⟩
        rw [if_pos h]
        exact paired_app ((hZ.same s1).keep tk) (.cons ⟨T, rfl, tk _ _ hT⟩ .nil)
      · refine iteFc (decide_eq_false (by omega)) ⟨sm, zs, hN, ?_, by omega⟩
        rw [if_neg h, List.append_nil]
        exact hZ
    · rintro Hy ⟨sm, zs, hN, hZ, _⟩
      rw [hlen, List.take_length] at hZ
      exact k N zs Hy sm nN hN hZ
end
end XE
set_option Elab.async false
set_option linter.all false
set_option maxRecDepth 100000
set_option maxHeartbeats 1000000
/-! XRi: execution -/
namespace XE
open PySem PySem.Spec PyProof.Rows L2 RZ Rx SX Rc
abbrev sExecution : Stmt := topS 31
/-- a row of events each of which has what it needs ahead of it -/
inductive Legal (ns : List Str) (ln : Str → Nat) (cz : EvId → List EvId) : List EvId → Prop where
  | nil : Legal ns ln cz []
  | snoc {ids : List EvId} {n : Str} : Legal ns ln cz ids → n ∈ ns → reachF ids n < ln n → lackF (cz (n, reachF ids n + 1)) (reachF ids) = [] → Legal ns ln cz (ids ++ [(n, reachF ids n + 1)])
def Stuck (ln : Str → Nat) (cz : EvId → List EvId) (ids : List EvId) (n : Str) : Prop := reachF ids n < ln n → lackF (cz (n, reachF ids n + 1)) (reachF ids) ≠ []
/-- one step of the walk: the events so far, their number when the round began, the processes that the round has ahead -/
inductive ExStep (ns : List Str) (ln : Str → Nat) (cz : EvId → List EvId) : List EvId → Nat → List Str → List EvId → Nat → List Str → Prop where
  | take {ids : List EvId} {b : Nat} {n : Str} {r : List Str} : reachF ids n < ln n → lackF (cz (n, reachF ids n + 1)) (reachF ids) = [] → ExStep ns ln cz ids b (n :: r) (ids ++ [(n, reachF ids n + 1)]) b (n :: r)
  | pass {ids : List EvId} {b : Nat} {n : Str} {r : List Str} : (ln n ≤ reachF ids n ∨ lackF (cz (n, reachF ids n + 1)) (reachF ids) ≠ []) → ExStep ns ln cz ids b (n :: r) ids b r
  | again {ids : List EvId} {b : Nat} : b < ids.length → ExStep ns ln cz ids b [] ids ids.length ns
inductive ExRun (ns : List Str) (ln : Str → Nat) (cz : EvId → List EvId) : List EvId → Nat → List Str → Prop where
  | start : ExRun ns ln cz [] 0 ns
  | step {i1 i2 : List EvId} {b1 b2 : Nat} {r1 r2 : List Str} : ExRun ns ln cz i1 b1 r1 → ExStep ns ln cz i1 b1 r1 i2 b2 r2 → ExRun ns ln cz i2 b2 r2
def ExHalt (ns : List Str) (ln : Str → Nat) (cz : EvId → List EvId) (ids : List EvId) : Prop := ∃ b, ExRun ns ln cz ids b [] ∧ ids.length ≤ b
structure ExecOk (ns : List Str) (ln : Str → Nat) (cz : EvId → List EvId) (ids : List EvId) : Prop where
  legal : Legal ns ln cz ids
  stuck : ∀ n ∈ ns, Stuck ln cz ids n
  halt : ExHalt ns ln cz ids
/-- what the walk keeps for its end, at the head of the outer loop -/
def ExHead (ns : List Str) (ln : Str → Nat) (cz : EvId → List EvId) (ids : List EvId) (bf : Int) : Prop := (bf < ids.length → ExRun ns ln cz ids ids.length ns) ∧ (ids.length ≤ bf → ExHalt ns ln cz ids)
theorem ExHead.start (ns : List Str) (ln : Str → Nat) (cz : EvId → List EvId) : ExHead ns ln cz [] (-1) := ⟨fun _ => .start, fun h => by simp at h⟩
theorem ExHead.next {ns : List Str} {ln : Str → Nat} {cz : EvId → List EvId} {ids : List EvId} {b : Nat} (h : ExRun ns ln cz ids b []) : ExHead ns ln cz ids (b : Nat) :=
  ⟨fun q => h.step (.again (by omega)), fun q => ⟨b, h, by omega⟩⟩
theorem sum_upd {f : Str → Nat} {n : Str} : ∀ {ns : List Str}, ns.Nodup → n ∈ ns → (ns.map fun m => if m = n then f n + 1 else f m).sum = (ns.map f).sum + 1
  | [], _, h => nomatch h
  | m :: ns, hd, h => by
    rw [List.nodup_cons] at hd
    rw [List.map_cons, List.map_cons, List.sum_cons, List.sum_cons]
    by_cases c : m = n
    · subst c
      rw [if_pos rfl]
      have : (ns.map fun k => if k = m then f m + 1 else f k) = ns.map f := List.map_congr_left fun k hk => if_neg fun z => hd.1 (by rw [← z]; exact hk)
      rw [this]
      omega
    · rw [if_neg c]
      rcases List.mem_cons.mp h with rfl | h
      · exact absurd rfl c
      · rw [sum_upd hd.2 h]
        omega
theorem sum_le {f g : Str → Nat} : ∀ {ns : List Str}, (∀ n ∈ ns, f n ≤ g n) → (ns.map f).sum ≤ (ns.map g).sum
  | [], _ => Nat.le_refl _
  | n :: ns, h => by
    rw [List.map_cons, List.map_cons, List.sum_cons, List.sum_cons]
    have h1 := h n (List.mem_cons_self ..)
    have h2 := sum_le (ns := ns) fun m hm => h m (List.mem_cons_of_mem _ hm)
    omega
theorem Legal.le {ns : List Str} {ln : Str → Nat} {cz : EvId → List EvId} {ids : List EvId} (h : Legal ns ln cz ids) : ∀ n, reachF ids n ≤ ln n := by
  induction h with
  | nil => exact fun n => Nat.zero_le _
  | snoc h hn hl _ ih =>
    intro m
    rw [reachF_snoc]
    show (if m = _ then _ else _) ≤ _
    split
    · rename_i e
      subst e
      exact hl
    · exact ih m
theorem Legal.sum {ns : List Str} {ln : Str → Nat} {cz : EvId → List EvId} {ids : List EvId} (hd : ns.Nodup) (h : Legal ns ln cz ids) : ids.length = (ns.map (reachF ids)).sum := by
  induction h with
  | nil =>
    have : ∀ l : List Str, (l.map (reachF [])).sum = 0 := fun l => by
      induction l with
      | nil => rfl
      | cons a l ih => rw [List.map_cons, List.sum_cons, ih]; rfl
    exact (this ns).symm
  | snoc h hn hl _ ih =>
    rw [reachF_snoc, List.length_append, ih]
    exact (sum_upd hd hn).symm
theorem Legal.few {ns : List Str} {ln : Str → Nat} {cz : EvId → List EvId} {ids : List EvId} (hd : ns.Nodup) (h : Legal ns ln cz ids) : ids.length ≤ (ns.map ln).sum := by
  rw [h.sum hd]
  exact sum_le fun n _ => h.le n
theorem Legal.names {ns : List Str} {ln : Str → Nat} {cz : EvId → List EvId} {ids : List EvId} (h : Legal ns ln cz ids) : ∀ x ∈ ids, x.1 ∈ ns := by
  induction h with
  | nil => exact fun _ h => nomatch h
  | snoc h hn hl _ ih =>
    intro x hx
    rcases List.mem_append.mp hx with hx | hx
    · exact ih x hx
    · rw [List.mem_singleton.mp hx]
      exact hn
/-- the histories of the processes -/
structure HistL (K : PySem.W.Frag) (H : Hp) (h : Addr) (ns : List Str) (ln : Str → Nat) (hs : List V) : Prop where
  at_ : HistAt H h ns hs
  ev : ∀ (i : Nat) (n : Str), ns[i]? = some n → ∃ b us, hs[i]? = some (.ref b) ∧ SqT K H b us ∧ us.length = ln n
  nd : ns.Nodup
  few : ns.length ≤ 40
  len : (ns.map ln).sum ≤ 40000
theorem HistL.same {K : PySem.W.Frag} {H H1 : Hp} {h : Addr} {ns : List Str} {ln : Str → Nat} {hs : List V} (hh : HistL K H h ns ln hs) (e : Same H H1) : HistL K H1 h ns ln hs := by
  refine ⟨⟨e _ _ hh.at_.1, hh.at_.2⟩, fun i n hn => ?_, hh.nd, hh.few, hh.len⟩
  obtain ⟨b, us, h1, h2, h3⟩ := hh.ev i n hn
  exact ⟨b, us, h1, sqT_same e h2, h3⟩
theorem CauseAt.keep {H H1 : Hp} {D h : Addr} {ms : List (EvId × EvId)} {kvs : List (List Key × V)} {z : List (Key × V)} (C : CauseAt H D ms kvs) (hz : H h = some (.dK z)) (k : ∀ b o, H b = some o → b ≠ h → H1 b = some o) : CauseAt H1 D ms kvs := by
  refine ⟨k _ _ C.at_ (ne_of C.at_ hz (by intro z; cases z)), C.few, fun x => ?_, C.inj, C.ne⟩
  rcases C.val x with h | ⟨L, us, h1, h2, h3⟩
  · exact .inl h
  · exact .inr ⟨L, us, h1, k _ _ h2 (ne_of h2 hz (by intro z; cases z)), h3.keep fun b xs e => k _ _ e (ne_of e hz (by intro z; cases z))⟩
structure ExSt (Hb Hx : Hp) (N E : Addr) (ns : List Str) (ids : List EvId) : Prop where
  sm : Same Hb Hx
  fd : ∃ zs, Hx N = some (.lst zs) ∧ IdsL Hx zs ids
  ex : ∃ kve, NumAt Hx E ns (reachF ids) kve
def spExecution (K : PySem.W.Frag) : Sp := fun vs H Q _ => ∃ (h c : Addr) (ns : List Str) (ln : Str → Nat) (hs : List V) (ms : List (EvId × EvId)) (kvc : List (List Key × V)), vs = [.ref h, .ref c] ∧ HistL K H h ns ln hs ∧ CauseAt H c ms kvc ∧ ms.length ≤ 100000 ∧ (∀ m ∈ ms, m.1.1 ∈ ns) ∧
  ∀ (ids : List EvId) (N : Addr) (zs : List V) (H' : Hp), ExecOk ns ln (causesF ms) ids → Same H H' → H N = none → H' N = some (.lst zs) → IdsL H' zs ids → Q (.ref N) H'
theorem lock_same {H H' : Hp} {d : Addr} {o : HO} (s : Same H H') : Same (upd H d o) (upd H' d o) := fun b x e => by
  by_cases c : b = d
  · subst c
    rw [upd_same] at e ⊢
    exact e
  · rw [upd_ne c] at e ⊢
    exact s _ _ e
theorem ExSt.lock {H Hx : Hp} {N E d : Addr} {ns : List Str} {ids : List EvId} {od : Obj} {z : List (Key × V)} (S : ExSt H Hx N E ns ids) (hN : H N = none) (hE : H E = none) (hd : H d = some (.dK z)) : ExSt (upd H d (.frz od (.dK z))) (upd Hx d (.frz od (.dK z))) N E ns ids := by
  obtain ⟨sm, ⟨zs, h1, h2⟩, kve, NA⟩ := S
  have nN : N ≠ d := fun q => by rw [q, hd] at hN; cases hN
  have nE : E ≠ d := fun q => by rw [q, hd] at hE; cases hE
  have hd' := sm _ _ hd
  exact ⟨lock_same sm, ⟨zs, by rw [upd_ne nN]; exact h1, IdsL.keep h2 fun b xs e => by rw [upd_ne (ne_of e hd' (by intro z; cases z))]; exact e⟩, kve, NA.at2 (upd_ne nE)⟩
theorem ExSt.unlock {H Hx : Hp} {N E d : Addr} {ns : List Str} {ids : List EvId} {od : Obj} {z : List (Key × V)} (S : ExSt (upd H d (.frz od (.dK z))) Hx N E ns ids) (hN : H N = none) (hE : H E = none) (hd : H d = some (.dK z)) : ExSt H (upd Hx d (.dK z)) N E ns ids := by
  obtain ⟨sm, ⟨zs, h1, h2⟩, kve, NA⟩ := S
  have nN : N ≠ d := fun q => by rw [q, hd] at hN; cases hN
  have nE : E ≠ d := fun q => by rw [q, hd] at hE; cases hE
  have hd' := sm _ _ (upd_same (H := H) (a := d))
  exact ⟨unlock_same sm hd, ⟨zs, by rw [upd_ne nN]; exact h1, IdsL.keep h2 fun b xs e => by rw [upd_ne (ne_of e hd' (by intro z; cases z))]; exact e⟩, kve, NA.at2 (upd_ne nE)⟩
theorem lackF_nil {zs : List V} {H : Hp} {l : List EvId} (h : IdsL H zs l) : zs.isEmpty = l.isEmpty := by
  cases h <;> rfl
section
variable {P : Program} {w : World} {K : PySem.W.Frag} {mg : Str → Option Value} {base : Heap}
abbrev exN : List Str := ["histories", "causes", "executed", "name", "found", "before", "events", "number"]
theorem scEX : FnScope exN ["histories", "causes"] (defScope sExecution) := ⟨rfl, rfl, rfl, by decide +kernel, rfl, by decide +kernel, by decide +kernel⟩
theorem ok_execution {f fL : Addr} {fd fdL : FuncData} (F : Fun K "execution" "execution" sExecution f fd) (mlen : mg "len" = none) (CL : Cal P w K mg base 1 "lacking" fL fdL ["events", "executed"] (spLacking K)) : FnOk P w K mg base CX0 2 f fd ["histories", "causes"] (spExecution K) := by
  refine F.ok scEX (fun vs H Q E h => ?_) (fun cdv A outer s H vs Q E hr h => ?_)
  · obtain ⟨_, _, _, _, _, _, _, rfl, _⟩ := h
    rfl
  · obtain ⟨hd, c, ns, ln, hs, ms, kvc, rfl, HL, CA, hml, hin, k⟩ := h
    have hu := hu_of hr
    have hr1 : Room 1 _ := hr
    refine ⟨_, (pss_cons (ps_lock (ps_setDc (i := 2) (own := [("name", 3)]) (g := gName 3) (tt := tYes) (tk := tVar 3) (tv := tC (.int 0)) rfl scEX.nd rfl rfl (sw_trueD rfl rfl rfl (by decide +kernel)) (pi_keys (pv 0)) (blkOk_by (own := [("name", 3)]) (N := exN) (sc := defScope sExecution) (by decide +kernel)) (fun _ _ _ _ _ => (pg_name (i := 3) scEX.nd rfl (Or.inl rfl))) (fun _ _ _ _ _ => pts_nil) (fun _ _ _ _ _ => (pv 3)) (fun _ _ _ _ _ => pe_int))) (pss_cons (ps_set (i := 4) scEX.nd rfl (.inl rfl) (pe_lst pa_nil)) (pss_cons (ps_set (i := 5) scEX.nd rfl (.inl rfl) (pe_un un_neg pe_int)) (pss_cons (ps_while PassesOwn.never (pt_cmpR op_gt (pe_callB call_len_seq (by rfl) mlen PySem.boot_len (pa_cons (pv 4) pa_nil)) (pv 5) (nomark _)) (pss_cons (ps_set (i := 5) scEX.nd rfl (.inl rfl) (pe_callB call_len_seq (by rfl) mlen PySem.boot_len (pa_cons (pv 4) pa_nil))) (pss_one (ps_lock (ps_for PassesOwn.never rfl (pi_items (pv 0)) (pg_tup rfl (pgs_cons (pg_name (i := 3) scEX.nd rfl (.inl rfl)) (pgs_cons (pg_name (i := 6) scEX.nd rfl (.inl rfl)) pgs_nil))) (pss_cons (ps_set (i := 7) scEX.nd rfl (.inl rfl) (pe_op op_add (pe_dget hu (pv 2) (pv 3) (fun _ _ => rfl)) pe_int)) (pss_one (ps_while PassesOwn.never (PW.pt (pw_and (pt_cmpR op_le (pv 7) (pe_callB call_len_seq (by rfl) mlen PySem.boot_len (pa_cons (pv 6) pa_nil)) (nomark _)) (pw_and1 (pt_not (pt_truth (pe_call CL.ok hr1 rfl CL.mg CL.kp CL.bi .nil pass0 (pa_cons (pe_dget2 hu (pv 1) (pe_tup (pa_cons (pv 3) (pa_cons (pv 7) pa_nil))) (pe_tup pa_nil) ⟨rfl, rfl, rfl, rfl⟩) (pa_cons (pv 2) pa_nil))) (by intro _; rfl)))))) (pss_cons (ps_expr (pe_bm PySem.F.plainAttrs_list PySem.F.slot_list_append PySem.F.type_list_append mt_append (pv 4) (pa_cons (pe_tup (pa_cons (pv 3) (pa_cons (pv 7) pa_nil))) pa_nil))) (pss_cons (ps_dput hu (pv 2) (pv 3) (pv 7) rfl) (pss_one (ps_aug (i := 7) scEX.nd rfl (.inl rfl) pe_int iop_add)))))))))))) (pss_one (ps_ret (pv 4))))))), ?_⟩
    refine ⟨hd, _, HL.at_.1, True.intro, fun od => ⟨_, rfl, hd, od, rfl, .inl ⟨_, upd_same, fun D nD => ?_⟩⟩⟩
    generalize hu0 : HO.dK ((ns.zip hs).map fun p => ((Sum.inr p.1 : Key), p.2)) = u0
    have hHd : H hd = some u0 := by rw [← hu0]; exact HL.at_.1
    have hlz : ((ns.zip hs).map fun p => ((Sum.inr p.1 : Key), p.2)).length = ns.length := by
      rw [List.length_map, List.length_zip, ← HL.at_.2, Nat.min_self]
    have nDd : D ≠ hd := fun z => by rw [z, upd_same] at nD; cases nD
    have nDH : H D = none := by rw [← nD, upd_ne nDd]
    rw [← hu0]
    refine dc_it walk_keys (fun i Hy => Hy D = some (.dK ((ns.take i).map fun n => ((Sum.inr n : Key), V.int 0))) ∧ Same (upd H hd (.frz od (.dK ((ns.zip hs).map fun p => ((Sum.inr p.1 : Key), p.2))))) Hy) ⟨upd_same, same_new nD⟩ (fun i Hy _ q => q.2 _ _ upd_same) ?_ ?_
    · rintro i x Hy Hy' hi ⟨hD, sm⟩ ⟨rfl, k0, v0, hk, rfl⟩
      obtain ⟨n, hn, _, rfl⟩ := zip_key hk
      refine ⟨rfl, ?_⟩
      dsimp only [tYes]
      rw [if_pos rfl]
      have e1 : ns.take (i + 1) = ns.take i ++ [n] := by rw [List.take_add_one, hn]; rfl
      have hnn : n ∉ ns.take i := fun z => by
        have hnd1 := List.nodup_iff_pairwise_ne.mp HL.nd
        have hnd2 := hnd1.sublist (List.take_sublist (i + 1) ns)
        rw [e1] at hnd2
        exact (List.pairwise_append.mp hnd2).2.2 n z n (List.mem_singleton_self _) rfl
      refine ⟨_, rfl, _, Sum.inr n, rfl, hD, ?_, ?_, same_upd sm nD⟩
      · rw [List.length_map, List.length_take]
        have := HL.few
        exact fitR (by omega)
      · rw [putK_new _ (valV_names (f := fun _ => V.int 0) hnn), upd_same, e1, List.map_append]
        rfl
    rintro H1 ⟨hD, sm⟩
    rw [hlz, List.take_length] at hD
    refine ⟨sm _ _ upd_same, ?_⟩
    rw [hu0] at sm ⊢
    have s1 := unlock_same sm hHd
    have hD1 : upd H1 hd u0 D = _ := (upd_ne nDd).trans hD
    generalize upd H1 hd u0 = H2 at s1 hD1 ⊢
    have N0 : NumAt H2 D ns (reachF []) _ := ⟨hD1, by rw [List.map_map]; rfl, fun n hn => valV_name (f := fun _ => V.int 0) hn⟩
    clear hD1 hD sm
    refine ⟨by show 0 ≤ sizeLine; exact Nat.zero_le _, fun N nN => ?_⟩
    have nNH : H N = none := s1.free nN
    have s3 := s1.trans (same_new (o := .lst []) nN)
    have hN3 := upd_same (H := H2) (a := N) (o := .lst [])
    have nDN : D ≠ N := ne_of_none N0.at_ nN
    have N3 : NumAt (upd H2 N (.lst [])) D ns (reachF []) _ := N0.at2 (upd_ne nDN)
    generalize upd H2 N (.lst []) = H3 at s3 hN3 N3 ⊢
    have hcs : ∀ x, ∀ y ∈ causesF ms x, y.1 ∈ ns := fun x y hy => by
      obtain ⟨m, hm, rfl⟩ := List.mem_map.mp hy
      exact hin m (List.mem_filter.mp hm).1
    refine ⟨_, rfl, ?_⟩
    refine ⟨fun m σ Hx => ∃ (x3 x6 x7 : Option V) (bf : Int) (ids : List EvId), σ = [some (.ref hd), some (.ref c), some (.ref D), x3, some (.ref N), some (.int bf), x6, x7] ∧ ExSt H Hx N D ns ids ∧ Legal ns ln (causesF ms) ids ∧ -1 ≤ bf ∧ bf ≤ ids.length ∧ ((ids.length : Int) = bf → ∀ n ∈ ns, Stuck ln (causesF ms) ids n) ∧ ExHead ns ln (causesF ms) ids bf ∧ m = (40001 - bf).toNat,
      ⟨_, _, _, _, -1, [], rfl, ⟨s3, ⟨[], hN3, .nil⟩, _, N3⟩, .nil, by omega, by simp, fun z => by simp at z, .start _ _ _, rfl⟩, ?_⟩
    rintro m σ Hx ⟨x3, x6, x7, bf, ids, rfl, ST, LG, b0, b1, st, EH, rfl⟩
    have ST0 := ST
    obtain ⟨sm, ⟨zs, hzN, hzI⟩, kve, NA⟩ := ST
    have hzl := Paired.length hzI
    refine ⟨_, rfl, N, zs, rfl, .inl (SqL.of hzN), _, rfl, _, _, rfl, rfl, _, rfl, ?_⟩
    have hfew := Nat.le_trans (LG.few HL.nd) HL.len
    by_cases hlt : bf < zs.length
    · refine iteTc (decide_eq_true hlt) ⟨_, fun _ _ h => h, ?_⟩
      refine ⟨_, rfl, N, zs, rfl, .inl (SqL.of hzN), ?_⟩
      rw [hzl]
      refine ⟨hd, u0, sm _ _ hHd, by rw [← hu0]; exact True.intro, fun od2 => ?_⟩
      have ST1 := ST0.lock (od := od2) nNH nDH HL.at_.1
      rw [hu0] at ST1
      have hl0 : upd H hd (.frz od2 u0) hd = some (.frz od2 u0) := upd_same
      have kp : ∀ b o, H b = some o → b ≠ hd → upd H hd (.frz od2 u0) b = some o := fun b o e n => by rw [upd_ne n]; exact e
      have CA1 := CA.keep (h := hd) HL.at_.1 kp
      have EV1 : ∀ (i : Nat) (n : Str), ns[i]? = some n → ∃ b us, hs[i]? = some (.ref b) ∧ SqT K (upd H hd (.frz od2 u0)) b us ∧ us.length = ln n := fun i n hn => by
        obtain ⟨b, us, q1, q2, q3⟩ := HL.ev i n hn
        exact ⟨b, us, q1, sqT_keep (fun b xs e => kp b _ e (ne_of e HL.at_.1 (by intro z; cases z))) (fun b o u e => kp b _ e (ne_of e HL.at_.1 (by intro z; cases z))) q2, q3⟩
      have nNL : upd H hd (.frz od2 u0) N = none := by rw [upd_ne (fun q => by rw [q, hHd] at nNH; cases nNH)]; exact nNH
      have nDL : upd H hd (.frz od2 u0) D = none := by rw [upd_ne nDd]; exact nDH
      have hHx : upd Hx hd (.frz od2 u0) hd = some (.frz od2 u0) := upd_same
      have fin : ∀ (σ' : L2.St) (Hy : Hp), (∃ (x3 x6 x7 : Option V) (ids' : List EvId), σ' = [some (.ref hd), some (.ref c), some (.ref D), x3, some (.ref N), some (.int (ids.length : Nat)), x6, x7] ∧ ExSt (upd H hd (.frz od2 u0)) Hy N D ns ids' ∧ Legal ns ln (causesF ms) ids' ∧ ids.length ≤ ids'.length ∧ (ids'.length = ids.length → ids' = ids ∧ ∀ n ∈ ns.take ns.length, Stuck ln (causesF ms) ids n) ∧ ExRun ns ln (causesF ms) ids' ids.length (ns.drop ns.length)) →
          Hy hd = some (.frz od2 u0) ∧ ∃ m', m' < (40001 - bf).toNat ∧ ∃ (x3 x6 x7 : Option V) (bf : Int) (ids : List EvId), σ' = [some (.ref hd), some (.ref c), some (.ref D), x3, some (.ref N), some (.int bf), x6, x7] ∧ ExSt H (upd Hy hd u0) N D ns ids ∧ Legal ns ln (causesF ms) ids ∧ -1 ≤ bf ∧ bf ≤ ids.length ∧ ((ids.length : Int) = bf → ∀ n ∈ ns, Stuck ln (causesF ms) ids n) ∧ ExHead ns ln (causesF ms) ids bf ∧ m' = (40001 - bf).toNat := fun σ' Hy ⟨x3, x6, x7, ids', e, S, L, l1, l2, ER⟩ => by
        have S2 := (hu0 ▸ S).unlock (z := (ns.zip hs).map fun (p : Str × V) => ((Sum.inr p.1 : Key), p.2)) nNH nDH HL.at_.1
        rw [hu0] at S2
        refine ⟨S.sm _ _ hl0, _, ?_, x3, x6, x7, ids.length, ids', e, S2, L, by omega, by omega, fun z n hn => ?_, .next (by rw [List.drop_length] at ER; exact ER), rfl⟩
        · omega
        · obtain ⟨rfl, q⟩ := l2 (by omega)
          exact q n (by rw [List.take_length]; exact hn)
      generalize upd Hx hd (.frz od2 u0) = Hy0 at ST1 hHx ⊢
      generalize upd H hd (.frz od2 u0) = HL0 at ST1 hl0 CA1 EV1 nNL nDL fin
      refine ⟨_, rfl, hd, od2, (ns.zip hs).map fun p => ((Sum.inr p.1 : Key), p.2), rfl, by rw [hu0]; exact hHx, ?_⟩
      refine for_it walk_items (fun i σ Hy => ∃ (x3 x6 x7 : Option V) (ids' : List EvId), σ = [some (.ref hd), some (.ref c), some (.ref D), x3, some (.ref N), some (.int (ids.length : Nat)), x6, x7] ∧ ExSt HL0 Hy N D ns ids' ∧ Legal ns ln (causesF ms) ids' ∧ ids.length ≤ ids'.length ∧ (ids'.length = ids.length → ids' = ids ∧ ∀ n ∈ ns.take i, Stuck ln (causesF ms) ids n) ∧ ExRun ns ln (causesF ms) ids' ids.length (ns.drop i))
        ⟨_, _, _, ids, rfl, ST1, LG, Nat.le_refl _, fun _ => ⟨rfl, fun n h => nomatch h⟩, EH.1 (by omega)⟩ (fun i σ Hy _ ⟨_, _, _, _, _, S, _⟩ => by rw [hu0]; exact S.sm _ _ hl0) ?_ (fun σ' Hy q => fin σ' Hy (by rw [← hlz]; exact q))
      rintro i x σ Hy Hy' hi ⟨x3, x6, x7, ids1, rfl, S1, L1, l1, l2, ER1⟩ ⟨T, y1, y2, rfl, nT, rfl, e1, e2⟩
      dsimp only at e1 e2
      cases hkv : ((ns.zip hs).map fun (p : Str × V) => ((Sum.inr p.1 : Key), p.2))[i]? with
      | none => rw [hkv] at e1; cases e1
      | some kv =>
      obtain ⟨k0, v0⟩ := kv
      obtain ⟨n, hn, hv, rfl⟩ := zip_key hkv
      rw [hkv] at e1 e2
      obtain ⟨b, us, hb, hbu, hul⟩ := EV1 i n hn
      rw [hv] at hb
      injection hb with hb
      subst hb
      injection e1 with e1
      injection e2 with e2
      subst e1 e2
      have hnm := List.mem_of_getElem? hn
      have hdr : ns.drop i = n :: ns.drop (i + 1) := by
        obtain ⟨q1, q2⟩ := List.getElem?_eq_some_iff.mp hn
        rw [List.drop_eq_getElem_cons q1, q2]
      rw [hdr] at ER1
      have sT := same_new (o := .tup [.str n, .ref b]) nT
      have hT := upd_same (H := Hy) (a := T) (o := .tup [.str n, .ref b])
      have ST3 : ExSt HL0 (upd Hy T (.tup [.str n, .ref b])) N D ns ids1 := by
        obtain ⟨q1, ⟨zs, q2, q3⟩, kve, q4⟩ := S1
        exact ⟨q1.trans sT, ⟨zs, sT _ _ q2, IdsL.same q3 sT⟩, kve, q4.at2 (by rw [sT _ _ q4.at_, q4.at_])⟩
      show gTup _ _ _ (V.ref T) _ (upd Hy T (.tup [.str n, .ref b])) _
      generalize upd Hy T (.tup [.str n, .ref b]) = Hz at ST3 hT ⊢
      have ST4 := ST3
      obtain ⟨smz, _, kve1, NA1⟩ := ST4
      have hg : ∀ {Hw : Hp} {kve : List (Key × V)} {ids : List EvId}, NumAt Hw D ns (reachF ids) kve → DGet Hw D (.str n) (some (.int (reachF ids n : Nat))) := fun NA => by
        have := DGet.k (k := Sum.inr n) NA.at_
        rw [NA.val _ hnm] at this
        exact this
      refine ⟨T, _, rfl, SqT.of hT, rfl, _, _, rfl, _, _, rfl, rfl, ?_⟩
      refine ⟨_, rfl, _, rfl, D, _, rfl, hg NA1, _, _, rfl, rfl, ?_⟩
      refine ⟨fun m σ Hw => ∃ (ids' : List EvId), σ = [some (.ref hd), some (.ref c), some (.ref D), some (.str n), some (.ref N), some (.int (ids.length : Nat)), some (.ref b), some (.int ((reachF ids' n : Nat) + 1))] ∧ ExSt HL0 Hw N D ns ids' ∧ Legal ns ln (causesF ms) ids' ∧ ids1.length ≤ ids'.length ∧ (ids'.length = ids1.length → ids' = ids1) ∧ ExRun ns ln (causesF ms) ids' ids.length (n :: ns.drop (i + 1)) ∧ m = ln n - reachF ids' n,
        ⟨_, ids1, rfl, ST3, L1, Nat.le_refl _, fun _ => rfl, ER1, rfl⟩, ?_⟩
      rintro m σ Hw ⟨ids', rfl, S2, L2', q1, q2, ER2, rfl⟩
      have S2' := S2
      obtain ⟨smw, ⟨zs, hzN2, hzI2⟩, kve, NA2⟩ := S2
      refine ⟨_, rfl, _, rfl, b, us, rfl, .inr (sqT_same smw hbu), _, _, rfl, rfl, _, rfl, ?_⟩
      rw [hul]
      have out : (ln n ≤ reachF ids' n ∨ lackF (causesF ms (n, reachF ids' n + 1)) (reachF ids') ≠ []) → ∀ Hv, ExSt HL0 Hv N D ns ids' → ∃ (x3 x6 x7 : Option V) (ids'' : List EvId), [some (V.ref hd), some (.ref c), some (.ref D), some (.str n), some (.ref N), some (.int (ids.length : Nat)), some (.ref b), some (.int ((reachF ids' n : Nat) + 1))] = [some (.ref hd), some (.ref c), some (.ref D), x3, some (.ref N), some (.int (ids.length : Nat)), x6, x7] ∧ ExSt HL0 Hv N D ns ids'' ∧ Legal ns ln (causesF ms) ids'' ∧ ids.length ≤ ids''.length ∧ (ids''.length = ids.length → ids'' = ids ∧ ∀ n ∈ ns.take (i + 1), Stuck ln (causesF ms) ids n) ∧ ExRun ns ln (causesF ms) ids'' ids.length (ns.drop (i + 1)) := fun hs Hv SV => by
        refine ⟨_, _, _, ids', rfl, SV, L2', by omega, fun z => ?_, ER2.step (.pass hs)⟩
        have z1 := q2 (by omega)
        subst z1
        obtain ⟨rfl, z2⟩ := l2 z
        refine ⟨rfl, fun m hm => ?_⟩
        rw [List.take_add_one, hn] at hm
        rcases List.mem_append.mp hm with hm | hm
        · exact z2 m hm
        · rw [show m = n by simpa using hm]
          intro hlt
          rcases hs with hs | hs
          · omega
          · exact hs
      by_cases hle : reachF ids' n < ln n
      · refine iteTc (decide_eq_true (by omega)) ?_
        refine ⟨_, rfl, c, rfl, .inr ⟨_, .inl (smw _ _ CA1.at_)⟩, _, rfl, _, rfl, (by show 2 ≤ sizeLine; decide), fun U nU => ⟨(by show 0 ≤ sizeLine; decide), fun E0 nE => ?_⟩⟩
        have sU := (same_new (o := .tup [.str n, .int ((reachF ids' n : Nat) + 1)]) nU).trans (same_new (o := .tup []) nE)
        have hU0 : upd Hw U (.tup [.str n, .int ((reachF ids' n : Nat) + 1)]) U = some (.tup ((evK (n, reachF ids' n + 1)).map kV)) := upd_same
        have hU := same_new (o := .tup []) nE _ _ hU0
        have hE0 := upd_same (H := upd Hw U (.tup [.str n, .int ((reachF ids' n : Nat) + 1)])) (a := E0) (o := .tup [])
        generalize upd (upd Hw U (.tup [.str n, .int ((reachF ids' n : Nat) + 1)])) E0 (.tup []) = Hv at sU hU hE0 ⊢
        have CAv := CA1.same (smw.trans sU)
        refine ⟨_, DGet.t CAv.at_ hU, ?_⟩
        obtain ⟨L, us0, hLv, hLs, hSL⟩ : ∃ L us0, (valV kvc (evK (n, reachF ids' n + 1))).getD (.ref E0) = .ref L ∧ (SqL K Hv L us0 ∨ SqT K Hv L us0) ∧ IdsL Hv us0 (causesF ms (n, reachF ids' n + 1)) := by
          rcases CAv.val (n, reachF ids' n + 1) with ⟨h1, h2⟩ | ⟨L, us0, h1, h2, h3⟩
          · exact ⟨E0, [], by rw [h1]; rfl, .inr (SqT.of hE0), by rw [h2]; exact .nil⟩
          · exact ⟨L, us0, by rw [h1]; rfl, .inl (SqL.of h2), h3⟩
        rw [hLv]
        have NAv := NA2.at2 (H1 := Hv) (by rw [sU _ _ NA2.at_, NA2.at_])
        refine ⟨_, rfl, L, D, us0, _, ns, _, kve, rfl, hLs, hSL, Nat.le_trans (causesF_le ..) hml, NAv, hcs _, fun NN zz H4 s4 nNN hNN hZZ => ?_⟩
        refine ⟨_, .inl ⟨_, SqL.of hNN, rfl⟩, ?_⟩
        rw [lackF_nil hZZ]
        have s24 := sU.trans s4
        have S4 : ExSt HL0 H4 N D ns ids' := ⟨smw.trans s24, ⟨zs, s24 _ _ hzN2, IdsL.same hzI2 s24⟩, kve, NA2.at2 (by rw [s24 _ _ NA2.at_, NA2.at_])⟩
        cases hlk : (lackF (causesF ms (n, reachF ids' n + 1)) (reachF ids')).isEmpty with
        | false =>
          refine iteFc rfl (out (.inr fun z => ?_) _ S4)
          rw [z] at hlk
          cases hlk
        | true =>
          refine iteTc rfl ⟨_, fun _ _ h => h, ?_⟩
          have hl0' := List.isEmpty_iff.mp hlk
          refine ⟨_, rfl, .inl ⟨rfl, _, SqL.of (s24 _ _ hzN2)⟩, _, rfl, _, rfl, (by show 2 ≤ sizeLine; decide), fun T2 nT2 => ?_⟩
          have s5 := same_new (o := .tup [.str n, .int ((reachF ids' n : Nat) + 1)]) nT2
          have hT5 : upd H4 T2 (.tup [.str n, .int ((reachF ids' n : Nat) + 1)]) T2 = some (.tup [.str n, .int ((reachF ids' n + 1 : Nat) : Int)]) := upd_same
          generalize upd H4 T2 (.tup [.str n, .int ((reachF ids' n : Nat) + 1)]) = H5 at s5 hT5 ⊢
          have s25 := s24.trans s5
          have hN5 := s25 _ _ hzN2
          have hI5 := IdsL.same hzI2 s25
          have NA5 := NA2.at2 (H1 := H5) (by rw [s25 _ _ NA2.at_, NA2.at_])
          have nDN' : D ≠ N := ne_of NA5.at_ hN5 (by intro z; cases z)
          have lz : ids'.length ≤ 40000 := Nat.le_trans (L2'.few HL.nd) HL.len
          refine ⟨N, _, _, rfl, rfl, hN5, (by rw [Paired.length hzI2]; exact fitR (by omega)), ?_⟩
          have NA6 := NA5.at2 (H1 := upd H5 N (.lst (zs ++ [.ref T2]))) (upd_ne nDN')
          have tk : ∀ b xs, H5 b = some (.tup xs) → upd H5 N (.lst (zs ++ [.ref T2])) b = some (.tup xs) := fun b xs h => by
            rw [upd_ne (ne_of h hN5 (by intro z; cases z))]
            exact h
          refine ⟨_, rfl, _, rfl, _, rfl, D, _, rfl, DPut.k NA6.at_ (by rw [NA6.few]; exact fitR (by have := HL.few; omega)) (k := Sum.inr n), ?_⟩
          refine ⟨_, rfl, _, _, rfl, rfl, _, ?_, ids' ++ [(n, reachF ids' n + 1)], ?_, ⟨same_upd (same_upd (smw.trans s25) nNL) nDL, ⟨zs ++ [.ref T2], ?_, ?_⟩, putK kve (Sum.inr n) (.int ((reachF ids' n + 1 : Nat) : Int)), ?_⟩, .snoc L2' hnm hle hl0', ?_, ?_, ER2.step (.take hle hl0'), rfl⟩
          · rw [reachF_snoc]
            show ln n - (if n = n then _ else _) < _
            rw [if_pos rfl]
            show ln n - (reachF ids' n + 1) < _
            omega
          · rw [reachF_snoc]
            show _ = [_, _, _, _, _, _, _, some (V.int (((if n = n then reachF ids' n + 1 else reachF ids' n : Nat) : Int) + 1))]
            rw [if_pos rfl]
            rfl
          · rw [upd_ne nDN'.symm, upd_same]
          · refine paired_app (IdsL.keep hI5 fun b xs h => ?_) (.cons ⟨T2, rfl, ?_⟩ .nil)
            · rw [upd_ne (ne_of (tk _ _ h) NA6.at_ (by intro z; cases z))]
              exact tk _ _ h
            · show upd (upd _ _ _) _ _ T2 = _
              rw [upd_ne (ne_of (tk _ _ hT5) NA6.at_ (by intro z; cases z))]
              exact tk _ _ hT5
          · rw [reachF_snoc]
            exact NA6.put hnm
          · rw [List.length_append]
            omega
          · intro z
            rw [List.length_append, List.length_singleton] at z
            omega
      · refine iteFc (decide_eq_false (by omega)) ?_
        refine iteFc rfl (out (.inl (by omega)) _ S2')
    · refine iteFc (decide_eq_false hlt) ⟨_, rfl, k ids N zs Hx ⟨LG, st (by omega), EH.2 (by omega)⟩ sm nNH hzN hzI⟩
end
end XE
set_option Elab.async false
set_option linter.all false
set_option maxRecDepth 100000
set_option maxHeartbeats 1000000
namespace Rx
open PySem PySem.Spec PyProof.Rows L2 SX
theorem shStrs3 (ns : List Str) (h : ∀ n ∈ ns, PyData.strOk n = true) : SeqAt.shaped (.list (ns.map PyData.str)) = true := by
  have h1 : ∀ ns : List Str, (∀ n ∈ ns, PyData.strOk n = true) → PyData.canLayAll0 (ns.map PyData.str) = true ∧ PyData.depthAll (ns.map PyData.str) = 0 := by
    intro ns
    induction ns with
    | nil => intro _; simp [PyData.canLayAll0, PyData.depthAll]
    | cons n ns ih =>
      intro h
      obtain ⟨i1, i2⟩ := ih fun x hx => h x (by simp [hx])
      simp [PyData.canLayAll0, PyData.depthAll, PyData.canLay0, PyData.depth, i1, i2, h n (by simp)]
  simp [SeqAt.shaped, PyData.canLay0, PyData.depth, (h1 ns h).1, (h1 ns h).2]
theorem dpStrs3 {K : PySem.W.Frag} (H : Hp) : ∀ ns : List Str, DpAll K H (ns.map V.str) (ns.map PyData.str)
  | [] => .nil
  | x :: r => .cons (.str x) (dpStrs3 H r)
theorem name_strOk {x : Str} (h : isName (cod x) = true) : PyData.strOk x = true := by
  have := name_ok h
  rw [str_cod] at this
  exact this
/-- data of so many floors -/
def Lay (n : Nat) (d : PyData) : Prop := d.canLay0 = true ∧ d.depth ≤ n
theorem lay_all {n : Nat} : ∀ {xs : List PyData}, (∀ x ∈ xs, Lay n x) → PyData.canLayAll0 xs = true ∧ PyData.depthAll xs ≤ n
  | [], _ => by simp [PyData.canLayAll0, PyData.depthAll]
  | x :: r, h => by
    obtain ⟨a, b⟩ := lay_all fun y hy => h y (List.mem_cons_of_mem _ hy)
    obtain ⟨c, e⟩ := h x (by simp)
    simp only [PyData.canLayAll0, PyData.depthAll, a, c, Bool.and_self, true_and]
    omega
theorem lay_tup {n : Nat} {xs : List PyData} (h : ∀ x ∈ xs, Lay n x) : Lay (n + 1) (.tuple xs) := by
  obtain ⟨a, b⟩ := lay_all h
  refine ⟨by simpa [PyData.canLay0] using a, ?_⟩
  simp only [PyData.depth]
  omega
theorem Lay.shaped {n : Nat} {d : PyData} (h : Lay n d) (hn : n ≤ 64) : SeqAt.shaped d = true := by
  simp only [SeqAt.shaped, h.1, Bool.true_and, decide_eq_true_eq]
  exact Nat.le_trans h.2 hn
theorem Lay.mono {n m : Nat} {d : PyData} (h : Lay n d) (hn : n ≤ m) : Lay m d := ⟨h.1, Nat.le_trans h.2 hn⟩
theorem lay_str {n : Nat} {x : Str} (h : PyData.strOk x = true) : Lay n (.str x) := ⟨by simpa [PyData.canLay0] using h, by simp [PyData.depth]⟩
end Rx
set_option Elab.async false
set_option linter.all false
set_option maxRecDepth 100000
set_option maxHeartbeats 1000000
/-! XRa: what rows and events are checked by -/
namespace XE
open PySem PySem.Spec PyProof.Rows L2 RZ Rx SX Rc
abbrev sIsName : Stmt := topS 8
abbrev sIsInteger : Stmt := topS 9
abbrev sIsValue : Stmt := topS 10
abbrev sIsRow : Stmt := topS 22
abbrev sFitsIn : Stmt := topS 25
structure TxtN (K : PySem.W.Frag) (mg : Str → Option Value) : Prop where
  letters : ∃ t, mg "LETTERS" = some (.str lettersS t)
  nlen : ∃ t, mg "NAME_LENGTH" = some (.int 8 t)
  res : ∃ a, mg "RESERVED" = some (.ref a) ∧ KTup K a (reservedL.map V.str)
  large : ∃ t, mg "TOO_LARGE" = some (.int bigZ t)
  len : mg "len" = none
  isi : mg "isinstance" = none
  all_ : mg "all" = none
  int_ : mg "int" = none
  str_ : mg "str" = none
  bool_ : mg "bool" = none
  tup : mg "tuple" = none
  abs_ : mg "abs" = none
def SmallD (d : PyData) : Prop := ∀ z, d = .str z → z.length ≤ 100000
/-- data goes in, a truth comes out -/
def spTestD (K : PySem.W.Frag) (p : PyData → Bool) : Sp := fun vs H Q _ => ∃ (v : V) (d : PyData), vs = [v] ∧ Dp K H v d ∧ SmallD d ∧ ∀ H', Same H H' → Q (.bl (p d)) H'
section
variable {P : Program} {w : World} {K : PySem.W.Frag} {mg : Str → Option Value} {base : Heap}
abbrev inN : List Str := ["thing", "letter"]
theorem scIN : FnScope inN ["thing"] (defScope sIsName) := ⟨rfl, rfl, rfl, by decide +kernel, rfl, by decide +kernel, by decide +kernel⟩
theorem ok_isNameD {f : Addr} {fd : FuncData} (F : Fun K "is_name" "is_name" sIsName f fd) (T : TxtN K mg) : FnOk P w K mg base CX0 1 f fd ["thing"] (spTestD K isNameD) := by
  obtain ⟨tL, mL⟩ := T.letters
  obtain ⟨tN, mN⟩ := T.nlen
  obtain ⟨aR, mR, kR⟩ := T.res
  refine F.ok scIN (fun vs H Q E h => ?_) (fun cdv A outer s H vs Q E hr h => ?_)
  · obtain ⟨z, d, rfl, _⟩ := h
    rfl
  · obtain ⟨v, d, rfl, hv, hz, k⟩ := h
    refine ⟨_, (pss_cons (ps_if (PW.pt (pw_or (pt_not (pt_val (pe_callB call_isi (by rfl) T.isi (by decide +kernel) (pa_cons (pv 0) (pa_cons (pe_bltn (v := .ty "str") (by rfl) T.str_ (by decide +kernel) rfl) pa_nil))))) (pw_or1 (pt_cmpR op_in_seq (pv 0) (pe_glob (v := .ref aR) rfl mR rfl) rfl)))) (pss_one (ps_ret pe_bl)) pss_nil) (pss_cons (ps_if (PW.pt (pw_or (pt_cmpR op_eq (pv 0) pe_str (nomark _)) (pw_or1 (pt_cmpR op_gt (pe_callB call_len_str (by rfl) T.len PySem.boot_len (pa_cons (pv 0) pa_nil)) (pe_glob (v := .int 8) rfl mN ⟨_, rfl⟩) (nomark _))))) (pss_one (ps_ret pe_bl)) pss_nil) (pss_one (ps_ret (pe_callB (cr_all rfl) (by rfl) T.all_ (by decide +kernel) (pa_cons (pe_lc (own := [("letter", 1)]) (g := gName 1) (tt := tYes) rfl scIN.nd (pi_str (pv 0)) (blkOk_by (own := [("letter", 1)]) (N := inN) (sc := defScope sIsName) (by decide +kernel)) (fun _ _ _ _ _ => (pg_name (i := 1) scIN.nd rfl (Or.inl rfl))) (fun _ _ _ _ _ => pts_nil) (fun _ _ _ _ _ => (pe_cmpR op_in_sign (pv 1) (pe_glob (v := .str lettersS) rfl mL ⟨_, rfl⟩) rfl))) pa_nil)))))), ?_⟩
    refine ⟨_, rfl, _, _, _, _, _, rfl, .ty "str", dp_tyX hv, kit_str hv, _, rfl, ?_⟩
    have no : isStrD d = false → isNameD d = false := fun e => by cases d <;> first | rfl | cases e
    cases hs : isStrD d with
    | false =>
      refine iteTc rfl ?_
      have := k H (Same.refl H)
      rw [no hs] at this
      exact this
    | true =>
    obtain ⟨z, rfl⟩ : ∃ z, d = .str z := by cases d <;> first | exact ⟨_, rfl⟩ | cases hs
    cases hv
    refine iteFc rfl ?_
    have hz' := hz z rfl
    refine ⟨_, rfl, aR, _, rfl, .inr (kR.sq H), rfl, flat_strs _, _, rfl, ?_⟩
    have nm : isNameD (.str z) = (!(reservedL.contains z) && (decide (z.cps.toList ≠ []) && (decide (z.cps.toList.length ≤ 8) && z.cps.toList.all isLet))) := by
      show isName z.cps.toList = _
      unfold isName
      rw [S_tl]
    show if inV (.str z) (reservedL.map V.str) = true then _ else _
    rw [inV_strs]
    cases hres : reservedL.contains z with
    | true =>
      refine iteTc rfl ?_
      have := k H (Same.refl H)
      rw [nm, hres] at this
      exact this
    | false =>
      refine iteFc rfl ?_
      rw [hres] at nm
      refine ⟨_, rfl, rfl, _, rfl, ite2 (fun e => ?_) (fun e => ?_)⟩
      · have e' : z = ("" : Str) := by
          have := of_decide_eq_true e
          injection this
        have := k H (Same.refl H)
        rw [nm, (nil_tl z).mp e'] at this
        exact this
      · have e' : z.cps.toList ≠ [] := fun q => e (decide_eq_true (by rw [(nil_tl z).mpr q]))
        refine ⟨_, rfl, z, rfl, Nat.le_trans hz' (by decide), _, _, rfl, rfl, _, rfl, ite2 (fun e2 => ?_) (fun e2 => ?_)⟩
        · have e2' : ¬ z.cps.toList.length ≤ 8 := by
            have := of_decide_eq_true e2
            rw [len_tl]
            omega
          have := k H (Same.refl H)
          rw [nm, decide_eq_false e2', Bool.false_and, Bool.and_false] at this
          exact this
        · have e2' : z.cps.toList.length ≤ 8 := by
            have : ¬ ((8 : Int) < (z.length : Int)) := fun q => e2 (decide_eq_true q)
            rw [len_tl]
            omega
          refine ⟨_, rfl, z, rfl, fun D hD => ?_⟩
          refine lc_it walk_str (fun i Hx => Hx D = some (.lst (((z.cps.toList.take i).map isLet).map V.bl)) ∧ Same H Hx) ⟨upd_same, same_new hD⟩ (fun _ _ _ _ => trivial) ?_ ?_
          · rintro i x Hx H' hi ⟨h1, h2⟩ ⟨rfl, c, hc, rfl⟩
            refine ⟨rfl, ?_⟩
            dsimp only [tYes]
            rw [if_pos rfl]
            refine ⟨_, rfl, c, lettersS, rfl, rfl, _, h1, ?_, ?_, same_upd h2 hD⟩
            · rw [List.length_map, List.length_map, List.length_take]
              exact Nat.lt_of_le_of_lt (Nat.min_le_right _ _) (Nat.lt_of_le_of_lt (by rw [len_tl]; exact hz') (by decide))
            · rw [upd_same, let_mem]
              have hc' : z.cps.toList[i]? = some c := by rw [Array.getElem?_toList]; exact hc
              rw [List.take_add_one, hc', List.map_append, List.map_append]
              rfl
          · rintro Hx ⟨h1, h2⟩
            refine all_read (K := K) (p := isLet) (z := z) ⟨_, h1, ?_⟩ ?_
            · rw [List.take_of_length_le (by simp)]
            · have := k Hx h2
              rw [nm, decide_eq_true e', decide_eq_true e2'] at this
              simpa using this
abbrev iiN : List Str := ["thing"]
theorem scII : FnScope iiN ["thing"] (defScope sIsInteger) := ⟨rfl, rfl, rfl, by decide +kernel, rfl, by decide +kernel, by decide +kernel⟩
theorem ok_isInteger {f : Addr} {fd : FuncData} (F : Fun K "is_integer" "is_integer" sIsInteger f fd) (T : TxtN K mg) : FnOk P w K mg base CX0 1 f fd ["thing"] (spTestD K isIntegerD) := by
  refine F.ok scII (fun vs H Q E h => ?_) (fun cdv A outer s H vs Q E hr h => ?_)
  · obtain ⟨z, d, rfl, _⟩ := h
    rfl
  · obtain ⟨v, d, rfl, hv, hz, k⟩ := h
    refine ⟨_, (pss_one (ps_ret (pe_and (pe_callB call_isi (by rfl) T.isi (by decide +kernel) (pa_cons (pv 0) (pa_cons (pe_bltn (v := .ty "int") (by rfl) T.int_ (by decide +kernel) rfl) pa_nil))) (pe_one (pe_not (pe_callB call_isi (by rfl) T.isi (by decide +kernel) (pa_cons (pv 0) (pa_cons (pe_bltn (v := .ty "bool") (by rfl) T.bool_ (by decide +kernel) rfl) pa_nil)))))))), ?_⟩
    refine ⟨_, rfl, _, _, _, _, _, rfl, .ty "int", dp_tyX hv, kit_int hv, _, rfl, ?_⟩
    have k' := k H (Same.refl H)
    cases hi : isIntD d with
    | false =>
      refine iteFc rfl ?_
      rw [show isIntegerD d = false by cases d <;> first | rfl | cases hi] at k'
      exact k'
    | true =>
      refine iteTc rfl ⟨_, rfl, _, _, _, _, _, rfl, .ty "bool", dp_tyX hv, kit_bool hv, _, rfl, ?_⟩
      rw [show isIntegerD d = !isBoolD d by cases d <;> first | rfl | cases hi] at k'
      exact k'
abbrev ivN : List Str := ["thing"]
theorem scIV : FnScope ivN ["thing"] (defScope sIsValue) := ⟨rfl, rfl, rfl, by decide +kernel, rfl, by decide +kernel, by decide +kernel⟩
theorem ok_isValue {f fI : Addr} {fd fdI : FuncData} (F : Fun K "is_value" "is_value" sIsValue f fd) (T : TxtN K mg) (CI : Cal P w K mg base 1 "is_integer" fI fdI ["thing"] (spTestD K isIntegerD)) : FnOk P w K mg base CX0 2 f fd ["thing"] (spTestD K isValueD) := by
  obtain ⟨tB, mB⟩ := T.large
  refine F.ok scIV (fun vs H Q E h => ?_) (fun cdv A outer s H vs Q E hr h => ?_)
  · obtain ⟨z, d, rfl, _⟩ := h
    rfl
  · obtain ⟨v, d, rfl, hv, hz, k⟩ := h
    have hr1 : Room 1 _ := hr.mono (by omega)
    refine ⟨_, (pss_one (ps_ret (pe_and (pe_call CI.ok hr1 rfl CI.mg CI.kp CI.bi .nil pass0 (pa_cons (pv 0) pa_nil)) (pe_one (pe_cmpR op_lt (pe_callB call_abs (by rfl) T.abs_ (by decide +kernel) (pa_cons (pv 0) pa_nil)) (pe_glob (v := .int bigZ) rfl mB ⟨_, rfl⟩) (nomark _)))))), ?_⟩
    refine ⟨_, rfl, v, d, rfl, hv, hz, fun H1 s1 => ⟨_, rfl, ?_⟩⟩
    cases hi : isIntegerD d with
    | false =>
      refine iteFc rfl ?_
      have k' := k H1 s1
      rw [isValueD_no hi] at k'
      exact k'
    | true =>
      obtain ⟨z, rfl⟩ : ∃ z, d = .int z := by cases d <;> first | exact ⟨_, rfl⟩ | cases hi
      cases hv
      refine iteTc rfl ⟨_, rfl, z, rfl, _, _, rfl, rfl, ?_⟩
      have k' := k H1 s1
      rw [show isValueD (.int z) = decide ((if z < 0 then -z else z) < bigZ) from ?_] at k'
      · exact k'
      exact abs_lt z bigZ
def spTestG (K : PySem.W.Frag) (p : PyData → Bool) : Sp := fun vs H Q _ => ∃ (v : V) (d : PyData), vs = [v] ∧ Dp K H v d ∧ Gd d ∧ ∀ H', Same H H' → Q (.bl (p d)) H'
abbrev irN : List Str := ["row"]
theorem scIR : FnScope irN ["row"] (defScope sIsRow) := ⟨rfl, rfl, rfl, by decide +kernel, rfl, by decide +kernel, by decide +kernel⟩
theorem ok_isRow {f fN : Addr} {fd fdN : FuncData} (F : Fun K "is_row" "is_row" sIsRow f fd) (T : TxtN K mg) (CN : Cal P w K mg base 1 "is_name" fN fdN ["thing"] (spTestD K isNameD)) : FnOk P w K mg base CX0 2 f fd ["row"] (spTestG K isRowD) := by
  refine F.ok scIR (fun vs H Q E h => ?_) (fun cdv A outer s H vs Q E hr h => ?_)
  · obtain ⟨z, d, rfl, _⟩ := h
    rfl
  · obtain ⟨v, d, rfl, hv, hz, k⟩ := h
    have hr1 : Room 1 _ := hr.mono (by omega)
    refine ⟨_, (pss_one (ps_ret (pe_and (pe_callB call_isi (by rfl) T.isi (by decide +kernel) (pa_cons (pv 0) (pa_cons (pe_bltn (v := .ty "tuple") (by rfl) T.tup (by decide +kernel) rfl) pa_nil))) (pe_and (pe_cmpR op_eq (pe_callB call_len_seq (by rfl) T.len PySem.boot_len (pa_cons (pv 0) pa_nil)) pe_int (nomark _)) (pe_and (pe_call CN.ok hr1 rfl CN.mg CN.kp CN.bi .nil pass0 (pa_cons (pe_ix ix_tup (pv 0) pe_int (fun _ _ => rfl)) pa_nil)) (pe_one (pe_callB call_isi (by rfl) T.isi (by decide +kernel) (pa_cons (pe_ix ix_tup (pv 0) pe_int (fun _ _ => rfl)) (pa_cons (pe_bltn (v := .ty "tuple") (by rfl) T.tup (by decide +kernel) rfl) pa_nil))))))))), ?_⟩
    refine ⟨_, rfl, _, _, _, _, _, rfl, .ty "tuple", dp_tyX hv, kit_tup hv, _, rfl, ?_⟩
    have k0 := k H (Same.refl H)
    cases ht : isTupD d with
    | false =>
      refine iteFc rfl ?_
      rw [show isRowD d = false by cases d <;> first | rfl | cases ht] at k0
      exact k0
    | true =>
    obtain ⟨xs, rfl⟩ : ∃ xs, d = .tuple xs := by cases d <;> first | exact ⟨_, rfl⟩ | cases ht
    obtain ⟨q, vs, rfl, hq, ha⟩ : ∃ q vs, v = .ref q ∧ SqT K H q vs ∧ DpAll K H vs xs := by
      cases hv with
      | tup h1 h2 => exact ⟨_, _, rfl, h1, h2⟩
    have hl := dpAll_len ha
    refine iteTc rfl ⟨_, rfl, q, vs, rfl, .inr hq, rfl, _, rfl, ?_⟩
    by_cases h2 : vs.length = 2
    · refine iteTc (decide_eq_true (by rw [h2]; rfl)) ?_
      obtain ⟨v1, v2, rfl⟩ : ∃ v1 v2, vs = [v1, v2] := by
        match vs, h2 with
        | [a, b], _ => exact ⟨a, b, rfl⟩
      obtain ⟨d1, ds1, rfl, h1, ha⟩ := dpAll_inv ha
      obtain ⟨d2, ds2, rfl, h2', ha⟩ := dpAll_inv ha
      have := dpAll_inv0 ha
      subst this
      have g1 : Gd d1 := hz.mem (by simp)
      have hv1 : SmallD d1 := fun z e => by subst e; exact g1.str
      refine ⟨_, rfl, q, _, 0, _, rfl, rfl, hq, atI_nat (j := 0) rfl, v1, d1, rfl, h1, hv1, fun H1 s1 => ⟨_, rfl, ?_⟩⟩
      have k1 := k H1 s1
      rw [isRowD_two] at k1
      cases hn : isNameD d1 with
      | false =>
        rw [hn] at k1
        exact iteFc rfl k1
      | true =>
        rw [hn] at k1
        refine iteTc rfl ⟨_, rfl, q, _, 1, _, rfl, rfl, sqT_same s1 hq, atI_nat (j := 1) rfl, _, _, _, _, _, rfl, .ty "tuple", dp_tyX (dp_same s1 h2'), kit_tup h2', ?_⟩
        exact k1
    · refine iteFc (decide_eq_false fun z => h2 (by injection z with z; omega)) ?_
      rw [show isRowD (.tuple xs) = false from ?_] at k0
      · exact k0
      have hx : xs.length ≠ 2 := by omega
      unfold isRowD Rc.rowOf
      split
      · rename_i e
        injection e with e
        subst e
        exact absurd rfl hx
      · rfl
theorem any_str (os : List Str) (d : PyData) : ((os.map PyData.str).any fun z => PyData.eqv z d) = match d with | .str p => decide (p ∈ os) | _ => false := by
  induction os with
  | nil => cases d <;> simp
  | cons o os ih =>
    rw [List.map_cons, List.any_cons, ih]
    cases d with
    | str p =>
      by_cases h : o = p
      · subst h; simp [PyData.eqv]
      · have h' : p ≠ o := fun z => h z.symm
        simp [PyData.eqv, h, h']
    | _ => simp [PyData.eqv]
def spFits (K : PySem.W.Frag) : Sp := fun vs H Q _ => ∃ (v : V) (d : PyData) (kind : Str) (O : Addr) (os : List Str), vs = [.str kind, v, .ref O] ∧ Dp K H v d ∧ Gd d ∧ H O = some (.lst (os.map V.str)) ∧ os.length ≤ 50 ∧ Gd (.list (os.map PyData.str)) ∧ ∀ H', Same H H' → Q (.bl (fitsB kind d os)) H'
abbrev fiN : List Str := ["kind", "part", "others"]
theorem scFI : FnScope fiN ["kind", "part", "others"] (defScope sFitsIn) := ⟨rfl, rfl, rfl, by decide +kernel, rfl, by decide +kernel, by decide +kernel⟩
theorem ok_fitsIn {f fN fW : Addr} {fd fdN fdW : FuncData} (F : Fun K "fits_in" "fits_in" sFitsIn f fd) (T : TxtN K mg) (CN : Cal P w K mg base 1 "is_name" fN fdN ["thing"] (spTestD K isNameD)) (CW : Cal P w K mg base 2 "is_value" fW fdW ["thing"] (spTestD K isValueD)) : FnOk P w K mg base CX0 3 f fd ["kind", "part", "others"] (spFits K) := by
  refine F.ok scFI (fun vs H Q E h => ?_) (fun cdv A outer s H vs Q E hr h => ?_)
  · obtain ⟨z, d, _, _, _, rfl, _⟩ := h
    rfl
  · obtain ⟨v, d, kind, O, os, rfl, hv, hz, hO, hol, hog, k⟩ := h
    have hr1 : Room 1 _ := hr.mono (by omega)
    have hr2 : Room 2 _ := hr.mono (by omega)
    have hu65 : (A.deeper (envOfC "fits_in" (defScope sFitsIn) s.heap.objs.size f cdv)).units + 65 < cLine := by have := hr.un; omega
    refine ⟨_, (pss_cons (ps_if (pt_cmpR op_eq (pv 0) pe_str (nomark _)) (pss_one (ps_ret (pe_cmpR (op_inD hu65) (pv 1) (pv 2) rfl))) pss_nil) (pss_cons (ps_if (pt_cmpR op_eq (pv 0) pe_str (nomark _)) (pss_one (ps_ret (pe_call CN.ok hr1 rfl CN.mg CN.kp CN.bi .nil pass0 (pa_cons (pv 1) pa_nil)))) pss_nil) (pss_one (ps_ret (pe_call CW.ok hr2 rfl CW.mg CW.kp CW.bi .nil pass0 (pa_cons (pv 1) pa_nil)))))), ?_⟩
    have k0 := k H (Same.refl H)
    refine ⟨_, rfl, rfl, _, rfl, ite2 (fun e => ?_) (fun e => ?_)⟩
    · have e' : kind = "process" := by
        have := of_decide_eq_true e
        injection this
      refine ⟨_, rfl, _, rfl, d, os.map .str, hv, .lst (.inl (.inl hO)) (dpStrs3 H os), hz.sh, hog.sh, ?_⟩
      rw [any_str]
      unfold Rc.fitsB at k0
      rw [if_pos e'] at k0
      exact k0
    have e' : kind ≠ "process" := fun q => e (decide_eq_true (by rw [q]))
    refine ⟨_, rfl, rfl, _, rfl, ite2 (fun e2 => ?_) (fun e2 => ?_)⟩
    · have e2' : kind = "variable" := by
        have := of_decide_eq_true e2
        injection this
      refine ⟨_, rfl, v, d, rfl, hv, fun z e => by subst e; exact hz.str, fun H1 s1 => ?_⟩
      have k1 := k H1 s1
      unfold Rc.fitsB at k1
      rw [if_neg e', if_pos e2'] at k1
      exact k1
    · have e2' : kind ≠ "variable" := fun q => e2 (decide_eq_true (by rw [q]))
      refine ⟨_, rfl, v, d, rfl, hv, fun z e => by subst e; exact hz.str, fun H1 s1 => ?_⟩
      have k1 := k H1 s1
      unfold Rc.fitsB at k1
      rw [if_neg e', if_neg e2'] at k1
      exact k1
end
end XE
set_option Elab.async false
set_option linter.all false
set_option maxRecDepth 100000
set_option maxHeartbeats 1000000
/-! XRb: the form of an event -/
namespace XE
open PySem PySem.Spec PyProof.Rows L2 RZ Rx SX Rc
abbrev sHasShape : Stmt := topS 24
def spHas (K : PySem.W.Frag) : Sp := fun vs H Q _ => ∃ (v : V) (d : PyData) (O : Addr) (os : List Str), vs = [v, .ref O] ∧ Dp K H v d ∧ Gd d ∧ H O = some (.lst (os.map V.str)) ∧ os.length ≤ 50 ∧ Gd (.list (os.map PyData.str)) ∧ ∀ H', Same H H' → Q (.bl (hasB os d)) H'
theorem cut_one (x : V) (xs : List V) : cutV (x :: xs) (some 1) none = xs := by
  unfold cutV HT.sIx
  simp
theorem sIx_one {n : Nat} (h : 0 < n) : ¬ (HT.sIx n 0 (some 1) = 0 ∧ HT.sIx n n none = n) := by
  unfold HT.sIx
  simp
  omega
section
variable {P : Program} {w : World} {K : PySem.W.Frag} {mg : Str → Option Value} {base : Heap}
abbrev hsN : List Str := ["event", "others", "kind", "part"]
theorem scHS : FnScope hsN ["event", "others"] (defScope sHasShape) := ⟨rfl, rfl, rfl, by decide +kernel, rfl, by decide +kernel, by decide +kernel⟩
theorem ok_hasShape {f fF : Addr} {fd fdF : FuncData} (F : Fun K "has_shape" "has_shape" sHasShape f fd) (T : TxtN K mg) (mz : mg "zip" = none) (S : ∃ a, mg "SHAPES" = some (.ref a) ∧ KTab K w a shapeL) (CF : Cal P w K mg base 3 "fits_in" fF fdF ["kind", "part", "others"] (spFits K)) : FnOk P w K mg base CX0 4 f fd ["event", "others"] (spHas K) := by
  obtain ⟨aS, mS, tab⟩ := S
  obtain ⟨es, nn, DS, look⟩ := tab.look
  refine F.ok scHS (fun vs H Q E h => ?_) (fun cdv A outer s H vs Q E hr h => ?_)
  · obtain ⟨z, d, _, _, rfl, _⟩ := h
    rfl
  · obtain ⟨v, d, O, os, rfl, hv, hz, hO, hol, hog, k⟩ := h
    have hr3 : Room 3 _ := hr.mono (by omega)
    refine ⟨_, (pss_cons (ps_if (PW.pt (pw_or (pt_not (pt_val (pe_callB call_isi (by rfl) T.isi (by decide +kernel) (pa_cons (pv 0) (pa_cons (pe_bltn (v := .ty "tuple") (by rfl) T.tup (by decide +kernel) rfl) pa_nil))))) (pw_or (pt_not (pt_truth (pv 0) (by intro _; rfl))) (pw_or1 (pt_not (pt_val (pe_callB call_isi (by rfl) T.isi (by decide +kernel) (pa_cons (pe_ix ix_tup (pv 0) pe_int (fun _ _ => rfl)) (pa_cons (pe_bltn (v := .ty "str") (by rfl) T.str_ (by decide +kernel) rfl) pa_nil))))))))) (pss_one (ps_ret pe_bl)) pss_nil) (pss_cons (ps_if (PW.pt (pw_or (pt_cmpR (op_notIn_kd DS) (pe_ix ix_tup (pv 0) pe_int (fun _ _ => rfl)) (pe_glob (v := .ref aS) rfl mS rfl) rfl) (pw_or1 (pt_cmpR op_ne (pe_callB call_len_seq (by rfl) T.len PySem.boot_len (pa_cons (pv 0) pa_nil)) (pe_op op_add (pe_callB call_len_seq (by rfl) T.len PySem.boot_len (pa_cons (pe_ix ix_kdict (pe_glob (v := .ref aS) rfl mS rfl) (pe_ix ix_tup (pv 0) pe_int (fun _ _ => rfl)) (fun _ _ => rfl)) pa_nil)) pe_int) (nomark _))))) (pss_one (ps_ret pe_bl)) pss_nil) (pss_one (ps_ret (pe_callB (cr_all rfl) (by rfl) T.all_ (by decide +kernel) (pa_cons (pe_lc (own := [("kind", 2), ("part", 3)]) (g := gTup K 2 (gCons (gName 2) (gCons (gName 3) gNil))) (tt := tYes) (te := tCall (spFits K) [] E0 (tCons (tVar 2) (tCons (tVar 3) (tCons (tVar 1) tNil)))) rfl scHS.nd (pi_zipA (by rfl) mz (pa_cons (pe_ix ix_kdict (pe_glob (v := .ref aS) rfl mS rfl) (pe_ix ix_tup (pv 0) pe_int (fun _ _ => rfl)) (fun _ _ => rfl)) (pa_cons (pe_slice sl_tupA (pv 0) (po_some pe_int) po_none) pa_nil))) (blkOk_by (own := [("kind", 2), ("part", 3)]) (N := hsN) (sc := defScope sHasShape) (by decide +kernel)) (fun _ _ _ _ _ => (pg_tup rfl (pgs_cons (pg_name (i := 2) scHS.nd rfl (Or.inl rfl)) (pgs_cons (pg_name (i := 3) scHS.nd rfl (Or.inl rfl)) pgs_nil)))) (fun _ _ _ _ _ => pts_nil) (fun _ _ _ _ _ => (pe_call CF.ok hr3 rfl CF.mg CF.kp CF.bi .nil pass0 (pa_cons (pv 2) (pa_cons (pv 3) (pa_cons (pv 1) pa_nil)))))) pa_nil)))))), ?_⟩
    have k0 := k H (Same.refl H)
    refine ⟨_, rfl, _, _, _, _, _, rfl, .ty "tuple", dp_tyX hv, kit_tup hv, _, rfl, ?_⟩
    cases ht : isTupD d with
    | false =>
      refine iteTc rfl ?_
      rw [show hasB os d = false by cases d <;> first | rfl | cases ht] at k0
      exact k0
    | true =>
    obtain ⟨ds, rfl⟩ : ∃ xs, d = .tuple xs := by cases d <;> first | exact ⟨_, rfl⟩ | cases ht
    obtain ⟨q, vs, rfl, hq, ha⟩ : ∃ q vs, v = .ref q ∧ SqT K H q vs ∧ DpAll K H vs ds := by
      cases hv with
      | tup h1 h2 => exact ⟨_, _, rfl, h1, h2⟩
    refine iteFc rfl ⟨_, rfl, _, .inr (.inl ⟨vs, hq, rfl⟩), ?_⟩
    cases vs with
    | nil =>
      have := dpAll_inv0 ha
      subst this
      exact iteTc rfl k0
    | cons v0 vs =>
    obtain ⟨d0, ds, rfl, h0, hb⟩ := dpAll_inv ha
    have g0 : Gd d0 := hz.mem (by simp)
    refine iteFc rfl ⟨_, rfl, q, _, 0, _, rfl, rfl, hq, atI_nat (j := 0) rfl, _, _, _, _, _, rfl, .ty "str", dp_tyX h0, kit_str h0, _, rfl, ?_⟩
    cases hs : isStrD d0 with
    | false =>
      refine iteTc rfl ?_
      rw [show hasB os (.tuple (d0 :: ds)) = false by cases d0 <;> first | rfl | cases hs] at k0
      exact k0
    | true =>
    obtain ⟨w0, rfl⟩ : ∃ z, d0 = .str z := by cases d0 <;> first | exact ⟨_, rfl⟩ | cases hs
    cases h0
    refine iteFc rfl ?_
    have hl := dpAll_len hb
    have e0 : hasB os (.tuple (.str w0 :: ds)) = partsB os ds (shapeOf w0) := rfl
    rcases look w0 with ⟨hf, hn⟩ | ⟨p, b, hf, hn, hk⟩
    · refine ⟨_, rfl, q, _, 0, _, rfl, rfl, hq, atI_nat (j := 0) rfl, w0, none, rfl, rfl, hn, _, rfl, iteTc rfl ?_⟩
      rw [e0, show shapeOf w0 = none by unfold shapeOf; rw [hf]; rfl] at k0
      exact k0
    · have es' : shapeOf w0 = some p.2 := by unfold shapeOf; rw [hf]; rfl
      have kd : KDct K w aS w0 (.ref b) := ⟨_, _, _, DS.at_, DS.lit, hn, rfl⟩
      refine ⟨_, rfl, q, _, 0, _, rfl, rfl, hq, atI_nat (j := 0) rfl, w0, _, rfl, rfl, hn, _, rfl, iteFc rfl ?_⟩
      refine ⟨_, rfl, q, _, rfl, .inr hq, _, rfl, q, _, 0, _, rfl, rfl, hq, atI_nat (j := 0) rfl, _, _, _, rfl, rfl, kd, b, _, rfl, .inr (hk.sq H), _, _, rfl, rfl, rfl, _, rfl, ?_⟩
      have hkl : (p.2.map V.str).length = p.2.length := List.length_map ..
      refine ite2 (fun e => ?_) (fun e => ?_)
      · have hne : ds.length ≠ p.2.length := by
          have := int_ne1.mp e
          simp only [List.length_cons, hkl] at this
          omega
        rw [e0, es', partsB_ne hne] at k0
        exact k0
      · have heq : ds.length = p.2.length := by
          refine Classical.byContradiction fun z => e (int_ne1.mpr ?_)
          simp only [List.length_cons, hkl]
          omega
        rw [e0, es', partsB_eq heq] at k
        refine ⟨_, rfl, q, _, 0, _, rfl, rfl, hq, atI_nat (j := 0) rfl, _, _, _, rfl, rfl, kd, _, rfl, _, rfl, q, _, rfl, hq, fun z => absurd z (sIx_one (Nat.succ_pos _)), fun _ T nT => ?_⟩
        rw [cut_one]
        have sT := same_new (o := .tup vs) nT
        have hT := SqT.of (K := K) (upd_same (H := H) (a := T) (o := .tup vs))
        generalize upd H T (.tup vs) = H1 at sT hT ⊢
        refine ⟨b, T, _, vs, rfl, .inr ⟨hk.sq H1, hT, ?_⟩⟩
        have hb1 := dpAll_same sT hb
        have hO1 := sT _ _ hO
        have hp3 : p.2.length ≤ 3 := by
          have := List.mem_of_find?_eq_some hf
          exact (show ∀ p ∈ shapeL, p.2.length ≤ 3 by decide +kernel) _ this
        have hmin : p.2.length = min (p.2.map V.str).length vs.length := by rw [hkl]; omega
        intro D nD
        refine lc_it (walk_zipT hmin) (fun i Hy => Same H1 Hy ∧ Hy D = some (.lst ((((p.2.zip ds).map fun u => Rc.fitsB u.1 u.2 os).take i).map V.bl))) ⟨same_new nD, upd_same⟩ (fun i Hy _ h => ⟨hk.sq Hy, sqT_same h.1 hT⟩) ?_ ?_
        · rintro i x Hx H' hi ⟨sm, hD⟩ ⟨T2, y1, y2, rfl, n2, rfl, hy1, hy2⟩
          obtain ⟨ki, hki, rfl⟩ := mapS_get hy1
          obtain ⟨di, hdi, hdp⟩ := dpAll_at hb1 hy2
          have s2 : Same H1 (upd Hx T2 (.tup [.str ki, y2])) := sm.trans (same_new n2)
          have hD2 : (upd Hx T2 (.tup [.str ki, y2])) D = _ := same_new n2 _ _ hD
          have hT2 := SqT.of (K := K) (upd_same (H := Hx) (a := T2) (o := .tup [.str ki, y2]))
          generalize upd Hx T2 (.tup [.str ki, y2]) = Hz at s2 hD2 hT2 ⊢
          have gi : Gd di := hz.mem (List.mem_cons_of_mem _ (List.mem_of_getElem? hdi))
          refine ⟨T2, _, rfl, hT2, rfl, _, _, rfl, _, _, rfl, rfl, rfl, ?_⟩
          dsimp only [tYes]
          rw [if_pos rfl]
          refine ⟨_, rfl, _, rfl, _, rfl, y2, di, ki, O, os, rfl, dp_same s2 hdp, gi, s2 _ _ hO1, hol, hog, fun H3 s3 => ⟨_, s3 _ _ hD2, ?_, same_upd (s2.trans s3) nD, ?_⟩⟩
          · rw [List.length_map, List.length_take]
            exact fitR (by omega)
          · rw [upd_same]
            have hz' : ((p.2.zip ds).map fun u => Rc.fitsB u.1 u.2 os)[i]? = some (Rc.fitsB ki di os) := by
              rw [List.getElem?_map, Rc.zip_get hki hdi]
              rfl
            rw [List.take_add_one, hz', List.map_append]
            rfl
        · rintro Hx ⟨sm, hD⟩
          rw [List.take_of_length_le (by rw [List.length_map, List.length_zip]; omega)] at hD
          refine ⟨D, _, rfl, SqL.of hD, ?_⟩
          have k1 := k Hx (sT.trans sm)
          rw [List.all_map]
          exact k1
end
end XE
set_option Elab.async false
set_option linter.all false
set_option maxRecDepth 100000
set_option maxHeartbeats 1000000
/-! XRc: check_rows, check_events -/
namespace XE
open PySem PySem.Spec PyProof.Rows L2 RZ Rx SX Rc
abbrev sCheckRows : Stmt := topS 21
abbrev sCheckEvents : Stmt := topS 23
def rowDue (ds : List PyData) : Option Nat := if ds = [] then some 0 else rowBad [] 0 ds
def spCheckR (K : PySem.W.Frag) (CR : Addr) : Sp := fun vs H Q E => ∃ (t : Addr) (xs : List V) (ds : List PyData), vs = [.ref t] ∧ SqT K H t xs ∧ DpAll K H xs ds ∧ (∀ d ∈ ds, Gd d) ∧ ds.length ≤ 1000 ∧
  (rowDue ds = none → ∀ H', Same H H' → Q .non H') ∧ (∀ i, rowDue ds = some i → RecAt CR H "row" .non i E)
theorem bad_stop {kn : List Str} {d : PyData} {ds : List PyData} : rowBad kn 40 (d :: ds) = some 40 := by
  unfold rowBad
  cases h : rowOf d with
  | none => rfl
  | some r => exact if_pos (.inl rfl)
theorem bad_none {kn : List Str} {i : Nat} {d : PyData} {ds : List PyData} (h : rowOf d = none) : rowBad kn i (d :: ds) = some i := by
  unfold rowBad
  rw [h]
theorem bad_some {kn : List Str} {i : Nat} {d : PyData} {ds : List PyData} {n : Str} {es : List PyData} (h : rowOf d = some (n, es)) : rowBad kn i (d :: ds) = if i = 40 ∨ n ∈ kn then some i else rowBad (kn ++ [n]) (i + 1) ds := by
  simp only [rowBad, h]
section
variable {P : Program} {w : World} {K : PySem.W.Frag} {mg : Str → Option Value} {base : Heap} {CR : Addr}
abbrev krN : List Str := ["rows", "names", "index", "row"]
theorem scKR : FnScope krN ["rows"] (defScope sCheckRows) := ⟨rfl, rfl, rfl, by decide +kernel, rfl, by decide +kernel, by decide +kernel⟩
theorem ok_checkRows {f fW : Addr} {fd fdW : FuncData} {tM : Tok} (F : Fun K "check_rows" "check_rows" sCheckRows f fd) (menum : mg "enumerate" = none) (mproc : mg "MOST_PROCESSES" = some (.int 40 tM)) (TR : RaiT P w K mg base "BadRecord" CR ["reason", "name", "number"])
    (CW : Cal P w K mg base 2 "is_row" fW fdW ["row"] (spTestG K isRowD)) :
    FnOk P w K mg base (L2.CX P w) 4 f fd ["rows"] (spCheckR K CR) := by
  obtain ⟨fR, fdR, iR, tR, FR, bR⟩ := TR.ini
  refine F.okX scKR (fun vs H Q E h => ?_) (fun cdv A outer s H vs Q E hr h => ?_)
  · obtain ⟨_, _, _, rfl, _⟩ := h
    rfl
  · obtain ⟨t, xs, ds, rfl, ht, hd, hg, hl, kQ, kE⟩ := h
    have hr2 : Room 2 _ := hr.mono (by decide)
    have hrR : Room 3 _ := hr.mono (by decide)
    refine ⟨_, (pss_cons (ps_set (i := 1) scKR.nd rfl (.inl rfl) (pe_lst pa_nil)) (pss_cons (ps_for (passes_of rfl) rfl (pi_enumT (by rfl) menum (pa_cons (pv 0) pa_nil)) (pg_tup rfl (pgs_cons (pg_name (i := 2) scKR.nd rfl (.inl rfl)) (pgs_cons (pg_name (i := 3) scKR.nd rfl (.inl rfl)) pgs_nil))) (pss_cons (ps_if (PW.pt (pw_or (pt_cmpR op_eq (pv 2) (pe_glob (v := .int 40) rfl mproc ⟨_, rfl⟩) (nomark _)) (pw_or (pt_not (pt_val (pe_call CW.ok hr2 rfl CW.mg CW.kp CW.bi .nil pass0 (pa_cons (pv 3) pa_nil)))) (pw_or1 (pt_cmpR op_in_seq (pe_ix ix_tup (pv 3) pe_int (fun _ _ => rfl)) (pv 1) rfl))))) (pss_one (ps_raise rfl (takes_of rfl rfl rfl rfl) (pmk_oex TR.oex iR tR FR hrR bR .nil pass0 rfl TR.mgx (pa_cons pe_str (pa_cons pe_non (pa_cons (pv 2) pa_nil)))))) pss_nil) (pss_one (ps_expr (pe_bm PySem.F.plainAttrs_list PySem.F.slot_list_append PySem.F.type_list_append mt_append (pv 1) (pa_cons (pe_ix ix_tup (pv 3) pe_int (fun _ _ => rfl)) pa_nil)))))) (pss_one (ps_if (pt_not (pt_truth (pv 0) (by intro _; rfl))) (pss_one (ps_raise rfl (takes_of rfl rfl rfl rfl) (pmk_oex TR.oex iR tR FR hrR bR .nil pass0 rfl TR.mgx (pa_cons pe_str (pa_cons pe_non (pa_cons pe_int pa_nil)))))) pss_nil)))), ?_⟩
    have hlen := dpAll_len hd
    refine ⟨by show 0 ≤ sizeLine; exact Nat.zero_le _, fun N nN => ?_⟩
    have s0 := same_new (o := .lst []) nN
    have hN0 := upd_same (H := H) (a := N) (o := .lst [])
    refine ⟨_, rfl, t, xs, rfl, sqT_same s0 ht, for_enumT (fun i σ Hx => ∃ (x2 x3 : Option V) (kn : List Str), σ = [some (.ref t), some (.ref N), x2, x3] ∧ Hx N = some (.lst (kn.map V.str)) ∧ Same H Hx ∧ kn.length = i ∧ rowBad [] 0 ds = rowBad kn i (ds.drop i)) ⟨_, _, [], rfl, hN0, s0, rfl, rfl⟩ (fun i σ Hx _ ⟨_, _, _, _, _, sm, _⟩ => sqT_same sm ht) ?_ ?_⟩
    · rintro i x σ Hx hx ⟨x2, x3, kn, rfl, hN, sm, hkl, hb⟩ T nT
      obtain ⟨d, hdi, hdp⟩ := dpAll_at hd hx
      have hi : i < ds.length := (List.getElem?_eq_some_iff.mp hdi).1
      have hdr : ds.drop i = d :: ds.drop (i + 1) := by
        obtain ⟨h1, h2⟩ := List.getElem?_eq_some_iff.mp hdi
        rw [← h2, List.getElem_cons_drop]
      rw [hdr] at hb
      have hne : ds ≠ [] := fun z => by rw [z] at hi; cases hi
      have hdue : rowDue ds = rowBad [] 0 ds := by unfold rowDue; rw [if_neg hne]
      have s1 : Same H (upd Hx T (.tup [.int (0 + (i : Nat)), x])) := sm.trans (same_new nT)
      have hN1 : upd Hx T (.tup [.int (0 + (i : Nat)), x]) N = _ := same_new nT _ _ hN
      have hT := SqT.of (K := K) (upd_same (H := Hx) (a := T) (o := .tup [.int (0 + (i : Nat)), x]))
      generalize upd Hx T (.tup [.int (0 + (i : Nat)), x]) = H1 at s1 hN1 hT ⊢
      rw [show (0 + (i : Int)) = (i : Int) by omega] at hT
      have hdp1 := dp_same s1 hdp
      refine ⟨T, _, rfl, hT, rfl, _, _, rfl, _, _, rfl, rfl, _, rfl, rfl, _, rfl, ?_⟩
      have d40 : decide (V.int (i : Nat) = V.int 40) = decide (i = 40) := by
        rw [decide_eq_decide]
        exact ⟨fun h => by injection h with h; omega, fun h => by rw [h]; rfl⟩
      rw [d40]
      by_cases h40 : i = 40
      · refine iteTc (decide_eq_true h40) (iteTc rfl ⟨_, rfl, mk_rec (K := K) (n := i) (kE i ?_) s1 .non⟩)
        rw [hdue, hb]
        subst h40
        exact bad_stop
      refine iteFc (decide_eq_false h40) ⟨_, rfl, x, d, rfl, hdp1, hg _ (List.mem_of_getElem? hdi), fun H2 s2 => ⟨_, rfl, ?_⟩⟩
      have s12 := s1.trans s2
      cases hro : rowOf d with
      | none =>
        refine iteTc (by unfold isRowD; rw [hro]; rfl) (iteTc rfl ⟨_, rfl, mk_rec (K := K) (n := i) (kE i ?_) s12 .non⟩)
        rw [hdue, hb]
        exact bad_none hro
      | some r =>
        obtain ⟨n, es⟩ := r
        refine iteFc (by unfold isRowD; rw [hro]; rfl) ?_
        obtain ⟨rfl, hnm⟩ := rowOf_two hro
        rw [bad_some hro] at hb
        obtain ⟨q, b, us, rfl, hq, hbb, hus⟩ := row_dp (dp_same s2 hdp1)
        have hN2 := s2 _ _ hN1
        refine ⟨_, rfl, q, _, 0, _, rfl, rfl, hq, atI_nat (j := 0) rfl, _, rfl, N, _, rfl, .inl (SqL.of hN2), rfl, flat_strs _, _, rfl, ?_⟩
        show if inV (.str n) (kn.map V.str) = true then _ else _
        rw [inV_strs]
        by_cases hin : n ∈ kn
        · refine iteTc (List.contains_iff_mem.mpr hin) ⟨_, rfl, mk_rec (K := K) (n := i) (kE i ?_) s12 .non⟩
          rw [hdue, hb, if_pos (.inr hin)]
        · refine iteFc (by rw [Bool.eq_false_iff]; exact fun z => hin (List.contains_iff_mem.mp z)) ?_
          rw [if_neg (fun z => z.elim h40 hin)] at hb
          refine ⟨_, rfl, (.inl ⟨rfl, _, SqL.of hN2⟩), _, rfl, q, _, 0, _, rfl, rfl, hq, atI_nat (j := 0) rfl, N, _, _, rfl, rfl, hN2, ?_, ?_⟩
          · rw [List.length_map]
            exact fitR (by omega)
          · refine ⟨_, _, kn ++ [n], rfl, ?_, same_upd s12 nN, ?_, hb⟩
            · rw [upd_same, List.map_append]
              rfl
            · rw [List.length_append, hkl]
              rfl
    · rintro σ Hx ⟨x2, x3, kn, rfl, hN, sm, hkl, hb⟩
      refine ⟨_, rfl, _, .inr (.inl ⟨_, sqT_same sm ht, rfl⟩), ?_⟩
      by_cases he : ds = []
      · refine iteTc ?_ (mk_rec (K := K) (n := 0) (kE 0 ?_) sm .non)
        · subst he
          cases hd
          rfl
        · unfold rowDue
          rw [if_pos he]
      · refine iteFc ?_ (kQ ?_ Hx sm)
        · cases xs with
          | nil =>
            have := dpAll_inv0 hd
            exact absurd this he
          | cons _ _ => rfl
        · unfold rowDue
          rw [if_neg he, hb, hlen, List.drop_length]
          rfl
end
end XE
set_option Elab.async false
set_option linter.all false
set_option maxRecDepth 100000
set_option maxHeartbeats 1000000
/-! XRd: check_events -/
namespace XE
open PySem PySem.Spec PyProof.Rows L2 RZ Rx SX Rc
theorem gd_names {os : List Str} (h : ∀ o ∈ os, nameB o = true) : Gd (.list (os.map PyData.str)) := by
  refine ⟨shStrs3 os fun n hn => name_strOk (h n hn), ?_⟩
  have : ∀ os : List Str, (∀ o ∈ os, nameB o = true) → smAll (os.map PyData.str) = true := by
    intro os h
    induction os with
    | nil => rfl
    | cons o os ih =>
      rw [List.map_cons]
      simp only [smAll, smD, Bool.and_eq_true, decide_eq_true_eq]
      refine ⟨?_, ih fun x hx => h x (List.mem_cons_of_mem _ hx)⟩
      have := h o (List.mem_cons_self ..)
      unfold nameB isName at this
      simp only [Bool.and_eq_true, decide_eq_true_eq] at this
      rw [← len_tl]
      exact Nat.le_trans this.2.2.1 (by decide)
  simpa [smD] using this os h
/-- rows of names and data -/
structure RowsP (K : PySem.W.Frag) (H : Hp) (t : Addr) (xs : List V) (rs : List (Str × List PyData)) : Prop where
  tu : SqT K H t xs
  dp : DpAll K H xs (rs.map rowP)
  nm : ∀ r ∈ rs, nameB r.1 = true
  gd : ∀ r ∈ rs, ∀ e ∈ r.2, Gd e
  few : rs.length ≤ 40
  len : ∀ r ∈ rs, r.2.length ≤ 1000
theorem RowsP.same {K : PySem.W.Frag} {H H1 : Hp} {t : Addr} {xs : List V} {rs : List (Str × List PyData)} (h : RowsP K H t xs rs) (s : Same H H1) : RowsP K H1 t xs rs := ⟨sqT_same s h.tu, dpAll_same s h.dp, h.nm, h.gd, h.few, h.len⟩
theorem RowsP.at_ {K : PySem.W.Frag} {H : Hp} {t : Addr} {xs : List V} {rs : List (Str × List PyData)} (h : RowsP K H t xs rs) {i : Nat} {x : V} (hx : xs[i]? = some x) : ∃ r q b us, rs[i]? = some r ∧ x = .ref q ∧ SqT K H q [.str r.1, .ref b] ∧ SqT K H b us ∧ DpAll K H us r.2 := by
  obtain ⟨d, hd, hp⟩ := dpAll_at h.dp hx
  rw [List.getElem?_map] at hd
  cases hr : rs[i]? with
  | none => rw [hr] at hd; cases hd
  | some r =>
    rw [hr] at hd
    injection hd with hd
    subst hd
    obtain ⟨q, b, us, rfl, h1, h2, h3⟩ := row_dp hp
    exact ⟨r, q, b, us, rfl, rfl, h1, h2, h3⟩
theorem RowsP.ln {K : PySem.W.Frag} {H : Hp} {t : Addr} {xs : List V} {rs : List (Str × List PyData)} (h : RowsP K H t xs rs) : xs.length = rs.length := by rw [dpAll_len h.dp, List.length_map]
def spCheckE (K : PySem.W.Frag) (CR : Addr) : Sp := fun vs H Q E => ∃ (t : Addr) (xs : List V) (rs : List (Str × List PyData)), vs = [.ref t] ∧ RowsP K H t xs rs ∧
  (evsBad (rs.map (·.1)) rs = none → ∀ H', Same H H' → Q .non H') ∧ (∀ n k, evsBad (rs.map (·.1)) rs = some (n, k) → RecAt CR H "event" (.str n) k E)
theorem drop_at {α : Type} {l : List α} {i : Nat} {x : α} (h : l[i]? = some x) : l.drop i = x :: l.drop (i + 1) := by
  obtain ⟨h1, h2⟩ := List.getElem?_eq_some_iff.mp h
  rw [← h2, List.getElem_cons_drop]
section
variable {P : Program} {w : World} {K : PySem.W.Frag} {mg : Str → Option Value} {base : Heap} {CR : Addr}
abbrev keN : List Str := ["rows", "names", "name", "events", "others", "other", "number", "event"]
theorem scKE : FnScope keN ["rows"] (defScope sCheckEvents) := ⟨rfl, rfl, rfl, by decide +kernel, rfl, by decide +kernel, by decide +kernel⟩
theorem ok_checkEvents {f fS : Addr} {fd fdS : FuncData} (F : Fun K "check_events" "check_events" sCheckEvents f fd) (menum : mg "enumerate" = none) (TR : RaiT P w K mg base "BadRecord" CR ["reason", "name", "number"])
    (CS : Cal P w K mg base 4 "has_shape" fS fdS ["event", "others"] (spHas K)) :
    FnOk P w K mg base (L2.CX P w) 5 f fd ["rows"] (spCheckE K CR) := by
  obtain ⟨fR, fdR, iR, tR, FR, bR⟩ := TR.ini
  refine F.okX scKE (fun vs H Q E h => ?_) (fun cdv A outer s H vs Q E hr h => ?_)
  · obtain ⟨_, _, _, rfl, _⟩ := h
    rfl
  · obtain ⟨t, xs, rs, rfl, R, kQ, kE⟩ := h
    have hr4 : Room 4 _ := hr.mono (by decide)
    have hrR : Room 3 _ := hr.mono (by decide)
    refine ⟨_, (pss_cons (ps_setLc (i := 1) (own := [("name", 2), ("events", 3)]) (g := gTup K 2 (gCons (gName 2) (gCons (gName 3) gNil))) (tt := tYes) (te := tVar 2) rfl scKE.nd rfl rfl (sw_true rfl rfl rfl (by decide +kernel)) (pi_tup (pv 0)) (blkOk_by (own := [("name", 2), ("events", 3)]) (N := keN) (sc := defScope sCheckEvents) (by decide +kernel)) (fun _ _ _ _ _ => (pg_tup rfl (pgs_cons (pg_name (i := 2) scKE.nd rfl (Or.inl rfl)) (pgs_cons (pg_name (i := 3) scKE.nd rfl (Or.inl rfl)) pgs_nil)))) (fun _ _ _ _ _ => pts_nil) (fun _ _ _ _ _ => (pv 2))) (pss_one (ps_for (passes_of rfl) rfl (pi_tup (pv 0)) (pg_tup rfl (pgs_cons (pg_name (i := 2) scKE.nd rfl (.inr rfl)) (pgs_cons (pg_name (i := 3) scKE.nd rfl (.inl rfl)) pgs_nil))) (pss_cons (ps_setLc (i := 4) (own := [("other", 5)]) (g := gName 5) (tt := tTest (tOp rNe (tVar 5) (tVar 2))) (te := tVar 5) rfl scKE.nd rfl rfl (sw_true rfl rfl rfl (by decide +kernel)) (pi_list (pv 1)) (blkOk_by (own := [("other", 5)]) (N := keN) (sc := defScope sCheckEvents) (by decide +kernel)) (fun _ _ _ _ _ => (pg_name (i := 5) scKE.nd rfl (Or.inl rfl))) (fun _ _ _ _ _ => pts_one (pt_cmpR op_ne (pv 5) (pv 2) (nomark _))) (fun _ _ _ _ _ => (pv 5))) (pss_one (ps_for (passes_of rfl) rfl (pi_enumTS (by rfl) menum (pa_cons (pv 3) pa_nil)) (pg_tup rfl (pgs_cons (pg_name (i := 6) scKE.nd rfl (.inl rfl)) (pgs_cons (pg_name (i := 7) scKE.nd rfl (.inl rfl)) pgs_nil))) (pss_one (ps_if (pt_not (pt_val (pe_call CS.ok hr4 rfl CS.mg CS.kp CS.bi .nil pass0 (pa_cons (pv 7) (pa_cons (pv 4) pa_nil))))) (pss_one (ps_raise rfl (takes_of rfl rfl rfl rfl) (pmk_oex TR.oex iR tR FR hrR bR .nil pass0 rfl TR.mgx (pa_cons pe_str (pa_cons (pv 2) (pa_cons (pv 6) pa_nil)))))) pss_nil)))))))), ?_⟩
    have hln := R.ln
    have hfew := R.few
    refine ⟨_, rfl, t, rfl, ⟨_, R.tu⟩, fun N nN => ?_⟩
    refine lc_it walk_tup (fun j Hy => Same H Hy ∧ Hy N = some (.lst (((rs.take j).map (·.1)).map V.str))) ⟨same_new nN, upd_same⟩ (fun j Hy _ q => sqT_same q.1 R.tu) ?_ ?_
    · rintro j x Hy Hy' hj ⟨sm, hN⟩ ⟨rfl, hx⟩
      obtain ⟨r, q, b, us, hr', rfl, hq, hb, hus⟩ := (R.same sm).at_ hx
      refine ⟨q, _, rfl, hq, rfl, _, _, rfl, _, _, rfl, rfl, rfl, ?_⟩
      dsimp only [tYes]
      rw [if_pos rfl]
      refine ⟨_, rfl, _, hN, ?_, same_upd sm nN, ?_⟩
      · rw [List.length_map, List.length_map, List.length_take]
        exact fitR (by omega)
      · rw [upd_same, List.take_add_one, hr']
        simp
    rintro H1 ⟨s1, hN⟩
    rw [hln, List.take_length] at hN
    refine ⟨_, rfl, t, rfl, ⟨_, sqT_same s1 R.tu⟩, ?_⟩
    refine for_tup (fun i σ Hx => ∃ (x2 x3 x4 x5 x6 x7 : Option V), σ = [some (.ref t), some (.ref N), x2, x3, x4, x5, x6, x7] ∧ Same H Hx ∧ Hx N = some (.lst ((rs.map (·.1)).map V.str)) ∧ evsBad (rs.map (·.1)) rs = evsBad (rs.map (·.1)) (rs.drop i)) ⟨_, _, _, _, _, _, rfl, s1, hN, rfl⟩ (fun i σ Hx _ ⟨_, _, _, _, _, _, _, sm, _⟩ => sqT_same sm R.tu) ?_ ?_
    · rintro i x σ Hx hx ⟨x2, x3, x4, x5, x6, x7, rfl, sm, hN, hb⟩
      obtain ⟨r, q, b, us, hr', rfl, hq, hb', hus⟩ := (R.same sm).at_ hx
      obtain ⟨n, es⟩ := r
      rw [drop_at hr'] at hb
      have hmem := List.mem_of_getElem? hr'
      refine ⟨q, _, rfl, hq, rfl, _, _, rfl, _, _, rfl, rfl, ?_⟩
      dsimp only [List.set]
      have hb1 : evsBad (rs.map (·.1)) ((n, es) :: rs.drop (i + 1)) = match evBad (othersL (rs.map (·.1)) n) 1 es with | some k => some (n, k) | none => evsBad (rs.map (·.1)) (rs.drop (i + 1)) := rfl
      rw [hb1] at hb
      refine ⟨_, rfl, N, rfl, ⟨_, SqL.of hN⟩, fun O nO => ?_⟩
      have hO0 : H O = none := sm.free nO
      refine lc_list (K := K) (a := N) (xs := (rs.map (·.1)).map V.str) (fun j Hy => Same Hx Hy ∧ Hy O = some (.lst ((othersL ((rs.map (·.1)).take j) n).map V.str))) ⟨same_new nO, upd_same⟩ (fun j Hy _ q => SqL.of (q.1 _ _ hN)) ?_ ?_
      · rintro j x Hy hx ⟨sy, hO⟩
        obtain ⟨o, ho, rfl⟩ := mapS_get hx
        refine ⟨rfl, _, rfl, _, rfl, rfl, _, rfl, ?_⟩
        have e1 : (!decide (V.str o = V.str n)) = decide (o ≠ n) := by
          by_cases h : o = n
          · subst h; simp
          · have : V.str o ≠ V.str n := fun z => h (by injection z)
            simp [this, h]
        have e2 : othersL ((rs.map (·.1)).take (j + 1)) n = othersL ((rs.map (·.1)).take j) n ++ (if o ≠ n then [o] else []) := by
          rw [List.take_add_one, ho]
          unfold othersL
          rw [List.filter_append]
          congr 1
          by_cases h : o = n <;> simp [h]
        rw [e1, e2]
        have hlo : (othersL ((rs.map (·.1)).take j) n).length ≤ 40 := by
          have := List.length_filter_le (fun o => decide (o ≠ n)) ((rs.map (·.1)).take j)
          rw [List.length_take, List.length_map] at this
          show (List.filter _ _).length ≤ 40
          omega
        by_cases h : o = n
        · refine iteFc (by simp [h]) ⟨sy, ?_⟩
          rw [if_neg (fun z => z h), List.append_nil]
          exact hO
        · refine iteTc (by simp [h]) ⟨_, rfl, _, hO, ?_, same_upd sy nO, ?_⟩
          · rw [List.length_map]
            exact fitR (by omega)
          · rw [upd_same, if_pos h, List.map_append]
            rfl
      rintro H2 ⟨s2, hO⟩
      rw [List.length_map, List.take_length] at hO
      have sm2 := sm.trans s2
      have hN2 := s2 _ _ hN
      dsimp only [List.set]
      generalize hos : othersL (rs.map (·.1)) n = os at hb hO
      have hon : ∀ o ∈ os, nameB o = true := fun o ho => by
        rw [← hos] at ho
        obtain ⟨r, hr, rfl⟩ := List.mem_map.mp (List.mem_filter.mp ho).1
        exact R.nm r hr
      have hol : os.length ≤ 50 := by
        rw [← hos]
        have := List.length_filter_le (fun o => decide (o ≠ n)) (rs.map (·.1))
        rw [List.length_map] at this
        show (List.filter _ _).length ≤ 50
        omega
      have hul := dpAll_len hus
      refine ⟨_, rfl, b, us, rfl, sqT_same s2 hb', ?_⟩
      refine for_enumT (fun j σ Hy => ∃ (x5 x6 x7 : Option V), σ = [some (.ref t), some (.ref N), some (.str n), some (.ref b), some (.ref O), x5, x6, x7] ∧ Same H2 Hy ∧ evBad os 1 es = evBad os (1 + j) (es.drop j)) ⟨_, _, _, rfl, .refl _, rfl⟩ (fun i σ Hy _ ⟨_, _, _, _, sy, _⟩ => sqT_same (s2.trans sy) hb') ?_ ?_
      · rintro j v σ Hy hv ⟨x5, x6, x7, rfl, sy, hbj⟩ T nT
        obtain ⟨d, hdj, hdp⟩ := dpAll_at hus hv
        rw [drop_at hdj] at hbj
        have s3 : Same H2 (upd Hy T (.tup [.int (1 + (j : Nat)), v])) := sy.trans (same_new nT)
        have hT := SqT.of (K := K) (upd_same (H := Hy) (a := T) (o := .tup [.int (1 + (j : Nat)), v]))
        generalize upd Hy T (.tup [.int (1 + (j : Nat)), v]) = H3 at s3 hT ⊢
        rw [show ((1 : Int) + (j : Int)) = ((1 + j : Nat) : Int) by omega] at hT
        refine ⟨T, _, rfl, hT, rfl, _, _, rfl, _, _, rfl, rfl, ?_⟩
        refine ⟨_, rfl, _, rfl, v, d, O, os, rfl, dp_same (s2.trans s3) hdp, R.gd _ hmem _ (List.mem_of_getElem? hdj), s3 _ _ hO, hol, gd_names hon, fun H4 s4 => ⟨_, rfl, ?_⟩⟩
        have ebj : evBad os (1 + j) (d :: es.drop (j + 1)) = if (evOf os d).isSome then evBad os (1 + j + 1) (es.drop (j + 1)) else some (1 + j) := rfl
        rw [ebj] at hbj
        rw [hasB_ev]
        cases hev : (evOf os d).isSome with
        | false =>
          rw [hev, if_neg (by decide)] at hbj
          refine iteTc rfl ⟨_, rfl, _, rfl, mk_rec (K := K) (n := 1 + j) (kE n (1 + j) ?_) (sm2.trans (s3.trans s4)) (.str n)⟩
          rw [hb, hbj]
        | true =>
          rw [hev, if_pos rfl] at hbj
          exact iteFc rfl ⟨_, _, _, rfl, s3.trans s4, hbj⟩
      · rintro σ Hy ⟨x5, x6, x7, rfl, sy, hbj⟩
        rw [hul, List.drop_length] at hbj
        refine ⟨_, _, _, _, _, _, rfl, sm2.trans sy, sy _ _ hN2, ?_⟩
        rw [hb, hbj]
        rfl
    · rintro σ Hx ⟨x2, x3, x4, x5, x6, x7, rfl, sm, hN, hb⟩
      refine kQ ?_ Hx sm
      rw [hb, hln, List.drop_length]
      rfl
end
end XE
set_option Elab.async false
set_option linter.all false
set_option maxRecDepth 100000
set_option maxHeartbeats 1000000
/-! XRj: check_order -/
namespace XE
open PySem PySem.Spec PyProof.Rows L2 RZ Rx SX Rc
abbrev sCheckOrder : Stmt := topS 29
/-- an error, while one object may be otherwise -/
def RecAtX (CR : Addr) (H : Hp) (d : Addr) (r : Str) (v : V) (n : Nat) (E : XK) : Prop := ∀ (H' : Hp) (dx : Addr), (∀ b o, H b = some o → b ≠ d → H' b = some o) → H dx = none → H' dx = some (.xd [("number", .int (n : Nat)), ("name", v), ("reason", .str r)]) → E (.ref CR) (some dx) H'
theorem RecAtX.to {CR d : Addr} {H H1 : Hp} {r : Str} {v : V} {n : Nat} {E : XK} (h : RecAtX CR H d r v n E) (k : ∀ b o, H b = some o → b ≠ d → H1 b = some o) (hd : H1 d ≠ none) : RecAt CR H1 r v n E := fun H' dx sm hx hxx => by
  refine h H' dx (fun b o e n => sm _ _ (k b o e n)) ?_ hxx
  cases q : H dx with
  | none => rfl
  | some o =>
    by_cases c : dx = d
    · subst c
      exact absurd hx hd
    · rw [k _ _ q c] at hx
      cases hx
def orderF (ns : List Str) (ln ex : Str → Nat) : Option Str := ns.find? fun n => decide (ex n < ln n)
def spOrder (K : PySem.W.Frag) (CR : Addr) : Sp := fun vs H Q E => ∃ (h T : Addr) (ns : List Str) (ln : Str → Nat) (hs us : List V) (ms : List (EvId × EvId)), vs = [.ref h, .ref T] ∧ HistL K H h ns ln hs ∧ H T = some (.tup us) ∧ MsgL H us ms ∧ ms.length ≤ 100000 ∧ (∀ m ∈ ms, m.1.1 ∈ ns) ∧
  ∀ ids, ExecOk ns ln (causesF ms) ids → (orderF ns ln (reachF ids) = none → ∀ H', Same H H' → Q .non H') ∧ ∀ n, orderF ns ln (reachF ids) = some n → RecAtX CR H h "order" (.str n) (reachF ids n + 1) E
section
variable {P : Program} {w : World} {K : PySem.W.Frag} {mg : Str → Option Value} {base : Heap} {CR : Addr}
abbrev coN : List Str := ["histories", "messages", "executed", "name", "events"]
theorem scCO : FnScope coN ["histories", "messages"] (defScope sCheckOrder) := ⟨rfl, rfl, rfl, by decide +kernel, rfl, by decide +kernel, by decide +kernel⟩
theorem ok_checkOrder {f fC fX fN : Addr} {fd fdC fdX fdN : FuncData} (F : Fun K "check_order" "check_order" sCheckOrder f fd) (mlen : mg "len" = none) (TR : RaiT P w K mg base "BadRecord" CR ["reason", "name", "number"])
    (CC : Cal P w K mg base 1 "causes_by_event" fC fdC ["pairs"] (spCauses K)) (CX : Cal P w K mg base 2 "execution" fX fdX ["histories", "causes"] (spExecution K)) (CN : Cal P w K mg base 1 "numbers_reached" fN fdN ["histories", "events"] (spReached K)) : FnOk P w K mg base (L2.CX P w) 4 f fd ["histories", "messages"] (spOrder K CR) := by
  obtain ⟨fR, fdR, iR, tR, FR, bR⟩ := TR.ini
  refine F.okX scCO (fun vs H Q E h => ?_) (fun cdv A outer s H vs Q E hr h => ?_)
  · obtain ⟨_, _, _, _, _, _, _, rfl, _⟩ := h
    rfl
  · obtain ⟨hd, T, ns, ln, hs, us, ms, rfl, HL, hT, hM, hml, hin, k⟩ := h
    have hu := hu_of hr
    have hr1 : Room 1 _ := hr.mono (by decide)
    have hr2 : Room 2 _ := hr.mono (by decide)
    have hrR : Room 3 _ := hr.mono (by decide)
    refine ⟨_, (pss_cons (ps_set (i := 2) scCO.nd rfl (.inl rfl) (pe_call CN.ok hr1 rfl CN.mg CN.kp CN.bi .nil pass0 (pa_cons (pv 0) (pa_cons (pe_call CX.ok hr2 rfl CX.mg CX.kp CX.bi .nil pass0 (pa_cons (pv 0) (pa_cons (pe_call CC.ok hr1 rfl CC.mg CC.kp CC.bi .nil pass0 (pa_cons (pv 1) pa_nil)) pa_nil))) pa_nil)))) (pss_one (ps_lock (ps_for (passes_of rfl) rfl (pi_items (pv 0)) (pg_tup rfl (pgs_cons (pg_name (i := 3) scCO.nd rfl (.inl rfl)) (pgs_cons (pg_name (i := 4) scCO.nd rfl (.inl rfl)) pgs_nil))) (pss_one (ps_if (pt_cmpR op_lt (pe_dget hu (pv 2) (pv 3) (fun _ _ => rfl)) (pe_callB call_len_seq (by rfl) mlen PySem.boot_len (pa_cons (pv 4) pa_nil)) (nomark _)) (pss_one (ps_raise rfl (takes_of rfl rfl rfl rfl) (pmk_oex TR.oex iR tR FR hrR bR .nil pass0 rfl TR.mgx (pa_cons pe_str (pa_cons (pv 3) (pa_cons (pe_op op_add (pe_dget hu (pv 2) (pv 3) (fun _ _ => rfl)) pe_int) pa_nil)))))) pss_nil)))))), ?_⟩
    refine ⟨_, rfl, _, rfl, _, rfl, T, us, ms, rfl, hT, hM, hml, fun Cq kvc H1 s1 CA => ?_⟩
    refine ⟨hd, Cq, ns, ln, hs, ms, kvc, rfl, HL.same s1, CA, hml, hin, fun ids N zs H2 ok s2 nN hN hI => ?_⟩
    have hidl := Nat.le_trans (ok.legal.few HL.nd) HL.len
    have s12 := s1.trans s2
    have HL2 := HL.same s12
    refine ⟨hd, N, ns, hs, zs, ids, rfl, HL2.at_, HL.few, HL.nd, .inl (SqL.of hN), hI, by omega, ok.legal.names, fun D kve H3 s3 nD NA => ?_⟩
    have s13 := s12.trans s3
    have HL3 := HL2.same s3
    obtain ⟨kn, ke⟩ := k ids ok
    have hH3 := HL3.at_.1
    have nDH : H D = none := s12.free nD
    generalize reachF ids = ex at NA kn ke
    have hu1 : ∀ z : List (Key × V), Mut (some (HO.dK z)) := fun _ => True.intro
    refine ⟨hd, _, hH3, hu1 _, fun od => ?_⟩
    have hl0 : upd H3 hd (.frz od (.dK ((ns.zip hs).map fun (p : Str × V) => ((Sum.inr p.1 : Key), p.2)))) hd = some (.frz od (.dK ((ns.zip hs).map fun (p : Str × V) => ((Sum.inr p.1 : Key), p.2)))) := upd_same
    have kp : ∀ b o, H3 b = some o → b ≠ hd → upd H3 hd (.frz od (.dK ((ns.zip hs).map fun (p : Str × V) => ((Sum.inr p.1 : Key), p.2)))) b = some o := fun b o e n => by rw [upd_ne n]; exact e
    have nDd : D ≠ hd := fun z => by
      rw [z, HL2.at_.1] at nD
      cases nD
    have NAL := NA.at2 (H1 := upd H3 hd (.frz od (.dK ((ns.zip hs).map fun (p : Str × V) => ((Sum.inr p.1 : Key), p.2))))) (upd_ne nDd)
    have hlz : ((ns.zip hs).map fun (p : Str × V) => ((Sum.inr p.1 : Key), p.2)).length = ns.length := by
      rw [List.length_map, List.length_zip, ← HL.at_.2, Nat.min_self]
    have EVL : ∀ (i : Nat) (n : Str), ns[i]? = some n → ∃ b us, hs[i]? = some (.ref b) ∧ SqT K (upd H3 hd (.frz od (.dK ((ns.zip hs).map fun (p : Str × V) => ((Sum.inr p.1 : Key), p.2))))) b us ∧ us.length = ln n := fun i n hn => by
      obtain ⟨b, us, q1, q2, q3⟩ := HL3.ev i n hn
      exact ⟨b, us, q1, sqT_keep (fun b xs e => kp b _ e (ne_of e hH3 (by intro z; cases z))) (fun b o u e => kp b _ e (ne_of e hH3 (by intro z; cases z))) q2, q3⟩
    have fin : ∀ Hy, Same (upd H3 hd (.frz od (.dK ((ns.zip hs).map fun (p : Str × V) => ((Sum.inr p.1 : Key), p.2))))) Hy → Same H3 (upd Hy hd (.dK ((ns.zip hs).map fun (p : Str × V) => ((Sum.inr p.1 : Key), p.2)))) := fun Hy s => unlock_same s hH3
    have err : ∀ n, orderF ns ln ex = some n → RecAt CR (upd H3 hd (.frz od (.dK ((ns.zip hs).map fun (p : Str × V) => ((Sum.inr p.1 : Key), p.2))))) "order" (.str n) (ex n + 1) E := fun n hn => (ke n hn).to (fun b o e nb => kp b o (s13 _ _ e) nb) (by rw [hl0]; exact fun z => nomatch z)
    refine ⟨_, rfl, hd, od, _, rfl, hl0, ?_⟩
    refine for_it walk_items (fun i σ Hy => ∃ (x3 x4 : Option V), σ = [some (.ref hd), some (.ref T), some (.ref D), x3, x4] ∧ Same (upd H3 hd (.frz od (.dK ((ns.zip hs).map fun (p : Str × V) => ((Sum.inr p.1 : Key), p.2))))) Hy ∧ orderF ns ln ex = orderF (ns.drop i) ln ex)
      ⟨_, _, rfl, .refl _, rfl⟩ (fun i σ Hy _ ⟨_, _, _, sm, _⟩ => sm _ _ hl0) ?_ ?_
    · rintro i x σ Hy Hy' hi ⟨x3, x4, rfl, sm, ho⟩ ⟨Tq, y1, y2, rfl, nT, rfl, e1, e2⟩
      dsimp only at e1 e2
      cases hkv : ((ns.zip hs).map fun (p : Str × V) => ((Sum.inr p.1 : Key), p.2))[i]? with
      | none => rw [hkv] at e1; cases e1
      | some kv =>
      obtain ⟨k0, v0⟩ := kv
      obtain ⟨n, hn, hv, rfl⟩ := zip_key hkv
      rw [hkv] at e1 e2
      obtain ⟨b, us', hb, hbu, hul⟩ := EVL i n hn
      rw [hv] at hb
      injection hb with hb
      subst hb
      injection e1 with e1
      injection e2 with e2
      subst e1 e2
      have hnm := List.mem_of_getElem? hn
      have hdr : ns.drop i = n :: ns.drop (i + 1) := by
        obtain ⟨h1, h2⟩ := List.getElem?_eq_some_iff.mp hn
        rw [← h2, List.getElem_cons_drop]
      have sT := sm.trans (same_new (o := .tup [.str n, .ref b]) nT)
      have hT5 := upd_same (H := Hy) (a := Tq) (o := .tup [.str n, .ref b])
      show gTup _ _ _ (V.ref Tq) _ (upd Hy Tq (.tup [.str n, .ref b])) _
      generalize upd Hy Tq (.tup [.str n, .ref b]) = Hz at sT hT5 ⊢
      have hg : DGet Hz D (.str n) (some (.int (ex n : Nat))) := by
        have := DGet.k (k := Sum.inr n) (sT _ _ NAL.at_)
        rw [NAL.val _ hnm] at this
        exact this
      refine ⟨Tq, _, rfl, SqT.of hT5, rfl, _, _, rfl, _, _, rfl, rfl, ?_⟩
      refine ⟨_, rfl, _, rfl, D, _, rfl, hg, _, rfl, b, us', rfl, .inr (sqT_same sT hbu), _, _, rfl, rfl, _, rfl, ?_⟩
      rw [hul]
      rw [hdr] at ho
      by_cases hlt : ex n < ln n
      · have ho1 : orderF ns ln ex = some n := by
          rw [ho]
          unfold orderF
          rw [List.find?_cons, decide_eq_true hlt]
        refine iteTc (decide_eq_true (by omega)) ⟨_, rfl, _, rfl, _, rfl, D, _, rfl, hg, _, _, rfl, rfl, mk_rec (K := K) (n := ex n + 1) (err n ho1) sT (.str n)⟩
      · refine iteFc (decide_eq_false (by omega)) ⟨_, _, rfl, sT, ?_⟩
        rw [ho]
        unfold orderF
        rw [List.find?_cons, decide_eq_false hlt]
    · rintro σ Hy ⟨x3, x4, rfl, sm, ho⟩
      rw [hlz, List.drop_length] at ho
      exact ⟨sm _ _ hl0, kn ho _ (s13.trans (fin Hy sm))⟩
end
end XE
set_option Elab.async false
set_option linter.all false
set_option maxRecDepth 100000
set_option maxHeartbeats 1000000
/-! RxRcd: good rows as typed rows -/
namespace Rc
open PySem PySem.Spec PyProof.Rows L2 RZ Rx SX
theorem evs_data {os : List Str} : ∀ {es : List PyData}, (∀ d ∈ es, (evOf os d).isSome = true) → (es.filterMap (evOf os)).map Ev.data = es
  | [], _ => rfl
  | d :: es, h => by
    have h1 := h d (List.mem_cons_self ..)
    cases he : evOf os d with
    | none => rw [he] at h1; cases h1
    | some e =>
      rw [List.filterMap_cons, he]
      show e.data :: _ = _
      rw [evs_data fun x hx => h x (List.mem_cons_of_mem _ hx), (evOf_data he).1]
theorem evsBad_off {names : List Str} : ∀ {rp : List (Str × List PyData)}, evsBad names rp = none → ∀ r ∈ rp, evBad (othersL names r.1) 1 r.2 = none
  | [], _, _, h => nomatch h
  | (n, es) :: rp, h, r, hm => by
    unfold evsBad at h
    split at h
    · cases h
    · rename_i hb
      rcases List.mem_cons.mp hm with rfl | hm
      · exact hb
      · exact evsBad_off h r hm
theorem rowsTy_data {names : List Str} {rp : List (Str × List PyData)} (h : evsBad names rp = none) : (rowsTy names rp).map rowE = rp.map rowP := by
  unfold rowsTy
  rw [List.map_map]
  refine List.map_congr_left fun r hr => ?_
  show PyData.tuple [.str r.1, .tuple ((r.2.filterMap (evOf (othersL names r.1))).map Ev.data)] = .tuple [.str r.1, .tuple r.2]
  rw [evs_data (evBad_off _ _ _ (evsBad_off h r hr))]
theorem rowsTy_names {names : List Str} {rp : List (Str × List PyData)} : (rowsTy names rp).map (·.1) = rp.map (·.1) := by
  unfold rowsTy
  rw [List.map_map]
  rfl
theorem rowsTy_len {names : List Str} {rp : List (Str × List PyData)} (h : ∀ r ∈ rp, r.2.length ≤ 1000) : ∀ r ∈ rowsTy names rp, r.2.length ≤ 1000 := fun r hr => by
  obtain ⟨q, hq, rfl⟩ := List.mem_map.mp hr
  exact Nat.le_trans (List.length_filterMap_le ..) (h q hq)
theorem rowBad_nodup : ∀ {ds : List PyData} {kn : List Str} {i : Nat}, rowBad kn i ds = none → i ≤ 40 → ((rowsOfD ds).map (·.1)).Nodup ∧ (∀ n ∈ (rowsOfD ds).map (·.1), n ∉ kn) ∧ (rowsOfD ds).length + i ≤ 40
  | [], _, _, _, hi => ⟨by simp [rowsOfD], by simp [rowsOfD], by simpa [rowsOfD] using hi⟩
  | d :: ds, kn, i, h, hi => by
    cases hr : rowOf d with
    | none =>
      simp only [rowBad, hr] at h
      cases h
    | some r =>
      obtain ⟨n, es⟩ := r
      simp only [rowBad, hr] at h
      split at h
      · cases h
      · rename_i hc
        have hi2 : i ≠ 40 := fun z => hc (.inl z)
        have hn : n ∉ kn := fun z => hc (.inr z)
        obtain ⟨h1, h2, h3⟩ := rowBad_nodup h (by omega)
        have e : rowsOfD (d :: ds) = (n, es) :: rowsOfD ds := by
          unfold rowsOfD
          rw [List.filterMap_cons, hr]
        rw [e]
        refine ⟨?_, fun m hm => ?_, by rw [List.length_cons]; omega⟩
        · rw [List.map_cons, List.nodup_cons]
          exact ⟨fun z => h2 n z (by simp), h1⟩
        · rcases List.mem_cons.mp hm with rfl | hm
          · exact hn
          · exact fun z => h2 m hm (List.mem_append_left _ z)
/-- how many events the process of this name has -/
def lnOf (rs : Rows) (n : Str) : Nat := ((rs.find? fun r => decide (r.1 = n)).map (·.2.length)).getD 0
theorem lnOf_at : ∀ {rs : Rows}, (rs.map (·.1)).Nodup → ∀ {r}, r ∈ rs → lnOf rs r.1 = r.2.length
  | [], _, _, h => nomatch h
  | q :: rs, hd, r, h => by
    rw [List.map_cons, List.nodup_cons] at hd
    unfold lnOf
    rw [List.find?_cons]
    rcases List.mem_cons.mp h with rfl | h
    · rw [decide_eq_true rfl]
      rfl
    · rw [decide_eq_false fun z => hd.1 (by rw [z]; exact List.mem_map.mpr ⟨r, h, rfl⟩)]
      exact lnOf_at hd.2 h
theorem sum_const {α : Type} {f : α → Nat} {c : Nat} : ∀ {l : List α}, (∀ x ∈ l, f x ≤ c) → (l.map f).sum ≤ c * l.length
  | [], _ => Nat.zero_le _
  | x :: l, h => by
    rw [List.map_cons, List.sum_cons, List.length_cons]
    have h1 := h x (List.mem_cons_self ..)
    have h2 := sum_const (l := l) fun y hy => h y (List.mem_cons_of_mem _ hy)
    rw [Nat.mul_add]
    omega
theorem lnOf_sum {rs : Rows} (hd : (rs.map (·.1)).Nodup) (hf : rs.length ≤ 40) (h : ∀ r ∈ rs, r.2.length ≤ 1000) : ((rs.map (·.1)).map (lnOf rs)).sum ≤ 40000 := by
  have : ((rs.map (·.1)).map (lnOf rs)).sum ≤ 1000 * (rs.map (·.1)).length := sum_const fun n hn => by
    obtain ⟨r, hr, rfl⟩ := List.mem_map.mp hn
    rw [lnOf_at hd hr]
    exact h r hr
  rw [List.length_map] at this
  omega
theorem flatRow_mem {n : Str} : ∀ {es : List Ev} {k : Nat} {x : EvId × Ev}, x ∈ flatRow n k es → x.1.1 = n
  | e :: es, k, x, h => by
    rcases List.mem_cons.mp h with rfl | h
    · rfl
    · exact flatRow_mem h
theorem flatR_mem : ∀ {rs : Rows} {x : EvId × Ev}, x ∈ flatR rs → x.1.1 ∈ rs.map (·.1)
  | (n, es) :: rs, x, h => by
    rcases List.mem_append.mp (show x ∈ flatRow n 1 es ++ flatR rs from h) with h | h
    · rw [flatRow_mem h]
      exact List.mem_cons_self ..
    · exact List.mem_cons_of_mem _ (flatR_mem h)
theorem sentF_mem {fl : Flat} {a b : Str} {s : EvId × Int} (h : s ∈ sentF fl a b) : ∃ x ∈ fl, x.1 = s.1 := by
  obtain ⟨x, hx, h⟩ := List.mem_filterMap.mp h
  refine ⟨x, hx, ?_⟩
  split at h
  · split at h
    · split at h
      · injection h with h
        rw [← h]
      · cases h
    · cases h
  · cases h
theorem matchF_mem {all : Flat} {S : List Str} (hS : ∀ x ∈ all, x.1.1 ∈ S) : ∀ {rest done : Flat} {acc ms : List (EvId × EvId)}, (∀ x ∈ rest, x.1.1 ∈ S) → (∀ m ∈ acc, m.1.1 ∈ S ∧ m.2.1 ∈ S) → matchF all done acc rest = .ok ms → (∀ m ∈ ms, m.1.1 ∈ S ∧ m.2.1 ∈ S) ∧ ms.length ≤ acc.length + rest.length
  | [], done, acc, ms, hr, ha, h => by
    injection h with h
    subst h
    exact ⟨ha, Nat.le_add_right ..⟩
  | x :: rest, done, acc, ms, hr, ha, h => by
    have hr2 : ∀ x ∈ rest, x.1.1 ∈ S := fun y hy => hr y (List.mem_cons_of_mem _ hy)
    unfold matchF at h
    split at h
    · obtain ⟨h1, h2⟩ := matchF_mem hS hr2 ha h
      exact ⟨h1, by rw [List.length_cons]; omega⟩
    · split at h
      · rename_i p v hp s v' hs
        split at h
        · obtain ⟨h1, h2⟩ := matchF_mem hS hr2 (fun m hm => by
            rcases List.mem_append.mp hm with hm | hm
            · exact ha m hm
            · rw [List.mem_singleton.mp hm]
              obtain ⟨y, hy, e⟩ := sentF_mem (List.mem_of_getElem? hs)
              exact ⟨by show s.1 ∈ S; rw [show s = y.1 from e.symm]; exact hS y hy, hr x (List.mem_cons_self ..)⟩) h
          refine ⟨h1, ?_⟩
          rw [List.length_append, List.length_singleton] at h2
          rw [List.length_cons]
          omega
        · cases h
      · cases h
theorem matchR_mem {rs : Rows} {ms : List (EvId × EvId)} (h : matchR rs = .ok ms) : (∀ m ∈ ms, m.1.1 ∈ rs.map (·.1) ∧ m.2.1 ∈ rs.map (·.1)) ∧ ms.length ≤ (flatR rs).length := by
  obtain ⟨h1, h2⟩ := matchF_mem (S := rs.map (·.1)) (fun x hx => flatR_mem hx) (fun x hx => flatR_mem hx) (fun m h => by cases h) h
  exact ⟨h1, by simpa using h2⟩
end Rc
set_option Elab.async false
set_option linter.all false
set_option maxRecDepth 100000
set_option maxHeartbeats 1000000
/-! XRk: Record.__init__ -/
namespace XE
open PySem PySem.Spec PyProof.Rows L2 RZ Rx SX Rc
abbrev cRecord : Stmt := topS 20
abbrev sRInit : Stmt := inClass cRecord 0
/-- a def of the module that may raise -/
structure CalY (P : Program) (w : World) (K : PySem.W.Frag) (mg : Str → Option Value) (base : Heap) (k : Nat) (x : Str) (f : Addr) (fd : FuncData) (ps : List Str) (sp : Sp) : Prop where
  ok : FnOk P w K mg base (L2.CX P w) k f fd ps sp
  mg : mg x = some (.ref f)
  kp : PySem.W.keepIn K (.ref f) = true
  bi : Binds K fd ps []
structure TxtRc (K : PySem.W.Frag) (C : Addr) : Prop where
  cl : Cls K C
  nRows : NoAttr K C "rows"
  nHist : NoAttr K C "histories"
  nMsgs : NoAttr K C "messages"
  nPart : NoAttr K C "partners"
/-- the histories, by rows -/
structure HistR (K : PySem.W.Frag) (H : Hp) (h : Addr) (hs : List V) (rs : Rows) : Prop where
  at_ : HistAt H h (rs.map (·.1)) hs
  ev : ∀ (i : Nat) (r : Str × List Ev), rs[i]? = some r → ∃ b us, hs[i]? = some (.ref b) ∧ SqT K H b us ∧ DpAll K H us (r.2.map Ev.data)
/-- a record -/
structure RecO (K : PySem.W.Frag) (C : Addr) (H : Hp) (p : Addr) (rs : Rows) (ms : List (EvId × EvId)) (dx t h tm pt : Addr) (xs hs us : List V) (kvp : List (List Key × V)) : Prop where
  ins : H p = some (.ins C dx [("rows", .ref t), ("histories", .ref h), ("messages", .ref tm), ("partners", .ref pt)])
  rows : RowsT K H t xs rs
  hist : HistR K H h hs rs
  msgs : H tm = some (.tup us) ∧ MsgL H us ms
  part : PartAt H pt kvp (partF ms)
def IsRec (K : PySem.W.Frag) (C : Addr) (H : Hp) (p : Addr) (rs : Rows) (ms : List (EvId × EvId)) : Prop := ∃ dx t h tm pt xs hs us kvp, RecO K C H p rs ms dx t h tm pt xs hs us kvp
structure GoodR (ds : List PyData) (rs : Rows) (ms : List (EvId × EvId)) : Prop where
  due : rowDue ds = none
  evs : evsBad ((rowsOfD ds).map (·.1)) (rowsOfD ds) = none
  eq : rs = rowsTy ((rowsOfD ds).map (·.1)) (rowsOfD ds)
  msg : matchR rs = .ok ms
def spRInit (K : PySem.W.Frag) (C CR : Addr) : Sp := fun vs H Q E => ∃ (p dx : Addr) (ds : List PyData) (a : Addr) (xs : List V), vs = [.ref p, .ref a] ∧ H p = some (.ins C dx []) ∧ (SqL K H a xs ∨ SqT K H a xs) ∧ DpAll K H xs ds ∧ szAll ds ≤ 4900 ∧ (∀ d ∈ fixAll ds, Gd d) ∧ ds.length ≤ 1000 ∧ (∀ r ∈ rowsOfD (fixAll ds), r.2.length ≤ 1000) ∧
  (∀ i, rowDue (fixAll ds) = some i → RecAtX CR H p "row" .non i E) ∧
  (rowDue (fixAll ds) = none → ∀ n k, evsBad ((rowsOfD (fixAll ds)).map (·.1)) (rowsOfD (fixAll ds)) = some (n, k) → RecAtX CR H p "event" (.str n) k E) ∧
  (rowDue (fixAll ds) = none → evsBad ((rowsOfD (fixAll ds)).map (·.1)) (rowsOfD (fixAll ds)) = none → ∀ x, matchR (rowsTy ((rowsOfD (fixAll ds)).map (·.1)) (rowsOfD (fixAll ds))) = .error x → RecAtX CR H p "message" (.str x.1) x.2 E) ∧
  (∀ rs ms, GoodR (fixAll ds) rs ms → ∀ ids, ExecOk (rs.map (·.1)) (lnOf rs) (causesF ms) ids →
    (orderF (rs.map (·.1)) (lnOf rs) (reachF ids) = none → ∀ H', (∀ b o, H b = some o → b ≠ p → H' b = some o) → IsRec K C H' p rs ms → Q .non H') ∧
    ∀ n, orderF (rs.map (·.1)) (lnOf rs) (reachF ids) = some n → RecAtX CR H p "order" (.str n) (reachF ids n + 1) E)
theorem pf_missR {k x : Str} {v w : V} {l : List (Str × V)} (h : ¬ x = k) : putF k v ((x, w) :: l) = (x, w) :: putF k v l := if_neg h
theorem ev_noList (e : Ev) : noList e.data = true := by cases e <;> rfl
theorem evs_noList : ∀ es : List Ev, noListAll (es.map Ev.data) = true
  | [] => rfl
  | e :: es => by
    show (noList e.data && noListAll (es.map Ev.data)) = true
    rw [ev_noList, evs_noList es]
    rfl
theorem rows_noList : ∀ rs : Rows, noListAll (rs.map rowE) = true
  | [] => rfl
  | r :: rs => by
    show (noList (rowE r) && noListAll (rs.map rowE)) = true
    rw [rows_noList rs]
    show ((true && (noListAll (r.2.map Ev.data) && true)) && true) = true
    rw [evs_noList]
    rfl
theorem rowsT_keep {K : PySem.W.Frag} {H H1 : Hp} {t : Addr} {xs : List V} {rs : Rows} (h : RowsT K H t xs rs) (k : Keeps H H1) : RowsT K H1 t xs rs := ⟨sqT_keep k.1 k.2 h.tu, dpAll_keep k.1 k.2 h.dp (rows_noList rs), h.few, h.len⟩
theorem keeps_but {H H1 : Hp} {p C dx : Addr} {fs : List (Str × V)} (k : ∀ b o, H b = some o → b ≠ p → H1 b = some o) (hp : H p = some (.ins C dx fs)) : Keeps H H1 :=
  ⟨fun b xs e => k b _ e (ne_of e hp (by intro z; cases z)), fun b o u e => k b _ e (ne_of e hp (by intro z; cases z))⟩
theorem HistR.keep {K : PySem.W.Frag} {H H1 : Hp} {h p C dx : Addr} {fs : List (Str × V)} {hs : List V} {rs : Rows} (x : HistR K H h hs rs) (k : ∀ b o, H b = some o → b ≠ p → H1 b = some o) (hp : H p = some (.ins C dx fs)) : HistR K H1 h hs rs := by
  have kk := keeps_but k hp
  refine ⟨⟨k _ _ x.at_.1 (ne_of x.at_.1 hp (by intro z; cases z)), x.at_.2⟩, fun i r hr => ?_⟩
  obtain ⟨b, us, h1, h2, h3⟩ := x.ev i r hr
  exact ⟨b, us, h1, sqT_keep kk.1 kk.2 h2, dpAll_keep kk.1 kk.2 h3 (evs_noList _)⟩
theorem HistR.same {K : PySem.W.Frag} {H H1 : Hp} {h : Addr} {hs : List V} {rs : Rows} (x : HistR K H h hs rs) (s : Same H H1) : HistR K H1 h hs rs := by
  refine ⟨⟨s _ _ x.at_.1, x.at_.2⟩, fun i r hr => ?_⟩
  obtain ⟨b, us, h1, h2, h3⟩ := x.ev i r hr
  exact ⟨b, us, h1, sqT_same s h2, dpAll_same s h3⟩
theorem HistR.toL {K : PySem.W.Frag} {H : Hp} {h : Addr} {hs : List V} {rs : Rows} (x : HistR K H h hs rs) (hd : (rs.map (·.1)).Nodup) (hf : rs.length ≤ 40) (hl : ∀ r ∈ rs, r.2.length ≤ 1000) : HistL K H h (rs.map (·.1)) (lnOf rs) hs := by
  refine ⟨x.at_, fun i n hn => ?_, hd, by rw [List.length_map]; exact hf, lnOf_sum hd hf hl⟩
  rw [List.getElem?_map] at hn
  cases hr : rs[i]? with
  | none => rw [hr] at hn; cases hn
  | some r =>
    rw [hr] at hn
    injection hn with hn
    subst hn
    obtain ⟨b, us, h1, h2, h3⟩ := x.ev i r hr
    refine ⟨b, us, h1, h2, ?_⟩
    rw [dpAll_len h3, List.length_map, lnOf_at hd (List.mem_of_getElem? hr)]
theorem rows_hs {K : PySem.W.Frag} {H : Hp} : ∀ {rs : Rows} {ys : List V}, DpAll K H ys (rs.map rowE) → ∃ hs : List V, hs.length = rs.length ∧ ∀ (i : Nat) (r : Str × List Ev), rs[i]? = some r → ∃ q b us, ys[i]? = some (.ref q) ∧ hs[i]? = some (.ref b) ∧ SqT K H q [.str r.1, .ref b] ∧ SqT K H b us ∧ DpAll K H us (r.2.map Ev.data)
  | [], _, _ => ⟨[], rfl, fun _ _ h => nomatch h⟩
  | r :: rs, _, .cons h1 h2 => by
    obtain ⟨hs, g1, g2⟩ := rows_hs h2
    obtain ⟨q, b, us, rfl, k1, k2, k3⟩ := row_dp h1
    refine ⟨.ref b :: hs, by rw [List.length_cons, List.length_cons, g1], fun i r' hr => ?_⟩
    cases i with
    | zero =>
      injection hr with hr
      subst hr
      exact ⟨q, b, us, rfl, rfl, k1, k2, k3⟩
    | succ i => exact g2 i r' hr
section
variable {P : Program} {w : World} {K : PySem.W.Frag} {mg : Str → Option Value} {base : Heap} {C CR : Addr}
abbrev riN : List Str := ["self", "rows", "kept", "name", "events"]
theorem scRI : FnScope riN ["self", "rows"] (defScope sRInit) := ⟨rfl, rfl, rfl, by decide +kernel, rfl, by decide +kernel, by decide +kernel⟩
theorem ok_rinit {f fZ fKR fKE fM fO fB : Addr} {fd fdZ fdKR fdKE fdM fdO fdB : FuncData} (F : Fun K "__init__" "Record.__init__" sRInit f fd) (T : TxtRc K C) (mlist : mg "list" = none)
    (CZ : Cal P w K mg base 1 "frozen" fZ fdZ ["thing"] (spFrozenN K 5000)) (CKR : CalY P w K mg base 4 "check_rows" fKR fdKR ["rows"] (spCheckR K CR)) (CKE : CalY P w K mg base 5 "check_events" fKE fdKE ["rows"] (spCheckE K CR))
    (CM : CalY P w K mg base 4 "matched_messages" fM fdM ["rows"] (spMatched K CR)) (CO : CalY P w K mg base 4 "check_order" fO fdO ["histories", "messages"] (spOrder K CR)) (CB : Cal P w K mg base 1 "partners_by_event" fB fdB ["messages"] (spPartners K)) :
    FnOk P w K mg base (L2.CX P w) 6 f fd ["self", "rows"] (spRInit K C CR) := by
  refine F.okX scRI (fun vs H Q E h => ?_) (fun cdv A outer s H vs Q E hr h => ?_)
  · obtain ⟨_, _, _, _, _, rfl, _⟩ := h
    rfl
  · obtain ⟨p, dx, ds, a, xs, rfl, hp, hA, hD, hsz, hG, hdl, hrl, kR, kE, kM, kO⟩ := h
    have hu := hu_of hr
    have hr1 : Room 1 _ := hr.mono (by decide)
    have hr4 : Room 4 _ := hr.mono (by decide)
    have hr5 : Room 5 _ := hr.mono (by decide)
    refine ⟨_, (pss_cons (ps_set (i := 2) scRI.nd rfl (.inl rfl) (pe_call CZ.ok hr1 rfl CZ.mg CZ.kp CZ.bi .nil pass0 (pa_cons (pe_callTy call_list_of (by rfl) mlist (by decide +kernel) (pa_cons (pv 1) pa_nil)) pa_nil))) (pss_cons (ps_expr (pe_call CKR.ok hr4 rfl CKR.mg CKR.kp CKR.bi .nil (passes_call (takes_of (E := E) rfl rfl rfl rfl) (fun _ _ _ _ h => h)) (pa_cons (pv 2) pa_nil))) (pss_cons (ps_expr (pe_call CKE.ok hr5 rfl CKE.mg CKE.kp CKE.bi .nil (passes_call (takes_of (E := E) rfl rfl rfl rfl) (fun _ _ _ _ h => h)) (pa_cons (pv 2) pa_nil))) (pss_cons (ps_fld (pv 0) (pv 2) rfl) (pss_cons (ps_fld (pv 0) (pe_dc (own := [("name", 3), ("events", 4)]) (g := gTup K 2 (gCons (gName 3) (gCons (gName 4) gNil))) (tt := tYes) (tk := tVar 3) (tv := tVar 4) rfl scRI.nd (pi_tup (pv 2)) (blkOk_by (own := [("name", 3), ("events", 4)]) (N := riN) (sc := defScope sRInit) (by decide +kernel)) (fun _ _ _ _ _ => (pg_tup rfl (pgs_cons (pg_name (i := 3) scRI.nd rfl (Or.inl rfl)) (pgs_cons (pg_name (i := 4) scRI.nd rfl (Or.inl rfl)) pgs_nil)))) (fun _ _ _ _ _ => pts_nil) (fun _ _ _ _ _ => (pv 3)) (fun _ _ _ _ _ => (pv 4))) rfl) (pss_cons (ps_fld (pv 0) (pe_call CM.ok hr4 rfl CM.mg CM.kp CM.bi .nil (passes_call (takes_of (E := E) rfl rfl rfl rfl) (fun _ _ _ _ h => h)) (pa_cons (pv 2) pa_nil)) rfl) (pss_cons (ps_expr (pe_call CO.ok hr4 rfl CO.mg CO.kp CO.bi .nil (passes_call (takes_of (E := E) rfl rfl rfl rfl) (fun _ _ _ _ h => h)) (pa_cons (pe_fld (pv 0) rfl) (pa_cons (pe_fld (pv 0) rfl) pa_nil)))) (pss_one (ps_fld (pv 0) (pe_call CB.ok hr1 rfl CB.mg CB.kp CB.bi .nil pass0 (pa_cons (pe_fld (pv 0) rfl) pa_nil)) rfl))))))))), ?_⟩
    refine ⟨_, rfl, a, xs, rfl, hA, fun l0 nl0 => ?_⟩
    have s0 := same_new (o := .lst xs) nl0
    have hl0 : Dp K (upd H l0 (.lst xs)) (.ref l0) (.list ds) := .lst (SqL.of upd_same) (dpAll_same s0 hD)
    generalize upd H l0 (.lst xs) = H1 at s0 hl0 ⊢
    refine ⟨_, .list ds, rfl, hl0, by show 2 + szAll ds ≤ 5000; omega, fun H2 v' s2 hv' => ?_⟩
    obtain ⟨t, ys, rfl, ht, hy⟩ := dpT_inv (show Dp K H2 v' (.tuple (fixAll ds)) from hv')
    have s02 := s0.trans s2
    have hp2 := s02 _ _ hp
    have hdl2 : (fixAll ds).length ≤ 1000 := by rw [fixAll_map, List.length_map]; exact hdl
    generalize fixAll ds = fs at hy hG hrl kR kE kM kO hdl2
    have kp : ∀ {Hn : Hp}, Same H Hn → ∀ b o, H b = some o → b ≠ p → Hn b = some o := fun s b o e _ => s b o e
    have np : ∀ {Hn : Hp}, Same H Hn → Hn p ≠ none := fun s z => by rw [s _ _ hp] at z; cases z
    refine ⟨_, rfl, t, ys, fs, rfl, ht, hy, hG, hdl2, fun hdue H3 s3 => ?_, fun i hi => (kR i hi).to (kp s02) (np s02)⟩
    have s03 := s02.trans s3
    have hfs : fs ≠ [] := fun z => by
      unfold rowDue at hdue
      rw [if_pos z] at hdue
      cases hdue
    have hbad : rowBad [] 0 fs = none := by
      unfold rowDue at hdue
      rw [if_neg hfs] at hdue
      exact hdue
    obtain ⟨rp, hds, hnm, hro⟩ := rows_of_bad hbad
    obtain ⟨hnd, _, hfew⟩ := rowBad_nodup hbad (Nat.zero_le _)
    have kE := kE hdue
    have kM := kM hdue
    rw [hro] at hnd hfew hrl kE kM
    have RP : RowsP K H3 t ys rp := ⟨sqT_same s3 ht, by rw [← hds]; exact dpAll_same s3 hy, hnm, fun r hr e he => (((hG _ (by rw [hds]; exact List.mem_map.mpr ⟨r, hr, rfl⟩) : Gd (rowP r)).mem (x := .tuple r.2) (by simp)).mem he), by omega, hrl⟩
    refine ⟨_, rfl, t, ys, rp, rfl, RP, fun hev H4 s4 => ?_, fun n k hn => (kE n k hn).to (kp s03) (np s03)⟩
    have s04 := s03.trans s4
    have kM := kM hev
    generalize hrs : rowsTy (rp.map (·.1)) rp = rs at kM
    have hE : rs.map rowE = rp.map rowP := by rw [← hrs]; exact rowsTy_data hev
    have hN : rs.map (·.1) = rp.map (·.1) := by rw [← hrs]; exact rowsTy_names
    have hL : ∀ r ∈ rs, r.2.length ≤ 1000 := by rw [← hrs]; exact rowsTy_len hrl
    have hF : rs.length ≤ 40 := by
      have := congrArg List.length hE
      rw [List.length_map, List.length_map] at this
      omega
    have hND : (rs.map (·.1)).Nodup := by rw [hN]; exact hnd
    have RT : RowsT K H4 t ys rs := ⟨sqT_same (s3.trans s4) ht, by rw [hE, ← hds]; exact dpAll_same (s3.trans s4) hy, hF, hL⟩
    have hp4 := s04 _ _ hp
    clear RP hy ht hv' hG
    refine ⟨_, rfl, _, rfl, p, C, dx, _, rfl, hp4, T.cl, T.nRows, (by show 0 < 1000; decide), ?_⟩
    have e1 : putF "rows" (.ref t) [] = ([("rows", .ref t)] : List (Str × V)) := rfl
    rw [e1]
    have k5 : ∀ b o, H b = some o → b ≠ p → upd H4 p (.ins C dx [("rows", .ref t)]) b = some o := fun b o e n => by rw [upd_ne n]; exact s04 _ _ e
    have hp5 : upd H4 p (.ins C dx [("rows", .ref t)]) p = _ := upd_same
    have RT5 := rowsT_keep RT (keeps_but (H1 := upd H4 p (.ins C dx [("rows", .ref t)])) (fun b o e n => by rw [upd_ne n]; exact e) hp4)
    generalize upd H4 p (.ins C dx [("rows", .ref t)]) = H5 at k5 hp5 RT5 ⊢
    obtain ⟨hs, hsl, hsa⟩ := rows_hs RT5.dp
    have hln := RT5.ln
    refine ⟨_, rfl, t, rfl, ⟨_, RT5.tu⟩, fun Dh nDh => ?_⟩
    have hlz : ((rs.map (·.1)).zip hs).length = rs.length := by rw [List.length_zip, List.length_map, hsl, Nat.min_self]
    refine dc_it walk_tup (fun i Hy => Same H5 Hy ∧ Hy Dh = some (.dK ((((rs.map (·.1)).zip hs).take i).map fun (p : Str × V) => ((Sum.inr p.1 : Key), p.2)))) ⟨same_new nDh, upd_same⟩ (fun i Hy _ q => sqT_same q.1 RT5.tu) ?_ ?_
    · rintro i x Hy Hy' hi ⟨sm, hDh⟩ ⟨rfl, hx⟩
      obtain ⟨r, hr⟩ : ∃ r, rs[i]? = some r := ⟨rs[i]'(by omega), by simp⟩
      obtain ⟨q, b, us, g1, g2, g3, g4, g5⟩ := hsa i r hr
      rw [hx] at g1
      injection g1 with g1
      subst g1
      have hzi : ((rs.map (·.1)).zip hs)[i]? = some (r.1, .ref b) := Rc.zip_get (by rw [List.getElem?_map, hr]; rfl) g2
      refine ⟨q, _, rfl, sqT_same sm g3, rfl, _, _, rfl, _, _, rfl, rfl, rfl, ?_⟩
      dsimp only [tYes]
      rw [if_pos rfl]
      have e2 : ((rs.map (·.1)).zip hs).take (i + 1) = ((rs.map (·.1)).zip hs).take i ++ [(r.1, .ref b)] := by rw [List.take_add_one, hzi]; rfl
      have hnn : valV ((((rs.map (·.1)).zip hs).take i).map fun (p : Str × V) => ((Sum.inr p.1 : Key), p.2)) (Sum.inr r.1) = none := by
        cases hv : valV ((((rs.map (·.1)).zip hs).take i).map fun (p : Str × V) => ((Sum.inr p.1 : Key), p.2)) (Sum.inr r.1) with
        | none => rfl
        | some v =>
          exfalso
          have h1 := valV_any (Sum.inr r.1 : Key) ((((rs.map (·.1)).zip hs).take i).map fun (p : Str × V) => ((Sum.inr p.1 : Key), p.2))
          rw [hv] at h1
          obtain ⟨y, hy, hy2⟩ := List.any_eq_true.mp h1
          obtain ⟨z, hz, rfl⟩ := List.mem_map.mp hy
          have hz1 : z.1 = r.1 := by
            have := of_decide_eq_true hy2
            injection this
          obtain ⟨j, hj⟩ := List.mem_iff_getElem?.mp hz
          rw [List.getElem?_take] at hj
          split at hj
          · rename_i hji
            obtain ⟨h3, _⟩ := List.getElem?_zip_eq_some.mp hj
            have h4 : (rs.map (·.1))[i]? = some r.1 := by rw [List.getElem?_map, hr]; rfl
            have hjl : j < (rs.map (·.1)).length := (List.getElem?_eq_some_iff.mp h3).1
            have := (List.getElem?_inj (j := i) hjl hND).mp (by rw [h3, h4, hz1])
            omega
          · cases hj
      refine ⟨_, rfl, _, rfl, _, Sum.inr r.1, rfl, hDh, ?_, same_upd sm nDh, ?_⟩
      · rw [List.length_map, List.length_take]
        exact fitR (by omega)
      · rw [putK_new _ hnn, upd_same, e2, List.map_append]
        rfl
    rintro H6 ⟨s6, hDh⟩
    rw [hln, ← hlz, List.take_length] at hDh
    have k6 : ∀ b o, H b = some o → b ≠ p → H6 b = some o := fun b o e n => s6 _ _ (k5 b o e n)
    have hp6 := s6 _ _ hp5
    have HR6 : HistR K H6 Dh hs rs := ⟨⟨hDh, by rw [List.length_map, hsl]⟩, fun i r hr => by
      obtain ⟨q, b, us, _, g2, _, g4, g5⟩ := hsa i r hr
      exact ⟨b, us, g2, sqT_same s6 g4, dpAll_same s6 g5⟩⟩
    have RT6 := RT5.same s6
    have nDhH : H Dh = none := by
      cases q : H Dh with
      | none => rfl
      | some o =>
        by_cases c : Dh = p
        · rw [c, hp5] at nDh; cases nDh
        · rw [k5 _ _ q c] at nDh; cases nDh
    refine ⟨_, rfl, p, C, dx, _, rfl, hp6, T.cl, T.nHist, (by show 1 < 1000; decide), ?_⟩
    have e2 : putF "histories" (.ref Dh) [("rows", .ref t)] = ([("rows", .ref t), ("histories", .ref Dh)] : List (Str × V)) := by rw [pf_missR (by decide +kernel)]; rfl
    rw [e2]
    have k7' : ∀ b o, H6 b = some o → b ≠ p → upd H6 p (.ins C dx [("rows", .ref t), ("histories", .ref Dh)]) b = some o := fun b o e n => by rw [upd_ne n]; exact e
    have hp7 : upd H6 p (.ins C dx [("rows", .ref t), ("histories", .ref Dh)]) p = _ := upd_same
    generalize upd H6 p (.ins C dx [("rows", .ref t), ("histories", .ref Dh)]) = H7 at k7' hp7 ⊢
    have RT7 := rowsT_keep RT6 (keeps_but k7' hp6)
    have HR7 := HR6.keep k7' hp6
    have k7 : ∀ b o, H b = some o → b ≠ p → H7 b = some o := fun b o e n => k7' _ _ (k6 b o e n) n
    have np7 : H7 p ≠ none := by rw [hp7]; exact fun z => nomatch z
    refine ⟨_, rfl, t, ys, rs, rfl, RT7, fun ms hms tm us H8 s8 htm hM => ?_, fun x hx => (kM x hx).to k7 np7⟩
    have hp8 := s8 _ _ hp7
    refine ⟨_, rfl, p, C, dx, _, rfl, hp8, T.cl, T.nMsgs, (by show 2 < 1000; decide), ?_⟩
    have e3 : putF "messages" (.ref tm) [("rows", .ref t), ("histories", .ref Dh)] = ([("rows", .ref t), ("histories", .ref Dh), ("messages", .ref tm)] : List (Str × V)) := by rw [pf_missR (by decide +kernel), pf_missR (by decide +kernel)]; rfl
    rw [e3]
    have k9' : ∀ b o, H8 b = some o → b ≠ p → upd H8 p (.ins C dx [("rows", .ref t), ("histories", .ref Dh), ("messages", .ref tm)]) b = some o := fun b o e n => by rw [upd_ne n]; exact e
    have hp9 : upd H8 p (.ins C dx [("rows", .ref t), ("histories", .ref Dh), ("messages", .ref tm)]) p = _ := upd_same
    generalize upd H8 p (.ins C dx [("rows", .ref t), ("histories", .ref Dh), ("messages", .ref tm)]) = H9 at k9' hp9 ⊢
    have kk9 := keeps_but k9' hp8
    have RT9 := rowsT_keep (RT7.same s8) kk9
    have HR9 := (HR7.same s8).keep k9' hp8
    have htm9 := kk9.1 _ _ htm
    have hM9 := hM.keep kk9.1
    have k9 : ∀ b o, H b = some o → b ≠ p → H9 b = some o := fun b o e n => k9' _ _ (s8 _ _ (k7 b o e n)) n
    obtain ⟨hmm, hml⟩ := matchR_mem hms
    have hfl := flat_len hL
    have GR : GoodR fs rs ms := ⟨hdue, by rw [hro]; exact hev, by rw [hro]; exact hrs.symm, hms⟩
    refine ⟨_, rfl, p, C, dx, _, _, rfl, hp9, T.cl, T.nHist, rfl, _, rfl, p, C, dx, _, _, rfl, hp9, T.cl, T.nMsgs, rfl, Dh, tm, rs.map (·.1), lnOf rs, hs, us, ms, rfl, HR9.toL hND hF hL, htm9, hM9, by omega, fun m hm => (hmm m hm).1, fun ids ok => ⟨fun ho H10 s10 => ?_, fun n ho => ?_⟩⟩
    · have hp10 := s10 _ _ hp9
      refine ⟨_, rfl, p, C, dx, _, _, rfl, hp10, T.cl, T.nMsgs, rfl, tm, us, ms, rfl, s10 _ _ htm9, hM9.same s10, by omega, fun pt kvp H11 s11 PA => ?_⟩
      have hp11 := s11 _ _ hp10
      refine ⟨_, rfl, p, C, dx, _, rfl, hp11, T.cl, T.nPart, (by show 3 < 1000; decide), ?_⟩
      have e4 : putF "partners" (.ref pt) [("rows", .ref t), ("histories", .ref Dh), ("messages", .ref tm)] = ([("rows", .ref t), ("histories", .ref Dh), ("messages", .ref tm), ("partners", .ref pt)] : List (Str × V)) := by rw [pf_missR (by decide +kernel), pf_missR (by decide +kernel), pf_missR (by decide +kernel)]; rfl
      rw [e4]
      have k12' : ∀ b o, H11 b = some o → b ≠ p → upd H11 p (.ins C dx [("rows", .ref t), ("histories", .ref Dh), ("messages", .ref tm), ("partners", .ref pt)]) b = some o := fun b o e n => by rw [upd_ne n]; exact e
      have hp12 : upd H11 p (.ins C dx [("rows", .ref t), ("histories", .ref Dh), ("messages", .ref tm), ("partners", .ref pt)]) p = _ := upd_same
      refine (kO rs ms GR ids ok).1 ho _ (fun b o e n => k12' _ _ (s11 _ _ (s10 _ _ (k9 b o e n))) n) ?_
      generalize upd H11 p (.ins C dx [("rows", .ref t), ("histories", .ref Dh), ("messages", .ref tm), ("partners", .ref pt)]) = H12 at k12' hp12
      have kk12 := keeps_but k12' hp11
      have sA := s10.trans s11
      refine ⟨dx, t, Dh, tm, pt, ys, hs, us, kvp, hp12, rowsT_keep (RT9.same sA) kk12, (HR9.same sA).keep k12' hp11, ⟨kk12.1 _ _ (sA _ _ htm9), (hM9.same sA).keep kk12.1⟩, ⟨k12' _ _ PA.at_ (ne_of PA.at_ hp11 (by intro z; cases z)), fun x => (PA.val x).keep kk12.1⟩⟩
    · intro H' dx' sm hd hx
      refine (kO rs ms GR ids ok).2 n ho H' dx' (fun b o e nb => sm _ _ (k9 b o e nb) fun z => by rw [z, nDhH] at e; cases e) ?_ hx
      cases q : H dx' with
      | none => rfl
      | some o =>
        by_cases c : dx' = p
        · rw [c, hp9] at hd; cases hd
        · rw [k9 _ _ q c] at hd; cases hd
end
end XE
set_option Elab.async false
set_option linter.all false
set_option maxRecDepth 100000
set_option maxHeartbeats 1000000
/-! RxRun: runs, event by event, and the rows they leave -/
namespace Rc
open PySem PySem.Spec PyProof.Rows L2 RZ Rx SX
abbrev RunL := List (Str × Ev)
def sentV (R : RunL) (a b : Str) : List Int := R.filterMap fun x => if x.1 = a then (match x.2.sendOf with | some (p, v) => if p = b then some v else none | none => none) else none
def recvV (R : RunL) (a b : Str) : Nat := (R.filter fun x => decide (x.1 = b) && decide (x.2.recvOf.map (·.1) = some a)).length
def pend (R : RunL) (a b : Str) : List Int := (sentV R a b).drop (recvV R a b)
inductive RunOk (names : List Str) : RunL → Prop where
  | nil : RunOk names []
  | snoc {R : RunL} {n : Str} {e : Ev} : RunOk names R → n ∈ names → e.ok (othersL names n) = true → (∀ p v, e.recvOf = some (p, v) → (sentV R p n)[recvV R p n]? = some v) → RunOk names (R ++ [(n, e)])
def ofP (R : RunL) (n : Str) : List Ev := R.filterMap fun x => if x.1 = n then some x.2 else none
def runRows (names : List Str) (R : RunL) : Rows := names.map fun n => (n, ofP R n)
theorem sentV_snoc (R : RunL) (n : Str) (e : Ev) (a b : Str) : sentV (R ++ [(n, e)]) a b = sentV R a b ++ (if n = a then (match e.sendOf with | some (p, v) => if p = b then [v] else [] | none => []) else []) := by
  unfold sentV
  rw [List.filterMap_append]
  congr 1
  by_cases h : n = a
  · rw [if_pos h]
    simp only [List.filterMap_cons, List.filterMap_nil, if_pos h]
    cases hs : e.sendOf with
    | none => rfl
    | some pv =>
      obtain ⟨p, v⟩ := pv
      by_cases c : p = b <;> simp [c]
  · rw [if_neg h]
    simp [h]
theorem recvV_snoc (R : RunL) (n : Str) (e : Ev) (a b : Str) : recvV (R ++ [(n, e)]) a b = recvV R a b + (if n = b ∧ e.recvOf.map (·.1) = some a then 1 else 0) := by
  unfold recvV
  rw [List.filter_append, List.length_append]
  congr 1
  by_cases h1 : n = b <;> by_cases h2 : e.recvOf.map (·.1) = some a <;> simp [h1, h2]
theorem ofP_snoc (R : RunL) (n : Str) (e : Ev) (m : Str) : ofP (R ++ [(n, e)]) m = ofP R m ++ (if n = m then [e] else []) := by
  unfold ofP
  rw [List.filterMap_append]
  congr 1
  by_cases h : n = m <;> simp [h]
/-- no more is received than was sent -/
theorem RunOk.le {names : List Str} {R : RunL} (h : RunOk names R) : ∀ a b, recvV R a b ≤ (sentV R a b).length := by
  induction h with
  | nil => exact fun a b => Nat.le_refl _
  | @snoc R n e h hn he hr ih =>
    intro a b
    rw [recvV_snoc, sentV_snoc, List.length_append]
    have h1 := ih a b
    by_cases c : n = b ∧ e.recvOf.map (·.1) = some a
    · rw [if_pos c]
      obtain ⟨rfl, c⟩ := c
      cases hro : e.recvOf with
      | none => rw [hro] at c; cases c
      | some pv =>
        obtain ⟨p, v⟩ := pv
        rw [hro] at c
        have c : p = a := by injection c
        subst c
        have := (List.getElem?_eq_some_iff.mp (hr p v hro)).1
        show _ ≤ (sentV R p n).length + _
        omega
    · rw [if_neg c]
      omega
theorem pend_send {names : List Str} {R : RunL} (h : RunOk names R) {n p : Str} {v : Int} (a b : Str) : pend (R ++ [(n, .send p v)]) a b = if a = n ∧ b = p then pend R a b ++ [v] else pend R a b := by
  unfold pend
  rw [sentV_snoc, recvV_snoc, if_neg (fun z => by cases z.2), Nat.add_zero]
  show (sentV R a b ++ (if n = a then (if p = b then [v] else []) else [])).drop _ = _
  by_cases c : a = n ∧ b = p
  · obtain ⟨rfl, rfl⟩ := c
    rw [if_pos rfl, if_pos rfl, if_pos ⟨rfl, rfl⟩, List.drop_append_of_le_length (h.le _ _)]
  · rw [if_neg c]
    have : (if n = a then (if p = b then [v] else []) else [] : List Int) = [] := by
      split
      · split
        · rename_i h1 h2
          exact absurd ⟨h1.symm, h2.symm⟩ c
        · rfl
      · rfl
    rw [this, List.append_nil]
theorem pend_recv {R : RunL} {n p : Str} {e : Ev} {v : Int} (he : e.recvOf = some (p, v)) (hs : e.sendOf = none) (a b : Str) : pend (R ++ [(n, e)]) a b = if a = p ∧ b = n then (pend R a b).drop 1 else pend R a b := by
  unfold pend
  rw [sentV_snoc, recvV_snoc, hs, he]
  have : (if n = a then ([] : List Int) else []) = [] := by split <;> rfl
  show (sentV R a b ++ (if n = a then [] else [])).drop _ = _
  rw [this, List.append_nil]
  by_cases c : a = p ∧ b = n
  · obtain ⟨rfl, rfl⟩ := c
    rw [if_pos ⟨rfl, rfl⟩, if_pos ⟨rfl, rfl⟩, List.drop_drop]
  · rw [if_neg c, if_neg fun z => c ?_]
    · rfl
    · obtain ⟨z1, z2⟩ := z
      injection z2 with z2
      exact ⟨z2.symm, z1.symm⟩
theorem pend_else {R : RunL} {n : Str} {e : Ev} (he : e.recvOf = none) (hs : e.sendOf = none) (a b : Str) : pend (R ++ [(n, e)]) a b = pend R a b := by
  unfold pend
  rw [sentV_snoc, recvV_snoc, hs, he, if_neg (fun z => by cases z.2), Nat.add_zero]
  have : (if n = a then ([] : List Int) else []) = [] := by split <;> rfl
  show (sentV R a b ++ (if n = a then [] else [])).drop _ = _
  rw [this, List.append_nil]
theorem recv_send {e : Ev} {x : Str × Int} (h : e.recvOf = some x) : e.sendOf = none := by
  cases e <;> first | rfl | cases h
theorem pend_head {R : RunL} {a b : Str} {v : Int} {l : List Int} (h : pend R a b = v :: l) : (sentV R a b)[recvV R a b]? = some v := by
  have : ((sentV R a b).drop (recvV R a b))[0]? = some v := by
    show (pend R a b)[0]? = _
    rw [h]
    rfl
  rwa [List.getElem?_drop, Nat.add_zero] at this
theorem RunOk.names {names : List Str} {R : RunL} (h : RunOk names R) : ∀ x ∈ R, x.1 ∈ names ∧ x.2.ok (othersL names x.1) = true := by
  induction h with
  | nil => exact fun _ h => nomatch h
  | snoc h hn he hr ih =>
    intro x hx
    rcases List.mem_append.mp hx with hx | hx
    · exact ih x hx
    · rw [List.mem_singleton.mp hx]
      exact ⟨hn, he⟩
theorem sentV_mem {R : RunL} {a b : Str} {v : Int} (h : v ∈ sentV R a b) : ∃ e : Ev, (a, e) ∈ R ∧ e.sendOf = some (b, v) := by
  obtain ⟨x, hx, h⟩ := List.mem_filterMap.mp h
  by_cases h1 : x.1 = a
  · rw [if_pos h1] at h
    cases hs : x.2.sendOf with
    | none => rw [hs] at h; cases h
    | some pv =>
      obtain ⟨p, w⟩ := pv
      rw [hs] at h
      dsimp only at h
      by_cases h2 : p = b
      · rw [if_pos h2] at h
        injection h with h
        exact ⟨x.2, by rw [← h1]; exact hx, by rw [hs, h, h2]⟩
      · rw [if_neg h2] at h
        cases h
  · rw [if_neg h1] at h
    cases h
/-- what was sent is a value, and sent to another -/
theorem RunOk.sent {names : List Str} {R : RunL} (h : RunOk names R) {a b : Str} {v : Int} {i : Nat} (e : (sentV R a b)[i]? = some v) : valB v = true ∧ b ∈ othersL names a := by
  obtain ⟨e, he, hs⟩ := sentV_mem (List.mem_of_getElem? e)
  have := (h.names _ he).2
  obtain ⟨rfl, _⟩ := send_rest hs
  have : (decide (b ∈ othersL names a) && valB v) = true := this
  rw [Bool.and_eq_true, decide_eq_true_eq] at this
  exact ⟨this.2, this.1⟩
theorem RunOk.vals {names : List Str} {R : RunL} (h : RunOk names R) {a b : Str} {v : Int} {i : Nat} (e : (sentV R a b)[i]? = some v) : valB v = true := (h.sent e).1
theorem RunOk.self {names : List Str} {R : RunL} (h : RunOk names R) {a : Str} {v : Int} {i : Nat} (e : (sentV R a a)[i]? = some v) : False := by
  have := (List.mem_filter.mp (h.sent e).2).2
  simp at this
end Rc
set_option Elab.async false
set_option linter.all false
set_option maxRecDepth 100000
set_option maxHeartbeats 1000000
/-! RxFst: the first message that is not due, row by row -/
namespace Rc
open PySem PySem.Spec PyProof.Rows L2 RZ Rx SX
def cntR (es : List Ev) (p : Str) : Nat := (es.filter fun e => decide (e.recvOf.map (·.1) = some p)).length
theorem recvN_app (f g : Flat) (a b : Str) : recvN (f ++ g) a b = recvN f a b + recvN g a b := by
  unfold recvN
  rw [List.filter_append, List.length_append]
theorem recvN_row (n : Str) (p : Str) : ∀ (es : List Ev) (k : Nat), recvN (flatRow n k es) p n = cntR es p
  | [], _ => rfl
  | e :: es, k => by
    have : flatRow n k (e :: es) = [((n, k), e)] ++ flatRow n (k + 1) es := rfl
    rw [this, recvN_app, recvN_row n p es (k + 1)]
    unfold cntR recvN
    rw [List.filter_cons]
    by_cases c : e.recvOf.map (·.1) = some p <;> simp [c] <;> omega
theorem recvN_other {n : Str} {p : Str} : ∀ {fl : Flat}, (∀ x ∈ fl, x.1.1 ≠ n) → recvN fl p n = 0
  | [], _ => rfl
  | x :: fl, h => by
    have : (x :: fl : Flat) = [x] ++ fl := rfl
    rw [this, recvN_app, recvN_other fun y hy => h y (List.mem_cons_of_mem _ hy)]
    unfold recvN
    simp [h x (List.mem_cons_self ..)]
theorem recvN_pre {rs : Rows} (hd : (rs.map (·.1)).Nodup) {i : Nat} {n : Str} {es : List Ev} (h : rs[i]? = some (n, es)) (p : Str) (j : Nat) : recvN (flatR (rs.take i) ++ flatRow n 1 (es.take j)) p n = cntR (es.take j) p := by
  rw [recvN_app, recvN_row, recvN_other fun x hx => ?_, Nat.zero_add]
  intro z
  have hm := flatR_mem hx
  rw [z, List.map_take] at hm
  obtain ⟨k, hk⟩ := List.mem_iff_getElem?.mp hm
  rw [List.getElem?_take] at hk
  split at hk
  · have h2 : (rs.map (·.1))[i]? = some n := by rw [List.getElem?_map, h]; rfl
    have := (List.getElem?_inj (j := i) (List.getElem?_eq_some_iff.mp hk).1 hd).mp (by rw [hk, h2])
    omega
  · cases hk
theorem cntR_succ {es : List Ev} {j : Nat} {e : Ev} (h : es[j]? = some e) (p : Str) : cntR (es.take (j + 1)) p = cntR (es.take j) p + (if e.recvOf.map (·.1) = some p then 1 else 0) := by
  unfold cntR
  rw [List.take_add_one, h, List.filter_append, List.length_append]
  congr 1
  by_cases c : e.recvOf.map (·.1) = some p <;> simp [c]
theorem cut_lo (xs : List V) (k : Nat) : cutV xs (some (k : Int)) none = xs.drop k := by
  unfold cutV
  rw [HT.sIx_nat, HT.sIx_none]
  by_cases h : k ≤ xs.length
  · rw [Nat.min_eq_left h, List.take_of_length_le (by rw [List.length_drop]; exact Nat.le_refl _)]
  · rw [Nat.min_eq_right (by omega), List.drop_length, List.drop_of_length_le (by omega)]; simp
theorem cut_hi (xs : List V) (k : Nat) : cutV xs none (some (k : Int)) = xs.take k := by
  unfold cutV
  rw [HT.sIx_nat, HT.sIx_none, List.drop_zero, Nat.sub_zero]
  by_cases h : k ≤ xs.length
  · rw [Nat.min_eq_left h]
  · rw [Nat.min_eq_right (by omega), List.take_length, List.take_of_length_le (by omega)]
/-- one list item, or none -/
theorem cut_at (xs : List V) (k : Nat) : cutV xs (some (k : Int)) (some ((k : Int) + 1)) = (xs.drop k).take 1 := by
  unfold cutV
  rw [show ((k : Int) + 1) = ((k + 1 : Nat) : Int) from rfl, HT.sIx_nat, HT.sIx_nat]
  by_cases h : k + 1 ≤ xs.length
  · rw [Nat.min_eq_left h, Nat.min_eq_left (by omega)]
    congr 1
    omega
  · rw [Nat.min_eq_right (by omega), Nat.min_eq_right (by omega), List.drop_length, List.drop_of_length_le (by omega)]; simp
theorem take1 {α : Type} (xs : List α) (k : Nat) : (xs.drop k).take 1 = xs[k]?.toList := by
  cases h : xs[k]? with
  | none =>
    rw [List.drop_of_length_le (List.getElem?_eq_none_iff.mp h)]
    rfl
  | some x =>
    obtain ⟨h1, h2⟩ := List.getElem?_eq_some_iff.mp h
    rw [← List.getElem_cons_drop h1, h2]
    rfl
end Rc
set_option Elab.async false
set_option linter.all false
set_option maxRecDepth 100000
set_option maxHeartbeats 1000000
/-! RxOrd: the messages of a run match -/
namespace Rc
open PySem PySem.Spec PyProof.Rows L2 RZ Rx SX
/-- a run, as far as its messages go -/
inductive RunM (names : List Str) : RunL → Prop where
  | nil : RunM names []
  | snoc {R : RunL} {n : Str} {e : Ev} : RunM names R → n ∈ names → (∀ p v, e.recvOf = some (p, v) → p ∈ names ∧ (sentV R p n)[recvV R p n]? = some v) → RunM names (R ++ [(n, e)])
theorem RunOk.runM {names : List Str} {R : RunL} (h : RunOk names R) : RunM names R := by
  induction h with
  | nil => exact .nil
  | @snoc R n e h hn he hr ih =>
    refine .snoc ih hn fun p v q => ⟨?_, hr p v q⟩
    obtain ⟨e', he', _⟩ := sentV_mem (List.mem_of_getElem? (hr p v q))
    exact (h.names _ he').1
theorem ofP_app (R S : RunL) (n : Str) : ofP (R ++ S) n = ofP R n ++ ofP S n := by
  unfold ofP
  rw [List.filterMap_append]
/-- what a process sends to another one -/
def sendTo (b : Str) (e : Ev) : Option Int := match e.sendOf with | some (p, v) => if p = b then some v else none | none => none
theorem sentV_ofP : ∀ (R : RunL) (a b : Str), sentV R a b = (ofP R a).filterMap (sendTo b)
  | [], _, _ => rfl
  | x :: R, a, b => by
    have ih := sentV_ofP R a b
    unfold sentV ofP at ih ⊢
    rw [List.filterMap_cons, List.filterMap_cons]
    by_cases h : x.1 = a
    · simp only [if_pos h]
      rw [List.filterMap_cons, ← ih]
      rfl
    · simp only [if_neg h]
      exact ih
theorem recvV_ofP : ∀ (R : RunL) (a b : Str), recvV R a b = cntR (ofP R b) a
  | [], _, _ => rfl
  | x :: R, a, b => by
    have ih := recvV_ofP R a b
    unfold recvV cntR ofP at ih ⊢
    rw [List.filter_cons, List.filterMap_cons]
    by_cases h : x.1 = b
    · simp only [if_pos h]
      rw [List.filter_cons]
      by_cases c : x.2.recvOf.map (·.1) = some a <;> simp [h, c] <;> exact ih
    · simp only [if_neg h]
      simp [h]
      exact ih
theorem sentF_app (f g : Flat) (a b : Str) : sentF (f ++ g) a b = sentF f a b ++ sentF g a b := by
  unfold sentF
  rw [List.filterMap_append]
theorem sentF_other {a b : Str} : ∀ {fl : Flat}, (∀ x ∈ fl, x.1.1 ≠ a) → sentF fl a b = []
  | [], _ => rfl
  | x :: fl, h => by
    have : (x :: fl : Flat) = [x] ++ fl := rfl
    rw [this, sentF_app, sentF_other fun y hy => h y (List.mem_cons_of_mem _ hy)]
    unfold sentF
    simp [h x (List.mem_cons_self ..)]
theorem flatRow_nm {n : Str} : ∀ {es : List Ev} {k : Nat}, ∀ x ∈ flatRow n k es, x.1.1 = n
  | [], _, _, h => nomatch h
  | e :: es, k, x, h => by
    rcases List.mem_cons.mp h with rfl | h
    · rfl
    · exact flatRow_nm x h
theorem flatRow_num {n : Str} : ∀ {es : List Ev} {k : Nat}, ∀ x ∈ flatRow n k es, x.1.2 < k + es.length
  | [], _, _, h => nomatch h
  | e :: es, k, x, h => by
    rcases List.mem_cons.mp h with rfl | h
    · show k < k + (es.length + 1); omega
    · have := flatRow_num x h
      rw [List.length_cons]; omega
theorem flatRow_app (n : Str) : ∀ (es fs : List Ev) (k : Nat), flatRow n k (es ++ fs) = flatRow n k es ++ flatRow n (k + es.length) fs
  | [], _, _ => rfl
  | e :: es, fs, k => by
    show _ :: flatRow n (k + 1) (es ++ fs) = _
    rw [flatRow_app n es fs (k + 1)]
    show _ = _ :: (flatRow n (k + 1) es ++ flatRow n (k + (es.length + 1)) fs)
    rw [show k + 1 + es.length = k + (es.length + 1) by omega]
theorem sentF_row (a b : Str) : ∀ (es : List Ev) (k : Nat), (sentF (flatRow a k es) a b).map (·.2) = es.filterMap (sendTo b)
  | [], _ => rfl
  | e :: es, k => by
    have ih := sentF_row a b es (k + 1)
    have : flatRow a k (e :: es) = [((a, k), e)] ++ flatRow a (k + 1) es := rfl
    rw [this, sentF_app, List.map_append, ih, List.filterMap_cons]
    unfold sentF sendTo
    simp only [List.filterMap_cons, List.filterMap_nil, if_true]
    cases hs : e.sendOf with
    | none => rfl
    | some pv =>
      obtain ⟨p, v⟩ := pv
      by_cases c : p = b <;> simp [c]
theorem sentF_num {a b : Str} {fl : Flat} {m : Nat} (h : ∀ x ∈ fl, x.1.2 < m) : ∀ y ∈ sentF fl a b, y.1.2 < m ∧ y.1.1 = a := fun y hy => by
  obtain ⟨x, hx, hq⟩ := List.mem_filterMap.mp hy
  by_cases c : x.1.1 = a
  · rw [if_pos c] at hq
    cases hs : x.2.sendOf with
    | none => rw [hs] at hq; cases hq
    | some pv =>
      obtain ⟨p, v⟩ := pv
      rw [hs] at hq
      dsimp only at hq
      by_cases d : p = b
      · rw [if_pos d] at hq
        injection hq with hq
        rw [← hq]
        exact ⟨h x hx, c⟩
      · rw [if_neg d] at hq; cases hq
  · rw [if_neg c] at hq; cases hq
theorem flatR_run : ∀ (names : List Str) (R : RunL), ∀ x ∈ flatR (runRows names R), x.1.1 ∈ names
  | [], _, _, h => nomatch h
  | n :: ns, R, x, h => by
    have h : x ∈ flatRow n 1 (ofP R n) ++ flatR (runRows ns R) := h
    rcases List.mem_append.mp h with h | h
    · rw [flatRow_nm x h]; exact List.mem_cons_self ..
    · exact List.mem_cons_of_mem _ (flatR_run ns R x h)
/-- all that a process sends stands in its row -/
theorem sentF_run {R : RunL} {a b : Str} : ∀ {names : List Str}, names.Nodup → a ∈ names → sentF (flatR (runRows names R)) a b = sentF (flatRow a 1 (ofP R a)) a b
  | [], _, h => nomatch h
  | n :: ns, hd, h => by
    rw [List.nodup_cons] at hd
    show sentF (flatRow n 1 (ofP R n) ++ flatR (runRows ns R)) a b = _
    rw [sentF_app]
    rcases List.mem_cons.mp h with rfl | h
    · rw [sentF_other (fl := flatR (runRows ns R)) fun x hx z => hd.1 (by rw [← z]; exact flatR_run ns R x hx), List.append_nil]
    · rw [sentF_other (fl := flatRow n 1 (ofP R n)) fun x hx z => hd.1 (by rw [← flatRow_nm x hx, z]; exact h), List.nil_append, sentF_run hd.2 h]
/-- an event of a row, with its place in the run -/
theorem ofP_at : ∀ {R : RunL} {n : Str} {j : Nat} {e : Ev}, (ofP R n)[j]? = some e → ∃ R1 R2, R = R1 ++ (n, e) :: R2 ∧ ofP R1 n = (ofP R n).take j
  | [], _, _, _, h => nomatch h
  | x :: R, n, j, e, h => by
    unfold ofP at h
    rw [List.filterMap_cons] at h
    by_cases c : x.1 = n
    · simp only [if_pos c] at h
      have hx : ofP (x :: R) n = x.2 :: ofP R n := by
        unfold ofP
        rw [List.filterMap_cons]
        simp only [if_pos c]
      cases j with
      | zero =>
        injection h with h
        subst h
        exact ⟨[], R, by rw [← c]; rfl, by rw [List.take_zero]; rfl⟩
      | succ j =>
        obtain ⟨R1, R2, h1, h2⟩ := ofP_at (R := R) (show (ofP R n)[j]? = some e from h)
        refine ⟨x :: R1, R2, by rw [h1]; rfl, ?_⟩
        rw [hx, List.take_succ_cons, ← h2]
        unfold ofP
        rw [List.filterMap_cons]
        simp only [if_pos c]
    · simp only [if_neg c] at h
      have hx : ofP (x :: R) n = ofP R n := by
        unfold ofP
        rw [List.filterMap_cons]
        simp only [if_neg c]
      obtain ⟨R1, R2, h1, h2⟩ := ofP_at (R := R) (show (ofP R n)[j]? = some e from h)
      refine ⟨x :: R1, R2, by rw [h1]; rfl, ?_⟩
      rw [hx, ← h2]
      unfold ofP
      rw [List.filterMap_cons]
      simp only [if_neg c]
theorem RunM.pre {names : List Str} : ∀ {R : RunL}, RunM names R → ∀ {R1 R2 : RunL}, R = R1 ++ R2 → RunM names R1 := by
  intro R h
  induction h with
  | nil =>
    intro R1 R2 e
    have : R1 = [] := (List.append_eq_nil_iff.mp e.symm).1
    rw [this]; exact .nil
  | @snoc R n e h hn hr ih =>
    intro R1 R2 q
    rcases List.eq_nil_or_concat R2 with rfl | ⟨S, x, rfl⟩
    · rw [List.append_nil] at q
      rw [← q]
      exact .snoc h hn hr
    · rw [List.concat_eq_append, ← List.append_assoc] at q
      exact ih (List.append_inj' q rfl).1
/-- at each place of a run, what is received stands due -/
theorem RunM.due {names : List Str} {R R1 R2 : RunL} {n : Str} {e : Ev} (h : RunM names R) (q : R = R1 ++ (n, e) :: R2) {p : Str} {v : Int} (hr : e.recvOf = some (p, v)) : p ∈ names ∧ (sentV R1 p n)[recvV R1 p n]? = some v := by
  have h1 := h.pre (R1 := R1 ++ [(n, e)]) (R2 := R2) (by rw [q]; simp)
  generalize hS : R1 ++ [(n, e)] = S at h1
  cases h1 with
  | nil => simp at hS
  | @snoc R' n' e' h' hn' hr' =>
    obtain ⟨e1, e2⟩ := List.append_inj' hS rfl
    injection e2 with e2
    injection e2 with e2 e3
    subst e1 e2 e3
    exact hr' p v hr
/-- the sends of a process, those of a part of the run first -/
theorem sentF_part {names : List Str} {R R1 R2 : RunL} (hd : names.Nodup) (q : R = R1 ++ R2) {p n : Str} (hp : p ∈ names) : ∃ l2, sentF (flatR (runRows names R)) p n = sentF (flatRow p 1 (ofP R1 p)) p n ++ l2 := by
  rw [sentF_run hd hp, q, ofP_app, flatRow_app, sentF_app]
  exact ⟨_, rfl⟩
theorem send_at {names : List Str} {R R1 R2 : RunL} (hd : names.Nodup) (q : R = R1 ++ R2) {p n : Str} (hp : p ∈ names) {i : Nat} {v : Int} (h : (sentV R1 p n)[i]? = some v) : ∃ s : EvId, (sentF (flatR (runRows names R)) p n)[i]? = some (s, v) ∧ s.1 = p ∧ s.2 ≤ (ofP R1 p).length := by
  obtain ⟨l2, e⟩ := sentF_part (n := n) hd q hp
  have hv : ((sentF (flatRow p 1 (ofP R1 p)) p n).map (·.2))[i]? = some v := by rw [sentF_row, ← sentV_ofP]; exact h
  rw [List.getElem?_map] at hv
  cases hx : (sentF (flatRow p 1 (ofP R1 p)) p n)[i]? with
  | none => rw [hx] at hv; cases hv
  | some y =>
    rw [hx] at hv
    injection hv with hv
    have hy := sentF_num (a := p) (b := n) (fl := flatRow p 1 (ofP R1 p)) (fun x hx => flatRow_num x hx) y (List.mem_of_getElem? hx)
    refine ⟨y.1, ?_, hy.2, by omega⟩
    rw [e, List.getElem?_append_left (List.getElem?_eq_some_iff.mp hx).1, hx, ← hv]
/-- a place in the rows of a run -/
theorem flat_at {R : RunL} : ∀ {names : List Str}, names.Nodup → ∀ {done : Flat} {x : EvId × Ev} {rest : Flat}, flatR (runRows names R) = done ++ x :: rest →
    ∃ j, x.1.1 ∈ names ∧ x.1.2 = j + 1 ∧ (ofP R x.1.1)[j]? = some x.2 ∧ ∀ p, recvN done p x.1.1 = cntR ((ofP R x.1.1).take j) p
  | [], _, done, x, rest, h => by
    have : ([] : Flat) = done ++ x :: rest := h
    simp at this
  | n :: ns, hd, done, x, rest, h => by
    rw [List.nodup_cons] at hd
    have h : flatRow n 1 (ofP R n) ++ flatR (runRows ns R) = done ++ x :: rest := h
    rcases List.append_eq_append_iff.mp h with ⟨a, h1, h2⟩ | ⟨c, h1, h2⟩
    · obtain ⟨j, g1, g2, g3, g4⟩ := flat_at hd.2 h2
      refine ⟨j, List.mem_cons_of_mem _ g1, g2, g3, fun p => ?_⟩
      rw [h1, recvN_app, g4, recvN_other fun y hy z => hd.1 (by rw [← flatRow_nm y hy, z]; exact g1), Nat.zero_add]
    · have key : ∀ (es : List Ev) (k : Nat) (done : Flat) (c : Flat), flatRow n k es = done ++ c → ∀ y c', c = y :: c' → ∃ j, y.1 = (n, k + j) ∧ es[j]? = some y.2 ∧ done = flatRow n k (es.take j) := by
        intro es
        induction es with
        | nil =>
          intro k done c e y c' hc
          have e : ([] : Flat) = done ++ c := e
          subst hc
          simp at e
        | cons e0 es ih =>
          intro k done c e y c' hc
          have e : ((n, k), e0) :: flatRow n (k + 1) es = done ++ c := e
          cases done with
          | nil =>
            subst hc
            injection e with e1 e2
            subst e1
            exact ⟨0, rfl, rfl, rfl⟩
          | cons d ds =>
            injection e with e1 e2
            obtain ⟨j, q1, q2, q3⟩ := ih (k + 1) ds c e2 y c' hc
            refine ⟨j + 1, by rw [q1]; congr 1; omega, q2, ?_⟩
            rw [List.take_succ_cons, q3, ← e1]
            rfl
      cases c with
      | nil =>
        rw [List.nil_append] at h2
        rw [List.append_nil] at h1
        obtain ⟨j, g1, g2, g3, g4⟩ := flat_at (done := []) hd.2 h2.symm
        refine ⟨j, List.mem_cons_of_mem _ g1, g2, g3, fun p => ?_⟩
        rw [← h1, recvN_other fun y hy z => hd.1 (by rw [← flatRow_nm y hy, z]; exact g1)]
        have := g4 p
        rw [show recvN [] p x.1.1 = 0 from rfl] at this
        exact this
      | cons y c' =>
        injection h2 with h2 h3
        subst h2
        obtain ⟨j, q1, q2, q3⟩ := key _ _ _ _ h1 x c' rfl
        have q11 : x.1.1 = n := by rw [q1]
        refine ⟨j, by rw [q11]; exact List.mem_cons_self .., by rw [q1]; show 1 + j = j + 1; omega, by rw [q11]; exact q2, fun p => ?_⟩
        rw [q11, q3, recvN_row]
theorem matchF_run (all : Flat) (Good : EvId × EvId → Prop) (hall : ∀ done x rest, all = done ++ x :: rest → ∀ p v, x.2.recvOf = some (p, v) → ∃ s, (sentF all p x.1.1)[recvN done p x.1.1]? = some (s, v) ∧ Good (s, x.1)) :
    ∀ (rest done : Flat) (acc : List (EvId × EvId)), all = done ++ rest → (∀ m ∈ acc, Good m) → ∃ ms, matchF all done acc rest = .ok ms ∧ ∀ m ∈ ms, Good m
  | [], done, acc, _, h => ⟨acc, rfl, h⟩
  | x :: rest, done, acc, e, h => by
    cases hr : x.2.recvOf with
    | none =>
      simp only [matchF, hr]
      exact matchF_run all Good hall rest (done ++ [x]) acc (by rw [e]; simp) h
    | some pv =>
      obtain ⟨p, v⟩ := pv
      obtain ⟨s, hs, hg⟩ := hall done x rest e p v hr
      simp only [matchF, hr, hs, if_true]
      refine matchF_run all Good hall rest (done ++ [x]) (acc ++ [(s, x.1)]) (by rw [e]; simp) fun m hm => ?_
      rcases List.mem_append.mp hm with hm | hm
      · exact h m hm
      · rw [List.mem_singleton.mp hm]; exact hg
/-- a message of a run: received behind its send, at any place of the run at which it is received -/
def InRun (R : RunL) (m : EvId × EvId) : Prop := ∀ R1 R2 e, R = R1 ++ (m.2.1, e) :: R2 → (ofP R1 m.2.1).length + 1 = m.2.2 → m.1.2 ≤ (ofP R1 m.1.1).length
theorem split_at {R R1 R2 S1 S2 : RunL} {n : Str} {e f : Ev} (h1 : R = R1 ++ (n, e) :: R2) (h2 : R = S1 ++ (n, f) :: S2) (hl : (ofP R1 n).length = (ofP S1 n).length) : R1 = S1 ∧ e = f := by
  have h := h1.symm.trans h2
  rcases List.append_eq_append_iff.mp h with ⟨a, g1, g2⟩ | ⟨a, g1, g2⟩
  · cases a with
    | nil =>
      rw [List.nil_append] at g2
      injection g2 with g2 _
      injection g2 with _ g2
      rw [List.append_nil] at g1
      exact ⟨g1.symm, g2⟩
    | cons x a =>
      injection g2 with g2 _
      rw [g1, ← g2, ofP_app] at hl
      unfold ofP at hl
      rw [List.filterMap_cons] at hl
      simp at hl
  · cases a with
    | nil =>
      rw [List.nil_append] at g2
      injection g2 with g2 _
      injection g2 with _ g2
      rw [List.append_nil] at g1
      exact ⟨g1, g2.symm⟩
    | cons x a =>
      injection g2 with g2 _
      rw [g1, ← g2, ofP_app] at hl
      unfold ofP at hl
      rw [List.filterMap_cons] at hl
      simp at hl
theorem RunM.match {names : List Str} {R : RunL} (h : RunM names R) (hd : names.Nodup) : ∃ ms, matchR (runRows names R) = .ok ms ∧ ∀ m ∈ ms, m.1.1 ∈ names ∧ InRun R m := by
  refine matchF_run (flatR (runRows names R)) (fun m => m.1.1 ∈ names ∧ InRun R m) (fun done x rest e p v hr => ?_) _ [] [] rfl (fun _ h => nomatch h)
  obtain ⟨j, g1, g2, g3, g4⟩ := flat_at hd e
  obtain ⟨R1, R2, q1, q2⟩ := ofP_at g3
  obtain ⟨hp, hv⟩ := h.due q1 hr
  obtain ⟨s, hs1, hs2, hs3⟩ := send_at (R2 := (x.1.1, x.2) :: R2) hd q1 hp hv
  have hi : recvN done p x.1.1 = recvV R1 p x.1.1 := by rw [g4, recvV_ofP, q2]
  refine ⟨s, by rw [hi]; exact hs1, by rw [hs2]; exact hp, fun S1 S2 f w1 w2 => ?_⟩
  have hl : (ofP R1 x.1.1).length = (ofP S1 x.1.1).length := by
    have : (ofP S1 x.1.1).length + 1 = x.1.2 := w2
    have hj := (List.getElem?_eq_some_iff.mp g3).1
    rw [q2, List.length_take]
    omega
  obtain ⟨rfl, _⟩ := split_at q1 w1 hl
  show s.2 ≤ (ofP R1 s.1).length
  rw [hs2]
  exact hs3
end Rc
set_option Elab.async false
set_option linter.all false
set_option maxRecDepth 100000
set_option maxHeartbeats 1000000
/-! XOd: a run is a whole record -/
namespace XE
open PySem PySem.Spec PyProof.Rows L2 RZ Rx SX Rc
theorem run_ln {names : List Str} {R : RunL} (hd : names.Nodup) {n : Str} (hn : n ∈ names) : lnOf (runRows names R) n = (ofP R n).length := by
  have h1 : ((runRows names R).map (·.1)).Nodup := by
    unfold runRows
    rw [List.map_map, show ((fun r : Str × List Ev => r.1) ∘ fun n => (n, ofP R n)) = id from rfl, List.map_id]
    exact hd
  exact lnOf_at h1 (r := (n, ofP R n)) (List.mem_map.mpr ⟨n, hn, rfl⟩)
theorem run_reach {names : List Str} {R : RunL} {ms : List (EvId × EvId)} {ids : List EvId} (h : RunM names R) (hd : names.Nodup) (hm : ∀ m ∈ ms, m.1.1 ∈ names ∧ InRun R m)
    (ok : ExecOk names (lnOf (runRows names R)) (causesF ms) ids) : ∀ k n, n ∈ names → (ofP (R.take k) n).length ≤ reachF ids n := by
  intro k
  induction k with
  | zero => exact fun n _ => Nat.zero_le _
  | succ k ih =>
    intro m hmn
    cases hx : R[k]? with
    | none =>
      rw [List.take_add_one, hx]
      show (ofP (R.take k ++ []) m).length ≤ _
      rw [List.append_nil]
      exact ih m hmn
    | some x =>
      obtain ⟨n, e⟩ := x
      have ek : R = R.take k ++ (n, e) :: R.drop (k + 1) := by
        obtain ⟨h1, h2⟩ := List.getElem?_eq_some_iff.mp hx
        rw [← h2, List.getElem_cons_drop, List.take_append_drop]
      rw [List.take_add_one, hx]
      show (ofP (R.take k ++ [(n, e)]) m).length ≤ _
      rw [ofP_snoc]
      by_cases c : n = m
      · subst c
        rw [if_pos rfl, List.length_append, List.length_singleton]
        have hi := ih n hmn
        by_cases q : (ofP (R.take k) n).length + 1 ≤ reachF ids n
        · exact q
        · exfalso
          have hr : reachF ids n = (ofP (R.take k) n).length := by omega
          have hl : reachF ids n < lnOf (runRows names R) n := by
            rw [run_ln hd hmn, hr]
            conv => rhs; rw [ek]
            rw [ofP_app, List.length_append]
            have : ofP ((n, e) :: R.drop (k + 1)) n = e :: ofP (R.drop (k + 1)) n := by
              unfold ofP
              rw [List.filterMap_cons]
              simp
            rw [this, List.length_cons]
            omega
          have hs := ok.stuck n hmn hl
          apply hs
          unfold lackF
          rw [List.filter_eq_nil_iff]
          intro s hs
          unfold causesF at hs
          obtain ⟨m, hm1, rfl⟩ := List.mem_map.mp hs
          obtain ⟨hm1, hm2⟩ := List.mem_filter.mp hm1
          rw [decide_eq_true_eq] at hm2
          obtain ⟨g1, g2⟩ := hm m hm1
          have g3 := g2 (R.take k) (R.drop (k + 1)) e (by rw [hm2]; exact ek) (by rw [hm2]; show (ofP (R.take k) n).length + 1 = reachF ids n + 1; omega)
          have g4 := ih m.1.1 g1
          simp only [decide_eq_true_eq]
          omega
      · rw [if_neg c, List.append_nil]
        exact ih m hmn
theorem run_order {names : List Str} {R : RunL} {ms : List (EvId × EvId)} {ids : List EvId} (h : RunM names R) (hd : names.Nodup) (hm : ∀ m ∈ ms, m.1.1 ∈ names ∧ InRun R m)
    (ok : ExecOk names (lnOf (runRows names R)) (causesF ms) ids) : orderF names (lnOf (runRows names R)) (reachF ids) = none := by
  unfold orderF
  rw [List.find?_eq_none]
  intro n hn
  have := run_reach h hd hm ok R.length n hn
  rw [List.take_length] at this
  rw [run_ln hd hn, decide_eq_true_eq]
  omega
end XE
set_option Elab.async false
set_option linter.all false
set_option maxRecDepth 100000
set_option maxHeartbeats 1000000
/-! XClk: what is ahead of an event, by arrows -/
namespace XE
open PySem PySem.Spec PyProof.Rows L2 RZ Rx SX Rc
abbrev Arrows := List (EvId × EvId)
/-- at or ahead -/
inductive AtA (A : Arrows) (y : EvId) : EvId → Prop where
  | refl : AtA A y y
  | arrow {a b : EvId} : AtA A y a → (a, b) ∈ A → AtA A y b
  | next {n : Str} {k : Nat} : AtA A y (n, k) → AtA A y (n, k + 1)
theorem AtA.trans {A : Arrows} {x y z : EvId} (h1 : AtA A x y) (h2 : AtA A y z) : AtA A x z := by
  induction h2 with
  | refl => exact h1
  | arrow _ h ih => exact .arrow ih h
  | next _ ih => exact .next ih
theorem AtA.up {A : Arrows} {n : Str} {k m : Nat} (h : k ≤ m) : AtA A (n, k) (n, m) := by
  induction m with
  | zero => have : k = 0 := by omega
            subst this; exact .refl
  | succ m ih =>
    by_cases c : k = m + 1
    · subst c; exact .refl
    · exact .next (ih (by omega))
open Classical in
noncomputable def clkTo (A : Arrows) (x : EvId) (n : Str) : Nat → Nat
  | 0 => 0
  | k + 1 => if AtA A (n, k + 1) x then k + 1 else clkTo A x n k
theorem clkTo_le (A : Arrows) (x : EvId) (n : Str) : ∀ m, clkTo A x n m ≤ m
  | 0 => Nat.le_refl _
  | m + 1 => by
    unfold clkTo
    split
    · exact Nat.le_refl _
    · exact Nat.le_succ_of_le (clkTo_le A x n m)
theorem clkTo_ge {A : Arrows} {x : EvId} {n : Str} {k : Nat} (h1 : 1 ≤ k) (h : AtA A (n, k) x) : ∀ m, k ≤ m → k ≤ clkTo A x n m
  | 0, hm => by omega
  | m + 1, hm => by
    unfold clkTo
    split
    · exact hm
    · rename_i c
      refine clkTo_ge h1 h m ?_
      rcases Nat.lt_or_ge m k with q | q
      · have : k = m + 1 := by omega
        subst this
        exact absurd h c
      · exact q
theorem clkTo_at {A : Arrows} {x : EvId} {n : Str} : ∀ m, clkTo A x n m ≠ 0 → AtA A (n, clkTo A x n m) x
  | 0, h => absurd rfl h
  | m + 1, h => by
    unfold clkTo at h ⊢
    split
    · rename_i c; exact c
    · rename_i c
      rw [if_neg c] at h
      exact clkTo_at m h
/-- how many events of a process are at or ahead of an event -/
noncomputable def clk (ln : Str → Nat) (A : Arrows) (x : EvId) (n : Str) : Nat := clkTo A x n (ln n)
theorem clk_le (ln : Str → Nat) (A : Arrows) (x : EvId) (n : Str) : clk ln A x n ≤ ln n := clkTo_le A x n _
theorem le_clk {ln : Str → Nat} {A : Arrows} {x : EvId} {n : Str} {k : Nat} (h1 : 1 ≤ k) : k ≤ clk ln A x n ↔ k ≤ ln n ∧ AtA A (n, k) x := by
  constructor
  · intro h
    refine ⟨Nat.le_trans h (clk_le _ _ _ _), ?_⟩
    exact (AtA.up h).trans (clkTo_at _ (by unfold clk at h; omega))
  · rintro ⟨h2, h⟩
    exact clkTo_ge h1 h _ h2
theorem clk_mono {ln : Str → Nat} {A : Arrows} {x y : EvId} (h : AtA A x y) (n : Str) : clk ln A x n ≤ clk ln A y n := by
  rcases Nat.eq_zero_or_pos (clk ln A x n) with e | e
  · omega
  · have := (le_clk e).mp (Nat.le_refl _)
    exact (le_clk e).mpr ⟨this.1, this.2.trans h⟩
/-- an event -/
structure Vld (ns : List Str) (ln : Str → Nat) (x : EvId) : Prop where
  nm : x.1 ∈ ns
  ge : 1 ≤ x.2
  le : x.2 ≤ ln x.1
def AOk (ns : List Str) (ln : Str → Nat) (A : Arrows) : Prop := ∀ m ∈ A, Vld ns ln m.1 ∧ Vld ns ln m.2
/-- numbers that are nowhere less behind an arrow -/
structure Clo (ns : List Str) (ln : Str → Nat) (A : Arrows) (G : EvId → Str → Nat) : Prop where
  own : ∀ x, Vld ns ln x → x.2 ≤ G x x.1
  arr : ∀ a b, (a, b) ∈ A → ∀ n ∈ ns, G a n ≤ G b n
  nxt : ∀ n k, n ∈ ns → 1 ≤ k → k + 1 ≤ ln n → ∀ m ∈ ns, G (n, k) m ≤ G (n, k + 1) m
theorem clk_clo (ns : List Str) (ln : Str → Nat) (A : Arrows) : Clo ns ln A (clk ln A) := by
  refine ⟨fun x hx => ?_, fun a b h n _ => clk_mono (.arrow .refl h) n, fun n k _ _ _ m _ => clk_mono (.next .refl) m⟩
  obtain ⟨n, k⟩ := x
  exact (le_clk hx.ge).mpr ⟨hx.le, .refl⟩
theorem AtA.ge {ns : List Str} {ln : Str → Nat} {A : Arrows} (hA : AOk ns ln A) {y x : EvId} (h : AtA A y x) (hy : Vld ns ln y) : x.1 ∈ ns ∧ 1 ≤ x.2 := by
  induction h with
  | refl => exact ⟨hy.nm, hy.ge⟩
  | arrow _ h _ => exact ⟨(hA _ h).2.nm, (hA _ h).2.ge⟩
  | next _ ih => exact ⟨ih.1, Nat.le_add_left _ _⟩
/-- what is ahead of an event: by its arrows and the event before -/
theorem AtA.inv {A : Arrows} {y x : EvId} (h : AtA A y x) : y = x ∨ (∃ a, (a, x) ∈ A ∧ AtA A y a) ∨ (1 ≤ x.2 ∧ AtA A y (x.1, x.2 - 1)) := by
  cases h with
  | refl => exact .inl rfl
  | arrow h1 h2 => exact .inr (.inl ⟨_, h2, h1⟩)
  | next h1 => exact .inr (.inr ⟨Nat.le_add_left _ _, h1⟩)
/-! ### all events in an order -/
/-- so far, each event stands behind what it needs -/
def Fwd (A : Arrows) (ids : List EvId) : Prop := ∀ l x r, ids = l ++ x :: r → (2 ≤ x.2 → (x.1, x.2 - 1) ∈ l) ∧ ∀ a, (a, x) ∈ A → a ∈ l
structure Topo (ns : List Str) (ln : Str → Nat) (A : Arrows) (ids : List EvId) : Prop where
  fwd : Fwd A ids
  val : ∀ x ∈ ids, Vld ns ln x
  all : ∀ x, Vld ns ln x → x ∈ ids
  nd : ids.Nodup
theorem Fwd.nil (A : Arrows) : Fwd A [] := fun l x r h => by simp at h
theorem Fwd.pre {A : Arrows} {l r : List EvId} (h : Fwd A (l ++ r)) : Fwd A l := fun l1 x r1 e => h l1 x (r1 ++ r) (by rw [e]; simp)
theorem Fwd.snoc {A : Arrows} {l : List EvId} {x : EvId} (h : Fwd A l) (h1 : 2 ≤ x.2 → (x.1, x.2 - 1) ∈ l) (h2 : ∀ a, (a, x) ∈ A → a ∈ l) : Fwd A (l ++ [x]) := fun l1 y r e => by
  rcases List.eq_nil_or_concat r with rfl | ⟨r', z, rfl⟩
  · have e2 : l ++ [x] = l1 ++ [y] := e
    have := List.append_inj' e2 rfl
    obtain ⟨rfl, q⟩ := this
    injection q with q
    subst q
    exact ⟨h1, h2⟩
  · rw [List.concat_eq_append, ← List.cons_append, ← List.append_assoc] at e
    obtain ⟨q, _⟩ := List.append_inj' e rfl
    exact h l1 y r' q
/-- what is ahead of an event stands ahead of it -/
theorem Fwd.atA {A : Arrows} : ∀ {ids : List EvId}, Fwd A ids → ∀ {y x : EvId}, AtA A y x → 1 ≤ y.2 → (∀ m ∈ A, 1 ≤ m.2.2) → ∀ {l r : List EvId}, ids = l ++ x :: r → y = x ∨ y ∈ l := by
  intro ids F y x h hy hA
  induction h with
  | refl => exact fun _ => .inl rfl
  | @arrow a b h1 h2 ih =>
    intro l r e
    have ha := (F l b r e).2 a h2
    obtain ⟨l1, l2, rfl⟩ := List.append_of_mem ha
    rcases ih (l := l1) (r := l2 ++ b :: r) (by rw [e]; simp) with rfl | q
    · exact .inr ha
    · exact .inr (List.mem_append_left _ q)
  | @next n k h1 ih =>
    intro l r e
    have hk : k = 0 ∨ 1 ≤ k := by omega
    rcases hk with rfl | hk
    · exfalso
      have : ∀ z, AtA A y z → 1 ≤ z.2 := fun z hz => by
        induction hz with
        | refl => exact hy
        | arrow _ h _ => exact hA _ h
        | next _ _ => exact Nat.le_add_left _ _
      have := this _ h1
      simp at this
    · have ha := (F l (n, k + 1) r e).1 (by show 2 ≤ k + 1; omega)
      rw [show ((n, k + 1) : EvId).2 - 1 = k from rfl] at ha
      obtain ⟨l1, l2, rfl⟩ := List.append_of_mem ha
      rcases ih (l := l1) (r := l2 ++ (n, k + 1) :: r) (by rw [e]; simp) with rfl | q
      · exact .inr ha
      · exact .inr (List.mem_append_left _ q)
/-- the own number of an event -/
theorem clk_own {ns : List Str} {ln : Str → Nat} {A : Arrows} (hA : AOk ns ln A) {l r : List EvId} {x : EvId} (F : Fwd A (l ++ x :: r)) (nd : (l ++ x :: r).Nodup) (hx : Vld ns ln x) : clk ln A x x.1 = x.2 := by
  refine Nat.le_antisymm ?_ ((clk_clo ns ln A).own x hx)
  rcases Nat.lt_or_ge x.2 (clk ln A x x.1) with c | c
  · exfalso
    obtain ⟨h1, h2⟩ := (le_clk (by omega)).mp (Nat.le_refl (clk ln A x x.1))
    have h3 : AtA A (x.1, x.2 + 1) x := (AtA.up (by omega)).trans h2
    have h4 := F.atA h3 (Nat.le_add_left _ _) (fun m hm => (hA m hm).2.ge) rfl
    have hxl : x ∉ l := fun z => by
      rw [List.nodup_append] at nd
      exact nd.2.2 x z x (List.mem_cons_self ..) rfl
    rcases h4 with h4 | h4
    · have := congrArg Prod.snd h4
      simp at this
    · obtain ⟨l1, l2, rfl⟩ := List.append_of_mem h4
      have h5 := (F l1 (x.1, x.2 + 1) (l2 ++ x :: r) (by simp)).1 (by show 2 ≤ x.2 + 1; have := hx.ge; omega)
      rw [show ((x.1, x.2 + 1) : EvId).2 - 1 = x.2 from rfl] at h5
      exact hxl (List.mem_append_left _ h5)
  · exact c
/-- the numbers of an event, by those it needs -/
theorem clk_max {ns : List Str} {ln : Str → Nat} {A : Arrows} (hA : AOk ns ln A) {x : EvId} (hx : Vld ns ln x) {n : Str} (hn : n ≠ x.1) (m : Nat) (h1 : 2 ≤ x.2 → clk ln A (x.1, x.2 - 1) n ≤ m) (h2 : ∀ a, (a, x) ∈ A → clk ln A a n ≤ m) : clk ln A x n ≤ m := by
  rcases Nat.eq_zero_or_pos (clk ln A x n) with e | e
  · omega
  · obtain ⟨g1, g2⟩ := (le_clk e).mp (Nat.le_refl _)
    rcases g2.inv with q | ⟨a, q1, q2⟩ | ⟨_, q⟩
    · exact absurd (congrArg Prod.fst q) hn
    · exact Nat.le_trans ((le_clk e).mpr ⟨g1, q2⟩) (h2 a q1)
    · have : 2 ≤ x.2 := by
        rcases Nat.lt_or_ge x.2 2 with c | c
        · exfalso
          have h0 : x.2 - 1 = 0 := by omega
          rw [h0] at q
          have : ∀ z, AtA A (n, clk ln A x n) z → 1 ≤ z.2 := fun z hz => by
            induction hz with
            | refl => exact e
            | arrow _ h _ => exact (hA _ h).2.ge
            | next _ _ => exact Nat.le_add_left _ _
          have := this _ q
          simp at this
        · exact c
      exact Nat.le_trans ((le_clk e).mpr ⟨g1, q⟩) (h1 this)
/-- a cut: with an event all that is ahead of it -/
def CutF (ns : List Str) (ln : Str → Nat) (A : Arrows) (c : Str → Nat) : Prop := (∀ n ∈ ns, c n ≤ ln n) ∧ ∀ x, Vld ns ln x → x.2 ≤ c x.1 → ∀ n ∈ ns, clk ln A x n ≤ c n
/-- where not all is done, an event is free -/
theorem cut_free {ns : List Str} {ln : Str → Nat} {A : Arrows} {ids : List EvId} {c : Str → Nat} (hA : AOk ns ln A) (T : Topo ns ln A ids) (hc : CutF ns ln A c) {n0 : Str} (h0 : n0 ∈ ns) (hl : c n0 < ln n0) :
    ∃ n ∈ ns, c n < ln n ∧ ∀ m ∈ ns, clk ln A (n, c n + 1) m ≤ if m = n then c n + 1 else c m := by
  have key : ∀ (l r : List EvId), ids = l ++ r → (∀ y ∈ l, y.2 ≤ c y.1) → (∃ x ∈ r, ¬ x.2 ≤ c x.1) → ∃ x l1 r1, ids = l1 ++ x :: r1 ∧ ¬ x.2 ≤ c x.1 ∧ ∀ y ∈ l1, y.2 ≤ c y.1 := by
    intro l r
    induction r generalizing l with
    | nil => intro _ _ ⟨x, hx, _⟩; cases hx
    | cons z r ih =>
      intro e hl ⟨x, hx, hx2⟩
      by_cases q : z.2 ≤ c z.1
      · refine ih (l ++ [z]) (by rw [e]; simp) (fun y hy => ?_) ⟨x, ?_, hx2⟩
        · rcases List.mem_append.mp hy with hy | hy
          · exact hl y hy
          · rw [List.mem_singleton.mp hy]; exact q
        · rcases List.mem_cons.mp hx with rfl | hx
          · exact absurd q hx2
          · exact hx
      · exact ⟨z, l, r, e, q, hl⟩
  have v0 : Vld ns ln (n0, c n0 + 1) := ⟨h0, Nat.le_add_left _ _, hl⟩
  obtain ⟨x, l1, r1, e, hx, hl1⟩ := key [] ids rfl (by simp) ⟨_, T.all _ v0, by show ¬ c n0 + 1 ≤ c n0; omega⟩
  have hv : Vld ns ln x := T.val x (by rw [e]; simp)
  have F := T.fwd
  rw [e] at F
  have hx1 : x.2 = c x.1 + 1 := by
    rcases Nat.lt_or_ge 1 x.2 with q | q
    · have h1 := (F l1 x r1 rfl).1 q
      have : x.2 - 1 ≤ c x.1 := hl1 _ h1
      omega
    · have := hv.ge
      omega
  refine ⟨x.1, hv.nm, by have := hv.le; omega, fun m hm => ?_⟩
  rw [← hx1]
  by_cases hmx : m = x.1
  · subst hmx
    rw [if_pos rfl]
    have nd := T.nd
    rw [e] at nd
    exact Nat.le_of_eq (clk_own hA F nd hv)
  · rw [if_neg hmx]
    refine clk_max hA hv hmx _ (fun q => ?_) (fun a ha => ?_)
    · have h1 := (F l1 x r1 rfl).1 q
      exact hc.2 (x.1, x.2 - 1) ⟨hv.nm, by show 1 ≤ x.2 - 1; omega, Nat.le_trans (Nat.sub_le _ _) hv.le⟩ (hl1 _ h1) m hm
    · have h1 := (F l1 x r1 rfl).2 a ha
      exact hc.2 _ (hA _ ha).1 (hl1 _ h1) m hm
/-- a free event more is a cut again -/
theorem cut_next {ns : List Str} {ln : Str → Nat} {A : Arrows} {c : Str → Nat} (hc : CutF ns ln A c) {n : Str} (hn : n ∈ ns) (hl : c n < ln n) (h : ∀ m ∈ ns, clk ln A (n, c n + 1) m ≤ if m = n then c n + 1 else c m) : CutF ns ln A (fun m => if m = n then c n + 1 else c m) := by
  refine ⟨fun m hm => ?_, fun x hx hxc m hm => ?_⟩
  · show (if m = n then c n + 1 else c m) ≤ ln m
    split
    · rename_i e; subst e; exact hl
    · exact hc.1 m hm
  · replace hxc : x.2 ≤ (if x.1 = n then c n + 1 else c x.1) := hxc
    show clk ln A x m ≤ if m = n then c n + 1 else c m
    by_cases q : x.2 ≤ c x.1
    · have := hc.2 x hx q m hm
      split
      · rename_i e; subst e; omega
      · exact this
    · by_cases e : x.1 = n
      · rw [if_pos e] at hxc
        rw [e] at q
        have : x = (n, c n + 1) := Prod.ext e (by show x.2 = c n + 1; omega)
        rw [this]
        exact h m hm
      · rw [if_neg e] at hxc
        exact absurd hxc q
theorem cut_zero (ns : List Str) (ln : Str → Nat) (A : Arrows) : CutF ns ln A (fun _ => 0) := ⟨fun _ _ => Nat.zero_le _, fun x hx h => by have := hx.ge; have : x.2 ≤ 0 := h; omega⟩
end XE
set_option Elab.async false
set_option linter.all false
set_option maxRecDepth 100000
set_option maxHeartbeats 1000000
/-! XLeg: what is executed is an order of the events -/
namespace XE
open PySem PySem.Spec PyProof.Rows L2 RZ Rx SX Rc
theorem Legal.mem {ns : List Str} {ln : Str → Nat} {cz : EvId → List EvId} {ids : List EvId} (h : Legal ns ln cz ids) : ∀ x, x ∈ ids ↔ 1 ≤ x.2 ∧ x.2 ≤ reachF ids x.1 := by
  induction h with
  | nil => intro x; constructor
           · intro h; cases h
           · rintro ⟨h1, h2⟩
             have : x.2 ≤ 0 := h2
             omega
  | @snoc ids n h hn hl hc ih =>
    intro x
    rw [reachF_snoc, List.mem_append, List.mem_singleton, ih x]
    show _ ↔ 1 ≤ x.2 ∧ x.2 ≤ if x.1 = n then reachF ids n + 1 else reachF ids x.1
    by_cases c : x.1 = n
    · rw [if_pos c]
      constructor
      · rintro (⟨h1, h2⟩ | h1)
        · rw [c] at h2; omega
        · rw [h1]; exact ⟨Nat.le_add_left _ _, Nat.le_refl _⟩
      · rintro ⟨h1, h2⟩
        rcases Nat.lt_or_ge (reachF ids n) x.2 with q | q
        · exact .inr (Prod.ext c (by show x.2 = _; omega))
        · exact .inl ⟨h1, by rw [c]; exact q⟩
    · rw [if_neg c]
      constructor
      · rintro (h1 | h1)
        · exact h1
        · exact absurd (congrArg Prod.fst h1) c
      · exact fun h1 => .inl h1
theorem causesF_mem {A : Arrows} {a x : EvId} : a ∈ causesF A x ↔ (a, x) ∈ A := by
  unfold causesF
  rw [List.mem_map]
  constructor
  · rintro ⟨m, hm, rfl⟩
    obtain ⟨h1, h2⟩ := List.mem_filter.mp hm
    rw [decide_eq_true_eq] at h2
    rw [← h2]
    exact h1
  · intro h
    exact ⟨_, List.mem_filter.mpr ⟨h, decide_eq_true rfl⟩, rfl⟩
theorem Legal.fwd {ns : List Str} {ln : Str → Nat} {A : Arrows} (hA : AOk ns ln A) {ids : List EvId} (h : Legal ns ln (causesF A) ids) : Fwd A ids ∧ ids.Nodup ∧ ∀ x ∈ ids, Vld ns ln x := by
  induction h with
  | nil => exact ⟨.nil A, List.nodup_nil, fun _ h => nomatch h⟩
  | @snoc ids n h hn hl hc ih =>
    obtain ⟨i1, i2, i3⟩ := ih
    have hm := h.mem
    refine ⟨i1.snoc (fun q => ?_) (fun a ha => ?_), ?_, fun x hx => ?_⟩
    · rw [hm]
      replace q : 2 ≤ reachF ids n + 1 := q
      exact ⟨by show 1 ≤ reachF ids n + 1 - 1; omega, by show reachF ids n + 1 - 1 ≤ reachF ids n; omega⟩
    · rw [hm]
      refine ⟨(hA _ ha).1.ge, ?_⟩
      unfold lackF at hc
      rw [List.filter_eq_nil_iff] at hc
      have := hc a (causesF_mem.mpr ha)
      simp only [decide_eq_true_eq] at this
      omega
    · rw [List.nodup_append]
      refine ⟨i2, by simp, fun x hx y hy z => ?_⟩
      rw [List.mem_singleton.mp hy] at z
      rw [z, hm] at hx
      have : reachF ids n + 1 ≤ reachF ids n := hx.2
      omega
    · rcases List.mem_append.mp hx with hx | hx
      · exact i3 x hx
      · rw [List.mem_singleton.mp hx]
        exact ⟨hn, Nat.le_add_left _ _, hl⟩
end XE
set_option Elab.async false
set_option linter.all false
set_option maxRecDepth 100000
set_option maxHeartbeats 4000000
namespace XE
open PySem PySem.Spec PyProof.Rows L2 Rx SX
abbrev sDraw : Stmt := topS 35
/-- the stream of numbers at s, its list at a, n draws made -/
def StreamAt (H : Hp) (s a : Addr) (n : Nat) : Prop := ∃ (ns : List Int) (big seed : Int), H s = some (.lst [.ref a, .int big, .int n, .int seed]) ∧ H a = some (.lst (ns.map V.int)) ∧ 0 ≤ seed ∧ seed < 2147483647
def Else2 (s a : Addr) (H H' : Hp) : Prop := ∀ b o, H b = some o → b ≠ s → b ≠ a → H' b = some o
/-- a number from 0 to below m, whichever -/
def spDraw : Sp := fun vs H Q _ => ∃ (s a : Addr) (n : Nat) (m : Int), vs = [.ref s, .int m] ∧ 0 < m ∧ m < 1000000 ∧ StreamAt H s a n ∧ n < 1000000 ∧
  ∀ (k : Int) (H' : Hp), 0 ≤ k → k < m → StreamAt H' s a (n + 1) → Else2 s a H H' → Q (.int k) H'
section
variable {P : Program} {w : World} {K : PySem.W.Frag} {mg : Str → Option Value} {base : Heap}
theorem scD : FnScope ["_law_stream", "_law_many", "_law_digit", "_law_mixed"] ["_law_stream", "_law_many"] (defScope sDraw) := ⟨rfl, rfl, rfl, by decide +kernel, rfl, by decide +kernel, by decide +kernel⟩
theorem ixs {xs : List V} (j : Nat) {v : V} (h : xs[j]? = some v) : atI xs (j : Int) = some v := atI_nat h
theorem dpInts (H : Hp) : ∀ ns : List Int, DpAll K H (ns.map V.int) (ns.map PyData.int)
  | [] => .nil
  | n :: ns => .cons (.int n) (dpInts H ns)
theorem shInts (ns : List Int) : SeqAt.shaped (.list (ns.map PyData.int)) = true := by
  have h1 : ∀ ns : List Int, PyData.canLayAll0 (ns.map PyData.int) = true ∧ PyData.depthAll (ns.map PyData.int) = 0 := by
    intro ns
    induction ns with
    | nil => simp [PyData.canLayAll0, PyData.depthAll]
    | cons n ns ih => simp [PyData.canLayAll0, PyData.depthAll, PyData.canLay0, PyData.depth, ih.1, ih.2]
  simp [SeqAt.shaped, PyData.canLay0, PyData.depth, (h1 ns).1, (h1 ns).2]
theorem ok_draw {f : Addr} {fd : FuncData} (F : Fun K "_law_draw" "_law_draw" sDraw f fd) : FnOk P w K mg base CX0 1 f fd ["_law_stream", "_law_many"] spDraw := by
  refine F.ok scD (fun vs H Q E h => ?_) (fun cdv A outer s H vs Q E hr h => ?_)
  · obtain ⟨s, a, n, m, rfl, _⟩ := h
    rfl
  · obtain ⟨st, a, n, m, rfl, m0, m1, ⟨ns, big, seed, hs, ha, s0, s1⟩, hn, k⟩ := h
    refine ⟨_, pss_cons (ps_asg (pe_op op_add (pe_ix ix_list (pv 0) pe_int (fun _ _ => rfl)) pe_int) (pg_sub (pv 0) pe_int set_list))
      (C8.pss_cut (ps_if (PW.pt (pw_and (pt_cmpR op_eq (pe_ix ix_list (pv 0) pe_int (fun _ _ => rfl)) pe_int (nomark _)) (pw_and1 (pt_cmpR (op_neD hr.units) (pe_ix ix_list (pv 0) pe_int (fun _ _ => rfl)) (pe_lst pa_nil) (nomark _)))))
        (pss_cons (ps_asg (pe_bm PySem.F.plainAttrs_list PySem.F.slot_list_pop PySem.F.type_list_pop mt_popAt (pe_ix ix_list (pv 0) pe_int (fun _ _ => rfl)) (pa_cons pe_int pa_nil)) (pg_sub (pv 0) pe_int set_list))
        (pss_one (ps_if (pt_cmpR op_lt (pe_ix ix_list (pv 0) pe_int (fun _ _ => rfl)) (pe_op op_pow pe_int pe_int) (nomark _))
          (pss_cons (ps_asg (pe_op op_mod (pe_op op_add (pe_op op_add (pe_op op_mul (pe_ix ix_list (pv 0) pe_int (fun _ _ => rfl)) pe_int) (pe_ix ix_list (pv 0) pe_int (fun _ _ => rfl))) pe_int) pe_int) (pg_sub (pv 0) pe_int set_list))
          (pss_one (ps_asg pe_int (pg_sub (pv 0) pe_int set_list)))) pss_nil))) pss_nil)
      (pss_cons (ps_if (pt_cmpR op_gt (pe_ix ix_list (pv 0) pe_int (fun _ _ => rfl)) pe_int (nomark _))
        (pss_cons (ps_set (i := 2) scD.nd rfl (.inl rfl) (pe_op op_mod (pe_ix ix_list (pv 0) pe_int (fun _ _ => rfl)) (pv 1)))
        (pss_cons (ps_asg (pe_op op_fdiv (pe_ix ix_list (pv 0) pe_int (fun _ _ => rfl)) (pv 1)) (pg_sub (pv 0) pe_int set_list))
        (pss_one (ps_ret (pv 2))))) pss_nil)
      (pss_cons (ps_set (i := 3) scD.nd rfl (.inl rfl) (pe_op op_mod (pe_op op_pow (pe_op op_add (pe_op op_add (pe_ix ix_list (pv 0) pe_int (fun _ _ => rfl)) (pe_op op_mul pe_int (pe_ix ix_list (pv 0) pe_int (fun _ _ => rfl)))) pe_int) pe_int) pe_int))
      (pss_one (ps_ret (pe_op op_mod (pe_op op_mod (pe_op op_pow (pe_op op_add (pe_op op_add (pe_op op_mul (pv 3) pe_int) (pe_op op_mul (pe_op op_mul pe_int (pe_ix ix_list (pv 0) pe_int (fun _ _ => rfl))) (pe_ix ix_list (pv 0) pe_int (fun _ _ => rfl)))) pe_int) pe_int) pe_int) (pv 1))))))), ?_⟩
    have nsa : st ≠ a := fun z => by
      rw [z, ha] at hs
      have := Option.some.inj hs
      injection this with this
      cases ns with
      | nil => simp at this
      | cons x xs => simp at this
    refine ⟨_, rfl, st, _, _, _, rfl, rfl, SqL.of hs, ixs 2 rfl, _, _, rfl, rfl, _, rfl, st, _, _, 2, rfl, rfl, hs, rfl, ?_⟩
    refine ⟨fun σ H' => ∃ (ns : List Int) (big seed : Int), σ = [some (.ref st), some (.int m), none, none] ∧ H' st = some (.lst [.ref a, .int big, .int (n + 1 : Nat), .int seed]) ∧ H' a = some (.lst (ns.map V.int)) ∧ 0 ≤ seed ∧ seed < 2147483647 ∧ Else2 st a H H', ?_, ?_⟩
    · have el0 : ∀ o, Else2 st a H (upd H st o) := fun o b u e n1 n2 => by rw [upd_ne n1]; exact e
      have ha1 : ∀ o, upd H st o a = some (.lst (ns.map V.int)) := fun o => by rw [upd_ne nsa.symm]; exact ha
      refine ⟨_, rfl, st, _, _, _, rfl, rfl, SqL.of upd_same, ixs 1 rfl, rfl, _, rfl, ite2 (fun hb => ?_) (fun hb => ?_)⟩
      · refine ⟨_, rfl, st, _, _, _, rfl, rfl, SqL.of upd_same, ixs 0 rfl, (by show 0 ≤ sizeLine; decide), fun e he => ?_⟩
        have nae : a ≠ e := ne_of_none (ha1 _) he
        have nse : st ≠ e := ne_of_none upd_same he
        refine ⟨.list (ns.map .int), .list [], .lst (SqL.of (by rw [upd_ne nae]; exact ha1 _)) (dpInts _ ns), .lst (SqL.of upd_same) .nil, shInts ns, by decide, _, rfl, ?_⟩
        have el1 : ∀ o, Else2 st a H (upd (upd H st o) e (.lst [])) := fun o b u q n1 n2 => by
          by_cases hbe : b = e
          · subst hbe
            rw [upd_ne n1] at he
            rw [q] at he
            cases he
          · rw [upd_ne hbe, upd_ne n1]; exact q
        cases ns with
        | nil =>
          refine iteFc (by simp [PyData.eqv, PyData.eqvAll]) ?_
          exact ⟨[], big, seed, rfl, (by rw [upd_ne nse, upd_same]; rfl), (by rw [upd_ne nae]; exact ha1 _), s0, s1, el1 _⟩
        | cons x xs =>
          refine iteTc (by simp [PyData.eqv, PyData.eqvAll]) ?_
          have qS : ∀ o, upd (upd H st o) e (.lst []) st = some o := fun o => by rw [upd_ne nse, upd_same]
          have qA : ∀ o, upd (upd H st o) e (.lst []) a = some (.lst ((x :: xs).map V.int)) := fun o => by rw [upd_ne nae]; exact ha1 _
          have ix0 : seqIndex? 0 (List.map V.int (x :: xs)).length = some 0 := (ixN_seq (by unfold ixN; simp)).1
          refine ⟨_, rfl, st, _, _, _, rfl, rfl, SqL.of (qS _), ixs 0 rfl, .inl ⟨rfl, _, SqL.of (qA _)⟩, a, _, 0, 0, _, rfl, rfl, qA _, by decide, by decide, ix0, rfl, ?_⟩
          have rS : ∀ o u, upd (upd (upd H st o) e (.lst [])) a u st = some o := fun o u => by rw [upd_ne nsa]; exact qS o
          refine ⟨_, rfl, st, _, _, 1, rfl, rfl, rS _ _, rfl, ?_⟩
          have el2 : ∀ o u z, Else2 st a H (upd (upd (upd (upd H st o) e (.lst [])) a u) st z) := fun o u z b v q n1 n2 => by
            rw [upd_ne n1, upd_ne n2]; exact el1 _ b v q n1 n2
          have tA : ∀ o u z, upd (upd (upd (upd H st o) e (.lst [])) a u) st z a = some u := fun o u z => by rw [upd_ne nsa.symm, upd_same]
          refine ⟨_, rfl, st, _, _, _, rfl, rfl, SqL.of upd_same, ixs 1 rfl, _, _, rfl, rfl, ⟨by decide, by decide, by decide⟩, _, _, rfl, rfl, _, rfl, ite2 (fun hb => ?_) (fun hb => ?_)⟩
          · refine ⟨_, rfl, st, _, _, _, rfl, rfl, SqL.of upd_same, ixs 3 rfl, _, _, rfl, rfl, .inl ⟨by omega, by omega⟩, _, rfl, st, _, _, _, rfl, rfl, SqL.of upd_same, ixs 1 rfl, _, _, rfl, rfl, _, _, rfl, rfl, _, _, rfl, rfl, (by show (0 : Int) < 2147483647; decide), _, rfl, st, _, _, 3, rfl, rfl, upd_same, rfl, ?_⟩
            refine ⟨_, rfl, st, _, _, 1, rfl, rfl, upd_same, rfl, ?_⟩
            rw [upd_upd, upd_upd]
            exact ⟨xs, 0, _, rfl, upd_same, tA _ _ _, Int.emod_nonneg _ (by decide), Int.emod_lt_of_pos _ (by decide), el2 _ _ _⟩
          · exact ⟨xs, x, seed, rfl, upd_same, tA _ _ _, s0, s1, el2 _ _ _⟩
      · refine iteF ⟨ns, big, seed, rfl, upd_same, ha1 _, s0, s1, el0 _⟩
    · rintro σ' H' ⟨ns, big, seed, rfl, hs, ha, s0, s1, el⟩
      have hn' : ((n + 1 : Nat) : Int) ≤ 1000000 := by omega
      have hn0 : (0 : Int) ≤ ((n + 1 : Nat) : Int) := by omega
      generalize hN : ((n + 1 : Nat) : Int) = N at hs hn' hn0
      have nsa' : st ≠ a := nsa
      refine ⟨_, rfl, st, _, _, _, rfl, rfl, SqL.of hs, ixs 1 rfl, _, _, rfl, rfl, _, rfl, ite2 (fun hb => ?_) (fun hb => ?_)⟩
      · refine ⟨_, rfl, st, _, _, _, rfl, rfl, SqL.of hs, ixs 1 rfl, _, rfl, _, _, rfl, rfl, m0, ?_⟩
        refine ⟨_, rfl, st, _, _, _, rfl, rfl, SqL.of hs, ixs 1 rfl, _, rfl, _, _, rfl, rfl, ⟨m0, (by omega)⟩, _, rfl, st, _, _, 1, rfl, rfl, hs, rfl, ?_⟩
        refine ⟨_, rfl, k _ _ (Int.emod_nonneg _ (by omega)) (Int.emod_lt_of_pos _ m0) ⟨ns, _, seed, (by rw [upd_same, ← hN]; rfl), (by rw [upd_ne nsa'.symm]; exact ha), s0, s1⟩ fun b o e n1 n2 => ?_⟩
        rw [upd_ne n1]
        exact el b o e n1 n2
      · have b1 : (0 : Int) ≤ 104729 * N ∧ 104729 * N ≤ 104729000000 := by omega
        refine ⟨_, rfl, st, _, _, _, rfl, rfl, SqL.of hs, ixs 3 rfl, _, rfl, st, _, _, _, rfl, rfl, SqL.of hs, ixs 2 rfl, _, _, rfl, rfl, .inl ⟨by decide, by decide⟩, _, _, rfl, rfl, _, _, rfl, rfl, _, _, rfl, rfl, ⟨by decide, by decide, by omega⟩, _, _, rfl, rfl, (by show (0 : Int) < 2147483629; decide), ?_⟩
        generalize hM : ((seed + 104729 * N + 17) ^ (5 : Int).toNat) % 2147483629 = M
        have c0 : 0 ≤ M := by rw [← hM]; exact Int.emod_nonneg _ (by decide)
        have c1 : M < 2147483629 := by rw [← hM]; exact Int.emod_lt_of_pos _ (by decide)
        have d0 : (0 : Int) ≤ 40503 * N ∧ 40503 * N ≤ 40503000000 := by omega
        have d1 : (0 : Int) ≤ 40503 * N * N := Int.mul_nonneg d0.1 hn0
        have d2 : 40503 * N * N ≤ 40503000000 * 1000000 := Int.mul_le_mul d0.2 hn' hn0 (by decide)
        refine ⟨_, rfl, _, _, rfl, rfl, .inl ⟨by omega, by omega⟩, _, rfl, st, _, _, _, rfl, rfl, SqL.of hs, ixs 2 rfl, _, _, rfl, rfl, .inl ⟨by decide, by decide⟩, _, rfl, st, _, _, _, rfl, rfl, SqL.of hs, ixs 2 rfl, _, _, rfl, rfl, .inl ⟨by omega, by omega⟩, _, _, rfl, rfl, _, _, rfl, rfl, _, _, rfl, rfl, ⟨by decide, by decide, by omega⟩, _, _, rfl, rfl, (by show (0 : Int) < 1000000007; decide), _, rfl, _, _, rfl, rfl, m0, ?_⟩
        exact k _ _ (Int.emod_nonneg _ (by omega)) (Int.emod_lt_of_pos _ m0) ⟨ns, big, seed, (by rw [hs, ← hN]), ha, s0, s1⟩ el
theorem fn_none {f : Addr} {fd : FuncData} {ps : List Str} {k : Nat} : FnOk P w K mg base CX0 k f fd ps (fun _ _ _ _ => False) := ⟨fun _ _ _ _ h => h.elim, fun _ _ _ _ _ _ _ _ _ _ _ _ _ h => h.elim⟩
end
def Live (H H' : Hp) : Prop := ∀ b, H b ≠ none → H' b ≠ none
theorem Live.refl (H : Hp) : Live H H := fun _ h => h
theorem Live.trans {H H1 H2 : Hp} (x : Live H H1) (y : Live H1 H2) : Live H H2 := fun b h => y b (x b h)
theorem Live.of_same {H H1 : Hp} (x : Same H H1) : Live H H1 := fun b h => by
  cases q : H b with
  | none => exact absurd q h
  | some o => rw [x b o q]; simp
theorem Live.upd (H : Hp) (a : Addr) (o : HO) : Live H (upd H a o) := fun b h => by
  by_cases e : b = a
  · rw [e, upd_same]; simp
  · rw [upd_ne e]; exact h
theorem Live.none {H H1 : Hp} (x : Live H H1) {b : Addr} (h : H1 b = Option.none) : H b = Option.none := Classical.byContradiction fun z => x b z h
theorem Else2.refl {s a : Addr} (H : Hp) : Else2 s a H H := fun _ _ e _ _ => e
theorem Else2.trans {s a : Addr} {H H1 H2 : Hp} (x : Else2 s a H H1) (y : Else2 s a H1 H2) : Else2 s a H H2 := fun b o e n1 n2 => y b o (x b o e n1 n2) n1 n2
theorem Else2.of_same {s a : Addr} {H H1 : Hp} (x : Same H H1) : Else2 s a H H1 := fun b o e _ _ => x b o e
theorem StreamAt.ne {H : Hp} {s a : Addr} {n : Nat} (h : StreamAt H s a n) : s ≠ a := fun z => by
  obtain ⟨ns, big, seed, h1, h2, _⟩ := h
  rw [z, h2] at h1
  have := Option.some.inj h1
  injection this with this
  cases ns <;> simp at this
theorem StreamAt.same {H H' : Hp} {s a : Addr} {n : Nat} (h : StreamAt H s a n) (e : Same H H') : StreamAt H' s a n := by
  obtain ⟨ns, big, seed, h1, h2, h3⟩ := h
  exact ⟨ns, big, seed, e _ _ h1, e _ _ h2, h3⟩
theorem StreamAt.live {H H' : Hp} {s a : Addr} {n : Nat} (h : StreamAt H' s a n) (e : Else2 s a H H') : Live H H' := fun b hb => by
  obtain ⟨ns, big, seed, h1, h2, _⟩ := h
  by_cases e1 : b = s
  · rw [e1, h1]; simp
  by_cases e2 : b = a
  · rw [e2, h2]; simp
  cases q : H b with
  | none => exact absurd q hb
  | some o => rw [e b o q e1 e2]; simp
theorem StreamAt.tr {H : Hp} {s a : Addr} {n : Nat} (h : StreamAt H s a n) : H s ≠ none ∧ H a ≠ none := by
  obtain ⟨ns, big, seed, h1, h2, _⟩ := h
  rw [h1, h2]
  simp
theorem StreamAt.upd {H : Hp} {s a b : Addr} {n : Nat} {o : HO} (h : StreamAt H s a n) (h1 : b ≠ s) (h2 : b ≠ a) : StreamAt (upd H b o) s a n := by
  obtain ⟨ns, big, seed, e1, e2, e3⟩ := h
  exact ⟨ns, big, seed, by rw [upd_ne h1.symm]; exact e1, by rw [upd_ne h2.symm]; exact e2, e3⟩
end XE
set_option Elab.async false
set_option linter.all false
set_option maxRecDepth 100000
set_option maxHeartbeats 1000000
/-! XG0: what others share -/
namespace XE
open PySem PySem.Spec PyProof.Rows L2 RZ Rx SX Rc
/-- small data, so deep at most -/
inductive SmD : Nat → PyData → Prop where
  | str {n : Nat} (x : Str) : SmD n (.str x)
  | int {n : Nat} (i : Int) : SmD n (.int i)
  | bl {n : Nat} (b : Bool) : SmD n (.bool b)
  | non {n : Nat} : SmD n .none
  | lst {n : Nat} {xs : List PyData} : xs.length ≤ 1000 → (∀ x ∈ xs, SmD n x) → SmD (n + 1) (.list xs)
  | tup {n : Nat} {xs : List PyData} : xs.length ≤ 1000 → (∀ x ∈ xs, SmD n x) → SmD (n + 1) (.tuple xs)
/-- the same data twice: True -/
def spSame (K : PySem.W.Frag) (n : Nat) : Sp := fun vs H Q _ => ∃ (u v : V) (d : PyData), vs = [u, v] ∧ Dp K H u d ∧ Dp K H v d ∧ SmD n d ∧ ∀ H', Same H H' → Q (.bl true) H'
/-- what was laid since H -/
def nwIn (H H' : Hp) : Hp := fun b => if (H b).isSome then none else H' b
theorem nwIn_at {H H' : Hp} {b : Addr} (h : H b = none) : nwIn H H' b = H' b := by unfold nwIn; rw [h]; rfl
theorem nwIn_some {H H' : Hp} {b : Addr} {o : HO} (h : nwIn H H' b = some o) : H b = none ∧ H' b = some o := by
  unfold nwIn at h
  cases q : H b with
  | none => rw [q] at h; exact ⟨rfl, h⟩
  | some u => rw [q] at h; cases h
theorem nwIn_same (H H' : Hp) : Same (nwIn H H') H' := fun b o h => (nwIn_some h).2
theorem nwIn_mono {H0 H1 H1' H2 : Hp} (l : Live H0 H1) (k : ∀ b o, H1 b = none → H1' b = some o → H2 b = some o) : Same (nwIn H1 H1') (nwIn H0 H2) := fun b o h => by
  obtain ⟨n, q⟩ := nwIn_some h
  have n0 : H0 b = none := Classical.byContradiction fun z => l b z n
  rw [nwIn_at n0]
  exact k b o n q
mutual
/-- lists for tuples, all the way -/
def lsF : PyData → PyData
  | .tuple xs => .list (lsAll xs)
  | .list xs => .list (lsAll xs)
  | .none => .none
  | .bool b => .bool b
  | .int i => .int i
  | .str x => .str x
  | .dict d => .dict d
def lsAll : List PyData → List PyData
  | [] => []
  | x :: xs => lsF x :: lsAll xs
end
theorem lsAll_map : ∀ xs : List PyData, lsAll xs = xs.map lsF
  | [] => rfl
  | x :: xs => by rw [lsAll, lsAll_map xs]; rfl
mutual
theorem fix_ls : ∀ d : PyData, fix (lsF d) = fix d
  | .tuple xs => by simp only [lsF, fix]; rw [fixAll_ls xs]
  | .list xs => by simp only [lsF, fix]; rw [fixAll_ls xs]
  | .none => rfl
  | .bool _ => rfl
  | .int _ => rfl
  | .str _ => rfl
  | .dict _ => rfl
theorem fixAll_ls : ∀ xs : List PyData, fixAll (lsAll xs) = fixAll xs
  | [] => rfl
  | x :: xs => by simp only [lsAll, fixAll]; rw [fix_ls x, fixAll_ls xs]
end
mutual
theorem sz_ls : ∀ d : PyData, sz (lsF d) = sz d
  | .tuple xs => by simp only [lsF, sz]; rw [szAll_ls xs]
  | .list xs => by simp only [lsF, sz]; rw [szAll_ls xs]
  | .none => rfl
  | .bool _ => rfl
  | .int _ => rfl
  | .str _ => rfl
  | .dict _ => rfl
theorem szAll_ls : ∀ xs : List PyData, szAll (lsAll xs) = szAll xs
  | [] => rfl
  | x :: xs => by simp only [lsAll, szAll]; rw [sz_ls x, szAll_ls xs]
end
theorem dpAll_snocS {K : PySem.W.Frag} {H : Hp} {v : V} {d : PyData} (h : Dp K H v d) : ∀ {vs : List V} {ds : List PyData}, DpAll K H vs ds → DpAll K H (vs ++ [v]) (ds ++ [d])
  | _, _, .nil => .cons h .nil
  | _, _, .cons a r => .cons a (dpAll_snocS h r)
def spLists (K : PySem.W.Frag) (n : Nat) : Sp := fun vs H Q _ => ∃ (v : V) (d : PyData), vs = [v] ∧ Dp K H v d ∧ SmD n d ∧ ∀ v' H', Same H H' → Dp K (nwIn H H') v' (lsF d) → Q v' H'
end XE
set_option Elab.async false
set_option linter.all false
set_option maxRecDepth 100000
set_option maxHeartbeats 1000000
/-! XSg: rows that are well made -/
namespace XE
open PySem PySem.Spec PyProof.Rows L2 RZ Rx SX Rc
structure RowsW (m : Nat) (rs : Rows) : Prop where
  ne : rs ≠ []
  few : rs.length ≤ 40
  nd : (rs.map (·.1)).Nodup
  nm : ∀ r ∈ rs, nameB r.1 = true
  ok : ∀ r ∈ rs, ∀ e ∈ r.2, e.ok (othersL (rs.map (·.1)) r.1) = true
  len : ∀ r ∈ rs, r.2.length ≤ m
mutual
theorem fix_noListG : ∀ d : PyData, noList d = true → fix d = d
  | .tuple xs, h => by rw [fix, fixAll_noListG xs (by simpa [noList] using h)]
  | .list xs, h => by simp [noList] at h
  | .none, _ => rfl
  | .bool _, _ => rfl
  | .int _, _ => rfl
  | .str _, _ => rfl
  | .dict _, _ => rfl
theorem fixAll_noListG : ∀ xs : List PyData, noListAll xs = true → fixAll xs = xs
  | [], _ => rfl
  | x :: xs, h => by
    simp only [noListAll, Bool.and_eq_true] at h
    rw [fixAll, fix_noListG x h.1, fixAll_noListG xs h.2]
end
theorem rows_fix (rs : Rows) : fixAll (rs.map rowE) = rs.map rowE := fixAll_noListG _ (rows_noList rs)
theorem rowOf_rowE {r : Str × List Ev} (h : nameB r.1 = true) : rowOf (rowE r) = some (r.1, r.2.map Ev.data) := if_pos h
theorem rowsOfD_rowE : ∀ {rs : Rows}, (∀ r ∈ rs, nameB r.1 = true) → rowsOfD (rs.map rowE) = rs.map fun r => (r.1, r.2.map Ev.data)
  | [], _ => rfl
  | r :: rs, h => by
    have ih := rowsOfD_rowE fun x hx => h x (List.mem_cons_of_mem r hx)
    unfold rowsOfD at ih ⊢
    rw [List.map_cons, List.filterMap_cons, rowOf_rowE (h r (List.mem_cons_self ..))]
    dsimp only
    rw [ih, List.map_cons]
theorem rowBad_rowE : ∀ {rs : Rows} {kn : List Str} {i : Nat}, (∀ r ∈ rs, nameB r.1 = true) → (rs.map (·.1)).Nodup → (∀ r ∈ rs, r.1 ∉ kn) → rs.length + i ≤ 40 → rowBad kn i (rs.map rowE) = none
  | [], _, _, _, _, _, _ => rfl
  | r :: rs, kn, i, h, hd, hk, hl => by
    rw [List.map_cons, List.nodup_cons] at hd
    rw [List.length_cons] at hl
    rw [List.map_cons]
    simp only [rowBad, rowOf_rowE (h r (List.mem_cons_self ..))]
    rw [if_neg (by
      rintro (z | z)
      · omega
      · exact hk r (List.mem_cons_self ..) z)]
    refine rowBad_rowE (fun x hx => h x (List.mem_cons_of_mem _ hx)) hd.2 (fun x hx z => ?_) (by omega)
    rcases List.mem_append.mp z with z | z
    · exact hk x (List.mem_cons_of_mem _ hx) z
    · rw [List.mem_singleton] at z
      exact hd.1 (by rw [← z]; exact List.mem_map.mpr ⟨x, hx, rfl⟩)
theorem evBad_data {os : List Str} : ∀ {es : List Ev} {k : Nat}, (∀ e ∈ es, e.ok os = true) → evBad os k (es.map Ev.data) = none
  | [], _, _ => rfl
  | e :: es, k, h => by
    rw [List.map_cons]
    unfold evBad
    rw [evOf_ok (h e (List.mem_cons_self ..))]
    show (if true = true then _ else _) = none
    rw [if_pos rfl]
    exact evBad_data fun x hx => h x (List.mem_cons_of_mem _ hx)
theorem evsBad_rowE {names : List Str} : ∀ {rs : Rows}, (∀ r ∈ rs, ∀ e ∈ r.2, e.ok (othersL names r.1) = true) → evsBad names (rs.map fun r => (r.1, r.2.map Ev.data)) = none
  | [], _ => rfl
  | r :: rs, h => by
    rw [List.map_cons]
    unfold evsBad
    rw [evBad_data (h r (List.mem_cons_self ..))]
    exact evsBad_rowE fun x hx => h x (List.mem_cons_of_mem _ hx)
theorem filterMap_data {os : List Str} : ∀ {es : List Ev}, (∀ e ∈ es, e.ok os = true) → (es.map Ev.data).filterMap (evOf os) = es
  | [], _ => rfl
  | e :: es, h => by
    rw [List.map_cons, List.filterMap_cons, evOf_ok (h e (List.mem_cons_self ..)), filterMap_data fun x hx => h x (List.mem_cons_of_mem _ hx)]
theorem rowsTy_rowE {names : List Str} {rs : Rows} (h : ∀ r ∈ rs, ∀ e ∈ r.2, e.ok (othersL names r.1) = true) : rowsTy names (rs.map fun r => (r.1, r.2.map Ev.data)) = rs := by
  unfold rowsTy
  rw [List.map_map]
  have : ∀ r ∈ rs, ((fun r : Str × List PyData => (r.1, r.2.filterMap (evOf (othersL names r.1)))) ∘ fun r : Str × List Ev => (r.1, r.2.map Ev.data)) r = r := fun r hr => by
    show (r.1, (r.2.map Ev.data).filterMap _) = r
    rw [filterMap_data (h r hr)]
  rw [List.map_congr_left this, List.map_id']
theorem names_rowE (rs : Rows) : (rs.map fun r => (r.1, r.2.map Ev.data)).map (·.1) = rs.map (·.1) := by
  rw [List.map_map]
  rfl
theorem RowsW.due {m : Nat} {rs : Rows} (h : RowsW m rs) : rowDue (fixAll (rs.map rowE)) = none := by
  rw [rows_fix]
  unfold rowDue
  rw [if_neg (by simpa using h.ne)]
  exact rowBad_rowE h.nm h.nd (fun _ _ z => nomatch z) h.few
theorem RowsW.rows {m : Nat} {rs : Rows} (h : RowsW m rs) : rowsOfD (fixAll (rs.map rowE)) = rs.map fun r => (r.1, r.2.map Ev.data) := by
  rw [rows_fix]
  exact rowsOfD_rowE h.nm
theorem RowsW.evs {m : Nat} {rs : Rows} (h : RowsW m rs) : evsBad ((rowsOfD (fixAll (rs.map rowE))).map (·.1)) (rowsOfD (fixAll (rs.map rowE))) = none := by
  rw [h.rows, names_rowE]
  exact evsBad_rowE h.ok
theorem RowsW.ty {m : Nat} {rs : Rows} (h : RowsW m rs) : rowsTy ((rowsOfD (fixAll (rs.map rowE))).map (·.1)) (rowsOfD (fixAll (rs.map rowE))) = rs := by
  rw [h.rows, names_rowE]
  exact rowsTy_rowE h.ok
theorem RowsW.good {m : Nat} {rs : Rows} {ms : List (EvId × EvId)} (h : RowsW m rs) (hm : matchR rs = .ok ms) : GoodR (fixAll (rs.map rowE)) rs ms := ⟨h.due, h.evs, h.ty.symm, hm⟩
theorem RowsW.few_ev {m : Nat} {rs : Rows} (h : RowsW m rs) : ∀ r ∈ rowsOfD (fixAll (rs.map rowE)), r.2.length ≤ m := fun r hr => by
  rw [h.rows] at hr
  obtain ⟨q, hq, rfl⟩ := List.mem_map.mp hr
  rw [List.length_map]
  exact h.len q hq
/-! ### sizes -/
theorem sz_ev (e : Ev) : sz e.data ≤ 6 := by
  cases e <;> simp [Ev.data, Ev.rest, sz, szAll]
theorem szAll_evs : ∀ es : List Ev, szAll (es.map Ev.data) ≤ 6 * es.length
  | [] => Nat.le_refl _
  | e :: es => by
    have h1 := sz_ev e
    have h2 := szAll_evs es
    rw [List.map_cons, szAll, List.length_cons]
    omega
theorem szAll_rows {m : Nat} : ∀ {rs : Rows}, (∀ r ∈ rs, r.2.length ≤ m) → szAll (rs.map rowE) ≤ (6 * m + 5) * rs.length
  | [], _ => Nat.le_refl _
  | r :: rs, h => by
    have h1 := szAll_rows fun x hx => h x (List.mem_cons_of_mem r hx)
    have h2 := szAll_evs r.2
    have h3 := h r (List.mem_cons_self ..)
    have h4 : sz (rowE r) = 2 + (1 + (2 + szAll (r.2.map Ev.data) + 0)) := rfl
    rw [List.map_cons, szAll, List.length_cons, Nat.mul_add, h4]
    omega
theorem name_lay {z : Str} {n : Nat} (h : nameB z = true) : Lay n (.str z) := lay_str (name_strOk h)
theorem name_short {z : Str} (h : nameB z = true) : z.length ≤ 8 := by
  unfold nameB isName at h
  simp only [Bool.and_eq_true, decide_eq_true_eq] at h
  rw [← len_tl]
  exact h.2.2.1
theorem lay_int {n : Nat} {i : Int} : Lay n (.int i) := ⟨by simp [PyData.canLay0], by simp [PyData.depth]⟩
theorem oth_name {names : List Str} {n p : Str} (hn : ∀ x ∈ names, nameB x = true) (h : p ∈ othersL names n) : nameB p = true := hn p (List.mem_filter.mp h).1
/-- the texts of a good event are names -/
theorem ev_names {names : List Str} {n : Str} {e : Ev} (hn : ∀ x ∈ names, nameB x = true) (h : e.ok (othersL names n) = true) : ∀ d ∈ e.rest, (∃ z, d = .str z ∧ nameB z = true) ∨ ∃ v, d = .int v := by
  cases e with
  | set x v =>
    have h : (nameB x && valB v) = true := h
    rw [Bool.and_eq_true] at h
    intro d hd
    simp only [Ev.rest, List.mem_cons, List.not_mem_nil, or_false] at hd
    rcases hd with rfl | rfl
    · exact .inl ⟨_, rfl, h.1⟩
    · exact .inr ⟨_, rfl⟩
  | inp x v =>
    have h : (nameB x && valB v) = true := h
    rw [Bool.and_eq_true] at h
    intro d hd
    simp only [Ev.rest, List.mem_cons, List.not_mem_nil, or_false] at hd
    rcases hd with rfl | rfl
    · exact .inl ⟨_, rfl, h.1⟩
    · exact .inr ⟨_, rfl⟩
  | send p v =>
    have h : (decide (p ∈ othersL names n) && valB v) = true := h
    rw [Bool.and_eq_true, decide_eq_true_eq] at h
    intro d hd
    simp only [Ev.rest, List.mem_cons, List.not_mem_nil, or_false] at hd
    rcases hd with rfl | rfl
    · exact .inl ⟨_, rfl, oth_name hn h.1⟩
    · exact .inr ⟨_, rfl⟩
  | recv p x v =>
    have h : (decide (p ∈ othersL names n) && nameB x && valB v) = true := h
    rw [Bool.and_eq_true, Bool.and_eq_true, decide_eq_true_eq] at h
    intro d hd
    simp only [Ev.rest, List.mem_cons, List.not_mem_nil, or_false] at hd
    rcases hd with rfl | rfl | rfl
    · exact .inl ⟨_, rfl, oth_name hn h.1.1⟩
    · exact .inl ⟨_, rfl, h.1.2⟩
    · exact .inr ⟨_, rfl⟩
  | take p x v =>
    have h : (decide (p ∈ othersL names n) && nameB x && valB v) = true := h
    rw [Bool.and_eq_true, Bool.and_eq_true, decide_eq_true_eq] at h
    intro d hd
    simp only [Ev.rest, List.mem_cons, List.not_mem_nil, or_false] at hd
    rcases hd with rfl | rfl | rfl
    · exact .inl ⟨_, rfl, oth_name hn h.1.1⟩
    · exact .inl ⟨_, rfl, h.1.2⟩
    · exact .inr ⟨_, rfl⟩
  | chk => exact fun d hd => nomatch hd
theorem word_ok (e : Ev) : PyData.strOk e.word = true ∧ e.word.length ≤ 10 := by
  have h : ∀ w ∈ (["set", "input", "send", "receive", "take", "checkpoint"] : List Str), PyData.strOk w = true ∧ w.length ≤ 10 := by decide +kernel
  refine h _ ?_
  cases e <;> simp [Ev.word]
theorem ev_lay {names : List Str} {n : Str} {e : Ev} (hn : ∀ x ∈ names, nameB x = true) (h : e.ok (othersL names n) = true) : Lay 1 e.data := by
  refine lay_tup (n := 0) fun d hd => ?_
  rcases List.mem_cons.mp hd with rfl | hd
  · exact lay_str (word_ok e).1
  · rcases ev_names hn h d hd with ⟨z, rfl, hz⟩ | ⟨v, rfl⟩
    · exact name_lay hz
    · exact lay_int
theorem smAll_of : ∀ {xs : List PyData}, (∀ x ∈ xs, smD x = true) → smAll xs = true
  | [], _ => rfl
  | x :: xs, h => by
    rw [smAll, h x (List.mem_cons_self ..), smAll_of fun y hy => h y (List.mem_cons_of_mem _ hy)]
    rfl
theorem ev_sm {names : List Str} {n : Str} {e : Ev} (hn : ∀ x ∈ names, nameB x = true) (h : e.ok (othersL names n) = true) : smD e.data = true := by
  show smAll (.str e.word :: e.rest) = true
  refine smAll_of fun d hd => ?_
  rcases List.mem_cons.mp hd with rfl | hd
  · exact decide_eq_true (Nat.le_trans (word_ok e).2 (by decide))
  · rcases ev_names hn h d hd with ⟨z, rfl, hz⟩ | ⟨v, rfl⟩
    · exact decide_eq_true (Nat.le_trans (name_short hz) (by decide))
    · rfl
theorem RowsW.names {m : Nat} {rs : Rows} (h : RowsW m rs) : ∀ x ∈ rs.map (·.1), nameB x = true := fun x hx => by
  obtain ⟨r, hr, rfl⟩ := List.mem_map.mp hx
  exact h.nm r hr
theorem RowsW.gd {m : Nat} {rs : Rows} (h : RowsW m rs) : ∀ d ∈ fixAll (rs.map rowE), Gd d := fun d hd => by
  rw [rows_fix] at hd
  obtain ⟨r, hr, rfl⟩ := List.mem_map.mp hd
  have hn := h.names
  refine ⟨?_, ?_⟩
  · refine Lay.shaped (n := 3) (lay_tup fun d hd => ?_) (by decide)
    simp only [List.mem_cons, List.not_mem_nil, or_false] at hd
    rcases hd with rfl | rfl
    · exact name_lay (h.nm r hr)
    · refine lay_tup fun d hd => ?_
      obtain ⟨e, he, rfl⟩ := List.mem_map.mp hd
      exact ev_lay hn (h.ok r hr e he)
  · show smAll [.str r.1, .tuple (r.2.map Ev.data)] = true
    refine smAll_of fun d hd => ?_
    simp only [List.mem_cons, List.not_mem_nil, or_false] at hd
    rcases hd with rfl | rfl
    · exact decide_eq_true (Nat.le_trans (name_short (h.nm r hr)) (by decide))
    · show smAll _ = true
      refine smAll_of fun d hd => ?_
      obtain ⟨e, he, rfl⟩ := List.mem_map.mp hd
      exact ev_sm hn (h.ok r hr e he)
theorem ev_smD {n : Nat} (e : Ev) : SmD (n + 1) e.data := by
  cases e <;> refine .tup (by simp [Ev.rest]) fun d hd => ?_ <;>
    (simp only [Ev.rest, List.mem_cons, List.not_mem_nil, or_false] at hd; rcases hd with rfl | rfl | rfl | rfl) <;> first | exact .str _ | exact .int _
theorem RowsW.smd {m : Nat} {rs : Rows} (h : RowsW m rs) (hm : m ≤ 1000) : SmD 4 (.list (rs.map rowE)) := by
  refine .lst (by rw [List.length_map]; exact Nat.le_trans h.few (by decide)) fun d hd => ?_
  obtain ⟨r, hr, rfl⟩ := List.mem_map.mp hd
  refine .tup (by simp) fun d hd => ?_
  simp only [List.mem_cons, List.not_mem_nil, or_false] at hd
  rcases hd with rfl | rfl
  · exact .str _
  · refine .tup (by rw [List.length_map]; exact Nat.le_trans (h.len r hr) hm) fun d hd => ?_
    obtain ⟨e, he, rfl⟩ := List.mem_map.mp hd
    exact ev_smD (n := 0) e
/-- rows of a run -/
theorem ofP_len (R : RunL) (n : Str) : (ofP R n).length ≤ R.length := List.length_filterMap_le ..
theorem ofP_mem {R : RunL} {n : Str} {e : Ev} (h : e ∈ ofP R n) : (n, e) ∈ R := by
  obtain ⟨x, hx, h⟩ := List.mem_filterMap.mp h
  by_cases c : x.1 = n
  · rw [if_pos c] at h
    injection h with h
    rw [← c, ← h]
    exact hx
  · rw [if_neg c] at h
    cases h
theorem runRows_names (names : List Str) (R : RunL) : (runRows names R).map (·.1) = names := by
  unfold runRows
  rw [List.map_map]
  exact List.map_id' _
theorem _root_.Rc.RunOk.rowsW {names : List Str} {R : RunL} (h : RunOk names R) (h0 : 0 < names.length) (hl : names.length ≤ 40) (hd : names.Nodup) (hn : ∀ x ∈ names, nameB x = true) : RowsW R.length (runRows names R) := by
  refine ⟨fun z => ?_, by unfold runRows; rw [List.length_map]; exact hl, by rw [runRows_names]; exact hd, fun r hr => ?_, fun r hr e he => ?_, fun r hr => ?_⟩
  · have := congrArg List.length z
    unfold runRows at this
    rw [List.length_map, List.length_nil] at this
    omega
  · obtain ⟨n, hn2, rfl⟩ := List.mem_map.mp hr
    exact hn n hn2
  · obtain ⟨n, hn2, rfl⟩ := List.mem_map.mp hr
    rw [runRows_names]
    exact (h.names _ (ofP_mem he)).2
  · obtain ⟨n, hn2, rfl⟩ := List.mem_map.mp hr
    exact ofP_len R n
theorem set_cut {α : Type} {xs : List α} {i : Nat} (h : i < xs.length) (x : α) : xs.take i ++ [x] ++ xs.drop (i + 1) = xs.set i x := by
  rw [List.set_eq_take_append_cons_drop, if_pos h, List.append_assoc]
  rfl
theorem RowsW.put {m : Nat} {rs : Rows} (h : RowsW m rs) {i : Nat} {n : Str} {es es' : List Ev} (hi : rs[i]? = some (n, es)) (ho : ∀ e ∈ es', e.ok (othersL (rs.map (·.1)) n) = true) (hl : es'.length ≤ m) :
    RowsW m (rs.set i (n, es')) ∧ (rs.set i (n, es')).map (·.1) = rs.map (·.1) := by
  have hn : (rs.set i (n, es')).map (·.1) = rs.map (·.1) := by
    rw [List.map_set]
    refine List.ext_getElem? fun j => ?_
    rw [List.getElem?_set]
    split
    · rename_i e
      subst e
      rw [List.getElem?_map, hi, if_pos (by rw [List.length_map]; exact (List.getElem?_eq_some_iff.mp hi).1)]
      rfl
    · rfl
  refine ⟨⟨fun z => h.ne (List.eq_nil_of_length_eq_zero (by rw [← List.length_set (i := i) (a := (n, es')), z]; rfl)), by rw [List.length_set]; exact h.few, by rw [hn]; exact h.nd, fun r hr => ?_, fun r hr => ?_, fun r hr => ?_⟩, hn⟩
  · rcases List.mem_or_eq_of_mem_set hr with hr | rfl
    · exact h.nm r hr
    · exact (h.nm (n, es) (List.mem_of_getElem? hi) :)
  · rw [hn]
    rcases List.mem_or_eq_of_mem_set hr with hr | rfl
    · exact h.ok r hr
    · exact ho
  · rcases List.mem_or_eq_of_mem_set hr with hr | rfl
    · exact h.len r hr
    · exact hl
theorem dpL_inv {K : PySem.W.Frag} {H : Hp} {x : V} {ds : List PyData} (h : Dp K H x (.list ds)) : ∃ q vs, x = .ref q ∧ SqL K H q vs ∧ DpAll K H vs ds := by
  cases h with
  | lst h1 h2 => exact ⟨_, _, rfl, h1, h2⟩
end XE
set_option Elab.async false
set_option linter.all false
set_option maxRecDepth 100000
set_option maxHeartbeats 1000000
/-! XTopo: a run is an order of its events; messages stand between events -/
namespace XE
open PySem PySem.Spec PyProof.Rows L2 RZ Rx SX Rc
theorem pigeonG {α : Type} [DecidableEq α] : ∀ {l m : List α}, l.Nodup → m.length < l.length → ∃ x ∈ l, x ∉ m
  | [], m, _, h => absurd h (Nat.not_lt_zero _)
  | x :: l, m, hd, h => by
    rw [List.nodup_cons] at hd
    by_cases hx : x ∈ m
    · have hl : (m.erase x).length < l.length := by
        rw [List.length_erase_of_mem hx]
        have : 0 < m.length := List.length_pos_iff.mpr fun z => by rw [z] at hx; cases hx
        rw [List.length_cons] at h
        omega
      obtain ⟨y, hy, hn⟩ := pigeonG hd.2 hl
      refine ⟨y, List.mem_cons_of_mem _ hy, fun z => hn ?_⟩
      have : y ≠ x := fun e => hd.1 (by rw [← e]; exact hy)
      exact (List.mem_erase_of_ne this).mpr z
    · exact ⟨x, List.mem_cons_self .., hx⟩
/-! ### a walk through all events -/
structure WkA (ns : List Str) (ln : Str → Nat) (A : Arrows) (c : Str → Nat) (ord : List EvId) : Prop where
  cut : CutF ns ln A c
  fwd : Fwd A ord
  nd : ord.Nodup
  mem : ∀ x, x ∈ ord ↔ x.1 ∈ ns ∧ 1 ≤ x.2 ∧ x.2 ≤ c x.1
theorem WkA.start (ns : List Str) (ln : Str → Nat) (A : Arrows) : WkA ns ln A (fun _ => 0) [] := ⟨cut_zero ns ln A, .nil A, List.nodup_nil, fun x => ⟨fun h => (by cases h), fun ⟨_, h1, h2⟩ => by have : x.2 ≤ 0 := h2; omega⟩⟩
def FreeF (ns : List Str) (ln : Str → Nat) (A : Arrows) (c : Str → Nat) (n : Str) : Prop := c n < ln n ∧ ∀ m ∈ ns, clk ln A (n, c n + 1) m ≤ if m = n then c n + 1 else c m
theorem WkA.next {ns : List Str} {ln : Str → Nat} {A : Arrows} {c : Str → Nat} {ord ids : List EvId} (W : WkA ns ln A c ord) (hA : AOk ns ln A) (T : Topo ns ln A ids) {n : Str} (hn : n ∈ ns) (hf : FreeF ns ln A c n) : WkA ns ln A (fun m => if m = n then c n + 1 else c m) (ord ++ [(n, c n + 1)]) := by
  refine ⟨cut_next W.cut hn hf.1 hf.2, W.fwd.snoc (fun q => ?_) (fun a ha => ?_), ?_, fun x => ?_⟩
  · rw [W.mem]
    replace q : 2 ≤ c n + 1 := q
    exact ⟨hn, by show 1 ≤ c n + 1 - 1; omega, by show c n + 1 - 1 ≤ c n; omega⟩
  · have va := (hA _ ha).1
    have h1 : a.2 ≤ clk ln A (n, c n + 1) a.1 := Nat.le_trans ((clk_clo ns ln A).own a va) (clk_mono (.arrow .refl ha) a.1)
    have h2 := hf.2 a.1 va.nm
    rw [W.mem]
    refine ⟨va.nm, va.ge, ?_⟩
    by_cases e : a.1 = n
    · rw [if_pos e] at h2
      rcases Nat.lt_or_ge (c a.1) a.2 with q | q
      · exfalso
        have ea : a = (n, c n + 1) := Prod.ext e (by rw [e] at q; show a.2 = c n + 1; omega)
        obtain ⟨l, r, hs⟩ := List.append_of_mem (T.all a va)
        have := (T.fwd l a r hs).2 a (by rw [← ea] at ha; exact ha)
        have nd := T.nd
        rw [hs, List.nodup_append] at nd
        exact nd.2.2 a this a (List.mem_cons_self ..) rfl
      · exact q
    · rw [if_neg e] at h2
      omega
  · rw [List.nodup_append]
    refine ⟨W.nd, by simp, fun x hx y hy z => ?_⟩
    rw [List.mem_singleton.mp hy] at z
    rw [z, W.mem] at hx
    have : c n + 1 ≤ c n := hx.2.2
    omega
  · rw [List.mem_append, List.mem_singleton, W.mem]
    show _ ↔ x.1 ∈ ns ∧ 1 ≤ x.2 ∧ x.2 ≤ if x.1 = n then c n + 1 else c x.1
    by_cases e : x.1 = n
    · rw [if_pos e]
      constructor
      · rintro (⟨h1, h2, h3⟩ | h)
        · exact ⟨h1, h2, by rw [e] at h3; omega⟩
        · rw [h]; exact ⟨hn, Nat.le_add_left _ _, Nat.le_refl _⟩
      · rintro ⟨h1, h2, h3⟩
        rcases Nat.lt_or_ge (c n) x.2 with q | q
        · exact .inr (Prod.ext e (by show x.2 = _; omega))
        · exact .inl ⟨h1, h2, by rw [e]; exact q⟩
    · rw [if_neg e]
      constructor
      · rintro (h | h)
        · exact h
        · exact absurd (congrArg Prod.fst h) e
      · exact fun h => .inl h
/-- as long as an event is left, one is free -/
theorem WkA.free {ns : List Str} {ln : Str → Nat} {A : Arrows} {c : Str → Nat} {ord ids evs : List EvId} (W : WkA ns ln A c ord) (hA : AOk ns ln A) (T : Topo ns ln A ids) (he : ∀ x ∈ evs, Vld ns ln x) (hd : evs.Nodup) (hl : ord.length < evs.length) : ∃ n ∈ ns, FreeF ns ln A c n := by
  obtain ⟨x, hx, hno⟩ := pigeonG hd hl
  have v := he x hx
  have : c x.1 < ln x.1 := by
    rcases Nat.lt_or_ge (c x.1) x.2 with q | q
    · exact Nat.lt_of_lt_of_le q v.le
    · exact absurd ((W.mem x).mpr ⟨v.nm, v.ge, q⟩) hno
  obtain ⟨n, h1, h2, h3⟩ := cut_free hA T W.cut v.nm this
  exact ⟨n, h1, h2, h3⟩
end XE
set_option Elab.async false
set_option linter.all false
set_option maxRecDepth 100000
set_option maxHeartbeats 1000000
/-! XZ1: messages, channel by channel -/
namespace XE
open PySem PySem.Spec PyProof.Rows L2 RZ Rx SX Rc
/-- what is sent to b, what is received from a -/
def sndN (es : List Ev) (b : Str) : Nat := (es.filter fun e => decide (e.sendOf.map (·.1) = some b)).length
def rcvN (es : List Ev) (a : Str) : Nat := (es.filter fun e => decide (e.recvOf.map (·.1) = some a)).length
theorem sndN_cons (e : Ev) (es : List Ev) (b : Str) : sndN (e :: es) b = (if e.sendOf.map (·.1) = some b then 1 else 0) + sndN es b := by
  unfold sndN
  rw [List.filter_cons]
  by_cases c : e.sendOf.map (·.1) = some b
  · rw [decide_eq_true c, if_pos rfl, if_pos c, List.length_cons]; omega
  · rw [decide_eq_false c, if_neg (by simp), if_neg c]; omega
theorem sndN_snoc (e : Ev) (es : List Ev) (b : Str) : sndN (es ++ [e]) b = sndN es b + (if e.sendOf.map (·.1) = some b then 1 else 0) := by
  unfold sndN
  rw [List.filter_append, List.length_append, List.filter_cons]
  by_cases c : e.sendOf.map (·.1) = some b
  · rw [decide_eq_true c, if_pos rfl, if_pos c]; rfl
  · rw [decide_eq_false c, if_neg (by simp), if_neg c]; rfl
theorem rcvN_snoc (e : Ev) (es : List Ev) (a : Str) : rcvN (es ++ [e]) a = rcvN es a + (if e.recvOf.map (·.1) = some a then 1 else 0) := by
  unfold rcvN
  rw [List.filter_append, List.length_append, List.filter_cons]
  by_cases c : e.recvOf.map (·.1) = some a
  · rw [decide_eq_true c, if_pos rfl, if_pos c]; rfl
  · rw [decide_eq_false c, if_neg (by simp), if_neg c]; rfl
theorem sentF_app (fl gl : Flat) (a b : Str) : sentF (fl ++ gl) a b = sentF fl a b ++ sentF gl a b := by
  unfold sentF
  rw [List.filterMap_append]
theorem sentF_off {a b n : Str} (h : n ≠ a) : ∀ (es : List Ev) (k : Nat), sentF (flatRow n k es) a b = []
  | [], _ => rfl
  | e :: es, k => by
    unfold flatRow sentF
    rw [List.filterMap_cons]
    simp only [h, if_false]
    exact sentF_off h es (k + 1)
theorem sentR_off {a b : Str} : ∀ {rs : Rows}, a ∉ rs.map (·.1) → sentF (flatR rs) a b = []
  | [], _ => rfl
  | (n, es) :: rs, h => by
    show sentF (flatRow n 1 es ++ flatR rs) a b = []
    rw [sentF_app, sentF_off (fun z => h (by rw [← z]; exact List.mem_cons_self ..)), sentR_off fun z => h (List.mem_cons_of_mem _ z)]
    rfl
theorem recvF_off {a b n : Str} (h : n ≠ b) (es : List Ev) (k : Nat) : recvN (flatRow n k es) a b = 0 := by
  unfold recvN
  rw [List.length_eq_zero_iff, List.filter_eq_nil_iff]
  intro x hx
  have : x.1.1 = n := flatRow_mem hx
  rw [decide_eq_false (by rw [this]; exact h)]
  simp
theorem recvN_app (fl gl : Flat) (a b : Str) : recvN (fl ++ gl) a b = recvN fl a b + recvN gl a b := by
  unfold recvN
  rw [List.filter_append, List.length_append]
theorem recvR_off {a b : Str} : ∀ {rs : Rows}, b ∉ rs.map (·.1) → recvN (flatR rs) a b = 0
  | [], _ => rfl
  | (n, es) :: rs, h => by
    show recvN (flatRow n 1 es ++ flatR rs) a b = 0
    rw [recvN_app, recvF_off (fun z => h (by rw [← z]; exact List.mem_cons_self ..)), recvR_off fun z => h (List.mem_cons_of_mem _ z)]
theorem recvF_own {a b : Str} : ∀ (es : List Ev) (k : Nat), recvN (flatRow b k es) a b = rcvN es a
  | [], _ => rfl
  | e :: es, k => by
    have ih := recvF_own (a := a) (b := b) es (k + 1)
    unfold recvN rcvN at ih ⊢
    unfold flatRow
    rw [List.filter_cons, List.filter_cons]
    simp only [decide_true, Bool.true_and]
    by_cases c : e.recvOf.map (·.1) = some a
    · rw [decide_eq_true c, if_pos rfl, if_pos rfl, List.length_cons, List.length_cons]
      simpa using ih
    · rw [decide_eq_false c, if_neg (by simp), if_neg (by simp)]
      simpa using ih
/-- the r-th that is sent stands within the first m just when more than r are -/
theorem sentF_own {a b : Str} : ∀ {es : List Ev} {k r : Nat} {s : EvId} {v : Int}, (sentF (flatRow a k es) a b)[r]? = some (s, v) → s.1 = a ∧ k ≤ s.2 ∧ s.2 < k + es.length ∧ ∀ m, r < sndN (es.take m) b ↔ s.2 < k + m
  | [], _, _, _, _, h => by cases h
  | e :: es, k, r, s, v, h => by
    unfold flatRow sentF at h
    rw [List.filterMap_cons] at h
    by_cases c : e.sendOf.map (·.1) = some b
    · obtain ⟨w, hw⟩ : ∃ w, e.sendOf = some (b, w) := by
        cases q : e.sendOf with
        | none => rw [q] at c; cases c
        | some x => rw [q] at c; injection c with c; exact ⟨x.2, by rw [← c]⟩
      simp only [if_true, hw] at h
      cases r with
      | zero =>
        injection h with h
        injection h with h1 h2
        subst h1
        refine ⟨rfl, Nat.le_refl _, by simp, fun m => ?_⟩
        cases m with
        | zero => simp [sndN]
        | succ m =>
          rw [List.take_succ_cons, sndN_cons, if_pos c]
          show _ ↔ k < k + (m + 1)
          omega
      | succ r =>
        obtain ⟨h1, h2, h3, h4⟩ := sentF_own (es := es) (k := k + 1) (r := r) h
        refine ⟨h1, by omega, by rw [List.length_cons]; omega, fun m => ?_⟩
        cases m with
        | zero =>
          constructor
          · intro z; simp [sndN] at z
          · intro z; omega
        | succ m =>
          rw [List.take_succ_cons, sndN_cons, if_pos c]
          have := h4 m
          omega
    · have h' : (sentF (flatRow a (k + 1) es) a b)[r]? = some (s, v) := by
        cases q : e.sendOf with
        | none =>
          simp only [if_true, q] at h
          exact h
        | some x =>
          have n : ¬ x.1 = b := fun z => c (by rw [q, ← z]; rfl)
          simp only [if_true, q, n, if_false] at h
          exact h
      obtain ⟨h1, h2, h3, h4⟩ := sentF_own h'
      refine ⟨h1, by omega, by rw [List.length_cons]; omega, fun m => ?_⟩
      cases m with
      | zero =>
        constructor
        · intro z; simp [sndN] at z
        · intro z; omega
      | succ m =>
        rw [List.take_succ_cons, sndN_cons, if_neg c]
        have := h4 m
        omega
theorem flatR_row {rs : Rows} {n : Str} {es : List Ev} (h : (n, es) ∈ rs) : ∃ ps qs, rs = ps ++ (n, es) :: qs ∧ flatR rs = flatR ps ++ flatRow n 1 es ++ flatR qs := by
  obtain ⟨ps, qs, e⟩ := List.append_of_mem h
  refine ⟨ps, qs, e, ?_⟩
  rw [e, show ps ++ (n, es) :: qs = ps ++ ([(n, es)] ++ qs) from rfl, flatR_app, flatR_app, flatR_one, List.append_assoc]
/-- all that is matched, and where it is found -/
theorem match_at {all : Flat} : ∀ {rest done : Flat} {acc ms : Arrows}, matchF all done acc rest = .ok ms →
    (∀ m ∈ acc, m ∈ ms) ∧ (∀ m ∈ ms, m ∈ acc ∨ ∃ d1 x d2 p v, rest = d1 ++ x :: d2 ∧ m.2 = x.1 ∧ x.2.recvOf = some (p, v) ∧ (sentF all p x.1.1)[recvN (done ++ d1) p x.1.1]? = some (m.1, v)) ∧
      ∀ d1 x d2 p v, rest = d1 ++ x :: d2 → x.2.recvOf = some (p, v) → ∃ s, (sentF all p x.1.1)[recvN (done ++ d1) p x.1.1]? = some (s, v) ∧ (s, x.1) ∈ ms
  | [], done, acc, ms, h => by
    unfold matchF at h
    injection h with h
    subst h
    exact ⟨fun m h => h, fun m h => .inl h, fun d1 x d2 p v e => by cases d1 <;> cases e⟩
  | y :: rest, done, acc, ms, h => by
    unfold matchF at h
    cases hy : y.2.recvOf with
    | none =>
      rw [hy] at h
      obtain ⟨g1, g2, g3⟩ := match_at (all := all) (rest := rest) (done := done ++ [y]) (acc := acc) h
      refine ⟨g1, fun m hm => (g2 m hm).imp id ?_, fun d1 x d2 p v e hx => ?_⟩
      · rintro ⟨d1, x, d2, p, v, e, k1, k2, k3⟩
        exact ⟨y :: d1, x, d2, p, v, by rw [e]; rfl, k1, k2, by rw [List.append_assoc] at k3; exact k3⟩
      · cases d1 with
        | nil => injection e with e1 e2; subst e1; rw [hy] at hx; cases hx
        | cons z d1 =>
          injection e with e1 e2
          subst e1
          obtain ⟨s, k1, k2⟩ := g3 d1 x d2 p v e2 hx
          exact ⟨s, by rw [List.append_assoc] at k1; exact k1, k2⟩
    | some pv =>
      obtain ⟨p, v⟩ := pv
      rw [hy] at h
      simp only at h
      cases hs : (sentF all p y.1.1)[recvN done p y.1.1]? with
      | none => rw [hs] at h; cases h
      | some sv =>
        obtain ⟨s, v'⟩ := sv
        rw [hs] at h
        simp only at h
        by_cases c : v' = v
        · rw [if_pos c] at h
          subst c
          obtain ⟨g1, g2, g3⟩ := match_at (all := all) (rest := rest) (done := done ++ [y]) (acc := acc ++ [(s, y.1)]) h
          refine ⟨fun m hm => g1 m (List.mem_append_left _ hm), fun m hm => ?_, fun d1 x d2 p' v2 e hx => ?_⟩
          · rcases g2 m hm with hm | ⟨d1, x, d2, p', v2, e, k1, k2, k3⟩
            · rcases List.mem_append.mp hm with hm | hm
              · exact .inl hm
              · rw [List.mem_singleton.mp hm]
                exact .inr ⟨[], y, rest, p, v', rfl, rfl, hy, by rw [List.append_nil]; exact hs⟩
            · exact .inr ⟨y :: d1, x, d2, p', v2, by rw [e]; rfl, k1, k2, by rw [List.append_assoc] at k3; exact k3⟩
          · cases d1 with
            | nil =>
              injection e with e1 e2
              subst e1
              rw [hy] at hx
              injection hx with hx
              injection hx with hx1 hx2
              subst hx1 hx2
              exact ⟨s, by rw [List.append_nil]; exact hs, g1 _ (List.mem_append_right _ (List.mem_singleton.mpr rfl))⟩
            | cons z d1 =>
              injection e with e1 e2
              subst e1
              obtain ⟨s2, k1, k2⟩ := g3 d1 x d2 p' v2 e2 hx
              exact ⟨s2, by rw [List.append_assoc] at k1; exact k1, k2⟩
        · rw [if_neg c] at h; cases h
end XE
set_option Elab.async false
set_option linter.all false
set_option maxRecDepth 100000
set_option maxHeartbeats 1000000
/-! XG3: what others share -/
namespace XE
open PySem PySem.Spec PyProof.Rows L2 RZ Rx SX Rc
/-- the stream has moved on by at most k draws; nothing else that stood has changed -/
def Moved (s a : Addr) (H : Hp) (n k : Nat) (H' : Hp) : Prop := ∃ m, n ≤ m ∧ m ≤ n + k ∧ StreamAt H' s a m ∧ Else2 s a H H'
def spValue : Sp := fun vs H Q _ => ∃ (s a : Addr) (n : Nat), vs = [.ref s] ∧ StreamAt H s a n ∧ n + 2 < 1000000 ∧ ∀ (v : Int) (H' : Hp), valB v = true → Moved s a H n 2 H' → Q (.int v) H'
theorem Moved.trans {H H1 H2 : Hp} {s a : Addr} {n k : Nat} (x : Moved s a H n k H1) {j : Nat} (y : ∀ m, StreamAt H1 s a m → m ≤ n + k → Moved s a H1 m j H2) : Moved s a H n (k + j) H2 := by
  obtain ⟨m, h1, h2, h3, h4⟩ := x
  obtain ⟨m2, g1, g2, g3, g4⟩ := y m h3 h2
  exact ⟨m2, by omega, by omega, g3, h4.trans g4⟩
theorem val_small {k : Int} (h0 : 0 ≤ k) (h1 : k < 5) : valB (k - 2) = true := by
  unfold valB
  refine decide_eq_true ?_
  have : (5 : Int) < bigZ := by decide +kernel
  omega
theorem at_drawn {xs : List V} {k : Int} (h0 : 0 ≤ k) (h1 : k < xs.length) : ∃ j v, xs[j]? = some v ∧ atI xs k = some v ∧ v ∈ xs ∧ k = (j : Nat) := by
  obtain ⟨j, rfl⟩ := Int.eq_ofNat_of_zero_le h0
  have hj : j < xs.length := by omega
  have e : xs[j]? = some (xs[j]'hj) := List.getElem?_eq_getElem hj
  exact ⟨j, _, e, atI_nat e, List.getElem_mem hj, rfl⟩
theorem else_new {s a p : Addr} {H : Hp} {o : HO} (h : H p = none) : Else2 s a H (upd H p o) := .of_same (same_new h)
end XE
set_option Elab.async false
set_option linter.all false
set_option maxRecDepth 100000
set_option maxHeartbeats 1000000
/-! XG1: what others share -/
set_option Elab.async false
set_option linter.all false
set_option maxRecDepth 100000
set_option maxHeartbeats 1000000
/-! XTo: data that may be no event -/
namespace XE
open PySem PySem.Spec PyProof.Rows L2 RZ Rx SX Rc
/-- a small part of an event -/
structure PartOk (p : PyData) : Prop where
  ly : Lay 1 p
  sm : smD p = true
  sz : sz p ≤ 4
/-- an event, or what stands for one -/
structure EvD (m : Nat) (d : PyData) : Prop where
  ly : Lay 2 d
  sm : smD d = true
  sz : sz d ≤ 2 + 4 * m
  ps : ∀ xs, d = .tuple xs → xs.length ≤ m ∧ ∀ p ∈ xs, PartOk p
theorem EvD.mono {m n : Nat} {d : PyData} (h : EvD m d) (e : m ≤ n) : EvD n d := ⟨h.ly, h.sm, Nat.le_trans h.sz (by omega), fun xs q => ⟨Nat.le_trans (h.ps xs q).1 e, (h.ps xs q).2⟩⟩
end XE
set_option Elab.async false
set_option linter.all false
set_option maxRecDepth 100000
set_option maxHeartbeats 1000000
/-! XO1: joined, clocks_of -/
namespace XE
open PySem PySem.Spec PyProof.Rows L2 RZ Rx SX Rc
def natV (ns : List Str) (f : Str → Nat) : List V := (ns.map fun n => ((f n : Nat) : Int)).map V.int
theorem natV_len (ns : List Str) (f : Str → Nat) : (natV ns f).length = ns.length := by unfold natV; rw [List.length_map, List.length_map]
theorem natV_set {ns : List Str} {G : Str → Nat} {ix m : Nat} {n : Str} (hd : ns.Nodup) (h : ns[ix]? = some n) : (natV ns G).take ix ++ [V.int ((m : Nat) : Int)] ++ (natV ns G).drop (ix + 1) = natV ns fun z => if z = n then m else G z := by
  have hl := (List.getElem?_eq_some_iff.mp h).1
  rw [set_cut (by rw [natV_len]; exact hl)]
  refine List.ext_getElem? fun j => ?_
  rw [List.getElem?_set, natV_len, if_pos hl]
  unfold natV
  rw [List.getElem?_map, List.getElem?_map, List.getElem?_map, List.getElem?_map]
  by_cases c : ix = j
  · subst c
    rw [if_pos rfl, h]
    show _ = some (V.int (((if n = n then m else G n) : Nat) : Int))
    rw [if_pos rfl]
  · rw [if_neg c]
    cases hj : ns[j]? with
    | none => rfl
    | some z =>
      have hzn : z ≠ n := fun e => c ((List.getElem?_inj hl hd).mp (by rw [h, hj, e]))
      show some (V.int ((G z : Nat) : Int)) = some (V.int (((if z = n then m else G z) : Nat) : Int))
      rw [if_neg hzn]
/-- numbers of the places of names -/
def plcK (ns : List Str) : List (Key × V) := ns.zipIdx.map fun p => ((Sum.inr p.1 : Key), V.int (p.2 : Nat))
def PlcAt (H : Hp) (p : Addr) (ns : List Str) : Prop := H p = some (.dK (plcK ns))
/-- the clocks of events -/
structure ClkAt (K : PySem.W.Frag) (H : Hp) (D : Addr) (ns : List Str) (ln : Str → Nat) (A : Arrows) (ids : List EvId) (kvs : List (List Key × V)) : Prop where
  at_ : H D = some (.dT kvs)
  few : kvs.length ≤ ids.length
  val : ∀ x, (x ∈ ids → ∃ q, valV kvs (evK x) = some (.ref q) ∧ SqT K H q (natV ns (clk ln A x))) ∧ (x ∉ ids → valV kvs (evK x) = none)
theorem ClkAt.same {K : PySem.W.Frag} {H H' : Hp} {D : Addr} {ns : List Str} {ln : Str → Nat} {A : Arrows} {ids : List EvId} {kvs : List (List Key × V)} (h : ClkAt K H D ns ln A ids kvs) (s : Same H H') : ClkAt K H' D ns ln A ids kvs :=
  ⟨s _ _ h.at_, h.few, fun x => ⟨fun hx => by obtain ⟨q, e, hq⟩ := (h.val x).1 hx; exact ⟨q, e, sqT_same s hq⟩, (h.val x).2⟩⟩
end XE
set_option Elab.async false
set_option linter.all false
set_option maxRecDepth 100000
set_option maxHeartbeats 1000000
/-! XG2: what others share -/
namespace XE
open PySem PySem.Spec PyProof.Rows L2 RZ Rx SX Rc
def someW : List Str := ["and", "else", "end", "if", "input", "mod", "not", "or", "process", "receive", "send", "set", "take"]
def allLet (z : Str) : Prop := ∀ c ∈ z.cps.toList, isLet c = true
theorem cps_app (a b : Str) : (a ++ b).cps.toList = a.cps.toList ++ b.cps.toList := by
  show (a.cps ++ b.cps).toList = _
  simp
theorem name_of {z : Str} (h : allLet z) (h1 : 1 ≤ z.cps.toList.length) (h2 : z.cps.toList.length ≤ 8) (h3 : z ∉ someW) (h4 : z ≠ "while") : nameB z = true := by
  unfold nameB isName
  rw [S_tl]
  simp only [Bool.and_eq_true, decide_eq_true_eq]
  refine ⟨?_, ?_, h2, List.all_eq_true.mpr h⟩
  · rw [Bool.not_eq_true', Bool.eq_false_iff]
    intro hc
    have hm := List.contains_iff_mem.mp hc
    have : ∀ x ∈ reservedL, x ∈ someW ∨ x = "while" ∨ 8 < x.cps.toList.length := by decide +kernel
    rcases this z hm with h | h | h
    · exact h3 h
    · exact h4 h
    · omega
  · intro z
    rw [z] at h1
    cases h1
/-- a name, and none of five times q -/
def nameQ (z : Str) : Bool := nameB z && decide (z ≠ "qqqqq")
theorem nameQ_of {z : Str} (h : nameB z = true) (hl : z.length ≠ 5) : nameQ z = true := by
  unfold nameQ
  rw [h, Bool.true_and, decide_eq_true_eq]
  rintro rfl
  exact hl (by decide)
theorem nameQ_B {z : Str} (h : nameQ z = true) : nameB z = true := by
  unfold nameQ at h
  rw [Bool.and_eq_true] at h
  exact h.1
def spWordQ : Sp := fun vs H Q _ => ∃ (s a : Addr) (n : Nat), vs = [.ref s] ∧ StreamAt H s a n ∧ n + 9 < 1000000 ∧ ∀ (z : Str) (H' : Hp), nameQ z = true → Moved s a H n 9 H' → Q (.str z) H'
theorem inV_strsR (y : Str) (xs : List Str) : inV (V.str y) (xs.map V.str) = decide (y ∈ xs) := by
  rw [inV_strs]
  cases h : xs.contains y with
  | true => exact (decide_eq_true (List.contains_iff_mem.mp h)).symm
  | false =>
    refine (decide_eq_false fun z => ?_).symm
    rw [List.contains_iff_mem.mpr z] at h
    cases h
theorem letter_at {k : Int} (h0 : 0 ≤ k) (h1 : k < 26) : ∃ c, atI lettersS.cps.toList k = some c ∧ isLet c = true := by
  obtain ⟨j, rfl⟩ := Int.eq_ofNat_of_zero_le h0
  have hl : lettersS.cps.toList.length = 26 := by decide +kernel
  have hj : j < lettersS.cps.toList.length := by omega
  have : atI lettersS.cps.toList ((j : Nat) : Int) = lettersS.cps.toList[j]? := by
    unfold atI
    rw [show ixN lettersS.cps.toList.length ((j : Nat) : Int) = some j by unfold ixN; simp; omega]
    rfl
  refine ⟨lettersS.cps.toList[j]'hj, by rw [this]; exact List.getElem?_eq_getElem hj, ?_⟩
  have := let_mem (lettersS.cps.toList[j]'hj)
  rw [decide_eq_true (List.getElem_mem hj)] at this
  exact this.symm
end XE
set_option Elab.async false
set_option linter.all false
set_option maxRecDepth 100000
set_option maxHeartbeats 1000000
/-! XU1: Record.names, events, length -/
namespace XE
open PySem PySem.Spec PyProof.Rows L2 RZ Rx SX Rc
/-- a record with rows of different names -/
structure RecG (K : PySem.W.Frag) (C : Addr) (H : Hp) (p : Addr) (rs : Rows) (ms : List (EvId × EvId)) : Prop where
  rc : IsRec K C H p rs ms
  nd : (rs.map (·.1)).Nodup
theorem RecO.same {K : PySem.W.Frag} {C : Addr} {H H' : Hp} {p : Addr} {rs : Rows} {ms : List (EvId × EvId)} {dx t h tm pt : Addr} {xs hs us : List V} {kvp : List (List Key × V)} (x : RecO K C H p rs ms dx t h tm pt xs hs us kvp) (s : Same H H') : RecO K C H' p rs ms dx t h tm pt xs hs us kvp :=
  ⟨s _ _ x.ins, x.rows.same s, x.hist.same s, ⟨s _ _ x.msgs.1, x.msgs.2.same s⟩, x.part.same s⟩
theorem RecG.same {K : PySem.W.Frag} {C : Addr} {H H' : Hp} {p : Addr} {rs : Rows} {ms : List (EvId × EvId)} (x : RecG K C H p rs ms) (s : Same H H') : RecG K C H' p rs ms := by
  obtain ⟨dx, t, h, tm, pt, xs, hs, us, kvp, r⟩ := x.rc
  exact ⟨⟨dx, t, h, tm, pt, xs, hs, us, kvp, r.same s⟩, x.nd⟩
def UnkAtR (CU : Addr) (H : Hp) (n : Str) (E : XK) : Prop := ∀ (H' : Hp) (dx : Addr), Same H H' → H dx = none → H' dx = some (.xd [("name", .str n)]) → E (.ref CU) (some dx) H'
theorem UnkAtR.same {CU : Addr} {H H' : Hp} {n : Str} {E : XK} (h : UnkAtR CU H n E) (s : Same H H') : UnkAtR CU H' n E := fun H2 dx s2 nd hd => h H2 dx (s.trans s2) (s.free nd) hd
end XE
set_option Elab.async false
set_option linter.all false
set_option maxRecDepth 100000
set_option maxHeartbeats 1000000
/-! RxIn: data in a tuple of data -/
namespace Rx
open PySem PySem.Spec PyProof.Rows L2
end Rx
set_option Elab.async false
set_option linter.all false
set_option maxRecDepth 100000
set_option maxHeartbeats 1000000
/-! RxUnp: a list or a tuple taken apart -/
namespace L2
open PySem PySem.Spec PyProof.Rows
end L2
set_option Elab.async false
set_option linter.all false
set_option maxRecDepth 100000
set_option maxHeartbeats 4000000
namespace Rx
open PySem PySem.Spec PyProof.Rows L2
/-! ### a call by a method within a try; what a caught exception is -/
/-- isinstance(e, c) of a caught exception with fields -/
def rIsXd (K : PySem.W.Frag) (a : Addr) (cls : Value) (d : Option Addr) (C : Addr) : List V → Hp → VK → Prop := fun xs H Q => ∃ (c : V) (u : Value) (b : Bool) (dd : Addr) (fs : List (Str × V)), xs = [.ref a, c] ∧ cls = .ref C ∧ d = some dd ∧ ClsV c u ∧ H dd = some (.xd fs) ∧ PySem.W.kitOne K (.ref C) u = some b ∧ Q (.bl b) H
theorem call_isXd {X : Cx} {a C : Addr} {oe : Obj} {cls : Value} {d : Option Addr} {pn : List (Addr × Obj)} (T : ErrC X.K C) (D : ClsD X.K) (hz : Zc cls d oe) (hf : ∃ vs, oe.data = .fields vs) : CallR (X.suite a ((a, oe) :: pn)) (.builtin "isinstance") (rIsXd X.K a cls d C) := by
  intro pins s σ H xs us Q I r h
  obtain ⟨c, u, b, dd, fs, rfl, rfl, rfl, k, ed, e, q⟩ := h
  obtain ⟨u1, u2, rfl, r1, r2⟩ := vals2 r
  cases (show u1 = Value.ref a from r1)
  cases k.eq r2
  obtain ⟨ha, _⟩ := I.pin (a, oe) (List.mem_append_left pins List.mem_cons_self)
  obtain ⟨mA, hns, _⟩ := I.hok dd (HO.xd fs) ed
  obtain ⟨od, hod, hl⟩ := lookIn_ns hns
  obtain ⟨vs, hv⟩ := hf
  obtain ⟨hz1, hz2⟩ := hz
  have J : PySem.W.InstAt s.heap a oe C (some od) := ⟨ha, hz1, by unfold PySem.W.notCls; rw [hv], by rw [hz2]; exact hod⟩
  exact PySem.W.kia_one (PySem.W.kitx_exc T.hcl T.hga T.hgt T.hsb T.hac D.hn D.ht T.hmo) I.kIn J e (fun z => nomatch z) fun tk => ⟨.bl b, H, I.tok tk, rfl, q⟩
end Rx
set_option Elab.async false
set_option linter.all false
set_option maxRecDepth 100000
set_option maxHeartbeats 1000000
/-! XU2: event_of, Record.partner -/
set_option Elab.async false
set_option linter.all false
set_option maxRecDepth 100000
set_option maxHeartbeats 4000000
/-! RxFzT: frozen data, its tuples tracked -/
namespace RxT
open PySem PySem.Spec PyProof.Rows L2 Rx
mutual
/-- data of tuples all of which are tracked -/
inductive Tq (H : Hp) : V → PyData → Prop where
  | non : Tq H .non .none
  | bl (b : Bool) : Tq H (.bl b) (.bool b)
  | int (i : Int) : Tq H (.int i) (.int i)
  | str (x : Str) : Tq H (.str x) (.str x)
  | tup {a : Addr} {us : List V} {ds : List PyData} : H a = some (.tup us) → TqAll H us ds → Tq H (.ref a) (.tuple ds)
inductive TqAll (H : Hp) : List V → List PyData → Prop where
  | nil : TqAll H [] []
  | cons {v : V} {d : PyData} {vs : List V} {ds : List PyData} : Tq H v d → TqAll H vs ds → TqAll H (v :: vs) (d :: ds)
end
mutual
theorem tq_keep {H H' : Hp} (k : ∀ a xs, H a = some (.tup xs) → H' a = some (.tup xs)) : ∀ {v : V} {d : PyData}, Tq H v d → Tq H' v d
  | _, _, .non => .non
  | _, _, .bl b => .bl b
  | _, _, .int i => .int i
  | _, _, .str x => .str x
  | _, _, .tup h hs => .tup (k _ _ h) (tqAll_keep k hs)
theorem tqAll_keep {H H' : Hp} (k : ∀ a xs, H a = some (.tup xs) → H' a = some (.tup xs)) : ∀ {vs : List V} {ds : List PyData}, TqAll H vs ds → TqAll H' vs ds
  | _, _, .nil => .nil
  | _, _, .cons h hs => .cons (tq_keep k h) (tqAll_keep k hs)
end
theorem tqAll_len {H : Hp} : ∀ {vs : List V} {ds : List PyData}, TqAll H vs ds → vs.length = ds.length
  | _, _, .nil => rfl
  | _, _, .cons _ hs => by rw [List.length_cons, List.length_cons, tqAll_len hs]
theorem tqAll_app {H : Hp} : ∀ {vs : List V} {ds : List PyData} {us : List V} {es : List PyData}, TqAll H vs ds → TqAll H us es → TqAll H (vs ++ us) (ds ++ es)
  | _, _, _, _, .nil, k => k
  | _, _, _, _, .cons h hs, k => .cons h (tqAll_app hs k)
theorem leaf_tq {K : PySem.W.Frag} {H H' : Hp} {v : V} {c : PyData} (h : Dp K H v c) (k : kids c = none) : Tq H' v (fix c) := by
  cases h with
  | non => exact .non
  | bl b => exact .bl b
  | int i => exact .int i
  | str x => exact .str x
  | lst _ _ => cases k
  | tup _ _ => cases k
def lvOk (K : PySem.W.Frag) (H1 H : Hp) (N : Nat) (l : Lv) (n : Nat) : Prop := Src K H1 l.src l.its ∧ TqAll H l.vl (fixAll (l.its.take n)) ∧ szAll l.its ≤ N
def below (K : PySem.W.Frag) (H1 H : Hp) (N : Nat) (d : PyData) : List PyData → List Lv → Prop
  | its, [] => its = [d]
  | its, l :: r => ∃ q c, l.pl = q + 1 ∧ l.its[q]? = some c ∧ kids c = some its ∧ lvOk K H1 H N l q ∧ below K H1 H N d l.its r
theorem below_len {K : PySem.W.Frag} {H1 H : Hp} {N : Nat} {d : PyData} : ∀ {r : List Lv} {its : List PyData}, below K H1 H N d its r → ∀ l ∈ r, l.vl.length ≤ N
  | [], _, _, _, hm => by cases hm
  | l :: r, its, ⟨q, c, e1, e2, e3, ⟨h1, h2, h3⟩, hb⟩, x, hm => by
    rcases List.mem_cons.mp hm with rfl | hm
    · have hl := tqAll_len h2
      rw [fixAll_map, List.length_map, List.length_take] at hl
      have := len_le_sz x.its
      omega
    · exact below_len hb x hm
/-- a list is written: the levels stay good -/
theorem below_keep {K : PySem.W.Frag} {H1 H H' : Hp} {N : Nat} {d : PyData} (k : ∀ a xs, H a = some (.tup xs) → H' a = some (.tup xs)) (kf : ∀ a o u, H a = some (.frz o u) → H' a = some (.frz o u)) :
    ∀ {r : List Lv} {its : List PyData}, below K H1 H N d its r → below K H1 H' N d its r
  | [], _, h => h
  | l :: r, its, ⟨q, c, e1, e2, e3, ⟨h1, h2, h3⟩, hb⟩ => ⟨q, c, e1, e2, e3, ⟨h1, tqAll_keep k h2, h3⟩, below_keep k kf hb⟩
/-- the state between two turns -/
structure Mid (K : PySem.W.Frag) (H1 H : Hp) (N B : Nat) (d : PyData) (S P R : Addr) (t : Lv) (r : List Lv) : Prop where
  hS : H S = some (.lst (colS (t :: r)))
  hP : H P = some (.lst (colP (t :: r)))
  hR : H R = some (.lst (colR (t :: r)))
  hv : ∀ l ∈ t :: r, H l.rs = some (.lst l.vl)
  nSP : S ≠ P
  nSR : S ≠ R
  nPR : P ≠ R
  nd : ((t :: r).map (·.rs)).Nodup
  out : ∀ l ∈ t :: r, l.rs ≠ S ∧ l.rs ≠ P ∧ l.rs ≠ R ∧ H1 l.rs = none
  same : Same H1 H
  fS : H1 S = none
  fP : H1 P = none
  fR : H1 R = none
  ok : lvOk K H1 H N t t.pl
  le : t.pl ≤ t.its.length
  bl : below K H1 H N d t.its r
  bd : mu (t :: r) + (t :: r).length ≤ B
section
variable {K : PySem.W.Frag} {H1 H : Hp} {N B : Nat} {d : PyData} {S P R : Addr} {t l : Lv} {r : List Lv}
/-- behind the last item of a level: it becomes a tuple -/
theorem mid_pop (M : Mid K H1 H N B d S P R t (l :: r)) (hpl : t.pl = t.its.length) {p : Addr} {oS oP oR : List V} (eS : oS = colS (l :: r)) (eP : oP = colP (l :: r)) (eR : oR = colR (l :: r))
    (hp : upd (upd (upd H S (.lst oS)) P (.lst oP)) R (.lst oR) p = none) :
    Mid K H1 (upd (upd (upd (upd (upd H S (.lst oS)) P (.lst oP)) R (.lst oR)) p (.tup t.vl)) l.rs (.lst (l.vl ++ [.ref p]))) N B d S P R { l with vl := l.vl ++ [.ref p] } r ∧ mu ({ l with vl := l.vl ++ [.ref p] } :: r) < mu (t :: l :: r) := by
  subst eS eP eR
  obtain ⟨q, c, e1, e2, e3, ⟨h1, h2, h3⟩, hb⟩ := M.bl
  have pS : p ≠ S := fun z => by rw [z, upd_ne M.nSR, upd_ne M.nSP, upd_same] at hp; cases hp
  have pP : p ≠ P := fun z => by rw [z, upd_ne M.nPR, upd_same] at hp; cases hp
  have pR : p ≠ R := fun z => by rw [z, upd_same] at hp; cases hp
  have hpn : H p = none := by rw [upd_ne pR, upd_ne pP, upd_ne pS] at hp; exact hp
  have p1 : H1 p = none := M.same.free hpn
  obtain ⟨lS, lP, lR, l1⟩ := M.out l (by simp)
  have lp : l.rs ≠ p := ne_of_none (M.hv l (by simp)) hpn
  have kk : Keeps H (upd (upd (upd (upd (upd H S (.lst (colS (l :: r)))) P (.lst (colP (l :: r)))) R (.lst (colR (l :: r)))) p (.tup t.vl)) l.rs (.lst (l.vl ++ [.ref p]))) := by
    refine (keeps_lst M.hS).trans ((keeps_lst (xs := colP (t :: l :: r)) ?_).trans ((keeps_lst (xs := colR (t :: l :: r)) ?_).trans ((keeps_new hp).trans (keeps_lst (xs := l.vl) ?_))))
    · rw [upd_ne M.nSP.symm]; exact M.hP
    · rw [upd_ne M.nPR.symm, upd_ne M.nSR.symm]; exact M.hR
    · rw [upd_ne lp, upd_ne lR, upd_ne lP, upd_ne lS]; exact M.hv l (by simp)
  have nd := M.nd
  simp only [List.map_cons, List.nodup_cons, List.mem_cons, not_or] at nd
  have hq : q + 1 ≤ l.its.length := (List.getElem?_eq_some_iff.mp e2).1
  have etk : l.its.take (q + 1) = l.its.take q ++ [c] := by rw [List.take_add_one, e2]; rfl
  have T : Tq (upd (upd (upd (upd (upd H S (.lst (colS (l :: r)))) P (.lst (colP (l :: r)))) R (.lst (colR (l :: r)))) p (.tup t.vl)) l.rs (.lst (l.vl ++ [.ref p]))) (.ref p) (fix c) := by
    rw [fix_kids e3]
    refine .tup (by rw [upd_ne lp.symm, upd_same]) ?_
    have := M.ok.2.1
    rw [hpl, List.take_length] at this
    exact tqAll_keep kk.1 this
  refine ⟨⟨?_, ?_, ?_, ?_, M.nSP, M.nSR, M.nPR, ?_, ?_, ?_, M.fS, M.fP, M.fR, ⟨h1, ?_, h3⟩, ?_, ?_, ?_⟩, ?_⟩
  · rw [upd_ne lS.symm, upd_ne pS.symm, upd_ne M.nSR, upd_ne M.nSP, upd_same]; simp [colS]
  · rw [upd_ne lP.symm, upd_ne pP.symm, upd_ne M.nPR, upd_same]; simp [colP]
  · rw [upd_ne lR.symm, upd_ne pR.symm, upd_same]; simp [colR]
  · intro x hx
    rcases List.mem_cons.mp hx with rfl | hx
    · exact upd_same
    · obtain ⟨xS, xP, xR, x1⟩ := M.out x (by simp [hx])
      have xl : x.rs ≠ l.rs := fun z => nd.2.1 (by rw [← z]; exact List.mem_map_of_mem hx)
      have xv := M.hv x (by simp [hx])
      rw [upd_ne xl, upd_ne (ne_of_none xv hpn), upd_ne xR, upd_ne xP, upd_ne xS]
      exact xv
  · simp only [List.map_cons, List.nodup_cons]
    exact nd.2
  · intro x hx
    rcases List.mem_cons.mp hx with rfl | hx
    · exact ⟨lS, lP, lR, l1⟩
    · exact M.out x (by simp [hx])
  · exact same_upd (same_upd (same_upd (same_upd (same_upd M.same M.fS) M.fP) M.fR) p1) l1
  · show TqAll _ (l.vl ++ [.ref p]) (fixAll (l.its.take l.pl))
    rw [e1, etk, fixAll_map, List.map_append, ← fixAll_map]
    exact tqAll_app (tqAll_keep kk.1 h2) (.cons T .nil)
  · show l.pl ≤ l.its.length
    omega
  · exact below_keep kk.1 kk.2 hb
  · have := M.bd
    simp only [mu, List.length_cons] at this ⊢
    omega
  · simp only [mu]
    omega
/-- an item that is no list and no tuple -/
theorem mid_leaf (M : Mid K H1 H N B d S P R t r) {c : PyData} {v : V} (hc : t.its[t.pl]? = some c) (kc : kids c = none) (hv : Dp K H1 v c) {q : Addr} {oq : HO} {oP : List V} (eP : oP = colP ({ t with pl := t.pl + 1 } :: r))
    (hq : upd H P (.lst oP) q = none) :
    Mid K H1 (upd (upd (upd H P (.lst oP)) q oq) t.rs (.lst (t.vl ++ [v]))) N B d S P R { t with pl := t.pl + 1, vl := t.vl ++ [v] } r ∧ mu ({ t with pl := t.pl + 1, vl := t.vl ++ [v] } :: r) < mu (t :: r) := by
  subst eP
  have qP : q ≠ P := fun z => by rw [z, upd_same] at hq; cases hq
  have hqn : H q = none := by rw [upd_ne qP] at hq; exact hq
  have q1 : H1 q = none := M.same.free hqn
  obtain ⟨tS, tP, tR, t1⟩ := M.out t (by simp)
  have tq : t.rs ≠ q := ne_of_none (M.hv t (by simp)) hqn
  have kk : Keeps H (upd (upd (upd H P (.lst (colP ({ t with pl := t.pl + 1 } :: r)))) q oq) t.rs (.lst (t.vl ++ [v]))) := by
    refine (keeps_lst M.hP).trans ((keeps_new hq).trans (keeps_lst (xs := t.vl) ?_))
    rw [upd_ne tq, upd_ne tP]; exact M.hv t (by simp)
  have nd := M.nd
  simp only [List.map_cons, List.nodup_cons] at nd
  have hlt : t.pl < t.its.length := (List.getElem?_eq_some_iff.mp hc).1
  have etk : t.its.take (t.pl + 1) = t.its.take t.pl ++ [c] := by rw [List.take_add_one, hc]; rfl
  have hd := szAll_drop hc
  have hs := sz_pos c
  refine ⟨⟨?_, ?_, ?_, ?_, M.nSP, M.nSR, M.nPR, ?_, ?_, ?_, M.fS, M.fP, M.fR, ⟨M.ok.1, ?_, M.ok.2.2⟩, ?_, ?_, ?_⟩, ?_⟩
  · rw [upd_ne tS.symm, upd_ne (ne_of_none M.hS hqn), upd_ne M.nSP, M.hS]; simp [colS]
  · rw [upd_ne tP.symm, upd_ne qP.symm, upd_same]; simp [colP]
  · rw [upd_ne tR.symm, upd_ne (ne_of_none M.hR hqn), upd_ne M.nPR.symm, M.hR]; simp [colR]
  · intro x hx
    rcases List.mem_cons.mp hx with rfl | hx
    · exact upd_same
    · obtain ⟨xS, xP, xR, x1⟩ := M.out x (by simp [hx])
      have xl : x.rs ≠ t.rs := fun z => nd.1 (by rw [← z]; exact List.mem_map_of_mem hx)
      have xv := M.hv x (by simp [hx])
      rw [upd_ne xl, upd_ne (ne_of_none xv hqn), upd_ne xP]
      exact xv
  · simp only [List.map_cons, List.nodup_cons]
    exact nd
  · intro x hx
    rcases List.mem_cons.mp hx with rfl | hx
    · exact ⟨tS, tP, tR, t1⟩
    · exact M.out x (by simp [hx])
  · exact same_upd (same_upd (same_upd M.same M.fP) q1) t1
  · show TqAll _ (t.vl ++ [v]) (fixAll (t.its.take (t.pl + 1)))
    rw [etk, fixAll_map, List.map_append, ← fixAll_map]
    refine tqAll_app (tqAll_keep kk.1 M.ok.2.1) (.cons ?_ .nil)
    exact leaf_tq hv kc
  · exact hlt
  · exact below_keep kk.1 kk.2 M.bl
  · have := M.bd
    simp only [mu, List.length_cons] at this ⊢
    omega
  · simp only [mu]
    omega
/-- an item that is a list or a tuple: a new level -/
theorem mid_push (M : Mid K H1 H N B d S P R t r) {c : PyData} {v : V} {its : List PyData} (hc : t.its[t.pl]? = some c) (kc : kids c = some its) (hv : Dp K H1 v c) {q e : Addr} {oq : HO} {oP oS oP' oR : List V}
    (eP : oP = colP ({ t with pl := t.pl + 1 } :: r)) (hq : upd H P (.lst oP) q = none) (eS : oS = colS ({ t with pl := t.pl + 1 } :: r) ++ [v]) (eP' : oP' = colP ({ t with pl := t.pl + 1 } :: r) ++ [V.int 0]) (eR : oR = colR ({ t with pl := t.pl + 1 } :: r) ++ [V.ref e])
    (he : upd (upd (upd (upd H P (.lst oP)) q oq) S (.lst oS)) P (.lst oP') e = none) :
    Mid K H1 (upd (upd (upd (upd (upd (upd H P (.lst oP)) q oq) S (.lst oS)) P (.lst oP')) e (.lst [])) R (.lst oR)) N B d S P R ⟨v, its, 0, e, []⟩ ({ t with pl := t.pl + 1 } :: r) ∧ mu (⟨v, its, 0, e, []⟩ :: { t with pl := t.pl + 1 } :: r) < mu (t :: r) := by
  subst eP eS eP' eR
  have qP : q ≠ P := fun z => by rw [z, upd_same] at hq; cases hq
  have hqn : H q = none := by rw [upd_ne qP] at hq; exact hq
  have q1 : H1 q = none := M.same.free hqn
  have qS : S ≠ q := ne_of_none M.hS hqn
  have qR : R ≠ q := ne_of_none M.hR hqn
  have eP : e ≠ P := fun z => by rw [z, upd_same] at he; cases he
  have eS : e ≠ S := fun z => by rw [z, upd_ne M.nSP, upd_same] at he; cases he
  have eq : e ≠ q := fun z => by rw [z, upd_ne qP, upd_ne qS.symm, upd_same] at he; cases he
  have hen : H e = none := by rw [upd_ne eP, upd_ne eS, upd_ne eq, upd_ne eP] at he; exact he
  have e1 : H1 e = none := M.same.free hen
  have eR : R ≠ e := ne_of_none M.hR hen
  have kk : Keeps H (upd (upd (upd (upd (upd (upd H P (.lst (colP ({ t with pl := t.pl + 1 } :: r)))) q oq) S (.lst (colS ({ t with pl := t.pl + 1 } :: r) ++ [v]))) P (.lst (colP ({ t with pl := t.pl + 1 } :: r) ++ [V.int 0]))) e (.lst [])) R (.lst (colR ({ t with pl := t.pl + 1 } :: r) ++ [V.ref e]))) := by
    refine (keeps_lst M.hP).trans ((keeps_new hq).trans ((keeps_lst (xs := colS (t :: r)) ?_).trans ((keeps_lst (xs := colP ({ t with pl := t.pl + 1 } :: r)) ?_).trans ((keeps_new he).trans (keeps_lst (xs := colR (t :: r)) ?_)))))
    · rw [upd_ne qS, upd_ne M.nSP]; exact M.hS
    · rw [upd_ne M.nSP.symm, upd_ne qP.symm, upd_same]
    · rw [upd_ne eR, upd_ne M.nPR.symm, upd_ne M.nSR.symm, upd_ne qR, upd_ne M.nPR.symm]; exact M.hR
  have nd := M.nd
  simp only [List.map_cons, List.nodup_cons] at nd
  have hlt : t.pl < t.its.length := (List.getElem?_eq_some_iff.mp hc).1
  have hd := szAll_drop hc
  have hs := sz_kids kc
  have hm : c ∈ t.its := List.mem_of_getElem? hc
  refine ⟨⟨?_, ?_, ?_, ?_, M.nSP, M.nSR, M.nPR, ?_, ?_, ?_, M.fS, M.fP, M.fR, ⟨src_of hv kc, ?_, ?_⟩, ?_, ?_, ?_⟩, ?_⟩
  · rw [upd_ne M.nSR, upd_ne eS.symm, upd_ne M.nSP, upd_same]; simp [colS]
  · rw [upd_ne M.nPR, upd_ne eP.symm, upd_same]; simp [colP]
  · rw [upd_same]; simp [colR]
  · intro x hx
    rcases List.mem_cons.mp hx with rfl | hx
    · rw [upd_ne eR.symm, upd_same]
    · have xx : ∃ y ∈ t :: r, y.rs = x.rs ∧ y.vl = x.vl := by
        rcases List.mem_cons.mp hx with rfl | hx
        · exact ⟨t, by simp, rfl, rfl⟩
        · exact ⟨x, by simp [hx], rfl, rfl⟩
      obtain ⟨y, hy, y1, y2⟩ := xx
      obtain ⟨xS, xP, xR, x1⟩ := M.out y hy
      have xv := M.hv y hy
      rw [← y1, ← y2, upd_ne xR, upd_ne (ne_of_none xv hen), upd_ne xP, upd_ne xS, upd_ne (ne_of_none xv hqn), upd_ne xP]
      exact xv
  · simp only [List.map_cons, List.nodup_cons, List.mem_cons, not_or]
    refine ⟨⟨fun z => ?_, fun z => ?_⟩, nd⟩
    · have := M.hv t (by simp)
      rw [← z, hen] at this
      cases this
    · obtain ⟨y, hy, z⟩ := List.mem_map.mp z
      have := M.hv y (by simp [hy])
      rw [z, hen] at this
      cases this
  · intro x hx
    rcases List.mem_cons.mp hx with rfl | hx
    · exact ⟨eS, eP, eR.symm, e1⟩
    · rcases List.mem_cons.mp hx with rfl | hx
      · exact M.out t (by simp)
      · exact M.out x (by simp [hx])
  · exact same_upd (same_upd (same_upd (same_upd (same_upd (same_upd M.same M.fP) q1) M.fS) M.fP) e1) M.fR
  · show TqAll _ [] (fixAll (its.take 0))
    rw [List.take_zero]
    exact .nil
  · show szAll its ≤ N
    have := sz_le_all hm
    have := M.ok.2.2
    omega
  · exact Nat.zero_le _
  · exact ⟨t.pl, c, rfl, hc, kc, ⟨M.ok.1, tqAll_keep kk.1 M.ok.2.1, M.ok.2.2⟩, below_keep kk.1 kk.2 M.bl⟩
  · have := M.bd
    simp only [mu, List.length_cons, List.drop_zero] at this ⊢
    omega
  · simp only [mu, List.drop_zero]
    omega
end
end RxT
set_option Elab.async false
set_option linter.all false
set_option maxRecDepth 100000
set_option maxHeartbeats 4000000
/-! XFzT: frozen, its tuples tracked -/
set_option Elab.async false
set_option linter.all false
set_option maxRecDepth 100000
set_option maxHeartbeats 4000000
set_option Elab.async false
set_option linter.all false
set_option maxRecDepth 100000
set_option maxHeartbeats 4000000
namespace XE
open PySem PySem.Spec PyProof.Rows L2 Rx SX
section
variable {P : Program} {w : World} {K : PySem.W.Frag} {mg : Str → Option Value} {base : Heap}
abbrev cBadEvent : Stmt := topS 17
abbrev sBadEvent : Stmt := inClass cBadEvent 0
theorem scBadEvent : ScopeS ["self", "event"] ["self", "event"] (defScope sBadEvent) := ⟨rfl, rfl, rfl, by decide +kernel, rfl, by decide +kernel, by decide +kernel, by decide +kernel, rfl, rfl⟩
theorem okBadEvent {f C cda cc fF : Addr} {fd fdF : FuncData} (F : SupFn K "BadEvent.__init__" sBadEvent f cda cc fd) (T : SupC P K C cda cc) (CF : Cal P w K mg base 1 "frozen" fF fdF ["thing"] (spFrozen K)) (no : ∀ g ∈ (["event"] : List Str), PySem.W.findIn K (.ref C) g = some none) :
    FnOk P w K mg base CX0 2 f fd ["self", "event"] (spInit K C ["event"]) := by
  refine F.ok scBadEvent T rfl rfl rfl spInit_len spInit_self (fun _ => rfl) (fun _ => rfl) (fun _ => ⟨_, rfl⟩) (fun A outer s H vs Q E hr h => ?_)
  obtain ⟨a, ws, ds, rfl, hl, ha, hd, hz, k⟩ := h
  refine ⟨_, pss_one (ps_ost (pv 0) (pe_call CF.ok hr rfl CF.mg CF.kp CF.bi .nil pass0 (pa_cons (pv 1) pa_nil))), ?_⟩
  match ws, ds, hl, hd with
  | [v0], _, _, @DpAll.cons _ _ _ _ d0 _ h0 (.nil) =>
    have z0 : sz d0 ≤ 1000 := hz _ (by simp)
    refine ⟨_, rfl, v0, d0, rfl, h0, z0, fun G0 u0 s0 r0 => ⟨_, rfl, a, C, rfl, T.oex, no _ (by simp), .inl ⟨s0 _ _ ha, fun dx hdx nda => ?_⟩⟩⟩
    have e0 : ∀ b o, H b = some o → b ≠ a → upd (upd G0 dx (exd dx [("event", u0)])) a (exo a C (some dx)) b = some o := fun b o e nb => by rw [upd_ne nb, upd_ne (ne_of_none (s0 _ _ e) hdx)]; exact s0 _ _ e
    have k0 : Keeps G0 (upd (upd G0 dx (exd dx [("event", u0)])) a (exo a C (some dx))) := (keeps_new hdx).trans (keeps_ext (φ := _) (by rw [upd_ne nda.symm]; exact s0 _ _ ha))
    have r0' := dp_keep k0.1 k0.2 r0 (fix_noList _)
    have ax : upd (upd G0 dx (exd dx [("event", u0)])) a (exo a C (some dx)) a = some (exo a C (some dx)) := upd_same
    have dxx : upd (upd G0 dx (exd dx [("event", u0)])) a (exo a C (some dx)) dx = some (exd dx [("event", u0)]) := by rw [upd_ne nda, upd_same]
    have hdn : H dx = none := s0.free hdx
    generalize upd (upd G0 dx (exd dx [("event", u0)])) a (exo a C (some dx)) = L0 at e0 r0' ax dxx ⊢
    exact k L0 dx [u0] hdn ax dxx (.cons r0' (.nil)) e0 rfl
theorem biBadEvent {f cda cc : Addr} {fd : FuncData} (F : SupFn K "BadEvent.__init__" sBadEvent f cda cc fd) : Binds K fd ["self", "event"] [] := by
  obtain ⟨oc, od, kV, doc, pm, an, ct, osl, rfl, _, _⟩ := F.ex
  exact .all (fun us hl => match us, hl with | [_, _], _ => rfl)
theorem bpBadEvent {f cda cc : Addr} {fd : FuncData} (F : SupFn K "BadEvent.__init__" sBadEvent f cda cc fd) : KBn K fd ("self" :: ["event"]) ((["event"] : List Str).length + 1) [] gB gB := by
  obtain ⟨oc, od, kV, doc, pm, an, ct, osl, rfl, _, _⟩ := F.ex
  exact ⟨fun s us ws _ l1 l2 => match us, ws, l1, l2 with | [_, _], [], _, _ => .of_eq rfl, gB_rel⟩
theorem bkBadEvent {f cda cc : Addr} {fd : FuncData} (F : SupFn K "BadEvent.__init__" sBadEvent f cda cc fd) : KBn K fd ("self" :: ["event"]) 1 (["event"] : List Str).reverse gB gB := by
  obtain ⟨oc, od, kV, doc, pm, an, ct, osl, rfl, _, _⟩ := F.ex
  exact ⟨fun s us ws _ l1 l2 => match us, ws, l1, l2 with | [_], [_], _, _ => .of_eq rfl, gB_rel⟩
end
end XE
set_option Elab.async false
set_option linter.all false
set_option maxRecDepth 100000
set_option maxHeartbeats 1000000
/-! XO2: is_wait, checked_event, checked_waits -/
set_option Elab.async false
set_option linter.all false
set_option maxRecDepth 100000
set_option maxHeartbeats 4000000
set_option Elab.async false
set_option linter.all false
set_option maxRecDepth 100000
set_option maxHeartbeats 1000000
/-! XO3: Order.__init__ -/
namespace XE
open PySem PySem.Spec PyProof.Rows L2 RZ RxT Rx SX Rc
abbrev nmsR (rs : Rows) : List Str := rs.map (·.1)
/-- what an order holds -/
structure OrdO (K : PySem.W.Frag) (CO C : Addr) (H : Hp) (o p : Addr) (rs : Rows) (ms ws : Arrows) (ids : List EvId) (dx tw c N pl D : Addr) (uw zs : List V) (kvc kvd : List (List Key × V)) : Prop where
  ins : H o = some (.ins CO dx [("recorded", .ref p), ("passed", .ref tw), ("causes", .ref c), ("sequence", .ref N), ("places", .ref pl), ("clocks", .ref D)])
  rcd : RecG K C H p rs ms
  pas : H tw = some (.tup uw) ∧ MsgL H uw ws
  cau : CauseAt H c (ms ++ ws) kvc
  seq : H N = some (.lst zs) ∧ IdsL H zs ids
  plc : PlcAt H pl (nmsR rs)
  clk : ClkAt K H D (nmsR rs) (lnOf rs) (ms ++ ws) ids kvd
structure OrdG (K : PySem.W.Frag) (CO C : Addr) (H : Hp) (o p : Addr) (rs : Rows) (ms ws : Arrows) (ids : List EvId) : Prop where
  oo : ∃ dx tw c N pl D uw zs kvc kvd, OrdO K CO C H o p rs ms ws ids dx tw c N pl D uw zs kvc kvd
  ok : AOk (nmsR rs) (lnOf rs) (ms ++ ws)
  tp : Topo (nmsR rs) (lnOf rs) (ms ++ ws) ids
/-- all but one object stay -/
def FrO (H H' : Hp) (o : Addr) : Prop := ∀ b x, H b = some x → b ≠ o → H' b = some x
theorem FrO.keeps {H H' : Hp} {o C dx : Addr} {fs : List (Str × V)} (f : FrO H H' o) (ho : H o = some (.ins C dx fs)) : Keeps H H' := keeps_but f ho
theorem FrO.same {H H1 H2 : Hp} {o : Addr} (f : FrO H H1 o) (s : Same H1 H2) : FrO H H2 o := fun b x e n => s _ _ (f b x e n)
theorem FrO.trans {H H1 H2 : Hp} {o : Addr} (f : FrO H H1 o) (g : FrO H1 H2 o) : FrO H H2 o := fun b x e n => g _ _ (f b x e n) n
theorem FrO.upd {H : Hp} {o : Addr} {x : HO} : FrO H (upd H o x) o := fun b y e n => by rw [upd_ne n]; exact e
theorem FrO.none {H H1 : Hp} {o q : Addr} (f : FrO H H1 o) (h : H1 q = none) (ho : H1 o ≠ none) : H q = none := by
  cases e : H q with
  | none => rfl
  | some x =>
    by_cases c : q = o
    · subst c; exact absurd h ho
    · rw [f _ _ e c] at h; cases h
end XE
set_option Elab.async false
set_option linter.all false
set_option maxRecDepth 100000
set_option maxHeartbeats 1000000
/-! XS1: drawn values -/
namespace XE
open PySem PySem.Spec PyProof.Rows L2 RZ Rx SX Rc
abbrev sLValue : Stmt := topS 36
section
variable {P : Program} {w : World} {K : PySem.W.Frag} {mg : Str → Option Value} {base : Heap}
abbrev lvN : List Str := ["_law_stream", "_law_way"]
theorem scLV : FnScope lvN ["_law_stream"] (defScope sLValue) := ⟨rfl, rfl, rfl, by decide +kernel, rfl, by decide +kernel, by decide +kernel⟩
theorem ok_lvalue {f fD : Addr} {fd fdD : FuncData} (F : Fun K "_law_value" "_law_value" sLValue f fd) (CD : Cal P w K mg base 1 "_law_draw" fD fdD ["_law_stream", "_law_many"] spDraw) : FnOk P w K mg base CX0 2 f fd ["_law_stream"] spValue := by
  refine F.ok scLV (fun vs H Q E h => ?_) (fun cdv A outer s H vs Q E hr h => ?_)
  · obtain ⟨_, _, _, rfl, _⟩ := h
    rfl
  · obtain ⟨st, a, n, rfl, hS, hn, k⟩ := h
    have hu := hu_of hr
    have hr1 : Room 1 _ := hr
    refine ⟨_, (pss_cons (ps_set (i := 1) scLV.nd rfl (.inl rfl) (pe_call CD.ok hr1 rfl CD.mg CD.kp CD.bi .nil pass0 (pa_cons (pv 0) (pa_cons pe_int pa_nil)))) (pss_cons (ps_if (pt_cmpR op_lt (pv 1) pe_int (nomark _)) (pss_one (ps_ret (pe_op op_sub (pe_call CD.ok hr1 rfl CD.mg CD.kp CD.bi .nil pass0 (pa_cons (pv 0) (pa_cons pe_int pa_nil))) pe_int))) pss_nil) (pss_one (ps_ret (pe_ix ix_list (pe_lst (pa_cons (pe_op op_sub (pe_op op_pow pe_int pe_int) pe_int) (pa_cons (pe_op op_sub pe_int (pe_op op_pow pe_int pe_int)) (pa_cons pe_int (pa_cons pe_int pa_nil))))) (pe_call CD.ok hr1 rfl CD.mg CD.kp CD.bi .nil pass0 (pa_cons (pv 0) (pa_cons pe_int pa_nil))) (fun _ _ => rfl)))))), ?_⟩
    refine ⟨_, rfl, st, a, n, 8, rfl, by decide, by decide, hS, by omega, fun k1 H1 k10 k11 S1 el1 => ?_⟩
    refine ⟨_, rfl, _, _, rfl, rfl, _, rfl, ite2 (fun _ => ?_) (fun _ => ?_)⟩
    · refine ⟨_, rfl, st, a, n + 1, 5, rfl, by decide, by decide, S1, by omega, fun k2 H2 k20 k21 S2 el2 => ?_⟩
      exact ⟨_, _, rfl, rfl, k _ _ (val_small k20 k21) ⟨n + 2, by omega, by omega, S2, el1.trans el2⟩⟩
    · refine ⟨_, _, rfl, rfl, ⟨by decide, by decide, by decide⟩, _, _, rfl, rfl, _, _, rfl, rfl, ⟨by decide, by decide, by decide⟩, _, _, rfl, rfl, ?_⟩
      refine ⟨by show 4 ≤ sizeLine; decide, fun L nL => ?_⟩
      have tr := S1.tr
      have nLs : L ≠ st := fun z => tr.1 (by rw [← z]; exact nL)
      have nLa : L ≠ a := fun z => tr.2 (by rw [← z]; exact nL)
      refine ⟨_, rfl, st, a, n + 1, 4, rfl, by decide, by decide, S1.same (same_new nL), by omega, fun k2 H2 k20 k21 S2 el2 => ?_⟩
      have hL2 := el2 _ _ upd_same nLs nLa
      obtain ⟨j, v, hj, hv, hm, rfl⟩ := at_drawn (xs := [V.int ((10 : Int) ^ Int.toNat 30 - 1), .int (1 - (10 : Int) ^ Int.toNat 30), .int 17, .int 1000]) k20 (by show k2 < 4; omega)
      have fin : ∀ z : Int, valB z = true → v = .int z → Q v H2 := fun z hz e => by
        rw [e]
        exact k z H2 hz ⟨n + 2, by omega, by omega, S2, (el1.trans (else_new nL)).trans el2⟩
      refine ⟨L, _, (j : Nat), v, rfl, rfl, SqL.of hL2, hv, ?_⟩
      simp only [List.mem_cons, List.not_mem_nil, or_false] at hm
      rcases hm with h | h | h | h
      · exact fin _ (by decide +kernel) h
      · exact fin _ (by decide +kernel) h
      · exact fin _ (by decide +kernel) h
      · exact fin _ (by decide +kernel) h
end
end XE
set_option Elab.async false
set_option linter.all false
set_option maxRecDepth 100000
set_option maxHeartbeats 1000000
/-! XS2: drawn events -/
namespace XE
open PySem PySem.Spec PyProof.Rows L2 RZ Rx SX Rc
abbrev sLEvent : Stmt := topS 37
/-- the messages under way, by channel -/
structure QuAt (H : Hp) (s a D : Addr) (R : RunL) (kvs : List (List Key × V)) : Prop where
  at_ : H D = some (.dT kvs)
  few : kvs.length ≤ R.length
  val : ∀ x y, (valV kvs (chK x y) = none ∧ pend R x y = []) ∨ ∃ L, valV kvs (chK x y) = some (.ref L) ∧ H L = some (.lst ((pend R x y).map V.int)) ∧ L ≠ s ∧ L ≠ a
/-- all but three stay -/
def Else3 (s a d : Addr) (H H' : Hp) : Prop := ∀ b o, H b = some o → b ≠ s → b ≠ a → b ≠ d → H' b = some o
def spEvent (K : PySem.W.Frag) : Sp := fun vs H Q _ => ∃ (s a N D : Addr) (n i : Nat) (names : List Str) (nm : Str) (R : RunL) (kvs : List (List Key × V)), vs = [.ref s, .ref N, .int (i : Nat), .ref D] ∧ StreamAt H s a n ∧ n + 10 < 1000000 ∧
  H N = some (.lst (names.map V.str)) ∧ N ≠ s ∧ N ≠ a ∧ names.Nodup ∧ names.length ≤ 41 ∧ names[i]? = some nm ∧ (∀ x ∈ names, nameB x = true) ∧ QuAt H s a D R kvs ∧ RunOk names R ∧ R.length ≤ 400 ∧
  ∀ (m : Nat) (e : Ev) (v : V) (kvs' : List (List Key × V)) (H' : Hp), RunOk names (R ++ [(nm, e)]) → n ≤ m → m ≤ n + 10 → StreamAt H' s a m → Else3 s a D H H' → QuAt H' s a D (R ++ [(nm, e)]) kvs' → (∀ x y L, valV kvs' (chK x y) = some (.ref L) → valV kvs (chK x y) = some (.ref L) ∨ H L = none) → Dp K H' v e.data → Q v H'
theorem put_fr {H : Hp} {kvs : List (List Key × V)} {u v : Str} {W : Addr} (hW : H W = none) : ∀ x y L, valV (putK kvs (chK u v) (.ref W)) (chK x y) = some (.ref L) → valV kvs (chK x y) = some (.ref L) ∨ H L = none := fun x y L h => by
  rw [valV_put] at h
  split at h
  · injection h with h
    injection h with h
    subst h
    exact .inr hW
  · exact .inl h
theorem QuAt.else2 {H H' : Hp} {s a D : Addr} {R : RunL} {kvs : List (List Key × V)} (q : QuAt H s a D R kvs) (h1 : D ≠ s) (h2 : D ≠ a) (e : Else2 s a H H') : QuAt H' s a D R kvs := by
  refine ⟨e _ _ q.at_ h1 h2, q.few, fun x y => ?_⟩
  rcases q.val x y with h | ⟨L, g1, g2, g3, g4⟩
  · exact .inl h
  · exact .inr ⟨L, g1, e _ _ g2 g3 g4, g3, g4⟩
theorem QuAt.same {H H' : Hp} {s a D : Addr} {R : RunL} {kvs : List (List Key × V)} (q : QuAt H s a D R kvs) (e : Same H H') : QuAt H' s a D R kvs := by
  refine ⟨e _ _ q.at_, q.few, fun x y => ?_⟩
  rcases q.val x y with h | ⟨L, g1, g2, g3, g4⟩
  · exact .inl h
  · exact .inr ⟨L, g1, e _ _ g2, g3, g4⟩
theorem QuAt.skip {H : Hp} {s a D : Addr} {R : RunL} {kvs : List (List Key × V)} (q : QuAt H s a D R kvs) {x : Str × Ev} (hp : ∀ u v, pend (R ++ [x]) u v = pend R u v) : QuAt H s a D (R ++ [x]) kvs := by
  refine ⟨q.at_, Nat.le_trans q.few (by simp), fun u v => ?_⟩
  rw [hp]
  exact q.val u v
theorem QuAt.put {H : Hp} {s a D L : Addr} {R : RunL} {kvs : List (List Key × V)} (q : QuAt H s a D R kvs) {x : Str × Ev} {u v : Str} (hL : H L = some (.lst ((pend (R ++ [x]) u v).map V.int))) (h1 : L ≠ s) (h2 : L ≠ a) (hp : ∀ u' v', ¬ (u' = u ∧ v' = v) → pend (R ++ [x]) u' v' = pend R u' v') :
    QuAt (upd H D (.dT (putK kvs (chK u v) (.ref L)))) s a D (R ++ [x]) (putK kvs (chK u v) (.ref L)) := by
  have kp : ∀ b ys, H b = some (.lst ys) → upd H D (.dT (putK kvs (chK u v) (.ref L))) b = some (.lst ys) := fun b ys e => by
    rw [upd_ne (ne_of e q.at_ (by intro z; cases z))]
    exact e
  refine ⟨upd_same, ?_, fun u' v' => ?_⟩
  · have := length_putK kvs (chK u v) (V.ref L)
    have := q.few
    rw [List.length_append, List.length_singleton]
    omega
  · rw [valV_put]
    by_cases c : u' = u ∧ v' = v
    · obtain ⟨rfl, rfl⟩ := c
      rw [if_pos rfl]
      exact .inr ⟨L, rfl, kp _ _ hL, h1, h2⟩
    · rw [if_neg (fun z => c (chK_eq.mp z)), hp _ _ c]
      rcases q.val u' v' with h | ⟨M, g1, g2, g3, g4⟩
      · exact .inl h
      · exact .inr ⟨M, g1, kp _ _ g2, g3, g4⟩
/-- the list that is got, or a new empty one -/
theorem QuAt.got {H : Hp} {s a D O : Addr} {R : RunL} {kvs : List (List Key × V)} (q : QuAt H s a D R kvs) (u v : Str) (hO : H O = some (.lst [])) : ∃ L, (valV kvs (chK u v)).getD (.ref O) = .ref L ∧ H L = some (.lst ((pend R u v).map V.int)) := by
  rcases q.val u v with ⟨h1, h2⟩ | ⟨L, h1, h2, _⟩
  · exact ⟨O, by rw [h1]; rfl, by rw [h2]; exact hO⟩
  · exact ⟨L, by rw [h1]; rfl, h2⟩
theorem cut_one1 (x : V) (xs : List V) : cutV (x :: xs) (some 1) none = xs := by
  unfold cutV HT.sIx
  simp
theorem pair_inj {o p : Str} {u v : Int} (h : some (o, u) = some (p, v)) : o = p ∧ u = v := by
  simpa using h
theorem filter_succ {α : Type} (p : α → Bool) {l : List α} {j : Nat} {x : α} (h : l[j]? = some x) : (l.take (j + 1)).filter p = (l.take j).filter p ++ (if p x = true then [x] else []) := by
  rw [List.take_add_one, h, List.filter_append]
  cases hp : p x <;> simp [hp]
theorem othersL_cons (n m : Str) (ns : List Str) : othersL (m :: ns) n = if m = n then othersL ns n else m :: othersL ns n := by
  unfold othersL
  rw [List.filter_cons]
  by_cases c : m = n <;> simp [c]
theorem othersL_none {names : List Str} {n : Str} (h : n ∉ names) : othersL names n = names := List.filter_eq_self.mpr fun x hx => decide_eq_true fun z => h (by rw [← z]; exact hx)
theorem othersL_len {names : List Str} {n : Str} (hd : names.Nodup) (h : n ∈ names) : (othersL names n).length + 1 = names.length := by
  induction names with
  | nil => cases h
  | cons m ns ih =>
    rw [List.nodup_cons] at hd
    rw [othersL_cons]
    by_cases c : m = n
    · subst c
      rw [if_pos rfl, othersL_none hd.1]
      rfl
    · rw [if_neg c, List.length_cons, List.length_cons, ih hd.2 ((List.mem_cons.mp h).resolve_left fun z => c z.symm)]
section
variable {P : Program} {w : World} {K : PySem.W.Frag} {mg : Str → Option Value} {base : Heap}
abbrev leN : List Str := ["_law_stream", "_law_names", "_law_at", "_law_queues", "_law_name", "_law_way", "_law_value_here", "_law_variable", "_law_full", "_law_other", "_law_one"]
theorem scLE : FnScope leN ["_law_stream", "_law_names", "_law_at", "_law_queues"] (defScope sLEvent) := ⟨rfl, rfl, rfl, by decide +kernel, rfl, by decide +kernel, by decide +kernel⟩
theorem ok_levent {f fD fV : Addr} {fd fdD fdV : FuncData} (F : Fun K "_law_event" "_law_event" sLEvent f fd) (mlen : mg "len" = none) (CD : Cal P w K mg base 1 "_law_draw" fD fdD ["_law_stream", "_law_many"] spDraw) (CV : Cal P w K mg base 2 "_law_value" fV fdV ["_law_stream"] spValue) :
    FnOk P w K mg base CX0 3 f fd ["_law_stream", "_law_names", "_law_at", "_law_queues"] (spEvent K) := by
  refine F.ok scLE (fun vs H Q E h => ?_) (fun cdv A outer s H vs Q E hr h => ?_)
  · obtain ⟨_, _, _, _, _, _, _, _, _, _, rfl, _⟩ := h
    rfl
  · obtain ⟨st, a, N, D, n, i, names, nm, R, kvs, rfl, hS, hn, hN, nNs, nNa, hnd, hnl, hni, hnb, QA, RO, hRl, k⟩ := h
    have hu := hu_of hr
    have hun := Nat.lt_of_le_of_lt (Nat.le_add_right _ 64) hr.units
    have hr1 : Room 1 _ := hr.mono (by decide)
    refine ⟨_, (pss_cons (ps_set (i := 4) scLE.nd rfl (.inr rfl) (pe_ix ix_list (pv 1) (pv 2) (fun _ _ => rfl))) (pss_cons (ps_set (i := 5) scLE.nd rfl (.inl rfl) (pe_call CD.ok hr1 rfl CD.mg CD.kp CD.bi .nil pass0 (pa_cons (pv 0) (pa_cons pe_int pa_nil)))) (pss_cons (ps_set (i := 6) scLE.nd rfl (.inl rfl) (pe_call CV.ok hr rfl CV.mg CV.kp CV.bi .nil pass0 (pa_cons (pv 0) pa_nil))) (pss_cons (ps_set (i := 7) scLE.nd rfl (.inl rfl) (pe_ix ix_list (pe_lst (pa_cons pe_str (pa_cons pe_str pa_nil))) (pe_call CD.ok hr1 rfl CD.mg CD.kp CD.bi .nil pass0 (pa_cons (pv 0) (pa_cons pe_int pa_nil))) (fun _ _ => rfl))) (pss_cons (ps_setLc (i := 8) (own := [("_law_other", 9)]) (g := gName 9) (tt := tTest (tOp (rNeNil K) (tDGet2 (tVar 3) (tTup (tCons (tVar 9) (tCons (tVar 4) tNil))) (tLst tNil)) (tLst tNil))) (te := tVar 9) rfl scLE.nd rfl rfl (sw_true rfl rfl rfl (by decide +kernel)) (pi_list (pv 1)) (blkOk_by (own := [("_law_other", 9)]) (N := leN) (sc := defScope sLEvent) (by decide +kernel)) (fun _ _ _ _ _ => (pg_name (i := 9) scLE.nd rfl (Or.inl rfl))) (fun _ _ _ _ _ => pts_one (pt_cmpR (op_neNil (by exact hun)) (pe_dget2 hu (pv 3) (pe_tup (pa_cons (pv 9) (pa_cons (pv 4) pa_nil))) (pe_lst pa_nil) ⟨rfl, rfl, rfl, rfl⟩) (pe_lst pa_nil) (nomark _))) (fun _ _ _ _ _ => (pv 9))) (C8.pss_cut (ps_if (PW.pt (pw_and (pt_cmpR op_lt (pv 5) pe_int (nomark _)) (pw_and1 (pt_cmpR op_gt (pe_callB call_len_seq (by rfl) mlen PySem.boot_len (pa_cons (pv 1) pa_nil)) pe_int (nomark _))))) (pss_cons (ps_set (i := 9) scLE.nd rfl (.inl rfl) (pe_ix ix_list (pe_lc (own := [("_law_one", 10)]) (g := gName 10) (tt := tTest (tOp rNe (tVar 10) (tVar 4))) (te := tVar 10) rfl scLE.nd (pi_list (pv 1)) (blkOk_by (own := [("_law_one", 10)]) (N := leN) (sc := defScope sLEvent) (by decide +kernel)) (fun _ _ _ _ _ => (pg_name (i := 10) scLE.nd rfl (Or.inl rfl))) (fun _ _ _ _ _ => pts_one (pt_cmpR op_ne (pv 10) (pv 4) (nomark _))) (fun _ _ _ _ _ => (pv 10))) (pe_call CD.ok hr1 rfl CD.mg CD.kp CD.bi .nil pass0 (pa_cons (pv 0) (pa_cons (pe_op op_sub (pe_callB call_len_seq (by rfl) mlen PySem.boot_len (pa_cons (pv 1) pa_nil)) pe_int) pa_nil))) (fun _ _ => rfl))) (pss_cons (ps_dput hu (pv 3) (pe_tup (pa_cons (pv 4) (pa_cons (pv 9) pa_nil))) (pe_op op_cat (pe_dget2 hu (pv 3) (pe_tup (pa_cons (pv 4) (pa_cons (pv 9) pa_nil))) (pe_lst pa_nil) ⟨rfl, rfl, rfl, rfl⟩) (pe_lst (pa_cons (pv 6) pa_nil))) rfl) (pss_one (ps_ret (pe_tup (pa_cons pe_str (pa_cons (pv 9) (pa_cons (pv 6) pa_nil)))))))) pss_nil) (C8.pss_cut (ps_if (PW.pt (pw_and (pt_cmpR op_lt (pv 5) pe_int (nomark _)) (pw_and1 (pt_cmpR (op_neNil hun) (pv 8) (pe_lst pa_nil) (nomark _))))) (pss_cons (ps_set (i := 9) scLE.nd rfl (.inl rfl) (pe_ix ix_list (pv 8) (pe_call CD.ok hr1 rfl CD.mg CD.kp CD.bi .nil pass0 (pa_cons (pv 0) (pa_cons (pe_callB call_len_seq (by rfl) mlen PySem.boot_len (pa_cons (pv 8) pa_nil)) pa_nil))) (fun _ _ => rfl))) (pss_cons (ps_set (i := 6) scLE.nd rfl (.inl rfl) (pe_ix ix_list (pe_dget hu (pv 3) (pe_tup (pa_cons (pv 9) (pa_cons (pv 4) pa_nil))) (fun _ _ => rfl)) pe_int (fun _ _ => rfl))) (pss_cons (ps_dput hu (pv 3) (pe_tup (pa_cons (pv 9) (pa_cons (pv 4) pa_nil))) (pe_slice sl_list (pe_dget hu (pv 3) (pe_tup (pa_cons (pv 9) (pa_cons (pv 4) pa_nil))) (fun _ _ => rfl)) (po_some pe_int) po_none) rfl) (pss_one (ps_ret (pe_tup (pa_cons (pe_ix ix_list (pe_lst (pa_cons pe_str (pa_cons pe_str pa_nil))) (pe_call CD.ok hr1 rfl CD.mg CD.kp CD.bi .nil pass0 (pa_cons (pv 0) (pa_cons pe_int pa_nil))) (fun _ _ => rfl)) (pa_cons (pv 9) (pa_cons (pv 7) (pa_cons (pv 6) pa_nil)))))))))) pss_nil) (pss_cons (ps_if (pt_cmpR op_eq (pv 5) pe_int (nomark _)) (pss_one (ps_ret (pe_tup (pa_cons pe_str pa_nil)))) pss_nil) (pss_one (ps_ret (pe_tup (pa_cons (pe_ix ix_list (pe_lst (pa_cons pe_str (pa_cons pe_str pa_nil))) (pe_call CD.ok hr1 rfl CD.mg CD.kp CD.bi .nil pass0 (pa_cons (pv 0) (pa_cons pe_int pa_nil))) (fun _ _ => rfl)) (pa_cons (pv 7) (pa_cons (pv 6) pa_nil)))))))))))))), ?_⟩
    have hDs : D ≠ st := by
      obtain ⟨_, _, _, h1, _⟩ := hS
      exact ne_of QA.at_ h1 (by intro z; cases z)
    have hDa : D ≠ a := by
      obtain ⟨_, _, _, _, h1, _⟩ := hS
      exact ne_of QA.at_ h1 (by intro z; cases z)
    have hnm : nm ∈ names := List.mem_of_getElem? hni
    refine ⟨_, rfl, _, rfl, N, _, (i : Nat), .str nm, rfl, rfl, SqL.of hN, atI_nat (by rw [List.getElem?_map, hni]; rfl), ?_⟩
    refine ⟨_, rfl, st, a, n, 8, rfl, by decide, by decide, hS, by omega, fun w1 H1 w10 w11 S1 el1 => ?_⟩
    refine ⟨_, rfl, st, a, n + 1, rfl, S1, by omega, fun v H2 hv mv => ?_⟩
    obtain ⟨m2, m20, m21, S2, el2⟩ := mv
    have el12 := el1.trans el2
    have hmB1 : n ≤ m2 + 1 + 1 + 1 := by omega
    have hmB2 : m2 + 1 + 1 + 1 ≤ n + 10 := by omega
    refine ⟨by show 2 ≤ sizeLine; decide, fun L nL => ?_⟩
    have nLs : L ≠ st := fun z => S2.tr.1 (by rw [← z]; exact nL)
    have nLa : L ≠ a := fun z => S2.tr.2 (by rw [← z]; exact nL)
    refine ⟨_, rfl, st, a, m2, 2, rfl, by decide, by decide, S2.same (same_new nL), by omega, fun w2 H3 w20 w21 S3 el3 => ?_⟩
    have hL3 := el3 _ _ upd_same nLs nLa
    obtain ⟨j2, xv, hj2, hxv, hm2, rfl⟩ := at_drawn (xs := [V.str "x", .str "y"]) w20 (by show w2 < 2; omega)
    obtain ⟨x, rfl, hx⟩ : ∃ x, xv = .str x ∧ nameB x = true := by
      simp only [List.mem_cons, List.not_mem_nil, or_false] at hm2
      rcases hm2 with h | h
      · exact ⟨_, h, by decide +kernel⟩
      · exact ⟨_, h, by decide +kernel⟩
    have e3 : Else2 st a H H3 := (el12.trans (else_new nL)).trans el3
    refine ⟨L, _, (j2 : Nat), .str x, rfl, rfl, SqL.of hL3, hxv, ?_⟩
    clear el3 hL3 hm2 hxv hj2 nLs nLa nL el2 el12 S2 el1 S1
    have Q3 := QA.else2 hDs hDa e3
    have hN3 := e3 _ _ hN nNs nNa
    refine ⟨_, rfl, N, rfl, ⟨_, SqL.of hN3⟩, fun Fl nF => ?_⟩
    refine lc_list (K := K) (a := N) (xs := names.map V.str) (fun j Hy => Same H3 Hy ∧ Hy Fl = some (.lst (((names.take j).filter fun o => !(pend R o nm).isEmpty).map V.str))) ⟨same_new nF, upd_same⟩ (fun j Hy _ q => SqL.of (q.1 _ _ hN3)) ?_ ?_
    · rintro j z Hy hz ⟨sy, hF⟩
      obtain ⟨o, ho, rfl⟩ := mapS_get hz
      have Qy := Q3.same sy
      refine ⟨rfl, _, rfl, D, rfl, .inr ⟨_, .inl Qy.at_⟩, _, rfl, _, rfl, (by show 2 ≤ sizeLine; decide), fun U nU => ⟨(by show 0 ≤ sizeLine; decide), fun O nO => ?_⟩⟩
      have sU := same_new (o := .tup [.str o, .str nm]) nU
      have hU0 : upd Hy U (.tup [.str o, .str nm]) U = some (.tup ((chK o nm).map kV)) := upd_same
      have sO := same_new (o := .lst []) nO
      have hO0 := upd_same (H := upd Hy U (.tup [.str o, .str nm])) (a := O) (o := .lst [])
      have hU1 := sO _ _ hU0
      have sUO := sU.trans sO
      generalize upd (upd Hy U (.tup [.str o, .str nm])) O (.lst []) = Hz at hO0 hU1 sUO ⊢
      have Qz := Qy.same sUO
      obtain ⟨Lq, hLq, hLq2⟩ := Qz.got o nm hO0
      refine ⟨_, DGet.t Qz.at_ hU1, ?_⟩
      rw [hLq]
      refine ⟨(by show 0 ≤ sizeLine; decide), fun O2 nO2 => ⟨Lq, O2, _, rfl, rfl, SqL.of (same_new nO2 _ _ hLq2), SqL.of upd_same, _, rfl, ?_⟩⟩
      have sA := (sy.trans sUO).trans (same_new (o := .lst []) nO2)
      have hFA := same_new (o := .lst []) nO2 _ _ (sUO _ _ hF)
      generalize upd Hz O2 (.lst []) = Hw at sA hFA ⊢
      have e4 : (names.take (j + 1)).filter (fun o => !(pend R o nm).isEmpty) = (names.take j).filter (fun o => !(pend R o nm).isEmpty) ++ (if (!(pend R o nm).isEmpty) = true then [o] else []) := filter_succ _ ho
      have hfl : ((names.take j).filter fun o => !(pend R o nm).isEmpty).length ≤ 41 := by
        have := List.length_filter_le (fun o => !(pend R o nm).isEmpty) (names.take j)
        rw [List.length_take] at this
        omega
      have e5 : (!((pend R o nm).map V.int).isEmpty) = !(pend R o nm).isEmpty := by rw [List.isEmpty_map]
      rw [e5, e4]
      cases hpe : (!(pend R o nm).isEmpty) with
      | false =>
        refine iteFc rfl ⟨sA, ?_⟩
        rw [if_neg (by decide), List.append_nil]
        exact hFA
      | true =>
        refine iteTc rfl ⟨_, rfl, _, hFA, ?_, same_upd sA nF, ?_⟩
        · rw [List.length_map]
          exact fitR (by omega)
        · rw [upd_same, if_pos rfl, List.map_append]
          rfl
    rintro H4 ⟨s4, hF⟩
    rw [List.length_map, List.take_length] at hF
    have Q4 := Q3.same s4
    have S4 := S3.same s4
    have hN4 := s4 _ _ hN3
    have e4 : Else2 st a H H4 := e3.trans (.of_same s4)
    have nFs : Fl ≠ st := fun z => S3.tr.1 (by rw [← z]; exact nF)
    have nFa : Fl ≠ a := fun z => S3.tr.2 (by rw [← z]; exact nF)
    clear s4 nF S3 hN3 Q3 e3
    have fin : ∀ (e : Ev) (v' : V) (kvs' : List (List Key × V)) (H' : Hp) (m : Nat), e.ok (othersL names nm) = true → (∀ p u, e.recvOf = some (p, u) → (sentV R p nm)[recvV R p nm]? = some u) → n ≤ m → m ≤ n + 10 → StreamAt H' st a m → Else3 st a D H H' → QuAt H' st a D (R ++ [(nm, e)]) kvs' → (∀ x y L, valV kvs' (chK x y) = some (.ref L) → valV kvs (chK x y) = some (.ref L) ∨ H L = none) → Dp K H' v' e.data → Q v' H' := fun e v' kvs' H' m h1 h2 h3 h4 h5 h6 h7 hfr h8 => k m e v' kvs' H' (.snoc RO hnm h1 h2) h3 h4 h5 h6 h7 hfr h8
    have hnl2 := hnl
    refine ⟨fun σ Hx => ∃ x9 x10 : Option V, σ = [some (.ref st), some (.ref N), some (.int (i : Nat)), some (.ref D), some (.str nm), some (.int w1), some (.int v), some (.str x), some (.ref Fl), x9, x10] ∧ Hx = H4, ?_, ?_⟩
    · refine ⟨_, rfl, _, _, rfl, rfl, _, rfl, ite2 (fun _ => ?_) (fun _ => iteFc rfl ⟨_, _, rfl, rfl⟩)⟩
      refine ⟨_, rfl, N, _, rfl, .inl (SqL.of hN4), _, _, rfl, rfl, _, rfl, ?_⟩
      rw [List.length_map]
      by_cases hl1 : 1 < names.length
      · refine iteTc (decide_eq_true (by omega)) ?_
        refine ⟨_, rfl, N, rfl, ⟨_, SqL.of hN4⟩, fun Gl nG => ?_⟩
        refine lc_list (K := K) (a := N) (xs := names.map V.str) (fun j Hy => Same H4 Hy ∧ Hy Gl = some (.lst ((othersL (names.take j) nm).map V.str))) ⟨same_new nG, upd_same⟩ (fun j Hy _ q => SqL.of (q.1 _ _ hN4)) ?_ ?_
        · rintro j z Hy hz ⟨sy, hG⟩
          obtain ⟨o, ho, rfl⟩ := mapS_get hz
          refine ⟨rfl, _, rfl, _, rfl, rfl, _, rfl, ?_⟩
          have e1 : (!decide (V.str o = V.str nm)) = decide (o ≠ nm) := by
            by_cases h : o = nm
            · subst h; simp
            · have : V.str o ≠ V.str nm := fun z => h (by injection z)
              simp [this, h]
          have e2 : othersL (names.take (j + 1)) nm = othersL (names.take j) nm ++ (if decide (o ≠ nm) = true then [o] else []) := filter_succ (fun o => decide (o ≠ nm)) ho
          have hlo : (othersL (names.take j) nm).length ≤ 41 := by
            have := List.length_filter_le (fun o => decide (o ≠ nm)) (names.take j)
            rw [List.length_take] at this
            show (List.filter _ _).length ≤ 41
            omega
          rw [e1, e2]
          cases hdo : decide (o ≠ nm) with
          | false =>
            refine iteFc rfl ⟨sy, ?_⟩
            rw [if_neg (by decide), List.append_nil]
            exact hG
          | true =>
            refine iteTc rfl ⟨_, rfl, _, hG, ?_, same_upd sy nG, ?_⟩
            · rw [List.length_map]
              exact fitR (by omega)
            · rw [upd_same, if_pos rfl, List.map_append]
              rfl
        rintro H5 ⟨s5, hG⟩
        rw [List.length_map, List.take_length] at hG
        have S5 := S4.same s5
        have Q5 := Q4.same s5
        have nGs : Gl ≠ st := fun z => S4.tr.1 (by rw [← z]; exact nG)
        have nGa : Gl ≠ a := fun z => S4.tr.2 (by rw [← z]; exact nG)
        have hol := othersL_len hnd hnm
        refine ⟨_, rfl, _, rfl, N, _, rfl, .inl (SqL.of (s5 _ _ hN4)), _, _, rfl, rfl, ?_⟩
        rw [List.length_map]
        refine ⟨st, a, _, (names.length : Int) - 1, rfl, by omega, by omega, S5, by omega, fun w3 H6 w30 w31 S6 el6 => ?_⟩
        obtain ⟨j3, ov, hj3, hov, _, rfl⟩ := at_drawn (xs := (othersL names nm).map V.str) w30 (by rw [List.length_map]; omega)
        obtain ⟨o, ho, rfl⟩ := mapS_get hj3
        have hom := List.mem_of_getElem? ho
        have e6 := (e4.trans (.of_same s5)).trans el6
        refine ⟨Gl, _, (j3 : Nat), .str o, rfl, rfl, SqL.of (el6 _ _ hG nGs nGa), hov, ?_⟩
        have Q6 := Q5.else2 hDs hDa el6
        clear Q5 S5 hG el6 hov hj3 Q4 S4 hN4 e4 s5
        refine ⟨_, rfl, D, rfl, .inr ⟨_, .inl Q6.at_⟩, _, rfl, _, rfl, (by show 2 ≤ sizeLine; decide), fun U nU => ⟨(by show 0 ≤ sizeLine; decide), fun O nO => ?_⟩⟩
        have hU0 : upd H6 U (.tup [.str nm, .str o]) U = some (.tup ((chK nm o).map kV)) := upd_same
        have sUO := (same_new (o := .tup [.str nm, .str o]) nU).trans (same_new (o := .lst []) nO)
        have hU1 := same_new (o := .lst []) nO _ _ hU0
        have hO0 := upd_same (H := upd H6 U (.tup [.str nm, .str o])) (a := O) (o := .lst [])
        generalize upd (upd H6 U (.tup [.str nm, .str o])) O (.lst []) = H7 at hO0 hU1 sUO ⊢
        have Q7 := Q6.same sUO
        have S7 := S6.same sUO
        have e7 := e6.trans (.of_same sUO)
        obtain ⟨Lq, hLq, hLq2⟩ := Q7.got nm o hO0
        refine ⟨_, DGet.t Q7.at_ hU1, ?_⟩
        rw [hLq]
        refine ⟨_, rfl, (by show 1 ≤ sizeLine; decide), fun V1 nV1 => ?_⟩
        have s8 := same_new (o := .lst [.int v]) nV1
        have hpl : (pend R nm o).length ≤ 400 := by
          unfold pend
          rw [List.length_drop]
          have : (sentV R nm o).length ≤ R.length := List.length_filterMap_le ..
          omega
        refine ⟨Lq, V1, _, _, rfl, rfl, s8 _ _ hLq2, upd_same, ?_, fun W nW => ?_⟩
        · rw [List.length_map, List.length_singleton]
          exact Nat.le_of_lt (fitR (by omega))
        have s9 := s8.trans (same_new (o := .lst ((pend R nm o).map V.int ++ [.int v])) nW)
        have hW := upd_same (H := upd H7 V1 (.lst [.int v])) (a := W) (o := .lst ((pend R nm o).map V.int ++ [.int v]))
        have nWs : W ≠ st := fun z => (S7.same s8).tr.1 (by rw [← z]; exact nW)
        have nWa : W ≠ a := fun z => (S7.same s8).tr.2 (by rw [← z]; exact nW)
        have hWH : H W = none := (S7.live e7).none (s8.free nW)
        generalize upd (upd H7 V1 (.lst [.int v])) W (.lst ((pend R nm o).map V.int ++ [.int v])) = H8 at s9 hW ⊢
        have Q8 := Q7.same s9
        have S8 := S7.same s9
        have e8 := e7.trans (.of_same s9)
        refine ⟨_, rfl, _, rfl, _, rfl, (by show 2 ≤ sizeLine; decide), fun U2 nU2 => ?_⟩
        have s10 := same_new (o := .tup [.str nm, .str o]) nU2
        have hU2 : upd H8 U2 (.tup [.str nm, .str o]) U2 = some (.tup ((chK nm o).map kV)) := upd_same
        generalize upd H8 U2 (.tup [.str nm, .str o]) = H9 at s10 hU2 ⊢
        have Q9 := Q8.same s10
        have S9 := S8.same s10
        have e9 := e8.trans (.of_same s10)
        have hpe : pend (R ++ [(nm, Ev.send o v)]) nm o = pend R nm o ++ [v] := by rw [pend_send RO, if_pos ⟨rfl, rfl⟩]
        have QA' := Q9.put (x := (nm, .send o v)) (u := nm) (v := o) (L := W) (by rw [hpe, List.map_append]; exact s10 _ _ hW) nWs nWa fun u' v' hn => by rw [pend_send RO, if_neg hn]
        refine ⟨D, _, rfl, DPut.t Q9.at_ hU2 (fitR (Nat.le_trans Q9.few (by omega))), ?_⟩
        have SA' := S9.upd (b := D) (o := .dT (putK kvs (chK nm o) (.ref W))) hDs hDa
        have eA' : Else3 st a D H (upd H9 D (.dT (putK kvs (chK nm o) (.ref W)))) := fun b o h n1 n2 n3 => by rw [upd_ne n3]; exact e9 _ _ h n1 n2
        generalize upd H9 D (.dT (putK kvs (chK nm o) (.ref W))) = HA at QA' SA' eA' ⊢
        refine ⟨_, rfl, _, rfl, (by show 3 ≤ sizeLine; decide), fun T nT => ?_⟩
        have sT := same_new (o := .tup [.str "send", .str o, .int v]) nT
        refine fin (.send o v) _ _ _ _ ?_ (fun p u h => nomatch h) ?_ ?_ (SA'.same sT) (fun b o h n1 n2 n3 => sT _ _ (eA' _ _ h n1 n2 n3)) (QA'.same sT) (put_fr hWH) (.tup (SqT.of upd_same) (.cons (.str _) (.cons (.str _) (.cons (.int _) .nil))))
        · show (decide (o ∈ othersL names nm) && valB v) = true
          rw [decide_eq_true hom, hv]
          rfl
        · omega
        · omega
      · exact iteFc (decide_eq_false (by omega)) ⟨_, _, rfl, rfl⟩
    rintro σ Hx ⟨x9, x10, rfl, rfl⟩
    refine ⟨fun σ Hy => ∃ (x6 x9 x10 : Option V), σ = [some (.ref st), some (.ref N), some (.int (i : Nat)), some (.ref D), some (.str nm), some (.int w1), some (.int v), some (.str x), some (.ref Fl), x9, x10] ∧ Same Hx Hy, ?_, ?_⟩
    · refine ⟨_, rfl, _, _, rfl, rfl, _, rfl, ite2 (fun _ => ?_) (fun _ => iteFc rfl ⟨none, _, _, rfl, .refl _⟩)⟩
      refine ⟨_, rfl, (by show 0 ≤ sizeLine; decide), fun O1 nO1 => ⟨Fl, O1, _, rfl, rfl, SqL.of (same_new nO1 _ _ hF), SqL.of upd_same, _, rfl, ?_⟩⟩
      have s5 := same_new (o := .lst []) nO1
      generalize upd Hx O1 (.lst []) = H5 at s5 ⊢
      have hF5 := s5 _ _ hF
      rw [List.isEmpty_map]
      generalize hfl : (names.filter fun o => !(pend R o nm).isEmpty) = fl at hF hF5
      cases hemp : fl.isEmpty with
      | true => exact iteFc rfl ⟨none, _, _, rfl, s5⟩
      | false =>
        refine iteTc rfl ?_
        have hflen : 0 < fl.length := by
          cases fl with
          | nil => cases hemp
          | cons => exact Nat.succ_pos _
        have hfl40 : fl.length ≤ 41 := by
          have := List.length_filter_le (fun o => !(pend R o nm).isEmpty) names
          rw [hfl] at this
          omega
        have S5 := S4.same s5
        have Q5 := Q4.same s5
        have e5 := e4.trans (.of_same s5)
        refine ⟨_, rfl, _, rfl, _, rfl, Fl, _, rfl, .inl (SqL.of hF5), ?_⟩
        rw [List.length_map]
        refine ⟨st, a, _, (fl.length : Int), rfl, by omega, by omega, S5, by omega, fun w3 H6 w30 w31 S6 el6 => ?_⟩
        obtain ⟨j3, ov, hj3, hov, _, rfl⟩ := at_drawn (xs := fl.map V.str) w30 (by rw [List.length_map]; omega)
        obtain ⟨o, ho, rfl⟩ := mapS_get hj3
        have hom : o ∈ names ∧ (!(pend R o nm).isEmpty) = true := by
          have := List.mem_of_getElem? ho
          rw [← hfl] at this
          exact List.mem_filter.mp this
        have e6 := e5.trans el6
        refine ⟨Fl, _, (j3 : Nat), .str o, rfl, rfl, SqL.of (el6 _ _ hF5 nFs nFa), hov, ?_⟩
        have Q6 := Q5.else2 hDs hDa el6
        clear Q5 S5 el6 hov hj3
        obtain ⟨u, tl, hpu⟩ : ∃ u tl, pend R o nm = u :: tl := by
          cases hp : pend R o nm with
          | nil => rw [hp] at hom; cases hom.2
          | cons u tl => exact ⟨u, tl, rfl⟩
        have hrv := pend_head hpu
        have hQo : ∀ {Hz : Hp}, QuAt Hz st a D R kvs → ∃ L, valV kvs (chK o nm) = some (.ref L) ∧ Hz L = some (.lst ((u :: tl).map V.int)) := fun q => by
          rcases q.val o nm with ⟨_, h⟩ | ⟨L, g1, g2, _⟩
          · rw [hpu] at h; cases h
          · exact ⟨L, g1, by rw [← hpu]; exact g2⟩
        refine ⟨_, rfl, _, rfl, _, rfl, (by show 2 ≤ sizeLine; decide), fun U nU => ?_⟩
        have sU := same_new (o := .tup [.str o, .str nm]) nU
        have hU : upd H6 U (.tup [.str o, .str nm]) U = some (.tup ((chK o nm).map kV)) := upd_same
        generalize upd H6 U (.tup [.str o, .str nm]) = H7 at sU hU ⊢
        have Q7 := Q6.same sU
        obtain ⟨Lq, hLq, hLq2⟩ := hQo Q7
        refine ⟨D, .ref Lq, rfl, by have := DGet.t Q7.at_ hU; rw [hLq] at this; exact this, Lq, _, 0, .int u, rfl, rfl, SqL.of hLq2, atI_nat (j := 0) rfl, ?_⟩
        refine ⟨_, rfl, _, rfl, _, rfl, (by show 2 ≤ sizeLine; decide), fun U2 nU2 => ?_⟩
        have sU2 := same_new (o := .tup [.str o, .str nm]) nU2
        have hU2 : upd H7 U2 (.tup [.str o, .str nm]) U2 = some (.tup ((chK o nm).map kV)) := upd_same
        generalize upd H7 U2 (.tup [.str o, .str nm]) = H8 at sU2 hU2 ⊢
        have Q8 := Q7.same sU2
        have hLq8 := sU2 _ _ hLq2
        have S8 := (S6.same sU).same sU2
        have e8 := (e6.trans (.of_same sU)).trans (.of_same sU2)
        refine ⟨D, .ref Lq, rfl, by have := DGet.t Q8.at_ hU2; rw [hLq] at this; exact this, _, rfl, Lq, _, rfl, SqL.of hLq8, fun W nW => ?_⟩
        rw [show ((u :: tl).map V.int) = V.int u :: tl.map V.int from rfl, cut_one1]
        have s9 := same_new (o := .lst (tl.map V.int)) nW
        have hW := upd_same (H := H8) (a := W) (o := .lst (tl.map V.int))
        have nWs : W ≠ st := fun z => S8.tr.1 (by rw [← z]; exact nW)
        have nWa : W ≠ a := fun z => S8.tr.2 (by rw [← z]; exact nW)
        have hWH : H W = none := (S8.live e8).none nW
        generalize upd H8 W (.lst (tl.map V.int)) = H9 at s9 hW ⊢
        refine ⟨_, rfl, _, rfl, _, rfl, (by show 2 ≤ sizeLine; decide), fun U3 nU3 => ?_⟩
        have s10 := s9.trans (same_new (o := .tup [.str o, .str nm]) nU3)
        have hU3 : upd H9 U3 (.tup [.str o, .str nm]) U3 = some (.tup ((chK o nm).map kV)) := upd_same
        have hW10 := same_new (o := .tup [.str o, .str nm]) nU3 _ _ hW
        generalize upd H9 U3 (.tup [.str o, .str nm]) = H10 at s10 hU3 hW10 ⊢
        have Q10 := Q8.same s10
        have S10 := S8.same s10
        have e10 := e8.trans (.of_same s10)
        have hpe : ∀ e : Ev, e.recvOf = some (o, u) → pend (R ++ [(nm, e)]) o nm = tl := fun e he => by
          rw [pend_recv he (recv_send he), if_pos ⟨rfl, rfl⟩, hpu]
          rfl
        have QA' : ∀ e : Ev, e.recvOf = some (o, u) → QuAt (upd H10 D (.dT (putK kvs (chK o nm) (.ref W)))) st a D (R ++ [(nm, e)]) (putK kvs (chK o nm) (.ref W)) := fun e he => Q10.put (x := (nm, e)) (u := o) (v := nm) (L := W) (by rw [hpe e he]; exact hW10) nWs nWa fun u' v' hn => by rw [pend_recv he (recv_send he), if_neg hn]
        refine ⟨D, _, rfl, DPut.t Q10.at_ hU3 (fitR (Nat.le_trans Q10.few (by omega))), ?_⟩
        have SA' := S10.upd (b := D) (o := .dT (putK kvs (chK o nm) (.ref W))) hDs hDa
        have eA' : Else3 st a D H (upd H10 D (.dT (putK kvs (chK o nm) (.ref W)))) := fun b o h n1 n2 n3 => by rw [upd_ne n3]; exact e10 _ _ h n1 n2
        generalize upd H10 D (.dT (putK kvs (chK o nm) (.ref W))) = HA at QA' SA' eA' ⊢
        refine ⟨(by show 2 ≤ sizeLine; decide), fun V2 nV2 => ?_⟩
        have nVs : V2 ≠ st := fun z => SA'.tr.1 (by rw [← z]; exact nV2)
        have nVa : V2 ≠ a := fun z => SA'.tr.2 (by rw [← z]; exact nV2)
        refine ⟨_, rfl, st, a, _, 2, rfl, by decide, by decide, SA'.same (same_new nV2), by omega, fun w4 HB w40 w41 SB elB => ?_⟩
        have hV2 := elB _ _ upd_same nVs nVa
        obtain ⟨j4, wv, hj4, hwv, hm4, rfl⟩ := at_drawn (xs := [V.str "receive", .str "take"]) w40 (by show w4 < 2; omega)
        refine ⟨V2, _, (j4 : Nat), wv, rfl, rfl, SqL.of hV2, hwv, ?_⟩
        have eB := (else_new (s := st) (a := a) (o := .lst [V.str "receive", .str "take"]) nV2).trans elB
        have eBf : Else3 st a D H HB := fun b o h n1 n2 n3 => eB _ _ (eA' _ _ h n1 n2 n3) n1 n2
        have QB : ∀ e : Ev, e.recvOf = some (o, u) → QuAt HB st a D (R ++ [(nm, e)]) _ := fun e he => (QA' e he).else2 hDs hDa eB
        refine ⟨_, rfl, _, rfl, _, rfl, (by show 4 ≤ sizeLine; decide), fun T nT => ?_⟩
        have okr : (decide (o ∈ othersL names nm) && nameB x && valB u) = true := by
          have h1 : o ∈ othersL names nm := List.mem_filter.mpr ⟨hom.1, decide_eq_true fun z => ?_⟩
          · have h2 := RO.vals hrv
            rw [decide_eq_true h1, hx, h2]
            rfl
          · subst z
            exact RO.self hrv
        simp only [List.mem_cons, List.not_mem_nil, or_false] at hm4
        rcases hm4 with rfl | rfl
        · have sT := same_new (o := .tup [.str "receive", .str o, .str x, .int u]) nT
          refine fin (.recv o x u) _ _ _ _ okr (fun p v h => ?_) ?_ ?_ (SB.same sT) (fun b o h n1 n2 n3 => sT _ _ (eBf _ _ h n1 n2 n3)) ((QB _ rfl).same sT) (put_fr hWH) (.tup (SqT.of upd_same) (.cons (.str _) (.cons (.str _) (.cons (.str _) (.cons (.int _) .nil)))))
          · obtain ⟨rfl, rfl⟩ := pair_inj (show some (o, u) = some (p, v) from h)
            exact hrv
          · exact hmB1
          · exact hmB2
        · have sT := same_new (o := .tup [.str "take", .str o, .str x, .int u]) nT
          refine fin (.take o x u) _ _ _ _ okr (fun p v h => ?_) ?_ ?_ (SB.same sT) (fun b o h n1 n2 n3 => sT _ _ (eBf _ _ h n1 n2 n3)) ((QB _ rfl).same sT) (put_fr hWH) (.tup (SqT.of upd_same) (.cons (.str _) (.cons (.str _) (.cons (.str _) (.cons (.int _) .nil)))))
          · obtain ⟨rfl, rfl⟩ := pair_inj (show some (o, u) = some (p, v) from h)
            exact hrv
          · exact hmB1
          · exact hmB2
    rintro σ Hy ⟨_, x9, x10, rfl, s5⟩
    have S5 := S4.same s5
    have Q5 := Q4.same s5
    have e5 := e4.trans (.of_same s5)
    refine ⟨_, rfl, rfl, _, rfl, ite2 (fun _ => ?_) (fun _ => ?_)⟩
    · refine ⟨(by show 1 ≤ sizeLine; decide), fun T nT => ?_⟩
      have sT := same_new (o := .tup [.str "checkpoint"]) nT
      exact fin .chk _ _ _ _ rfl (fun p v h => nomatch h) (by omega) (by omega) (S5.same sT) (fun b o h n1 n2 _ => sT _ _ (e5 _ _ h n1 n2)) ((Q5.same sT).skip (pend_else rfl rfl)) (fun _ _ _ h => .inl h) (.tup (SqT.of upd_same) (.cons (.str _) .nil))
    · refine ⟨(by show 2 ≤ sizeLine; decide), fun V2 nV2 => ?_⟩
      have nVs : V2 ≠ st := fun z => S5.tr.1 (by rw [← z]; exact nV2)
      have nVa : V2 ≠ a := fun z => S5.tr.2 (by rw [← z]; exact nV2)
      refine ⟨_, rfl, st, a, _, 2, rfl, by decide, by decide, S5.same (same_new nV2), by omega, fun w4 HB w40 w41 SB elB => ?_⟩
      have hV2 := elB _ _ upd_same nVs nVa
      obtain ⟨j4, wv, hj4, hwv, hm4, rfl⟩ := at_drawn (xs := [V.str "set", .str "input"]) w40 (by show w4 < 2; omega)
      refine ⟨V2, _, (j4 : Nat), wv, rfl, rfl, SqL.of hV2, hwv, ?_⟩
      have eB := (e5.trans (else_new (s := st) (a := a) (o := .lst [V.str "set", .str "input"]) nV2)).trans elB
      have QB := (Q5.same (same_new nV2)).else2 hDs hDa elB
      refine ⟨_, rfl, _, rfl, (by show 3 ≤ sizeLine; decide), fun T nT => ?_⟩
      have okr : (nameB x && valB v) = true := by rw [hx, hv]; rfl
      simp only [List.mem_cons, List.not_mem_nil, or_false] at hm4
      rcases hm4 with rfl | rfl
      · have sT := same_new (o := .tup [.str "set", .str x, .int v]) nT
        exact fin (.set x v) _ _ _ _ okr (fun p v h => nomatch h) (by omega) (by omega) (SB.same sT) (fun b o h n1 n2 _ => sT _ _ (eB _ _ h n1 n2)) ((QB.same sT).skip (pend_else rfl rfl)) (fun _ _ _ h => .inl h) (.tup (SqT.of upd_same) (.cons (.str _) (.cons (.str _) (.cons (.int _) .nil))))
      · have sT := same_new (o := .tup [.str "input", .str x, .int v]) nT
        exact fin (.inp x v) _ _ _ _ okr (fun p v h => nomatch h) (by omega) (by omega) (SB.same sT) (fun b o h n1 n2 _ => sT _ _ (eB _ _ h n1 n2)) ((QB.same sT).skip (pend_else rfl rfl)) (fun _ _ _ h => .inl h) (.tup (SqT.of upd_same) (.cons (.str _) (.cons (.str _) (.cons (.int _) .nil))))
end
end XE
set_option Elab.async false
set_option linter.all false
set_option maxRecDepth 100000
set_option maxHeartbeats 1000000
/-! XS3: drawn rows -/
namespace XE
open PySem PySem.Spec PyProof.Rows L2 RZ Rx SX Rc
abbrev sLRows : Stmt := topS 38
/-- the rows under way: at L a list of tuples of a name and a list -/
structure RwAt (K : PySem.W.Frag) (H0 H : Hp) (L : Addr) (names : List Str) (R : RunL) (ts ls : List Addr) : Prop where
  at_ : H L = some (.lst (ts.map V.ref))
  tl : ts.length = names.length
  ll : ls.length = names.length
  nd : ls.Nodup
  new : ∀ l ∈ ls, H0 l = none ∧ l ≠ L
  row : ∀ (i : Nat) (nm : Str), names[i]? = some nm → ∃ t l vs, ts[i]? = some t ∧ ls[i]? = some l ∧ H t = some (.tup [.str nm, .ref l]) ∧ H l = some (.lst vs) ∧ DpAll K H vs ((ofP R nm).map Ev.data)
theorem RwAt.keep {K : PySem.W.Frag} {H0 H H' : Hp} {L : Addr} {names : List Str} {R : RunL} {ts ls : List Addr} (h : RwAt K H0 H L names R ts ls) (k : Keeps H H') (hl : ∀ l ∈ ls, H' l = H l) (hL : H' L = H L) : RwAt K H0 H' L names R ts ls := by
  refine ⟨by rw [hL]; exact h.at_, h.tl, h.ll, h.nd, h.new, fun i nm hn => ?_⟩
  obtain ⟨t, l, vs, g1, g2, g3, g4, g5⟩ := h.row i nm hn
  exact ⟨t, l, vs, g1, g2, k.1 _ _ g3, by rw [hl l (List.mem_of_getElem? g2)]; exact g4, dpAll_keep k.1 k.2 g5 (evs_noList _)⟩
theorem keeps_else2 {H H' : Hp} {s a : Addr} {n : Nat} (S : StreamAt H s a n) (e : Else2 s a H H') : Keeps H H' := by
  obtain ⟨_, _, _, h1, h2, _⟩ := S
  exact ⟨fun b xs q => e _ _ q (ne_of q h1 (by intro z; cases z)) (ne_of q h2 (by intro z; cases z)), fun b o u q => e _ _ q (ne_of q h1 (by intro z; cases z)) (ne_of q h2 (by intro z; cases z))⟩
theorem keeps_else3 {H H' : Hp} {s a d : Addr} {n : Nat} {kvs : List (List Key × V)} (S : StreamAt H s a n) (hd : H d = some (.dT kvs)) (e : Else3 s a d H H') : Keeps H H' := by
  obtain ⟨_, _, _, h1, h2, _⟩ := S
  exact ⟨fun b xs q => e _ _ q (ne_of q h1 (by intro z; cases z)) (ne_of q h2 (by intro z; cases z)) (ne_of q hd (by intro z; cases z)), fun b o u q => e _ _ q (ne_of q h1 (by intro z; cases z)) (ne_of q h2 (by intro z; cases z)) (ne_of q hd (by intro z; cases z))⟩
theorem dpAll_snocR {K : PySem.W.Frag} {H : Hp} {v : V} {d : PyData} (h : Dp K H v d) : ∀ {vs : List V} {ds : List PyData}, DpAll K H vs ds → DpAll K H (vs ++ [v]) (ds ++ [d])
  | _, _, .nil => .cons h .nil
  | _, _, .cons a r => .cons a (dpAll_snocR h r)
theorem RwAt.snoc {K : PySem.W.Frag} {H0 H : Hp} {L t l : Addr} {names : List Str} {nm : Str} {ts ls : List Addr} (h : RwAt K H0 H L names [] ts ls) (nl : H l = none) (nl0 : H0 l = none) (nt : upd H l (.lst []) t = none) :
    RwAt K H0 (upd (upd (upd H l (.lst [])) t (.tup [.str nm, .ref l])) L (.lst (ts.map V.ref ++ [.ref t]))) L (names ++ [nm]) [] (ts ++ [t]) (ls ++ [l]) := by
  have hl1 := same_new (o := .tup [.str nm, .ref l]) nt _ _ (upd_same (H := H) (a := l) (o := .lst []))
  have ht1 := upd_same (H := upd H l (.lst [])) (a := t) (o := .tup [.str nm, .ref l])
  have s2 := (same_new (o := .lst []) nl).trans (same_new (o := .tup [.str nm, .ref l]) nt)
  have lL : l ≠ L := fun z => by rw [z, h.at_] at nl; cases nl
  have hL2 := s2 _ _ h.at_
  generalize upd (upd H l (.lst [])) t (.tup [.str nm, .ref l]) = H2 at hl1 ht1 s2 hL2 ⊢
  have kk : Keeps H2 (upd H2 L (.lst (ts.map V.ref ++ [.ref t]))) := keeps_lst hL2
  have lk : ∀ b ys, H b = some (.lst ys) → b ≠ L → upd H2 L (.lst (ts.map V.ref ++ [.ref t])) b = some (.lst ys) := fun b ys e n => by rw [upd_ne n]; exact s2 _ _ e
  refine ⟨by rw [upd_same, List.map_append]; rfl, by rw [List.length_append, List.length_append, h.tl]; rfl, by rw [List.length_append, List.length_append, h.ll]; rfl, ?_, fun l' hl' => ?_, fun i m hm => ?_⟩
  · rw [List.nodup_append]
    refine ⟨h.nd, by simp, fun x hx y hy z => ?_⟩
    rw [List.mem_singleton.mp hy] at z
    subst z
    obtain ⟨j, hj⟩ := List.mem_iff_getElem?.mp hx
    have hjl := (List.getElem?_eq_some_iff.mp hj).1
    have hj2 : j < names.length := by rw [← h.ll]; exact hjl
    obtain ⟨t', l', vs, _, g2, _, g4, _⟩ := h.row j (names[j]'hj2) (List.getElem?_eq_getElem hj2)
    rw [hj] at g2
    injection g2 with g2
    rw [← g2, nl] at g4
    cases g4
  · rcases List.mem_append.mp hl' with hl' | hl'
    · exact h.new l' hl'
    · rw [List.mem_singleton.mp hl']
      exact ⟨nl0, lL⟩
  · by_cases c : i < names.length
    · rw [List.getElem?_append_left c] at hm
      obtain ⟨t', l', vs, g1, g2, g3, g4, g5⟩ := h.row i m hm
      exact ⟨t', l', vs, by rw [List.getElem?_append_left (by rw [h.tl]; exact c)]; exact g1, by rw [List.getElem?_append_left (by rw [h.ll]; exact c)]; exact g2, kk.1 _ _ (s2 _ _ g3), lk _ _ g4 (h.new _ (List.mem_of_getElem? g2)).2, dpAll_keep kk.1 kk.2 (dpAll_same s2 g5) (evs_noList _)⟩
    · have hi : i = names.length := by
        have := (List.getElem?_eq_some_iff.mp hm).1
        rw [List.length_append, List.length_singleton] at this
        omega
      subst hi
      rw [List.getElem?_append_right (Nat.le_refl _), Nat.sub_self] at hm
      injection hm with hm
      subst hm
      refine ⟨t, l, [], ?_, ?_, kk.1 _ _ ht1, by rw [upd_ne lL]; exact hl1, .nil⟩
      · rw [← h.tl, List.getElem?_append_right (Nat.le_refl _), Nat.sub_self]
        rfl
      · rw [← h.ll, List.getElem?_append_right (Nat.le_refl _), Nat.sub_self]
        rfl
theorem RwAt.push {K : PySem.W.Frag} {H0 H : Hp} {L l : Addr} {names : List Str} {nm : Str} {R : RunL} {ts ls : List Addr} {i : Nat} {vs : List V} {v : V} {e : Ev} (h : RwAt K H0 H L names R ts ls) (hnd : names.Nodup) (hi : names[i]? = some nm) (hl : ls[i]? = some l) (hv : H l = some (.lst vs)) (hd : DpAll K H vs ((ofP R nm).map Ev.data)) (hve : Dp K H v e.data) :
    RwAt K H0 (upd H l (.lst (vs ++ [v]))) L names (R ++ [(nm, e)]) ts ls := by
  have kk : Keeps H (upd H l (.lst (vs ++ [v]))) := keeps_lst hv
  refine ⟨by rw [upd_ne (h.new l (List.mem_of_getElem? hl)).2.symm]; exact h.at_, h.tl, h.ll, h.nd, h.new, fun j m hj => ?_⟩
  obtain ⟨t', l', vs', g1, g2, g3, g4, g5⟩ := h.row j m hj
  rw [ofP_snoc]
  by_cases c : j = i
  · subst c
    rw [hi] at hj
    injection hj with hj
    subst hj
    rw [hl] at g2
    injection g2 with g2
    subst g2
    rw [if_pos rfl, List.map_append]
    refine ⟨t', l, _, g1, hl, kk.1 _ _ g3, upd_same, dpAll_snocR (dp_keep kk.1 kk.2 hve (ev_noList e)) (dpAll_keep kk.1 kk.2 hd (evs_noList _))⟩
  · have hnm : nm ≠ m := fun z => c ((List.getElem?_inj (j := i) (List.getElem?_eq_some_iff.mp hj).1 hnd).mp (by rw [hj, hi, z]))
    have hll : l' ≠ l := fun z => c ((List.getElem?_inj (j := i) (List.getElem?_eq_some_iff.mp g2).1 h.nd).mp (by rw [g2, hl, z]))
    rw [if_neg hnm, List.append_nil]
    exact ⟨t', l', vs', g1, g2, kk.1 _ _ g3, by rw [upd_ne hll]; exact g4, dpAll_keep kk.1 kk.2 g5 (evs_noList _)⟩
def rTupOf (K : PySem.W.Frag) : List V → Hp → VK → Prop := fun xs H Q => ∃ p ys, xs = [V.ref p] ∧ ((SqL K H p ys ∧ ∀ l, H l = none → Q (.ref l) (upd H l (.tup ys))) ∨ SqT K H p ys ∧ Q (.ref p) H)
def spRowsL (K : PySem.W.Frag) : Sp := fun vs H Q _ => ∃ (s a N : Addr) (n many : Nat) (names : List Str), vs = [.ref s, .ref N, .int (many : Nat)] ∧ StreamAt H s a n ∧ many ≤ 400 ∧ n + 11 * many < 1000000 ∧
  H N = some (.lst (names.map V.str)) ∧ N ≠ s ∧ N ≠ a ∧ names.Nodup ∧ names.length ≤ 41 ∧ 0 < names.length ∧ (∀ x ∈ names, nameB x = true) ∧
  ∀ (R : RunL) (m : Nat) (L : Addr) (xs : List V) (H' : Hp), RunOk names R → R.length = many → n ≤ m → m ≤ n + 11 * many → StreamAt H' s a m → Else2 s a H H' → H L = none → H' L = some (.lst xs) → DpAll K H' xs ((runRows names R).map rowE) → Q (.ref L) H'
section
variable {P : Program} {w : World} {K : PySem.W.Frag} {mg : Str → Option Value} {base : Heap}
abbrev lrN : List Str := ["_law_stream", "_law_names", "_law_many", "_law_rows_here", "_law_name", "_law_queues", "_law_turn", "_law_at", "_law_event_here", "_law_events"]
theorem scLR : FnScope lrN ["_law_stream", "_law_names", "_law_many"] (defScope sLRows) := ⟨rfl, rfl, rfl, by decide +kernel, rfl, by decide +kernel, by decide +kernel⟩
theorem ok_lrows {f fD fE : Addr} {fd fdD fdE : FuncData} (F : Fun K "_law_rows" "_law_rows" sLRows f fd) (mlen : mg "len" = none) (mtup : mg "tuple" = none) (mrange : mg "range" = none) (CD : Cal P w K mg base 1 "_law_draw" fD fdD ["_law_stream", "_law_many"] spDraw) (CE : Cal P w K mg base 3 "_law_event" fE fdE ["_law_stream", "_law_names", "_law_at", "_law_queues"] (spEvent K)) :
    FnOk P w K mg base CX0 4 f fd ["_law_stream", "_law_names", "_law_many"] (spRowsL K) := by
  refine F.ok scLR (fun vs H Q E h => ?_) (fun cdv A outer s H vs Q E hr h => ?_)
  · obtain ⟨_, _, _, _, _, _, rfl, _⟩ := h
    rfl
  · obtain ⟨st, a, N, n, many, names, rfl, hS, hmany, hn, hN, nNs, nNa, hnd, hnl, hn0, hnb, k⟩ := h
    have hu := hu_of hr
    have hr1 : Room 1 _ := hr.mono (by decide)
    refine ⟨_, (pss_cons (ps_setLc (i := 3) (own := [("_law_name", 4)]) (g := gName 4) (tt := tYes) (te := tTup (tCons (tVar 4) (tCons (tLst tNil) tNil))) rfl scLR.nd rfl rfl (sw_true rfl rfl rfl (by decide +kernel)) (pi_list (pv 1)) (blkOk_by (own := [("_law_name", 4)]) (N := lrN) (sc := defScope sLRows) (by decide +kernel)) (fun _ _ _ _ _ => (pg_name (i := 4) scLR.nd rfl (Or.inl rfl))) (fun _ _ _ _ _ => pts_nil) (fun _ _ _ _ _ => (pe_tup (pa_cons (pv 4) (pa_cons (pe_lst pa_nil) pa_nil))))) (pss_cons (ps_set (i := 5) scLR.nd rfl (.inl rfl) pe_dnewT) (pss_cons (ps_for PassesOwn.never rfl (pi_range1 rfl mrange (pa_cons (pv 2) pa_nil)) (pg_name (i := 6) scLR.nd rfl (.inl rfl)) (pss_cons (ps_set (i := 7) scLR.nd rfl (.inl rfl) (pe_call CD.ok hr1 rfl CD.mg CD.kp CD.bi .nil pass0 (pa_cons (pv 0) (pa_cons (pe_callB call_len_seq (by rfl) mlen PySem.boot_len (pa_cons (pv 1) pa_nil)) pa_nil)))) (pss_cons (ps_set (i := 8) scLR.nd rfl (.inl rfl) (pe_call CE.ok hr rfl CE.mg CE.kp CE.bi .nil pass0 (pa_cons (pv 0) (pa_cons (pv 1) (pa_cons (pv 7) (pa_cons (pv 5) pa_nil)))))) (pss_one (ps_expr (pe_bm PySem.F.plainAttrs_list PySem.F.slot_list_append PySem.F.type_list_append mt_append (pe_ix ix_tup (pe_ix ix_list (pv 3) (pv 7) (fun _ _ => rfl)) pe_int (fun _ _ => rfl)) (pa_cons (pv 8) pa_nil))))))) (pss_one (ps_ret (pe_lc (own := [("_law_name", 4), ("_law_events", 9)]) (g := gTup K 2 (gCons (gName 4) (gCons (gName 9) gNil))) (tt := tYes) (te := tTup (tCons (tVar 4) (tCons (tCB (rTupOf K) (tCons (tVar 9) tNil)) tNil))) rfl scLR.nd (pi_list (pv 3)) (blkOk_by (own := [("_law_name", 4), ("_law_events", 9)]) (N := lrN) (sc := defScope sLRows) (by decide +kernel)) (fun _ _ _ _ _ => (pg_tup rfl (pgs_cons (pg_name (i := 4) scLR.nd rfl (Or.inl rfl)) (pgs_cons (pg_name (i := 9) scLR.nd rfl (Or.inl rfl)) pgs_nil)))) (fun _ _ _ _ _ => pts_nil) (fun _ _ _ _ _ => (pe_tup (pa_cons (pv 4) (pa_cons (pe_callTy call_tuple_of (by rfl) mtup (by decide +kernel) (pa_cons (pv 9) pa_nil)) pa_nil)))))))))), ?_⟩
    refine ⟨_, rfl, N, rfl, ⟨_, SqL.of hN⟩, fun Lr nL => ?_⟩
    refine lc_list (K := K) (a := N) (xs := names.map V.str) (fun j Hy => Same H Hy ∧ ∃ ts ls, RwAt K H Hy Lr (names.take j) [] ts ls) ⟨same_new nL, [], [], upd_same, rfl, rfl, .nil, (fun _ h => nomatch h), fun i nm h => nomatch h⟩ (fun j Hy _ q => SqL.of (q.1 _ _ hN)) ?_ ?_
    · rintro j z Hy hz ⟨sy, ts, ls, RW⟩
      obtain ⟨o, ho, rfl⟩ := mapS_get hz
      refine ⟨rfl, ?_⟩
      dsimp only [tYes]
      rw [if_pos rfl]
      refine ⟨_, rfl, (by show 0 ≤ sizeLine; decide), fun l nl => ⟨(by show 2 ≤ sizeLine; decide), fun t nt => ?_⟩⟩
      have s2 := (same_new (o := .lst []) nl).trans (same_new (o := .tup [.str o, .ref l]) nt)
      refine ⟨_, s2 _ _ RW.at_, ?_, same_upd (sy.trans s2) nL, ts ++ [t], ls ++ [l], ?_⟩
      · rw [List.length_map, RW.tl, List.length_take]
        exact fitR (by omega)
      · rw [List.take_add_one, ho]
        exact RW.snoc nl (sy.free nl) nt
    rintro H1 ⟨s1, ts, ls, RW⟩
    rw [List.length_map, List.take_length] at RW
    dsimp only [List.set]
    refine fun D nD => ?_
    have sD := same_new (o := .dT []) nD
    have nDH := s1.free nD
    have RW2 : RwAt K H (upd H1 D (.dT [])) Lr names [] ts ls := RW.keep (keeps_new nD) (fun l hl => upd_ne fun z => by
      obtain ⟨j, hj⟩ := List.mem_iff_getElem?.mp hl
      have hjl := (List.getElem?_eq_some_iff.mp hj).1
      have hj2 : j < names.length := by rw [← RW.ll]; exact hjl
      obtain ⟨t', l', vs, _, g2, _, g4, _⟩ := RW.row j (names[j]'hj2) (List.getElem?_eq_getElem hj2)
      rw [hj] at g2
      injection g2 with g2
      rw [← g2, z, nD] at g4
      cases g4) (upd_ne fun z => by
      have := RW.at_
      rw [z, nD] at this
      cases this)
    have Q2 : QuAt (upd H1 D (.dT [])) st a D [] [] := ⟨upd_same, Nat.le_refl _, fun x y => .inl ⟨rfl, rfl⟩⟩
    have s2 := s1.trans sD
    generalize upd H1 D (.dT []) = H2 at s2 RW2 Q2 ⊢
    refine ⟨_, rfl, many, rfl, by omega, by omega, ?_⟩
    rw [show ((many : Int)).toNat = many by omega]
    refine for_range (lo := 0) (n := many) (fun i σ Hx => ∃ (x4 x6 x7 x8 x9 : Option V) (R : RunL) (kvs : List (List Key × V)) (ts ls : List Addr) (m : Nat), σ = [some (.ref st), some (.ref N), some (.int (many : Nat)), some (.ref Lr), x4, some (.ref D), x6, x7, x8, x9] ∧ RunOk names R ∧ R.length = i ∧ n ≤ m ∧ m ≤ n + 11 * i ∧ StreamAt Hx st a m ∧ Else2 st a H Hx ∧ QuAt Hx st a D R kvs ∧ RwAt K H Hx Lr names R ts ls ∧ ∀ x y L, valV kvs (chK x y) = some (.ref L) → L ∉ ls)
      ⟨_, _, _, _, _, [], [], ts, ls, n, rfl, .nil, rfl, Nat.le_refl _, Nat.le_refl _, hS.same s2, .of_same s2, Q2, RW2, fun x y L h => nomatch h⟩ ?_ ?_
    · rintro i σ Hx hi ⟨x4, x6, x7, x8, x9, R, kvs, ts, ls, m, rfl, RO, hRl, m0, m1, Sx, ex, Qx, RWx, hap⟩
      have hNx := ex _ _ hN nNs nNa
      refine ⟨_, rfl, _, rfl, N, _, rfl, .inl (SqL.of hNx), ?_⟩
      rw [List.length_map]
      refine ⟨st, a, m, (names.length : Int), rfl, by omega, by omega, Sx, by omega, fun w1 H3 w10 w11 S3 el3 => ?_⟩
      obtain ⟨j, rfl⟩ := Int.eq_ofNat_of_zero_le w10
      have hj : j < names.length := by omega
      obtain ⟨nm, hnm⟩ : ∃ nm, names[j]? = some nm := ⟨names[j]'hj, by simp⟩
      have hDs : D ≠ st := by
        obtain ⟨_, _, _, h1, _⟩ := Sx
        exact ne_of Qx.at_ h1 (by intro z; cases z)
      have hDa : D ≠ a := by
        obtain ⟨_, _, _, _, h1, _⟩ := Sx
        exact ne_of Qx.at_ h1 (by intro z; cases z)
      have nst : ∀ {b}, H b = none → b ≠ st ∧ b ≠ a := fun h => ⟨fun z => hS.tr.1 (by rw [← z]; exact h), fun z => hS.tr.2 (by rw [← z]; exact h)⟩
      have hlb : ∀ l ∈ ls, ∃ vs, Hx l = some (.lst vs) := fun l hl => by
        obtain ⟨j, hj⟩ := List.mem_iff_getElem?.mp hl
        have hjl := (List.getElem?_eq_some_iff.mp hj).1
        have hj2 : j < names.length := by rw [← RWx.ll]; exact hjl
        obtain ⟨t', l', vs, _, g2, _, g4, _⟩ := RWx.row j (names[j]'hj2) (List.getElem?_eq_getElem hj2)
        rw [hj] at g2
        injection g2 with g2
        exact ⟨vs, by rw [g2]; exact g4⟩
      have RW3 := RWx.keep (keeps_else2 Sx el3) (fun l hl => by
        obtain ⟨vs, hvs⟩ := hlb l hl
        obtain ⟨n1, n2⟩ := nst (RWx.new l hl).1
        rw [hvs]
        exact el3 _ _ hvs n1 n2) (by rw [RWx.at_]; exact el3 _ _ RWx.at_ (nst nL).1 (nst nL).2)
      have e3 := ex.trans el3
      refine ⟨_, rfl, _, rfl, _, rfl, _, rfl, st, a, N, D, m + 1, j, names, nm, R, kvs, rfl, S3, by omega, e3 _ _ hN nNs nNa, nNs, nNa, hnd, hnl, hnm, hnb, Qx.else2 hDs hDa el3, RO, by omega, fun m' e v kvs' H4 RO' h1 h2 S4 e4 Q4 hfr hv => ?_⟩
      have Q3 := Qx.else2 hDs hDa el3
      have RW4 := RW3.keep (keeps_else3 S3 Q3.at_ e4) (fun l hl => by
        obtain ⟨vs, hvs⟩ := hlb l hl
        obtain ⟨n1, n2⟩ := nst (RWx.new l hl).1
        have hvs3 := el3 _ _ hvs n1 n2
        rw [hvs3]
        exact e4 _ _ hvs3 n1 n2 (ne_of hvs3 Q3.at_ (by intro z; cases z))) (by rw [RW3.at_]; exact e4 _ _ RW3.at_ (nst nL).1 (nst nL).2 (ne_of RW3.at_ Q3.at_ (by intro z; cases z)))
      obtain ⟨t, l, vs, g1, g2, g3, g4, g5⟩ := RW4.row j nm hnm
      refine ⟨_, rfl, _, rfl, Lr, _, (j : Nat), .ref t, rfl, rfl, SqL.of RW4.at_, atI_nat (by rw [List.getElem?_map, g1]; rfl), t, _, 1, .ref l, rfl, rfl, SqT.of g3, atI_nat (j := 1) rfl, .inl ⟨rfl, _, SqL.of g4⟩, _, rfl, l, _, _, rfl, rfl, g4, ?_, ?_⟩
      · have := dpAll_len g5
        rw [this, List.length_map]
        have : (ofP R nm).length ≤ R.length := List.length_filterMap_le ..
        exact fitR (by omega)
      · have RW5 := RW4.push hnd hnm g2 g4 g5 hv
        have nl := (RW4.new l (List.mem_of_getElem? g2)).1
        obtain ⟨n1, n2⟩ := nst nl
        have hap' : ∀ x y L, valV kvs' (chK x y) = some (.ref L) → L ∉ ls := fun x y L h hm => by
          rcases hfr x y L h with h | h
          · exact hap x y L h hm
          · obtain ⟨vs, hvs⟩ := hlb L hm
            obtain ⟨n1, n2⟩ := nst (RWx.new L hm).1
            rw [el3 _ _ hvs n1 n2] at h
            cases h
        refine ⟨_, _, _, _, _, R ++ [(nm, e)], kvs', ts, ls, m', rfl, RO', by rw [List.length_append, hRl]; rfl, by omega, by omega, S4.upd n1 n2, fun b o hb c1 c2 => ?_, ⟨by rw [upd_ne (ne_of Q4.at_ g4 (by intro z; cases z))]; exact Q4.at_, Q4.few, fun x y => ?_⟩, RW5, hap'⟩
        · rw [upd_ne (fun z => by rw [z, nl] at hb; cases hb)]
          have hb3 := e3 _ _ hb c1 c2
          exact e4 _ _ hb3 c1 c2 (fun z => by rw [z, nDH] at hb; cases hb)
        · rcases Q4.val x y with h | ⟨L, q1, q2, q3, q4⟩
          · exact .inl h
          · exact .inr ⟨L, q1, by rw [upd_ne fun z => hap' x y L q1 (by rw [z]; exact List.mem_of_getElem? g2)]; exact q2, q3, q4⟩
    · rintro σ Hx ⟨x4, x6, x7, x8, x9, R, kvs, ts, ls, m, rfl, RO, hRl, m0, m1, Sx, ex, Qx, RWx, hap⟩
      have hrl : (ts.map V.ref).length = names.length := by rw [List.length_map, RWx.tl]
      refine ⟨_, rfl, Lr, rfl, ⟨_, SqL.of RWx.at_⟩, fun M nM => ?_⟩
      refine lc_list (K := K) (a := Lr) (xs := ts.map V.ref) (fun j Hy => Same Hx Hy ∧ ∃ xs, Hy M = some (.lst xs) ∧ xs.length = j ∧ DpAll K Hy xs ((runRows (names.take j) R).map rowE)) ⟨same_new nM, [], upd_same, rfl, .nil⟩ (fun j Hy _ q => SqL.of (q.1 _ _ RWx.at_)) ?_ ?_
      · rintro j z Hy hz ⟨sy, xs, hM, hxl, hD⟩
        have hj : j < names.length := by
          have := (List.getElem?_eq_some_iff.mp hz).1
          omega
        obtain ⟨nm, hnm⟩ : ∃ nm, names[j]? = some nm := ⟨names[j]'hj, by simp⟩
        obtain ⟨t, l, vs, g1, g2, g3, g4, g5⟩ := RWx.row j nm hnm
        rw [List.getElem?_map, g1] at hz
        injection hz with hz
        subst hz
        refine ⟨t, _, rfl, SqT.of (sy _ _ g3), rfl, _, _, rfl, _, _, rfl, rfl, rfl, ?_⟩
        dsimp only [tYes]
        rw [if_pos rfl]
        refine ⟨_, rfl, _, rfl, l, vs, rfl, .inl ⟨SqL.of (sy _ _ g4), fun T nT => ⟨(by show 2 ≤ sizeLine; decide), fun U nU => ?_⟩⟩⟩
        have s2 := (same_new (o := .tup vs) nT).trans (same_new (o := .tup [.str nm, .ref T]) nU)
        have hT := same_new (o := .tup [.str nm, .ref T]) nU _ _ (upd_same (H := Hy) (a := T) (o := .tup vs))
        have hU := upd_same (H := upd Hy T (.tup vs)) (a := U) (o := .tup [.str nm, .ref T])
        generalize upd (upd Hy T (.tup vs)) U (.tup [.str nm, .ref T]) = H2 at s2 hT hU ⊢
        have hM2 := s2 _ _ hM
        have kk : Keeps H2 (upd H2 M (.lst (xs ++ [.ref U]))) := keeps_lst hM2
        refine ⟨xs, hM2, fitR (by omega), same_upd (sy.trans s2) nM, _, upd_same, by rw [List.length_append, hxl]; rfl, ?_⟩
        have e1 : (runRows (names.take (j + 1)) R).map rowE = (runRows (names.take j) R).map rowE ++ [rowE (nm, ofP R nm)] := by
          unfold runRows
          rw [List.take_add_one, hnm, List.map_append, List.map_append]
          rfl
        rw [e1]
        exact dpAll_snocR (.tup (SqT.of (kk.1 _ _ hU)) (.cons (.str nm) (.cons (.tup (SqT.of (kk.1 _ _ hT)) (dpAll_keep kk.1 kk.2 (dpAll_same (sy.trans s2) g5) (evs_noList _))) .nil))) (dpAll_keep kk.1 kk.2 (dpAll_same s2 hD) (rows_noList _))
      · rintro Hy ⟨sy, xs, hM, hxl, hD⟩
        rw [hrl, List.take_length] at hD
        exact k R m M xs Hy RO hRl m0 m1 (Sx.same sy) (ex.trans (.of_same sy)) ((Sx.live ex).none nM) hM hD
end
end XE
set_option Elab.async false
set_option linter.all false
set_option maxRecDepth 100000
set_option maxHeartbeats 1000000
/-! XU7: whole records of good rows -/
namespace XE
open PySem PySem.Spec PyProof.Rows L2 RZ Rx SX Rc
structure WhR (m : Nat) (rs : Rows) (ms : List (EvId × EvId)) : Prop where
  w : RowsW m rs
  msg : matchR rs = .ok ms
  ord : ∀ ids, ExecOk (rs.map (·.1)) (lnOf rs) (causesF ms) ids → orderF (rs.map (·.1)) (lnOf rs) (reachF ids) = none
theorem run_whole {names : List Str} {R : RunL} (h : RunOk names R) (h0 : 0 < names.length) (hl : names.length ≤ 40) (hd : names.Nodup) (hn : ∀ x ∈ names, nameB x = true) : ∃ ms, WhR R.length (runRows names R) ms := by
  obtain ⟨ms, h1, h2⟩ := h.runM.match hd
  refine ⟨ms, h.rowsW h0 hl hd hn, h1, fun ids ok => ?_⟩
  rw [runRows_names] at ok ⊢
  exact run_order h.runM hd h2 ok
theorem RecG.keep {K : PySem.W.Frag} {C : Addr} {H H' : Hp} {p : Addr} {rs : Rows} {ms : List (EvId × EvId)} (x : RecG K C H p rs ms) (kk : Keeps H H') (ki : ∀ b C dx fs, H b = some (.ins C dx fs) → H' b = some (.ins C dx fs)) (kd : ∀ b kvs, H b = some (.dK kvs) → H' b = some (.dK kvs)) (kt : ∀ b kvs, H b = some (.dT kvs) → H' b = some (.dT kvs)) : RecG K C H' p rs ms := by
  obtain ⟨dx, t, h, tm, pt, xs, hs, us, kvp, r⟩ := x.rc
  refine ⟨⟨dx, t, h, tm, pt, xs, hs, us, kvp, ki _ _ _ _ r.ins, rowsT_keep r.rows kk, ⟨⟨kd _ _ r.hist.at_.1, r.hist.at_.2⟩, fun i q hq => ?_⟩, ⟨kk.1 _ _ r.msgs.1, r.msgs.2.keep kk.1⟩, ⟨kt _ _ r.part.at_, fun y => (r.part.val y).keep kk.1⟩⟩, x.nd⟩
  obtain ⟨b, vs, h1, h2, h3⟩ := r.hist.ev i q hq
  exact ⟨b, vs, h1, sqT_keep kk.1 kk.2 h2, dpAll_keep kk.1 kk.2 h3 (evs_noList _)⟩
theorem RecG.else2 {K : PySem.W.Frag} {C : Addr} {H H' : Hp} {p s a : Addr} {n : Nat} {rs : Rows} {ms : List (EvId × EvId)} (x : RecG K C H p rs ms) (S : StreamAt H s a n) (e : Else2 s a H H') : RecG K C H' p rs ms := by
  have kk := keeps_else2 S e
  obtain ⟨_, _, _, h1, h2, _⟩ := S
  exact x.keep kk (fun b C dx fs q => e _ _ q (ne_of q h1 (by intro z; cases z)) (ne_of q h2 (by intro z; cases z))) (fun b kvs q => e _ _ q (ne_of q h1 (by intro z; cases z)) (ne_of q h2 (by intro z; cases z))) (fun b kvs q => e _ _ q (ne_of q h1 (by intro z; cases z)) (ne_of q h2 (by intro z; cases z)))
theorem PartAt.else2 {H H' : Hp} {s a D : Addr} {n : Nat} {kvs : List (List Key × V)} {f : EvId → Option EvId} (x : PartAt H D kvs f) (S : StreamAt H s a n) (e : Else2 s a H H') : PartAt H' D kvs f := by
  have kk := keeps_else2 S e
  obtain ⟨_, _, _, h1, h2, _⟩ := S
  exact ⟨e _ _ x.at_ (ne_of x.at_ h1 (by intro z; cases z)) (ne_of x.at_ h2 (by intro z; cases z)), fun y => (x.val y).keep kk.1⟩
end XE
set_option Elab.async false
set_option linter.all false
set_option maxRecDepth 100000
set_option maxHeartbeats 1000000
/-! XG8: what cuts need of an order -/
namespace XE
open PySem PySem.Spec PyProof.Rows L2 RZ RxT Rx SX Rc
/-- of an order, what its cuts need -/
structure OrdP (K : PySem.W.Frag) (CO C : Addr) (H : Hp) (o p : Addr) (rs : Rows) (ms ws : Arrows) (ids : List EvId) (dx tw c N pl D : Addr) (kvd : List (List Key × V)) : Prop where
  ins : H o = some (.ins CO dx [("recorded", .ref p), ("passed", .ref tw), ("causes", .ref c), ("sequence", .ref N), ("places", .ref pl), ("clocks", .ref D)])
  rcd : RecG K C H p rs ms
  plc : PlcAt H pl (nmsR rs)
  clk : ClkAt K H D (nmsR rs) (lnOf rs) (ms ++ ws) ids kvd
structure OrdC (K : PySem.W.Frag) (CO C : Addr) (H : Hp) (o p : Addr) (rs : Rows) (ms ws : Arrows) : Prop where
  oo : ∃ ids dx tw c N pl D kvd, OrdP K CO C H o p rs ms ws ids dx tw c N pl D kvd ∧ Topo (nmsR rs) (lnOf rs) (ms ++ ws) ids
  ok : AOk (nmsR rs) (lnOf rs) (ms ++ ws)
theorem OrdG.c {K : PySem.W.Frag} {CO C : Addr} {H : Hp} {o p : Addr} {rs : Rows} {ms ws : Arrows} {ids : List EvId} (h : OrdG K CO C H o p rs ms ws ids) : OrdC K CO C H o p rs ms ws := by
  obtain ⟨dx, tw, c, N, pl, D, uw, zs, kvc, kvd, X⟩ := h.oo
  exact ⟨⟨ids, dx, tw, c, N, pl, D, kvd, ⟨X.ins, X.rcd, X.plc, X.clk⟩, h.tp⟩, h.ok⟩
theorem OrdC.same {K : PySem.W.Frag} {CO C : Addr} {H H' : Hp} {o p : Addr} {rs : Rows} {ms ws : Arrows} (h : OrdC K CO C H o p rs ms ws) (s : Same H H') : OrdC K CO C H' o p rs ms ws := by
  obtain ⟨⟨ids, dx, tw, c, N, pl, D, kvd, X, T⟩, ok⟩ := h
  exact ⟨⟨ids, dx, tw, c, N, pl, D, kvd, ⟨s _ _ X.ins, X.rcd.same s, s _ _ X.plc, X.clk.same s⟩, T⟩, ok⟩
theorem OrdC.else2 {K : PySem.W.Frag} {CO C : Addr} {H H' : Hp} {s a o p : Addr} {n : Nat} {rs : Rows} {ms ws : Arrows} (h : OrdC K CO C H o p rs ms ws) (S : StreamAt H s a n) (e : Else2 s a H H') : OrdC K CO C H' o p rs ms ws := by
  obtain ⟨⟨ids, dx, tw, c, N, pl, D, kvd, X, T⟩, ok⟩ := h
  have kk := keeps_else2 S e
  have RG := X.rcd.else2 S e
  obtain ⟨_, _, _, h1, h2, _⟩ := S
  have kp : ∀ b u, H b = some u → (∀ zs, u ≠ .lst zs) → H' b = some u := fun b u q nl => e _ _ q (fun z => by rw [z, h1] at q; injection q with q; exact nl _ q.symm) (fun z => by rw [z, h2] at q; injection q with q; exact nl _ q.symm)
  exact ⟨⟨ids, dx, tw, c, N, pl, D, kvd, ⟨kp _ _ X.ins fun zs z => (by cases z), RG, kp _ _ X.plc fun zs z => (by cases z), ⟨kp _ _ X.clk.at_ fun zs z => (by cases z), X.clk.few, fun x => ⟨fun hx => by obtain ⟨q, e1, hq⟩ := (X.clk.val x).1 hx; exact ⟨q, e1, sqT_keep kk.1 kk.2 hq⟩, (X.clk.val x).2⟩⟩⟩, T⟩, ok⟩
theorem OrdG.same {K : PySem.W.Frag} {CO C : Addr} {H H' : Hp} {o p : Addr} {rs : Rows} {ms ws : Arrows} {ids : List EvId} (h : OrdG K CO C H o p rs ms ws ids) (s : Same H H') : OrdG K CO C H' o p rs ms ws ids := by
  obtain ⟨⟨dx, tw, c, N, pl, D, uw, zs, kvc, kvd, x⟩, h2, h3⟩ := h
  exact ⟨⟨dx, tw, c, N, pl, D, uw, zs, kvc, kvd, s _ _ x.ins, x.rcd.same s, ⟨s _ _ x.pas.1, MsgL.same x.pas.2 s⟩, x.cau.same s, ⟨s _ _ x.seq.1, IdsL.same x.seq.2 s⟩, s _ _ x.plc, x.clk.same s⟩, h2, h3⟩
theorem RecG.at2 {K : PySem.W.Frag} {C : Addr} {H : Hp} {p : Addr} {rs : Rows} {ms : Arrows} (h : RecG K C H p rs ms) : ∃ dx t hh tm pt, H p = some (.ins C dx [("rows", .ref t), ("histories", .ref hh), ("messages", .ref tm), ("partners", .ref pt)]) := by
  obtain ⟨dx, t, hh, tm, pt, _, _, _, _, R⟩ := h.rc
  exact ⟨dx, t, hh, tm, pt, R.ins⟩
end XE
set_option Elab.async false
set_option linter.all false
set_option maxRecDepth 100000
set_option maxHeartbeats 1000000
/-! XN0: events of rows, and what they need -/
namespace XE
open PySem PySem.Spec PyProof.Rows L2 RZ RxT Rx SX Rc
def evRow (n : Str) (m : Nat) : List EvId := (List.range m).map fun k => (n, k + 1)
def evL : Rows → List EvId
  | [] => []
  | r :: rs => evRow r.1 r.2.length ++ evL rs
theorem evRow_succ (n : Str) (m : Nat) : evRow n (m + 1) = evRow n m ++ [(n, m + 1)] := by
  unfold evRow
  rw [List.range_succ, List.map_append]
  rfl
theorem evRow_mem {n : Str} {m : Nat} {x : EvId} : x ∈ evRow n m ↔ x.1 = n ∧ 1 ≤ x.2 ∧ x.2 ≤ m := by
  unfold evRow
  rw [List.mem_map]
  constructor
  · rintro ⟨k, hk, rfl⟩
    have := List.mem_range.mp hk
    exact ⟨rfl, Nat.le_add_left _ _, by show k + 1 ≤ m; omega⟩
  · rintro ⟨h1, h2, h3⟩
    exact ⟨x.2 - 1, List.mem_range.mpr (by omega), Prod.ext h1.symm (by show x.2 - 1 + 1 = x.2; omega)⟩
theorem evL_names : ∀ {rs : Rows} {x : EvId}, x ∈ evL rs → x.1 ∈ nmsR rs
  | r :: rs, x, h => by
    rcases List.mem_append.mp (show x ∈ evRow r.1 r.2.length ++ evL rs from h) with h | h
    · exact List.mem_cons.mpr (.inl (evRow_mem.mp h).1)
    · exact List.mem_cons_of_mem _ (evL_names h)
theorem valV_out {κ : Type} [DecidableEq κ] {kvs : List (κ × V)} {k : κ} (h : k ∉ kvs.map (·.1)) : valV kvs k = none := by
  cases hv : valV kvs k with
  | none => rfl
  | some v =>
    exfalso
    have h1 := valV_any k kvs
    rw [hv] at h1
    obtain ⟨y, hy, hy2⟩ := List.any_eq_true.mp h1
    exact h (List.mem_map.mpr ⟨y, hy, of_decide_eq_true hy2⟩)
theorem putK_keysG {κ : Type} [DecidableEq κ] {kvs : List (κ × V)} {k : κ} {v : V} (h : (valV kvs k).isSome = true) : (putK kvs k v).map (·.1) = kvs.map (·.1) := by
  unfold putK
  rw [valV_any, if_pos h, List.map_map]
  refine List.map_congr_left fun p _ => ?_
  show (if p.1 = k then (p.1, v) else p).1 = p.1
  split <;> rfl
/-- numbers by events -/
structure NdAt (H : Hp) (D : Addr) (ns : List Str) (evs : List EvId) (f : EvId → Str → Nat) (kvs : List (List Key × V)) : Prop where
  at_ : H D = some (.dT kvs)
  keys : kvs.map (·.1) = evs.map evK
  val : ∀ x ∈ evs, ∃ L, valV kvs (evK x) = some (.ref L) ∧ H L = some (.lst (natV ns (f x)))
theorem NdAt.same {H H' : Hp} {D : Addr} {ns : List Str} {evs : List EvId} {f : EvId → Str → Nat} {kvs : List (List Key × V)} (h : NdAt H D ns evs f kvs) (s : Same H H') : NdAt H' D ns evs f kvs :=
  ⟨s _ _ h.at_, h.keys, fun x hx => by obtain ⟨L, e, q⟩ := h.val x hx; exact ⟨L, e, s _ _ q⟩⟩
theorem NdAt.len {H : Hp} {D : Addr} {ns : List Str} {evs : List EvId} {f : EvId → Str → Nat} {kvs : List (List Key × V)} (h : NdAt H D ns evs f kvs) : kvs.length = evs.length := by
  have := congrArg List.length h.keys
  rwa [List.length_map, List.length_map] at this
theorem evK_mem {evs : List EvId} {x : EvId} : evK x ∈ evs.map evK ↔ x ∈ evs := by
  rw [List.mem_map]
  exact ⟨fun ⟨y, hy, e⟩ => by rw [← evK_eq.mp e]; exact hy, fun h => ⟨x, h, rfl⟩⟩
theorem NdAt.out {H : Hp} {D : Addr} {ns : List Str} {evs : List EvId} {f : EvId → Str → Nat} {kvs : List (List Key × V)} (h : NdAt H D ns evs f kvs) {x : EvId} (hx : x ∉ evs) : valV kvs (evK x) = none := valV_out (by rw [h.keys]; exact fun z => hx (evK_mem.mp z))
/-- an event more -/
theorem NdAt.snoc {H : Hp} {D L : Addr} {ns : List Str} {evs : List EvId} {f : EvId → Str → Nat} {kvs : List (List Key × V)} (h : NdAt H D ns evs f kvs) {x : EvId} (hx : x ∉ evs) (hL : H L = some (.lst (natV ns (f x)))) : NdAt (upd H D (.dT (putK kvs (evK x) (.ref L)))) D ns (evs ++ [x]) f (putK kvs (evK x) (.ref L)) := by
  have kp : ∀ b ys, H b = some (.lst ys) → upd H D (.dT (putK kvs (evK x) (.ref L))) b = some (.lst ys) := fun b ys e => by rw [upd_ne (ne_of e h.at_ (by intro z; cases z))]; exact e
  refine ⟨upd_same, by rw [putK_new _ (h.out hx), List.map_append, List.map_append, h.keys]; rfl, fun y hy => ?_⟩
  rw [valV_put]
  by_cases c : y = x
  · subst c
    rw [if_pos rfl]
    exact ⟨L, rfl, kp _ _ hL⟩
  · rw [if_neg fun z => c (evK_eq.mp z)]
    obtain ⟨M, e, q⟩ := h.val y ((List.mem_append.mp hy).resolve_right fun z => c (List.mem_singleton.mp z))
    exact ⟨M, e, kp _ _ q⟩
/-- other numbers of an event -/
theorem NdAt.put {H : Hp} {D L : Addr} {ns : List Str} {evs : List EvId} {f g : EvId → Str → Nat} {kvs : List (List Key × V)} (h : NdAt H D ns evs f kvs) {x : EvId} (hx : x ∈ evs) (hL : H L = some (.lst (natV ns (g x)))) (hg : ∀ y, y ≠ x → g y = f y) : NdAt (upd H D (.dT (putK kvs (evK x) (.ref L)))) D ns evs g (putK kvs (evK x) (.ref L)) := by
  have kp : ∀ b ys, H b = some (.lst ys) → upd H D (.dT (putK kvs (evK x) (.ref L))) b = some (.lst ys) := fun b ys e => by rw [upd_ne (ne_of e h.at_ (by intro z; cases z))]; exact e
  obtain ⟨M0, e0, _⟩ := h.val x hx
  refine ⟨upd_same, by rw [putK_keysG (by rw [e0]; rfl)]; exact h.keys, fun y hy => ?_⟩
  rw [valV_put]
  by_cases c : y = x
  · subst c
    rw [if_pos rfl]
    exact ⟨L, rfl, kp _ _ hL⟩
  · rw [if_neg fun z => c (evK_eq.mp z)]
    obtain ⟨M, e, q⟩ := h.val y hy
    exact ⟨M, e, by rw [hg y c]; exact kp _ _ q⟩
/-- the lists are new -/
def NwV (H : Hp) (kvs : List (List Key × V)) : Prop := ∀ x L, valV kvs (evK x) = some (.ref L) → H L = none
theorem NwV.put {H : Hp} {kvs : List (List Key × V)} {x : EvId} {G : Addr} (h : NwV H kvs) (hG : H G = none) : NwV H (putK kvs (evK x) (.ref G)) := fun y L e => by
  rw [valV_put] at e
  split at e
  · injection e with e
    injection e with e
    subst e
    exact hG
  · exact h y L e
end XE
set_option Elab.async false
set_option linter.all false
set_option maxRecDepth 100000
set_option maxHeartbeats 2000000
/-! RxTm: tuple * 1 is the tuple; tuple * n -/
namespace L2
open PySem PyProof.Rows PySem.Spec
end L2
set_option Elab.async false
set_option linter.all false
set_option maxRecDepth 100000
set_option maxHeartbeats 2000000
/-! RxZm: zip of a list and a tuple, by any two iterators that keep their word -/
set_option Elab.async false
set_option linter.all false
set_option maxRecDepth 100000
set_option maxHeartbeats 1000000
/-! XG6: what laws with orders share -/
namespace XE
open PySem PySem.Spec PyProof.Rows L2 RZ RxT Rx SX Rc
theorem evRow_nd (n : Str) : ∀ m, (evRow n m).Nodup
  | 0 => List.nodup_nil
  | m + 1 => by
    rw [evRow_succ, List.nodup_append]
    refine ⟨evRow_nd n m, by simp, fun x hx y hy z => ?_⟩
    rw [List.mem_singleton.mp hy] at z
    rw [z] at hx
    have : m + 1 ≤ m := (evRow_mem.mp hx).2.2
    omega
theorem evL_nd : ∀ {rs : Rows}, (nmsR rs).Nodup → (evL rs).Nodup
  | [], _ => List.nodup_nil
  | r :: rs, hd => by
    have hd' : (r.1 :: nmsR rs).Nodup := hd
    rw [List.nodup_cons] at hd'
    show (evRow r.1 r.2.length ++ evL rs).Nodup
    rw [List.nodup_append]
    refine ⟨evRow_nd _ _, evL_nd hd'.2, fun x hx y hy z => hd'.1 ?_⟩
    rw [← (evRow_mem.mp hx).1, z]
    exact evL_names hy
end XE
set_option Elab.async false
set_option linter.all false
set_option maxRecDepth 100000
set_option maxHeartbeats 1000000
/-! XZ2: what a channel holds -/
namespace XE
open PySem PySem.Spec PyProof.Rows L2 RZ Rx SX Rc
theorem split_uniq {α β : Type} {f : α → β} : ∀ {l : List α} {d1 d2 e1 e2 : List α} {x y : α}, (l.map f).Nodup → l = d1 ++ x :: d2 → l = e1 ++ y :: e2 → f x = f y → d1 = e1
  | [], d1, _, _, _, _, _, _, h, _, _ => by cases d1 <;> cases h
  | a :: l, [], d2, [], e2, x, y, _, _, _, _ => rfl
  | a :: l, [], d2, z :: e1, e2, x, y, hn, h1, h2, h => by
    injection h1 with h1 _
    injection h2 with _ h2
    subst h1
    rw [List.map_cons, List.nodup_cons] at hn
    exact absurd (by rw [h2, h]; exact List.mem_map.mpr ⟨y, by simp, rfl⟩) hn.1
  | a :: l, z :: d1, d2, [], e2, x, y, hn, h1, h2, h => by
    injection h2 with h2 _
    injection h1 with _ h1
    subst h2
    rw [List.map_cons, List.nodup_cons] at hn
    exact absurd (by rw [h1, ← h]; exact List.mem_map.mpr ⟨x, by simp, rfl⟩) hn.1
  | a :: l, z :: d1, d2, w :: e1, e2, x, y, hn, h1, h2, h => by
    injection h1 with g1 h1
    injection h2 with g2 h2
    rw [List.map_cons, List.nodup_cons] at hn
    rw [← g1, ← g2, split_uniq hn.2 h1 h2 h]
theorem flatRow_app (n : Str) : ∀ (l m : List Ev) (k : Nat), flatRow n k (l ++ m) = flatRow n k l ++ flatRow n (k + l.length) m
  | [], m, k => rfl
  | a :: l, m, k => by
    show _ :: flatRow n (k + 1) (l ++ m) = _
    rw [flatRow_app n l m (k + 1), List.length_cons, show k + 1 + l.length = k + (l.length + 1) by omega]
    rfl
theorem flatRow_ids (n : Str) : ∀ (es : List Ev) (k : Nat), (flatRow n (k + 1) es).map (·.1) = ((List.range' k es.length).map fun j => (n, j + 1))
  | [], _ => rfl
  | e :: es, k => by
    show (n, k + 1) :: (flatRow n (k + 1 + 1) es).map (·.1) = _
    rw [flatRow_ids n es (k + 1), List.length_cons, List.range'_succ]
    rfl
theorem flatR_ids : ∀ rs : Rows, (flatR rs).map (·.1) = evL rs
  | [] => rfl
  | (n, es) :: rs => by
    show (flatRow n (0 + 1) es ++ flatR rs).map (·.1) = evRow n es.length ++ evL rs
    rw [List.map_append, flatRow_ids, flatR_ids rs]
    unfold evRow
    rw [List.range_eq_range']
/-- the events of one process -/
def evsOf (rs : Rows) (n : Str) : List Ev := ((rs.find? fun r => decide (r.1 = n)).map (·.2)).getD []
theorem evsOf_at : ∀ {rs : Rows}, (rs.map (·.1)).Nodup → ∀ {n es}, (n, es) ∈ rs → evsOf rs n = es
  | [], _, _, _, h => by cases h
  | (m, fs) :: rs, hd, n, es, h => by
    rw [List.map_cons, List.nodup_cons] at hd
    unfold evsOf
    rw [List.find?_cons]
    rcases List.mem_cons.mp h with h | h
    · injection h with h1 h2
      subst h1 h2
      simp
    · have : m ≠ n := fun z => hd.1 (List.mem_map.mpr ⟨_, h, z.symm⟩)
      simp only [this, decide_false]
      exact evsOf_at hd.2 h
theorem evsOf_mem {rs : Rows} {n : Str} (hd : (rs.map (·.1)).Nodup) (h : n ∈ rs.map (·.1)) : (n, evsOf rs n) ∈ rs := by
  obtain ⟨⟨m, es⟩, h1, rfl⟩ := List.mem_map.mp h
  rw [evsOf_at hd h1]
  exact h1
theorem evsOf_len {rs : Rows} (n : Str) : (evsOf rs n).length = lnOf rs n := by
  unfold evsOf lnOf
  cases rs.find? fun r => decide (r.1 = n) <;> rfl
/-- where a message is from, and when it is there -/
theorem chan_at {rs : Rows} {ms : Arrows} (hd : (rs.map (·.1)).Nodup) (hm : matchR rs = .ok ms) {b : Str} (hb : b ∈ rs.map (·.1)) {k : Nat} {e : Ev} (he : (evsOf rs b)[k]? = some e) :
    (e.recvOf = none → ∀ m ∈ ms, m.2 ≠ (b, k + 1)) ∧ ∀ a v, e.recvOf = some (a, v) → ∃ j, a ∈ rs.map (·.1) ∧ (∀ m ∈ ms, m.2 = (b, k + 1) → m.1 = (a, j)) ∧ ((a, j), (b, k + 1)) ∈ ms ∧ ∀ c, rcvN ((evsOf rs b).take k) a < sndN ((evsOf rs a).take c) b ↔ j ≤ c := by
  have hbe := evsOf_mem hd hb
  generalize hes : evsOf rs b = es at hbe he ⊢
  obtain ⟨ps, qs, hrs, hfl⟩ := flatR_row hbe
  have hk := (List.getElem?_eq_some_iff.mp he).1
  have hsp : flatRow b 1 es = flatRow b 1 (es.take k) ++ ((b, k + 1), e) :: flatRow b (k + 2) (es.drop (k + 1)) := by
    have h1 : es = es.take k ++ es.drop k := (List.take_append_drop k es).symm
    conv => lhs; rw [h1]
    rw [flatRow_app, List.length_take, Nat.min_eq_left (Nat.le_of_lt hk)]
    have := flatRow_cons b es 1 k e he
    rw [this, show 1 + k = k + 1 by omega, show 1 + (k + 1) = k + 2 by omega]
  have hall : flatR rs = (flatR ps ++ flatRow b 1 (es.take k)) ++ ((b, k + 1), e) :: (flatRow b (k + 2) (es.drop (k + 1)) ++ flatR qs) := by
    rw [hfl, hsp]
    simp [List.append_assoc]
  have hnd : ((flatR rs).map (·.1)).Nodup := by rw [flatR_ids]; exact evL_nd hd
  have bp : b ∉ ps.map (·.1) := by
    rw [hrs, List.map_append, List.map_cons, List.nodup_append] at hd
    exact fun z => hd.2.2 b z b (List.mem_cons_self ..) rfl
  obtain ⟨_, g2, g3⟩ := match_at (all := flatR rs) (rest := flatR rs) (done := []) (acc := []) hm
  have at_ : ∀ m ∈ ms, m.2 = (b, k + 1) → ∃ p v, e.recvOf = some (p, v) ∧ (sentF (flatR rs) p b)[rcvN (es.take k) p]? = some (m.1, v) := fun m hmm hx => by
    rcases g2 m hmm with h | ⟨d1, x, d2, p, v, h1, h2, h3, h4⟩
    · cases h
    · have e1 := split_uniq hnd h1 hall (by rw [← h2, hx])
      rw [h1, e1] at hall
      have e2 := List.append_cancel_left hall
      injection e2 with e2 _
      subst e2
      rw [List.nil_append, e1, recvN_app, recvR_off bp, recvF_own, Nat.zero_add] at h4
      exact ⟨p, v, h3, h4⟩
  refine ⟨fun hn m hmm hx => ?_, fun a v hr => ?_⟩
  · obtain ⟨p, v, h, _⟩ := at_ m hmm hx
    rw [hn] at h
    cases h
  · obtain ⟨s, h1, h2⟩ := g3 _ _ _ a v hall hr
    rw [List.nil_append, recvN_app, recvR_off bp, recvF_own, Nat.zero_add] at h1
    replace h1 : (sentF (flatR rs) a b)[rcvN (es.take k) a]? = some (s, v) := h1
    have ha : a ∈ rs.map (·.1) := Classical.byContradiction fun z => by rw [sentR_off z] at h1; cases h1
    have hae := evsOf_mem hd ha
    obtain ⟨pa, qa, hra, hfa⟩ := flatR_row hae
    have nd2 := hd
    rw [hra, List.map_append, List.map_cons, List.nodup_append] at nd2
    have ap : a ∉ pa.map (·.1) := fun z => nd2.2.2 a z a (List.mem_cons_self ..) rfl
    have aq : a ∉ qa.map (·.1) := (List.nodup_cons.mp nd2.2.1).1
    have hse : sentF (flatR rs) a b = sentF (flatRow a 1 (evsOf rs a)) a b := by rw [hfa, sentF_app, sentF_app, sentR_off ap, sentR_off aq]; simp
    have h5 := h1
    rw [hse] at h5
    obtain ⟨q1, q2, q3, q4⟩ := sentF_own h5
    have hs : s = (a, s.2) := Prod.ext q1 rfl
    refine ⟨s.2, ha, fun m hmm hx => ?_, by rw [← hs]; exact h2, fun c => ?_⟩
    · obtain ⟨p, w, k1, k2⟩ := at_ m hmm hx
      rw [hr] at k1
      injection k1 with k1
      injection k1 with k1 k3
      subst k1
      rw [h1] at k2
      injection k2 with k2
      injection k2 with k2 _
      rw [← k2, ← hs]
    · have := q4 c
      omega
def und (rs : Rows) (c : Str → Nat) (a b : Str) : Int := (sndN ((evsOf rs a).take (c a)) b : Nat) - (rcvN ((evsOf rs b).take (c b)) a : Nat)
theorem und_zero (rs : Rows) (a b : Str) : und rs (fun _ => 0) a b = 0 := by
  unfold und
  simp [sndN, rcvN]
theorem und_step {rs : Rows} {c : Str → Nat} {n : Str} {e : Ev} (he : (evsOf rs n)[c n]? = some e) (a b : Str) :
    und rs (fun m => if m = n then c n + 1 else c m) a b = und rs c a b + (if a = n ∧ e.sendOf.map (·.1) = some b then 1 else 0) - (if b = n ∧ e.recvOf.map (·.1) = some a then 1 else 0) := by
  have h1 : (evsOf rs n).take (c n + 1) = (evsOf rs n).take (c n) ++ [e] := by rw [List.take_add_one, he]; rfl
  have hs : ((sndN ((evsOf rs a).take (if a = n then c n + 1 else c a)) b : Nat) : Int) = (sndN ((evsOf rs a).take (c a)) b : Nat) + (if a = n ∧ e.sendOf.map (·.1) = some b then 1 else 0) := by
    by_cases q : a = n
    · rw [if_pos q, q, h1, sndN_snoc]
      by_cases w : e.sendOf.map (·.1) = some b <;> simp [w]
    · rw [if_neg q, if_neg fun z => q z.1, Int.add_zero]
  have hr : ((rcvN ((evsOf rs b).take (if b = n then c n + 1 else c b)) a : Nat) : Int) = (rcvN ((evsOf rs b).take (c b)) a : Nat) + (if b = n ∧ e.recvOf.map (·.1) = some a then 1 else 0) := by
    by_cases q : b = n
    · rw [if_pos q, q, h1, rcvN_snoc]
      by_cases w : e.recvOf.map (·.1) = some a <;> simp [w]
    · rw [if_neg q, if_neg fun z => q z.1, Int.add_zero]
  unfold und
  show ((sndN ((evsOf rs a).take (if a = n then c n + 1 else c a)) b : Nat) : Int) - (rcvN ((evsOf rs b).take (if b = n then c n + 1 else c b)) a : Nat) = _
  rw [hs, hr]
  omega
end XE
set_option Elab.async false
set_option linter.all false
set_option maxRecDepth 100000
set_option maxHeartbeats 1000000
/-! XBo1: where a walk stops is one place; what lets messages match -/
namespace XE
open PySem PySem.Spec PyProof.Rows L2 RZ Rx SX Rc
theorem reach_le {ns : List Str} {ln : Str → Nat} {cz : EvId → List EvId} {i j : List EvId} (hs : ∀ n ∈ ns, Stuck ln cz i n) (hj : Legal ns ln cz j) : ∀ n, reachF j n ≤ reachF i n := by
  induction hj with
  | nil => exact fun n => Nat.zero_le _
  | @snoc ids n hL hn hl hk ih =>
    intro m
    rw [reachF_snoc]
    by_cases c : m = n
    · subst c
      show (if m = m then reachF ids m + 1 else reachF ids m) ≤ _
      rw [if_pos rfl]
      rcases Nat.lt_or_ge (reachF ids m) (reachF i m) with h | h
      · exact h
      · have e : reachF i m = reachF ids m := Nat.le_antisymm h (ih m)
        have hst := hs m hn
        unfold Stuck at hst
        rw [e] at hst
        refine absurd ?_ (hst hl)
        rw [lackF, List.filter_eq_nil_iff] at hk ⊢
        intro x hx hd
        have h1 := hk x hx
        have h2 := ih x.1
        simp only [decide_eq_true_eq] at h1 hd
        omega
    · show (if m = n then reachF ids n + 1 else reachF ids m) ≤ _
      rw [if_neg c]
      exact ih m
theorem reach_one {ns : List Str} {ln : Str → Nat} {cz : EvId → List EvId} {i j : List EvId} (hi : Legal ns ln cz i) (hj : Legal ns ln cz j) (si : ∀ n ∈ ns, Stuck ln cz i n) (sj : ∀ n ∈ ns, Stuck ln cz j n) : reachF i = reachF j :=
  funext fun n => Nat.le_antisymm (reach_le sj hi n) (reach_le si hj n)
/-- what the next event lacks, by the channels -/
theorem lack_iff {rs : Rows} {ms : Arrows} (hd : (rs.map (·.1)).Nodup) (hm : matchR rs = .ok ms) {b : Str} (hb : b ∈ rs.map (·.1)) {c : Str → Nat} {e : Ev} (he : (evsOf rs b)[c b]? = some e) :
    lackF (causesF ms (b, c b + 1)) c = [] ↔ ∀ a v, e.recvOf = some (a, v) → 0 < und rs c a b := by
  obtain ⟨h1, h2⟩ := chan_at hd hm hb he
  have hu : ∀ a, 0 < und rs c a b ↔ rcvN ((evsOf rs b).take (c b)) a < sndN ((evsOf rs a).take (c a)) b := fun a => by unfold und; omega
  rw [lackF, List.filter_eq_nil_iff]
  have hc : ∀ x, x ∈ causesF ms (b, c b + 1) ↔ ∃ m ∈ ms, m.2 = (b, c b + 1) ∧ m.1 = x := fun x => by
    unfold causesF
    simp only [List.mem_map, List.mem_filter, decide_eq_true_eq]
    constructor
    · rintro ⟨m, ⟨q, r⟩, s⟩; exact ⟨m, q, r, s⟩
    · rintro ⟨m, q, r, s⟩; exact ⟨m, ⟨q, r⟩, s⟩
  cases hr : e.recvOf with
  | none => exact ⟨fun _ a v z => (by cases z), fun _ x hx => by
      obtain ⟨m, q, r, s⟩ := (hc x).mp hx
      exact absurd r (h1 hr m q)⟩
  | some p =>
    obtain ⟨a, v⟩ := p
    obtain ⟨j, ha, k1, k2, k3⟩ := h2 a v hr
    constructor
    · rintro h a' v' z
      injection z with z
      injection z with z1 z2
      subst z1
      have := h (a, j) ((hc _).mpr ⟨_, k2, rfl, rfl⟩)
      rw [hu, k3]
      simp only [decide_eq_true_eq, Nat.not_lt] at this
      exact this
    · intro h x hx
      obtain ⟨m, q, r, s⟩ := (hc x).mp hx
      have e1 := k1 m q r
      rw [e1] at s
      subst s
      have := h a v rfl
      rw [hu, k3] at this
      simp only [decide_eq_true_eq, Nat.not_lt]
      exact this
def sndVs (es : List Ev) (b : Str) : List Int := es.filterMap fun e => e.sendOf.bind fun p => if p.1 = b then some p.2 else none
def rcvVs (es : List Ev) (a : Str) : List Int := es.filterMap fun e => e.recvOf.bind fun p => if p.1 = a then some p.2 else none
theorem sent_vs {a b : Str} : ∀ (es : List Ev) (k : Nat), (sentF (flatRow a k es) a b).map (·.2) = sndVs es b
  | [], k => rfl
  | e :: es, k => by
    have ih := sent_vs (a := a) (b := b) es (k + 1)
    show (List.filterMap _ (((a, k), e) :: flatRow a (k + 1) es)).map _ = _
    unfold sndVs sentF at *
    rw [List.filterMap_cons, List.filterMap_cons]
    dsimp only
    rw [if_pos rfl]
    rcases e.sendOf with _ | ⟨p, v⟩
    · exact ih
    · by_cases c : p = b
      · subst c
        simp only [if_pos, Option.bind_some]
        rw [List.map_cons, ih]
      · simp only [if_neg c, Option.bind_some]
        exact ih
theorem rcv_vsn (a : Str) : ∀ es : List Ev, (rcvVs es a).length = rcvN es a
  | [] => rfl
  | e :: es => by
    have ih := rcv_vsn a es
    unfold rcvVs rcvN at *
    rw [List.filterMap_cons, List.filter_cons]
    rcases e.recvOf with _ | ⟨p, v⟩
    · simpa using ih
    · by_cases c : p = a
      · subst c; simp [ih]
      · simp only [Option.bind_some, if_neg c, Option.map_some]
        rw [if_neg (by simp [c])]
        exact ih
theorem rcv_at {es : List Ev} {a : Str} {k : Nat} {e : Ev} {v : Int} (he : es[k]? = some e) (hr : e.recvOf = some (a, v)) : (rcvVs es a)[rcvN (es.take k) a]? = some v := by
  have hk := (List.getElem?_eq_some_iff.mp he).1
  have e1 : es = es.take k ++ e :: es.drop (k + 1) := by
    rw [← (List.getElem?_eq_some_iff.mp he).2, List.getElem_cons_drop, List.take_append_drop]
  conv => lhs; lhs; rw [e1]
  unfold rcvVs
  rw [List.filterMap_append, List.filterMap_cons, hr]
  simp only [Option.bind_some, if_pos]
  rw [← rcv_vsn, List.getElem?_append_right (by exact Nat.le_refl _)]
  simp [rcvVs]
theorem rcv_back {a : Str} {v : Int} : ∀ {es : List Ev} {i : Nat}, (rcvVs es a)[i]? = some v → ∃ k e, es[k]? = some e ∧ e.recvOf = some (a, v) ∧ rcvN (es.take k) a = i
  | [], i, h => by cases h
  | e :: es, i, h => by
    have st : ∀ k, rcvN ((e :: es).take (k + 1)) a = rcvN [e] a + rcvN (es.take k) a := fun k => by
      rw [List.take_succ_cons]
      unfold rcvN
      rw [← List.length_append, ← List.filter_append]
      rfl
    have hc : rcvVs (e :: es) a = rcvVs [e] a ++ rcvVs es a := by
      unfold rcvVs
      rw [← List.filterMap_append]
      rfl
    have hl := rcv_vsn a [e]
    rw [hc] at h
    rcases Nat.lt_or_ge i (rcvVs [e] a).length with c | c
    · rw [List.getElem?_append_left c] at h
      unfold rcvVs at h c
      rw [List.filterMap_cons] at h c
      rcases hr : e.recvOf with _ | ⟨p, w⟩
      · rw [hr] at h; cases h
      · rw [hr] at h c
        by_cases q : p = a
        · subst q
          simp only [Option.bind_some, if_pos] at h c
          have : i = 0 := by simp at c; omega
          subst this
          injection h with h
          subst h
          exact ⟨0, e, rfl, hr, rfl⟩
        · simp only [Option.bind_some, if_neg q] at h
          cases h
    · rw [List.getElem?_append_right c] at h
      obtain ⟨k, e', h1, h2, h3⟩ := rcv_back h
      exact ⟨k + 1, e', h1, h2, by rw [st, h3]; omega⟩
theorem match_iff {all : Flat} : ∀ {rest done : Flat} {acc : Arrows}, (∃ ms, matchF all done acc rest = .ok ms) ↔ ∀ r1 x r2, rest = r1 ++ x :: r2 → ∀ a v, x.2.recvOf = some (a, v) → ((sentF all a x.1.1)[recvN (done ++ r1) a x.1.1]?).map (·.2) = some v
  | [], done, acc => ⟨fun _ r1 x r2 h => (by cases r1 <;> cases h), fun _ => ⟨acc, rfl⟩⟩
  | y :: rest, done, acc => by
    have tl : ∀ r1 x r2, y :: rest = r1 ++ x :: r2 → (r1 = [] ∧ x = y ∧ r2 = rest) ∨ ∃ r1', r1 = y :: r1' ∧ rest = r1' ++ x :: r2 := fun r1 x r2 h => by
      cases r1 with
      | nil => injection h with h1 h2; exact .inl ⟨rfl, h1.symm, h2.symm⟩
      | cons z r1 => injection h with h1 h2; subst h1; exact .inr ⟨r1, rfl, h2⟩
    have go : ∀ acc', (∀ a v, y.2.recvOf = some (a, v) → ((sentF all a y.1.1)[recvN done a y.1.1]?).map (·.2) = some v) → ((∃ ms, matchF all (done ++ [y]) acc' rest = .ok ms) ↔ ∀ r1 x r2, y :: rest = r1 ++ x :: r2 → ∀ a v, x.2.recvOf = some (a, v) → ((sentF all a x.1.1)[recvN (done ++ r1) a x.1.1]?).map (·.2) = some v) := fun acc' hy => by
      rw [match_iff (rest := rest) (done := done ++ [y]) (acc := acc')]
      constructor
      · intro h r1 x r2 q
        rcases tl _ _ _ q with ⟨rfl, rfl, rfl⟩ | ⟨r1', rfl, q'⟩
        · rw [List.append_nil]; exact hy
        · have := h r1' x r2 q'
          rwa [List.append_assoc] at this
      · intro h r1 x r2 q
        have := h (y :: r1) x r2 (by rw [q]; rfl)
        rwa [← List.singleton_append, ← List.append_assoc] at this
    rw [matchF]
    cases hr : y.2.recvOf with
    | none => exact go acc fun a v z => by rw [hr] at z; cases z
    | some p =>
      obtain ⟨p, v⟩ := p
      dsimp only
      cases hs : (sentF all p y.1.1)[recvN done p y.1.1]? with
      | none =>
        refine ⟨fun ⟨ms, z⟩ => (by cases z), fun h => ?_⟩
        have := h [] y rest rfl p v hr
        rw [List.append_nil, hs] at this
        cases this
      | some s =>
        obtain ⟨s, v'⟩ := s
        dsimp only
        by_cases c : v' = v
        · rw [if_pos c]
          refine go _ fun a w z => ?_
          rw [hr] at z
          injection z with z
          injection z with z1 z2
          subst z1
          subst z2
          rw [hs, ← c]
          rfl
        · rw [if_neg c]
          refine ⟨fun ⟨ms, z⟩ => (by cases z), fun h => ?_⟩
          have := h [] y rest rfl p v hr
          rw [List.append_nil, hs] at this
          injection this with this
          exact absurd this c
theorem sent_evs {rs : Rows} (hd : (rs.map (·.1)).Nodup) (a b : Str) : (sentF (flatR rs) a b).map (·.2) = sndVs (evsOf rs a) b := by
  by_cases h : a ∈ rs.map (·.1)
  · have hbe := evsOf_mem hd h
    generalize evsOf rs a = es at hbe ⊢
    obtain ⟨ps, qs, hrs, hfl⟩ := flatR_row hbe
    rw [hrs, List.map_append, List.map_cons, List.nodup_append] at hd
    have hd2 := (List.nodup_cons.mp hd.2.1).1
    have hd3 : a ∉ ps.map (·.1) := fun z => hd.2.2 a z a (List.mem_cons_self) rfl
    rw [hfl, sentF_app, sentF_app, sentR_off hd3, sentR_off hd2, List.nil_append, List.append_nil]
    exact sent_vs es 1
  · have : evsOf rs a = [] := by
      have : rs.find? (fun r => decide (r.1 = a)) = none := List.find?_eq_none.mpr fun r hr => by
        simp only [decide_eq_true_eq]
        exact fun z => h (List.mem_map.mpr ⟨r, hr, z⟩)
      unfold evsOf
      rw [this]
      rfl
    rw [sentR_off h, this]
    rfl
theorem flatRow_inB {n : Str} {x : EvId × Ev} : ∀ {es : List Ev} {j : Nat}, x ∈ flatRow n j es → x.1.1 = n ∧ ∃ k, es[k]? = some x.2 ∧ x.1.2 = j + k
  | [], _, h => by cases h
  | e :: es, j, h => by
    rcases List.mem_cons.mp h with rfl | h
    · exact ⟨rfl, 0, rfl, rfl⟩
    · obtain ⟨h1, k, h2, h3⟩ := flatRow_inB h
      exact ⟨h1, k + 1, h2, by omega⟩
theorem flatR_inB {x : EvId × Ev} : ∀ {rs : Rows}, x ∈ flatR rs → ∃ es k, (x.1.1, es) ∈ rs ∧ es[k]? = some x.2 ∧ x.1.2 = k + 1
  | [], h => by cases h
  | (n, es) :: rs, h => by
    rcases List.mem_append.mp h with h | h
    · obtain ⟨h1, k, h2, h3⟩ := flatRow_inB h
      exact ⟨es, k, by rw [h1]; exact List.mem_cons_self, h2, by omega⟩
    · obtain ⟨es, k, h1, h2, h3⟩ := flatR_inB h
      exact ⟨es, k, List.mem_cons_of_mem _ h1, h2, h3⟩
theorem flat_split {rs : Rows} (hd : (rs.map (·.1)).Nodup) {b : Str} {es : List Ev} {k : Nat} {e : Ev} (hbe : (b, es) ∈ rs) (he : es[k]? = some e) : ∃ r1 r2, flatR rs = r1 ++ ((b, k + 1), e) :: r2 ∧ ∀ a, recvN r1 a b = rcvN (es.take k) a := by
  obtain ⟨ps, qs, hrs, hfl⟩ := flatR_row hbe
  have hk := (List.getElem?_eq_some_iff.mp he).1
  have hsp : flatRow b 1 es = flatRow b 1 (es.take k) ++ ((b, k + 1), e) :: flatRow b (k + 2) (es.drop (k + 1)) := by
    have h1 : es = es.take k ++ es.drop k := (List.take_append_drop k es).symm
    conv => lhs; rw [h1]
    rw [flatRow_app, List.length_take, Nat.min_eq_left (Nat.le_of_lt hk)]
    have := flatRow_cons b es 1 k e he
    rw [this, show 1 + k = k + 1 by omega, show 1 + (k + 1) = k + 2 by omega]
  have bp : b ∉ ps.map (·.1) := by
    rw [hrs, List.map_append, List.map_cons, List.nodup_append] at hd
    exact fun z => hd.2.2 b z b (List.mem_cons_self ..) rfl
  refine ⟨flatR ps ++ flatRow b 1 (es.take k), flatRow b (k + 2) (es.drop (k + 1)) ++ flatR qs, by rw [hfl, hsp]; simp [List.append_assoc], fun a => ?_⟩
  rw [recvN_app, recvR_off bp, recvF_own, Nat.zero_add]
/-- messages match just if what a process has received is what was sent to it first -/
theorem matchR_iff {rs : Rows} (hd : (rs.map (·.1)).Nodup) : (∃ ms, matchR rs = .ok ms) ↔ ∀ b ∈ rs.map (·.1), ∀ a k e v, (evsOf rs b)[k]? = some e → e.recvOf = some (a, v) → (sndVs (evsOf rs a) b)[rcvN ((evsOf rs b).take k) a]? = some v := by
  unfold matchR
  rw [match_iff]
  constructor
  · intro h b hb a k e v he hr
    obtain ⟨r1, r2, q, hn⟩ := flat_split hd (evsOf_mem hd hb) he
    have := h r1 _ r2 q a v hr
    rw [List.nil_append, ← List.getElem?_map, sent_evs hd, hn] at this
    exact this
  · intro h r1 x r2 q a v hr
    have hx : x ∈ flatR rs := by rw [q]; simp
    obtain ⟨es, k, h1, h2, h3⟩ := flatR_inB hx
    obtain ⟨⟨b, j⟩, e⟩ := x
    dsimp only at h1 h2 h3 hr ⊢
    subst h3
    obtain ⟨s1, s2, q', hn⟩ := flat_split hd h1 h2
    have hnd : ((flatR rs).map (·.1)).Nodup := by rw [flatR_ids]; exact evL_nd hd
    have e1 := split_uniq hnd q q' rfl
    rw [List.nil_append, e1, hn, ← List.getElem?_map, sent_evs hd]
    have hb : b ∈ rs.map (·.1) := List.mem_map.mpr ⟨_, h1, rfl⟩
    have := h b hb a k e v (by rw [evsOf_at hd h1]; exact h2) hr
    rwa [evsOf_at hd h1] at this
/-- rows whose channels carry the same match alike -/
theorem match_keep {rs qs : Rows} (hd : (rs.map (·.1)).Nodup) (hn : qs.map (·.1) = rs.map (·.1)) (hs : ∀ n b, sndVs (evsOf qs n) b = sndVs (evsOf rs n) b) (hr : ∀ n a, rcvVs (evsOf qs n) a = rcvVs (evsOf rs n) a) (h : ∃ ms, matchR rs = .ok ms) : ∃ ms, matchR qs = .ok ms := by
  rw [matchR_iff (by rw [hn]; exact hd)]
  rw [matchR_iff hd] at h
  intro b hb a k e v he hv
  rw [hs]
  have h1 := rcv_at he hv
  rw [hr] at h1
  rw [hn] at hb
  obtain ⟨k', e', he', hv', hk'⟩ := rcv_back h1
  rw [← hk']
  exact h b hb a k' e' v he' hv'
end XE
set_option Elab.async false
set_option linter.all false
set_option maxRecDepth 100000
set_option maxHeartbeats 1000000
/-! XS8: _law_first_message -/
namespace XE
open PySem PySem.Spec PyProof.Rows L2 RZ Rx SX Rc
abbrev sLFirstMsg : Stmt := topS 44
structure SntAt (H : Hp) (D : Addr) (fl : Flat) (kvs : List (List Key × V)) : Prop where
  at_ : H D = some (.dT kvs)
  few : kvs.length ≤ fl.length
  val : ∀ x y, (valV kvs (chK x y) = none ∧ sentF fl x y = []) ∨ ∃ L, valV kvs (chK x y) = some (.ref L) ∧ H L = some (.lst (((sentF fl x y).map (·.2)).map V.int))
theorem SntAt.same {H H' : Hp} {D : Addr} {fl : Flat} {kvs : List (List Key × V)} (q : SntAt H D fl kvs) (e : Same H H') : SntAt H' D fl kvs := by
  refine ⟨e _ _ q.at_, q.few, fun x y => ?_⟩
  rcases q.val x y with h | ⟨L, g1, g2⟩
  · exact .inl h
  · exact .inr ⟨L, g1, e _ _ g2⟩
theorem SntAt.skip {H : Hp} {D : Addr} {fl : Flat} {kvs : List (List Key × V)} (h : SntAt H D fl kvs) {x : EvId × Ev} (hx : x.2.sendOf = none) : SntAt H D (fl ++ [x]) kvs := by
  have e : ∀ a b, sentF (fl ++ [x]) a b = sentF fl a b := fun a b => by
    rw [sentF_snoc, hx]
    split <;> exact List.append_nil _
  refine ⟨h.at_, Nat.le_trans h.few (by simp), fun a b => ?_⟩
  rw [e]
  exact h.val a b
theorem sent_one {fl : Flat} {n p : Str} {k : Nat} {v : Int} {e : Ev} (he : e.sendOf = some (p, v)) (a b : Str) : (sentF (fl ++ [((n, k), e)]) a b).map (·.2) = if a = n ∧ b = p then (sentF fl a b).map (·.2) ++ [v] else (sentF fl a b).map (·.2) := by
  rw [sentF_snoc, he, List.map_append]
  by_cases c : a = n ∧ b = p
  · obtain ⟨rfl, rfl⟩ := c
    show _ ++ List.map _ (if a = a then (if b = b then [(((a, k) : EvId), v)] else []) else []) = _
    rw [if_pos rfl, if_pos rfl, if_pos ⟨rfl, rfl⟩]
    rfl
  · rw [if_neg c]
    have : (if n = a then (if p = b then [(((n, k) : EvId), v)] else []) else [] : List (EvId × Int)) = [] := by
      split
      · split
        · rename_i h1 h2
          exact absurd ⟨h1.symm, h2.symm⟩ c
        · rfl
      · rfl
    show _ ++ List.map _ (if n = a then (if p = b then [(((n, k) : EvId), v)] else []) else []) = _
    rw [this]
    exact List.append_nil _
theorem SntAt.put {H : Hp} {D L : Addr} {fl : Flat} {kvs : List (List Key × V)} (q : SntAt H D fl kvs) {n p : Str} {k : Nat} {v : Int} {e : Ev} (he : e.sendOf = some (p, v)) (hL : H L = some (.lst (((sentF fl n p).map (·.2) ++ [v]).map V.int))) :
    SntAt (upd H D (.dT (putK kvs (chK n p) (.ref L)))) D (fl ++ [((n, k), e)]) (putK kvs (chK n p) (.ref L)) := by
  have kp : ∀ b ys, H b = some (.lst ys) → upd H D (.dT (putK kvs (chK n p) (.ref L))) b = some (.lst ys) := fun b ys e => by
    rw [upd_ne (ne_of e q.at_ (by intro z; cases z))]
    exact e
  refine ⟨upd_same, ?_, fun u' v' => ?_⟩
  · have := length_putK kvs (chK n p) (V.ref L)
    have := q.few
    rw [List.length_append, List.length_singleton]
    omega
  · rw [valV_put, sent_one he]
    by_cases c : u' = n ∧ v' = p
    · obtain ⟨rfl, rfl⟩ := c
      rw [if_pos rfl, if_pos ⟨rfl, rfl⟩]
      exact .inr ⟨L, rfl, kp _ _ hL⟩
    · rw [if_neg (fun z => c (chK_eq.mp z)), if_neg c]
      rcases q.val u' v' with ⟨h1, h2⟩ | ⟨M, g1, g2⟩
      · refine .inl ⟨h1, ?_⟩
        have := sent_one (fl := fl) (n := n) (p := p) (k := k) (v := v) he u' v'
        rw [if_neg c, h2] at this
        exact List.map_eq_nil_iff.mp this
      · exact .inr ⟨M, g1, kp _ _ g2⟩
theorem SntAt.got {H : Hp} {D O : Addr} {fl : Flat} {kvs : List (List Key × V)} (q : SntAt H D fl kvs) (u v : Str) (hO : H O = some (.lst [])) : ∃ L, (valV kvs (chK u v)).getD (.ref O) = .ref L ∧ H L = some (.lst (((sentF fl u v).map (·.2)).map V.int)) := by
  rcases q.val u v with ⟨h1, h2⟩ | ⟨L, h1, h2⟩
  · exact ⟨O, by rw [h1]; rfl, by rw [h2]; exact hO⟩
  · exact ⟨L, by rw [h1]; rfl, h2⟩
/-- what is due is told -/
def MsgDue (K : PySem.W.Frag) (H : Hp) (v : V) (rs : Rows) : Prop := (∃ ms, matchR rs = .ok ms ∧ v = .non) ∨ ∃ x : EvId, matchR rs = .error x ∧ Dp K H v (.list [.str "message", .str x.1, .int (x.2 : Nat)])
def spFstMsg (K : PySem.W.Frag) : Sp := fun vs H Q _ => ∃ (l : Addr) (xs : List V) (rs : Rows), vs = [.ref l] ∧ SqL K H l xs ∧ DpAll K H xs (rs.map rowE) ∧ (rs.map (·.1)).Nodup ∧ rs.length ≤ 40 ∧ (∀ r ∈ rs, r.2.length ≤ 1000) ∧ ∀ v H', Same H H' → MsgDue K H' v rs → Q v H'
theorem row_at {K : PySem.W.Frag} {H : Hp} {xs : List V} {rs : Rows} (h : DpAll K H xs (rs.map rowE)) {i : Nat} {x : V} (hx : xs[i]? = some x) : ∃ r q b us, rs[i]? = some r ∧ x = .ref q ∧ SqT K H q [.str r.1, .ref b] ∧ SqT K H b us ∧ DpAll K H us (r.2.map Ev.data) := by
  obtain ⟨d, hd, hp⟩ := dpAll_at h hx
  rw [List.getElem?_map] at hd
  cases hr : rs[i]? with
  | none => rw [hr] at hd; cases hd
  | some r =>
    rw [hr] at hd
    injection hd with hd
    subst hd
    obtain ⟨q, b, us, rfl, h1, h2, h3⟩ := row_dp hp
    exact ⟨r, q, b, us, rfl, rfl, h1, h2, h3⟩
section
variable {P : Program} {w : World} {K : PySem.W.Frag} {mg : Str → Option Value} {base : Heap}
abbrev fmN : List Str := ["_law_rows_here", "_law_sent", "_law_name", "_law_events", "_law_event_here", "_law_k", "_law_other", "_law_many", "_law_one"]
theorem scFM : FnScope fmN ["_law_rows_here"] (defScope sLFirstMsg) := ⟨rfl, rfl, rfl, by decide +kernel, rfl, by decide +kernel, by decide +kernel⟩
theorem ok_fstmsg {f : Addr} {fd : FuncData} (F : Fun K "_law_first_message" "_law_first_message" sLFirstMsg f fd) (mlen : mg "len" = none) (mrange : mg "range" = none) : FnOk P w K mg base CX0 1 f fd ["_law_rows_here"] (spFstMsg K) := by
  refine F.ok scFM (fun vs H Q E h => ?_) (fun cdv A outer s H vs Q E hr h => ?_)
  · obtain ⟨_, _, _, rfl, _⟩ := h
    rfl
  · obtain ⟨l, xs, rs, rfl, hL, hD, hnd, hfew, hlen, k⟩ := h
    have hu := hu_of hr
    refine ⟨_, (pss_cons (ps_set (i := 1) scFM.nd rfl (.inl rfl) pe_dnewT) (pss_cons (ps_for PassesOwn.never rfl (pi_list (pv 0)) (pg_tup rfl (pgs_cons (pg_name (i := 2) scFM.nd rfl (.inl rfl)) (pgs_cons (pg_name (i := 3) scFM.nd rfl (.inl rfl)) pgs_nil))) (pss_one (ps_for PassesOwn.never rfl (pi_tup (pv 3)) (pg_name (i := 4) scFM.nd rfl (.inl rfl)) (pss_one (ps_if (pt_cmpR op_eq (pe_ix ix_tup (pv 4) pe_int (fun _ _ => rfl)) pe_str (nomark _)) (pss_one (ps_dput hu (pv 1) (pe_tup (pa_cons (pv 2) (pa_cons (pe_ix ix_tup (pv 4) pe_int (fun _ _ => rfl)) pa_nil))) (pe_op op_cat (pe_dget2 hu (pv 1) (pe_tup (pa_cons (pv 2) (pa_cons (pe_ix ix_tup (pv 4) pe_int (fun _ _ => rfl)) pa_nil))) (pe_lst pa_nil) ⟨rfl, rfl, rfl, rfl⟩) (pe_lst (pa_cons (pe_ix ix_tup (pv 4) pe_int (fun _ _ => rfl)) pa_nil))) rfl)) pss_nil))))) (pss_cons (ps_for PassesOwn.never rfl (pi_list (pv 0)) (pg_tup rfl (pgs_cons (pg_name (i := 2) scFM.nd rfl (.inl rfl)) (pgs_cons (pg_name (i := 3) scFM.nd rfl (.inl rfl)) pgs_nil))) (pss_one (ps_for PassesOwn.never rfl (pi_range1 rfl mrange (pa_cons (pe_callB call_len_seq (by rfl) mlen PySem.boot_len (pa_cons (pv 3) pa_nil)) pa_nil)) (pg_name (i := 5) scFM.nd rfl (.inl rfl)) (pss_one (ps_if (pt_cmpR op_in_seq (pe_ix ix_tup (pe_ix ix_tup (pv 3) (pv 5) (fun _ _ => rfl)) pe_int (fun _ _ => rfl)) (pe_tup (pa_cons pe_str (pa_cons pe_str pa_nil))) rfl) (pss_cons (ps_set (i := 6) scFM.nd rfl (.inr rfl) (pe_ix ix_tup (pe_ix ix_tup (pv 3) (pv 5) (fun _ _ => rfl)) pe_int (fun _ _ => rfl))) (pss_cons (ps_set (i := 7) scFM.nd rfl (.inl rfl) (pe_callB call_len_seq (by rfl) mlen PySem.boot_len (pa_cons (pe_lc (own := [("_law_one", 8)]) (g := gName 8) (tt := tAnd (tTest (tOp (rIn K false) (tOp (rIxT K) (tVar 8) (tC (.int 0))) (tTup (tCons (tC (.str "receive")) (tCons (tC (.str "take")) tNil))))) (tTest (tOp rEq (tOp (rIxT K) (tVar 8) (tC (.int 1))) (tVar 6)))) (te := tVar 8) rfl scFM.nd (pi_tup (pe_slice sl_tupA (pv 3) po_none (po_some (pv 5)))) (blkOk_by (own := [("_law_one", 8)]) (N := fmN) (sc := defScope sLFirstMsg) (by decide +kernel)) (fun _ _ _ _ _ => (pg_name (i := 8) scFM.nd rfl (Or.inl rfl))) (fun _ _ _ _ _ => pts_one (PW.pt (pw_and (pt_cmpR op_in_seq (pe_ix (by exact ix_tup) (pv 8) pe_int (fun _ _ => rfl)) (pe_tup (pa_cons pe_str (pa_cons pe_str pa_nil))) rfl) (pw_and1 (pt_cmpR op_eq (pe_ix (by exact ix_tup) (pv 8) pe_int (fun _ _ => rfl)) (pv 6) (nomark _)))))) (fun _ _ _ _ _ => (pv 8))) pa_nil))) (pss_one (ps_if (pt_cmpR (op_neD hr.units) (pe_slice sl_list (pe_dget2 hu (pv 1) (pe_tup (pa_cons (pv 6) (pa_cons (pv 2) pa_nil))) (pe_lst pa_nil) ⟨rfl, rfl, rfl, rfl⟩) (po_some (pv 7)) (po_some (pe_op op_add (pv 7) pe_int))) (pe_lst (pa_cons (pe_ix ix_tup (pe_ix ix_tup (pv 3) (pv 5) (fun _ _ => rfl)) pe_int (fun _ _ => rfl)) pa_nil)) (nomark _)) (pss_one (ps_ret (pe_lst (pa_cons pe_str (pa_cons (pv 2) (pa_cons (pe_op op_add (pv 5) pe_int) pa_nil)))))) pss_nil)))) pss_nil))))) (pss_one (ps_ret pe_non))))), ?_⟩
    have hln : xs.length = rs.length := by rw [dpAll_len hD, List.length_map]
    refine fun D nD => ?_
    have s0 := same_new (o := .dT []) nD
    have S0 : SntAt (upd H D (.dT [])) D (flatR (rs.take 0)) [] := ⟨upd_same, Nat.le_refl _, fun a b => .inl ⟨rfl, rfl⟩⟩
    refine ⟨_, rfl, l, rfl, ⟨_, sqL_same s0 hL⟩, ?_⟩
    refine for_list (K := K) (a := l) (xs := xs) (fun i σ Hx => ∃ (x2 x3 x4 x5 x6 x7 x8 : Option V) (kvs : List (List Key × V)), σ = [some (.ref l), some (.ref D), x2, x3, x4, x5, x6, x7, x8] ∧ Same H Hx ∧ SntAt Hx D (flatR (rs.take i)) kvs) ⟨_, _, _, _, _, _, _, [], rfl, s0, S0⟩ (fun i σ Hx _ ⟨_, _, _, _, _, _, _, _, _, sm, _⟩ => sqL_same sm hL) ?_ ?_
    · rintro i x σ Hx hx ⟨x2, x3, x4, x5, x6, x7, x8, kvs, rfl, sm, S⟩
      obtain ⟨r, q, b, us, hr', rfl, hq, hb', hus⟩ := row_at hD hx
      obtain ⟨n, es⟩ := r
      have hmem := List.mem_of_getElem? hr'
      have hul := dpAll_len hus
      rw [List.length_map] at hul
      refine ⟨q, _, rfl, sqT_same sm hq, rfl, _, _, rfl, _, _, rfl, rfl, ?_⟩
      refine ⟨_, rfl, b, rfl, ⟨_, sqT_same sm hb'⟩, ?_⟩
      have ei : flatR (rs.take i) = flatR (rs.take i) ++ flatRow n 1 (es.take 0) := (List.append_nil _).symm
      refine for_tup (fun j σ Hy => ∃ (x4 : Option V) (kvs : List (List Key × V)), σ = [some (.ref l), some (.ref D), some (.str n), some (.ref b), x4, x5, x6, x7, x8] ∧ Same H Hy ∧ SntAt Hy D (flatR (rs.take i) ++ flatRow n 1 (es.take j)) kvs) ⟨_, kvs, rfl, sm, by rw [← ei]; exact S⟩ (fun i σ Hy _ ⟨_, _, _, sy, _⟩ => sqT_same sy hb') ?_ ?_
      · rintro j v σ Hy hv ⟨x4, kvs, rfl, sy, S⟩
        obtain ⟨e, qe, hej, rfl, hqe⟩ := ev_at (dpAll_same sy hus) hv
        replace hej : es[j]? = some e := hej
        have ej : es.take (j + 1) = es.take j ++ [e] := by rw [List.take_add_one, hej]; rfl
        have hjl : (es.take j).length = j := by
          have := (List.getElem?_eq_some_iff.mp hej).1
          rw [List.length_take]; omega
        have ef : flatR (rs.take i) ++ flatRow n 1 (es.take (j + 1)) = (flatR (rs.take i) ++ flatRow n 1 (es.take j)) ++ [((n, 1 + j), e)] := by
          rw [ej, flatRow_snoc, hjl, List.append_assoc]
        have hlen' : (flatR (rs.take i) ++ flatRow n 1 (es.take j)).length ≤ 41000 := by
          have h1 := flat_len (rs := rs.take i) fun r hr => hlen r (List.mem_of_mem_take hr)
          have h2 := hlen _ hmem
          simp only at h2
          rw [List.length_append, flatRow_len, hjl]
          rw [List.length_take] at h1
          have := (List.getElem?_eq_some_iff.mp hej).1
          omega
        generalize flatR (rs.take i) ++ flatRow n 1 (es.take j) = fl at S ef hlen'
        rw [ef]
        refine ⟨_, rfl, qe, _, 0, _, rfl, rfl, hqe, atI_nat (j := 0) rfl, rfl, _, rfl, ?_⟩
        rw [word_send]
        cases hso : e.sendOf with
        | none => exact iteFc rfl ⟨_, kvs, rfl, sy, S.skip hso⟩
        | some pv =>
        obtain ⟨p, v⟩ := pv
        obtain ⟨_, hrest⟩ := send_rest hso
        rw [hrest] at hqe
        refine iteTc rfl ?_
        refine ⟨_, rfl, D, rfl, .inr ⟨_, .inl S.at_⟩, _, rfl, _, rfl, qe, _, 1, _, rfl, rfl, hqe, atI_nat (j := 1) rfl, (by show 2 ≤ sizeLine; decide), fun U nU => ⟨(by show 0 ≤ sizeLine; decide), fun O nO => ?_⟩⟩
        have hU0 : upd Hy U (.tup [.str n, .str p]) U = some (.tup ((chK n p).map kV)) := upd_same
        have sUO := (same_new (o := .tup [.str n, .str p]) nU).trans (same_new (o := .lst []) nO)
        have hU1 := same_new (o := .lst []) nO _ _ hU0
        have hO0 := upd_same (H := upd Hy U (.tup [.str n, .str p])) (a := O) (o := .lst [])
        generalize upd (upd Hy U (.tup [.str n, .str p])) O (.lst []) = H7 at hO0 hU1 sUO ⊢
        have S7 := S.same sUO
        obtain ⟨Lq, hLq, hLq2⟩ := S7.got n p hO0
        refine ⟨_, DGet.t S7.at_ hU1, ?_⟩
        rw [hLq]
        refine ⟨_, rfl, qe, _, 2, _, rfl, rfl, sqT_same sUO hqe, atI_nat (j := 2) rfl, (by show 1 ≤ sizeLine; decide), fun V1 nV1 => ?_⟩
        have s8 := same_new (o := .lst [.int v]) nV1
        have hpl : ((sentF fl n p).map (·.2)).length ≤ 41000 := by
          rw [List.length_map]
          exact Nat.le_trans (sentF_le ..) hlen'
        refine ⟨Lq, V1, _, _, rfl, rfl, s8 _ _ hLq2, upd_same, ?_, fun W nW => ?_⟩
        · rw [List.length_map, List.length_singleton]
          exact Nat.le_of_lt (fitR (by omega))
        have s9 := s8.trans (same_new (o := .lst (((sentF fl n p).map (·.2)).map V.int ++ [.int v])) nW)
        have hW := upd_same (H := upd H7 V1 (.lst [.int v])) (a := W) (o := .lst (((sentF fl n p).map (·.2)).map V.int ++ [.int v]))
        generalize upd (upd H7 V1 (.lst [.int v])) W (.lst (((sentF fl n p).map (·.2)).map V.int ++ [.int v])) = H8 at s9 hW ⊢
        have hqe8 := sqT_same (sUO.trans s9) hqe
        refine ⟨_, rfl, _, rfl, _, rfl, qe, _, 1, _, rfl, rfl, hqe8, atI_nat (j := 1) rfl, (by show 2 ≤ sizeLine; decide), fun U2 nU2 => ?_⟩
        have s10 := s9.trans (same_new (o := .tup [.str n, .str p]) nU2)
        have hU2 : upd H8 U2 (.tup [.str n, .str p]) U2 = some (.tup ((chK n p).map kV)) := upd_same
        have hW9 := same_new (o := .tup [.str n, .str p]) nU2 _ _ hW
        generalize upd H8 U2 (.tup [.str n, .str p]) = H9 at s10 hU2 hW9 ⊢
        have S9 := S7.same s10
        refine ⟨D, _, rfl, DPut.t S9.at_ hU2 (fitR (Nat.le_trans S9.few (Nat.le_trans hlen' (by decide)))), _, putK kvs (chK n p) (.ref W), rfl, same_upd (sy.trans (sUO.trans s10)) nD, S9.put hso (by rw [List.map_append]; exact hW9)⟩
      · rintro σ Hy ⟨x4, kvs, rfl, sy, S⟩
        rw [hul, List.take_length] at S
        have e1 : flatR (rs.take (i + 1)) = flatR (rs.take i) ++ flatRow n 1 es := by
          rw [List.take_add_one, hr', flatR_app]
          exact congrArg _ (flatR_one n es)
        exact ⟨_, _, _, _, _, _, _, kvs, rfl, sy, by rw [e1]; exact S⟩
    · rintro σ H5 ⟨x2, x3, x4, x5, x6, x7, x8, kvs, rfl, s5, S⟩
      rw [hln, List.take_length] at S
      refine ⟨_, rfl, l, rfl, ⟨_, sqL_same s5 hL⟩, ?_⟩
      refine for_list (K := K) (a := l) (xs := xs) (fun i σ Hx => ∃ (x2 x3 x4 x5 x6 x7 x8 : Option V) (acc : List (EvId × EvId)), σ = [some (.ref l), some (.ref D), x2, x3, x4, x5, x6, x7, x8] ∧ Same H5 Hx ∧ matchR rs = matchF (flatR rs) (flatR (rs.take i)) acc (flatR (rs.drop i))) ⟨_, _, _, _, _, _, _, [], rfl, .refl _, rfl⟩ (fun i σ Hx _ ⟨_, _, _, _, _, _, _, _, _, sm, _⟩ => sqL_same (s5.trans sm) hL) ?_ ?_
      · rintro i x σ Hx hx ⟨x2, x3, x4, x5, x6, x7, x8, acc, rfl, sm, hmt⟩
        obtain ⟨r, q, b, us, hr', rfl, hq, hb', hus⟩ := row_at (dpAll_same s5 hD) hx
        obtain ⟨n, es⟩ := r
        have hmem := List.mem_of_getElem? hr'
        have hul := dpAll_len hus
        rw [List.length_map] at hul
        have hdr : flatR (rs.drop i) = flatRow n 1 es ++ flatR (rs.drop (i + 1)) := by
          have : rs.drop i = (n, es) :: rs.drop (i + 1) := by
            obtain ⟨h1, h2⟩ := List.getElem?_eq_some_iff.mp hr'
            rw [← h2, List.getElem_cons_drop]
          rw [this]
          rfl
        rw [hdr] at hmt
        have ei : flatR (rs.take i) = flatR (rs.take i) ++ flatRow n 1 (es.take 0) := (List.append_nil _).symm
        have hes := hlen _ hmem
        simp only at hes
        refine ⟨q, _, rfl, sqT_same sm hq, rfl, _, _, rfl, _, _, rfl, rfl, ?_⟩
        refine ⟨_, rfl, b, us, rfl, .inr (sqT_same sm hb'), us.length, rfl, by omega, by have h9 : us.length = es.length := hul; omega, ?_⟩
        rw [show ((us.length : Nat) : Int).toNat = us.length by omega]
        refine for_range (lo := 0) (n := us.length) (fun j σ Hy => ∃ (x5 x6 x7 x8 : Option V) (acc : List (EvId × EvId)), σ = [some (.ref l), some (.ref D), some (.str n), some (.ref b), x4, x5, x6, x7, x8] ∧ Same H5 Hy ∧ matchR rs = matchF (flatR rs) (flatR (rs.take i) ++ flatRow n 1 (es.take j)) acc (flatRow n (1 + j) (es.drop j) ++ flatR (rs.drop (i + 1))))
          ⟨_, _, _, _, acc, rfl, sm, by rw [← ei]; exact hmt⟩ ?_ ?_
        · rintro j σ Hy hj ⟨x5, x6, x7, x8, acc, rfl, sy, hmt⟩
          obtain ⟨vj, hvj⟩ : ∃ v, us[j]? = some v := ⟨us[j]'hj, by simp⟩
          obtain ⟨e, qe, hej, rfl, hqe⟩ := ev_at (dpAll_same sy hus) hvj
          replace hej : es[j]? = some e := hej
          have ej : es.take (j + 1) = es.take j ++ [e] := by rw [List.take_add_one, hej]; rfl
          have hjl : (es.take j).length = j := by
            have := (List.getElem?_eq_some_iff.mp hej).1
            rw [List.length_take]; omega
          have ef : flatR (rs.take i) ++ flatRow n 1 (es.take (j + 1)) = (flatR (rs.take i) ++ flatRow n 1 (es.take j)) ++ [((n, 1 + j), e)] := by
            rw [ej, flatRow_snoc, hjl, List.append_assoc]
          have hfc : flatRow n (1 + j) (es.drop j) = ((n, 1 + j), e) :: flatRow n (1 + (j + 1)) (es.drop (j + 1)) := flatRow_cons n es 1 j e hej
          rw [hfc, List.cons_append] at hmt
          have ix : atI us (0 + (j : Int)) = some (.ref qe) := by rw [Int.zero_add]; exact atI_nat hvj
          have hby := sqT_same sy hb'
          refine ⟨_, rfl, _, rfl, b, _, _, _, rfl, rfl, hby, ix, qe, _, 0, _, rfl, rfl, hqe, atI_nat (j := 0) rfl, (by show 2 ≤ sizeLine; decide), fun T nT => ⟨T, _, rfl, .inr (SqT.of upd_same), rfl, rfl, _, rfl, ?_⟩⟩
          have sT := same_new (o := .tup [.str "receive", .str "take"]) nT
          generalize upd Hy T (.tup [.str "receive", .str "take"]) = H6 at sT ⊢
          show if inV (.str e.word) ((["receive", "take"] : List Str).map V.str) = true then _ else _
          rw [inV_strs, word_recv]
          have s56 := sy.trans sT
          cases hro : e.recvOf with
          | none =>
            rw [matchF_none hro] at hmt
            exact iteFc rfl ⟨_, _, _, _, acc, rfl, s56, by rw [ef]; exact hmt⟩
          | some pv =>
          obtain ⟨p, v⟩ := pv
          obtain ⟨xv, hrest⟩ := recv_rest hro
          rw [hrest] at hqe
          rw [matchF_some hro] at hmt
          have hpre := recvN_pre hnd hr' p j
          rw [show ((n, 1 + j), e).1.1 = n from rfl, hpre] at hmt
          refine iteTc rfl ?_
          refine ⟨_, rfl, _, rfl, b, _, _, _, rfl, rfl, sqT_same sT hby, ix, qe, _, 1, _, rfl, rfl, sqT_same sT hqe, atI_nat (j := 1) rfl, ?_⟩
          have hb6 := sqT_same sT hby
          have hus6 := dpAll_same s56 hus
          have sixn : ¬ (HT.sIx us.length 0 none = 0 ∧ HT.sIx us.length us.length (some (0 + (j : Int))) = us.length) := fun z => by
            have := z.2
            rw [Int.zero_add, HT.sIx_nat] at this
            omega
          refine ⟨_, rfl, _, rfl, _, rfl, b, us, rfl, hb6, fun z => absurd z sixn, fun _ Sl nSl => ?_⟩
          rw [Int.zero_add, cut_hi]
          have sS := same_new (o := .tup (us.take j)) nSl
          have hSl := upd_same (H := H6) (a := Sl) (o := .tup (us.take j))
          have hq7 := sqT_same (sT.trans sS) hqe
          have hb7 := sqT_same sS hb6
          have hus7 := dpAll_same sS hus6
          have s57 := s56.trans sS
          generalize upd H6 Sl (.tup (us.take j)) = H7 at sS hSl hq7 hb7 hus7 s57 ⊢
          refine ⟨Sl, rfl, ⟨_, SqT.of hSl⟩, fun Cq nC => ?_⟩
          have htl : (us.take j).length = j := by rw [List.length_take]; omega
          refine lc_it walk_tup (fun m Hz => Same H7 Hz ∧ ∃ zs, Hz Cq = some (.lst zs) ∧ zs.length = cntR (es.take m) p) ⟨same_new nC, [], upd_same, rfl⟩ (fun m Hz _ q => SqT.of (q.1 _ _ hSl)) ?_ ?_
          · rintro m x Hz Hz' hm ⟨sz, zs, hC, hzl⟩ ⟨rfl, hx⟩
            have hmj : m < j := by omega
            rw [List.getElem?_take_of_lt hmj] at hx
            obtain ⟨e', qe', hem, rfl, hqe'⟩ := ev_at (dpAll_same sz hus7) hx
            replace hem : es[m]? = some e' := hem
            have hzb : zs.length ≤ 1000 := by
              rw [hzl]
              have : cntR (es.take m) p ≤ (es.take m).length := List.length_filter_le ..
              rw [List.length_take] at this
              omega
            refine ⟨rfl, _, rfl, qe', _, 0, _, rfl, rfl, hqe', atI_nat (j := 0) rfl, (by show 2 ≤ sizeLine; decide), fun T2 nT2 => ⟨T2, _, rfl, .inr (SqT.of upd_same), rfl, rfl, _, rfl, ?_⟩⟩
            have sT2 := same_new (o := .tup [.str "receive", .str "take"]) nT2
            generalize upd Hz' T2 (.tup [.str "receive", .str "take"]) = Hw at sT2 ⊢
            show if inV (.str e'.word) ((["receive", "take"] : List Str).map V.str) = true then _ else _
            rw [inV_strs, word_recv, cntR_succ hem]
            have hC2 := sT2 _ _ hC
            have sw := sz.trans sT2
            cases hro' : e'.recvOf with
            | none =>
              refine iteFc rfl (iteFc rfl ⟨sw, zs, hC2, ?_⟩)
              rw [if_neg (by intro z; cases z)]
              omega
            | some pv' =>
            obtain ⟨p', v'⟩ := pv'
            obtain ⟨xv', hrest'⟩ := recv_rest hro'
            rw [hrest'] at hqe'
            refine iteTc rfl ⟨_, rfl, qe', _, 1, _, rfl, rfl, sqT_same sT2 hqe', atI_nat (j := 1) rfl, _, rfl, rfl, _, rfl, ?_⟩
            by_cases hpp : p' = p
            · subst hpp
              refine iteTc (decide_eq_true rfl) ⟨_, rfl, zs, hC2, fitR (by omega), same_upd sw nC, _, upd_same, ?_⟩
              rw [List.length_append, hzl, if_pos (show Option.map (fun x : Str × Int => x.1) (some (p', v')) = some p' from rfl)]
              rfl
            · refine iteFc (decide_eq_false fun z => hpp (by injection z)) ⟨sw, zs, hC2, ?_⟩
              rw [if_neg (fun z => hpp (by simpa using z))]
              omega
          rintro H8 ⟨s8, zs, hC, hzl⟩
          rw [htl] at hzl
          dsimp only [List.set]
          refine ⟨Cq, zs, rfl, .inl (SqL.of hC), ?_⟩
          rw [hzl]
          generalize cntR (es.take j) p = cnt at hmt
          have S8 := S.same (s57.trans s8)
          refine ⟨_, rfl, D, rfl, .inr ⟨_, .inl S8.at_⟩, _, rfl, _, rfl, (by show 2 ≤ sizeLine; decide), fun U nU => ⟨(by show 0 ≤ sizeLine; decide), fun O nO => ?_⟩⟩
          have hU0 : upd H8 U (.tup [.str p, .str n]) U = some (.tup ((chK p n).map kV)) := upd_same
          have sUO := (same_new (o := .tup [.str p, .str n]) nU).trans (same_new (o := .lst []) nO)
          have hU1 := same_new (o := .lst []) nO _ _ hU0
          have hO0 := upd_same (H := upd H8 U (.tup [.str p, .str n])) (a := O) (o := .lst [])
          generalize upd (upd H8 U (.tup [.str p, .str n])) O (.lst []) = H9 at hO0 hU1 sUO ⊢
          have S9 := S8.same sUO
          obtain ⟨Lq, hLq, hLq2⟩ := S9.got p n hO0
          refine ⟨_, DGet.t S9.at_ hU1, ?_⟩
          rw [hLq]
          refine ⟨_, rfl, _, rfl, _, rfl, _, _, rfl, rfl, _, rfl, Lq, _, rfl, SqL.of hLq2, fun W nW => ?_⟩
          rw [cut_at, take1]
          have s9a := s57.trans (s8.trans sUO)
          have hq9 := sqT_same ((sT.trans sS).trans (s8.trans sUO)) hqe
          have hb9 := sqT_same (s8.trans sUO) hb7
          have hsent : (((sentF (flatR rs) p n).map (·.2)).map V.int)[cnt]? = ((sentF (flatR rs) p n)[cnt]?).map fun s => V.int s.2 := by
            rw [List.getElem?_map, List.getElem?_map]
            cases (sentF (flatR rs) p n)[cnt]? <;> rfl
          rw [hsent]
          generalize hxs : (((sentF (flatR rs) p n)[cnt]?).map fun s => V.int s.2).toList = ws
          have sW := same_new (o := .lst ws) nW
          have hW := upd_same (H := H9) (a := W) (o := .lst ws)
          generalize upd H9 W (.lst ws) = H10 at sW hW ⊢
          refine ⟨_, rfl, _, rfl, b, _, _, _, rfl, rfl, sqT_same sW hb9, atI_nat hvj, qe, _, 3, _, rfl, rfl, sqT_same sW hq9, atI_nat (j := 3) rfl, (by show 1 ≤ sizeLine; decide), fun Z nZ => ?_⟩
          have sZ := same_new (o := .lst [.int v]) nZ
          have hZ := upd_same (H := H10) (a := Z) (o := .lst [.int v])
          have hW2 := sZ _ _ hW
          generalize upd H10 Z (.lst [.int v]) = H11 at sZ hZ hW2 ⊢
          have s11 := (s9a.trans sW).trans sZ
          have ret : matchR rs = .error (n, 1 + j) → ∀ T : Addr, H11 T = none → Q (.ref T) (upd H11 T (.lst [.str "message", .str n, .int ((j : Int) + 1)])) := fun he T nT => by
            refine k _ _ ((s5.trans s11).trans (same_new nT)) (.inr ⟨_, he, ?_⟩)
            rw [show ((j : Int) + 1) = ((1 + j : Nat) : Int) by omega]
            exact .lst (SqL.of upd_same) (.cons (.str _) (.cons (.str _) (.cons (.int _) .nil)))
          dsimp only at hmt
          cases hat : (sentF (flatR rs) p n)[cnt]? with
          | none =>
            rw [hat] at hmt hxs
            have hws : ws = [] := hxs.symm
            subst hws
            refine ⟨.list [], .list [.int v], .lst (SqL.of hW2) .nil, .lst (SqL.of hZ) (.cons (.int v) .nil), by decide, by rfl, _, rfl, iteTc (by simp [PyData.eqv, PyData.eqvAll]) ?_⟩
            exact ⟨_, rfl, _, rfl, _, _, rfl, rfl, (by show 3 ≤ sizeLine; decide), fun T nT => ret hmt T nT⟩
          | some sv =>
            obtain ⟨s0, v'⟩ := sv
            rw [hat] at hmt hxs
            dsimp only at hmt
            have hws : ws = [V.int v'] := hxs.symm
            subst hws
            refine ⟨.list [.int v'], .list [.int v], .lst (SqL.of hW2) (.cons (.int v') .nil), .lst (SqL.of hZ) (.cons (.int v) .nil), by rfl, by rfl, _, rfl, ?_⟩
            by_cases hvv : v' = v
            · rw [if_pos hvv] at hmt
              exact iteFc (by simp [PyData.eqv, PyData.eqvAll, hvv]) ⟨_, _, _, _, _, rfl, s11, by rw [ef]; exact hmt⟩
            · rw [if_neg hvv] at hmt
              refine iteTc (by simp [PyData.eqv, PyData.eqvAll, hvv]) ?_
              exact ⟨_, rfl, _, rfl, _, _, rfl, rfl, (by show 3 ≤ sizeLine; decide), fun T nT => ret hmt T nT⟩
        · rintro σ Hy ⟨x5, x6, x7, x8, acc, rfl, sy, hmt⟩
          rw [hul, List.take_length, List.drop_length] at hmt
          have e1 : flatR (rs.take (i + 1)) = flatR (rs.take i) ++ flatRow n 1 es := by
            rw [List.take_add_one, hr', flatR_app]
            exact congrArg _ (flatR_one n es)
          exact ⟨_, _, _, _, _, _, _, acc, rfl, sy, by rw [e1]; exact hmt⟩
      · rintro σ Hx ⟨x2, x3, x4, x5, x6, x7, x8, acc, rfl, sm, hmt⟩
        rw [hln, List.take_length, List.drop_length] at hmt
        exact k _ _ (s5.trans sm) (.inl ⟨acc, hmt, rfl⟩)
end
end XE
set_option Elab.async false
set_option linter.all false
set_option maxRecDepth 100000
set_option maxHeartbeats 1000000
/-! RxEqNil: xs == [], whatever is in xs -/
namespace L2
open PySem PySem.Spec PySem.SeqAt PyProof.Rows
section
variable {X : Cx}
def rEqNil (K : PySem.W.Frag) : R2 := fun x y H Q => ∃ a b xs, x = .ref a ∧ y = .ref b ∧ SqL K H a xs ∧ SqL K H b [] ∧ Q (.bl xs.isEmpty) H
theorem op_eqNil (hu : X.A.units < cLine) : OpR X (compareOp .Eq) (rEqNil X.K) := by
  intro pins s σ H x y v u Q I rx ry h
  obtain ⟨a, b, xs, rfl, rfl, ha, hb, q⟩ := h
  cases rx
  cases ry
  obtain ⟨its, r, ht, hz⟩ := I.list ha
  obtain ⟨its2, r2, ht2, hz2⟩ := I.list hb
  cases r2
  show wpAny (model X.prog X.w) X.A (richCompare .Eq (.ref a) (.ref b)) (EP X pins σ Q) X.xe s
  cases r with
  | nil => exact RcAt.lists (e := fun _ => true) ht.isList ht2.isList rfl hu (fun j j1 _ => absurd j1 (by simp)) X.prog X.w X.xe _ ⟨.bl true, H, I, rfl, q⟩
  | cons r1 r2 => exact RcAt.lists_lengths ht.isList ht2.isList (by simp) hu X.prog X.w X.xe _ ⟨.bl false, H, I, rfl, q⟩
end
end L2
set_option Elab.async false
set_option linter.all false
set_option maxRecDepth 100000
set_option maxHeartbeats 1000000
/-! XBo2: _law_first_stuck -/
namespace XE
open PySem PySem.Spec PyProof.Rows L2 RZ RxT Rx SX Rc
abbrev sLFirstStuck : Stmt := topS 45
abbrev rLenQB (K : PySem.W.Frag) : List V → Hp → VK → Prop := fun xs H Q => ∃ p ys, xs = [V.ref p] ∧ (SqL K H p ys ∨ SqT K H p ys) ∧ Q (V.int ys.length) H
/-- what is under way, as the law counts it -/
structure UndAt (H : Hp) (D : Addr) (g : Str → Str → Int) (kvs : List (List Key × V)) : Prop where
  at_ : H D = some (.dT kvs)
  val : ∀ a b, (valV kvs (chK a b)).getD (.int 0) = .int (g a b)
theorem UndAt.same {H H' : Hp} {D : Addr} {g : Str → Str → Int} {kvs : List (List Key × V)} (q : UndAt H D g kvs) (e : Same H H') : UndAt H' D g kvs := ⟨e _ _ q.at_, q.val⟩
theorem UndAt.put {H : Hp} {D : Addr} {g g' : Str → Str → Int} {kvs : List (List Key × V)} (q : UndAt H D g kvs) {n p : Str} {z : Int} (h : ∀ a b, g' a b = if a = n ∧ b = p then z else g a b) : UndAt (upd H D (.dT (putK kvs (chK n p) (.int z)))) D g' (putK kvs (chK n p) (.int z)) := by
  refine ⟨upd_same, fun a b => ?_⟩
  rw [valV_put, h]
  by_cases c : a = n ∧ b = p
  · obtain ⟨rfl, rfl⟩ := c
    rw [if_pos rfl, if_pos ⟨rfl, rfl⟩]
    rfl
  · rw [if_neg (fun w => c (chK_eq.mp w)), if_neg c]
    exact q.val a b
/-- what is due: none, or where the walk is stuck -/
def StuckDue (K : PySem.W.Frag) (H : Hp) (v : V) (rs : Rows) (c : Str → Nat) : Prop := (orderF (rs.map (·.1)) (lnOf rs) c = none ∧ v = .non) ∨ ∃ n, orderF (rs.map (·.1)) (lnOf rs) c = some n ∧ Dp K H v (.list [.str "order", .str n, .int (c n + 1 : Nat)])
def spFstStk (K : PySem.W.Frag) : Sp := fun vs H Q _ => ∃ (l : Addr) (xs : List V) (rs : Rows) (ms : Arrows), vs = [.ref l] ∧ SqL K H l xs ∧ DpAll K H xs (rs.map rowE) ∧ (rs.map (·.1)).Nodup ∧ rs.length ≤ 40 ∧ (∀ r ∈ rs, r.2.length ≤ 1000) ∧ matchR rs = .ok ms ∧
  ∀ ids v H', Same H H' → Legal (rs.map (·.1)) (lnOf rs) (causesF ms) ids → (∀ n ∈ rs.map (·.1), Stuck (lnOf rs) (causesF ms) ids n) → StuckDue K H' v rs (reachF ids) → Q v H'
theorem putK_old {kvs : List (List Key × V)} {k : List Key} {v w : V} (h : valV kvs k = some v) : (putK kvs k w).length = kvs.length := by
  have : (kvs.any fun kv => decide (kv.1 = k)) = true := by
    unfold valV at h
    cases hf : kvs.find? fun kv => decide (kv.1 = k) with
    | none => rw [hf] at h; cases h
    | some x => exact List.any_eq_true.mpr ⟨x, List.mem_of_find?_eq_some hf, List.find?_some (p := fun kv : List Key × V => decide (kv.1 = k)) hf⟩
  unfold putK
  rw [if_pos this, List.length_map]
/-- the first that is stuck stands first -/
def FstI (rs : Rows) (c : Str → Nat) (j : Nat) (L : List Int) : Prop := (L = [] ∧ ∀ i < j, ∀ r, rs[i]? = some r → r.2.length ≤ c r.1) ∨ ∃ (i : Nat) (t : List Int) (r : Str × List Ev), L = (i : Int) :: t ∧ i < j ∧ rs[i]? = some r ∧ c r.1 < r.2.length ∧ ∀ i' < i, ∀ r, rs[i']? = some r → r.2.length ≤ c r.1
theorem FstI.no {rs : Rows} {c : Str → Nat} {j : Nat} {L : List Int} (h : FstI rs c j L) {r : Str × List Ev} (hr : rs[j]? = some r) (hn : r.2.length ≤ c r.1) : FstI rs c (j + 1) L := by
  rcases h with ⟨h1, h2⟩ | ⟨i, t, r', h1, h2, h3⟩
  · refine .inl ⟨h1, fun i hi r' hr' => ?_⟩
    rcases Nat.lt_or_ge i j with q | q
    · exact h2 i q r' hr'
    · have : i = j := by omega
      subst this
      rw [hr] at hr'
      injection hr' with hr'
      subst hr'
      exact hn
  · exact .inr ⟨i, t, r', h1, by omega, h3⟩
theorem FstI.yes {rs : Rows} {c : Str → Nat} {j : Nat} {L : List Int} (h : FstI rs c j L) {r : Str × List Ev} (hr : rs[j]? = some r) (hn : c r.1 < r.2.length) : FstI rs c (j + 1) (L ++ [(j : Int)]) := by
  rcases h with ⟨h1, h2⟩ | ⟨i, t, r', h1, h2, h3⟩
  · exact .inr ⟨j, [], r, by rw [h1]; rfl, by omega, hr, hn, h2⟩
  · exact .inr ⟨i, t ++ [(j : Int)], r', by rw [h1]; rfl, by omega, h3⟩
theorem FstI.none {rs : Rows} {c : Str → Nat} (hd : (rs.map (·.1)).Nodup) (h : FstI rs c rs.length []) : orderF (rs.map (·.1)) (lnOf rs) c = none := by
  rcases h with ⟨h1, h2⟩ | ⟨i, t, r', h1, h2, h3⟩
  · refine List.find?_eq_none.mpr fun n hn => ?_
    obtain ⟨r, hr, rfl⟩ := List.mem_map.mp hn
    obtain ⟨i, hi⟩ := List.mem_iff_getElem?.mp hr
    have := h2 i (List.getElem?_eq_some_iff.mp hi).1 r hi
    rw [lnOf_at hd hr]
    simp only [decide_eq_true_eq]
    omega
  · cases h1
theorem FstI.some {rs : Rows} {c : Str → Nat} (hd : (rs.map (·.1)).Nodup) {x : Int} {t : List Int} (h : FstI rs c rs.length (x :: t)) : ∃ (i : Nat) (r : Str × List Ev), x = i ∧ rs[i]? = some r ∧ orderF (rs.map (·.1)) (lnOf rs) c = some r.1 := by
  rcases h with ⟨h1, h2⟩ | ⟨i, t, r, h1, h2, h3, h4, h5⟩
  · cases h1
  · injection h1 with h1 _
    refine ⟨i, r, h1, h3, List.find?_eq_some_iff_append.mpr ⟨?_, (rs.take i).map (·.1), (rs.drop (i + 1)).map (·.1), ?_, fun n hn => ?_⟩⟩
    · rw [lnOf_at hd (List.mem_of_getElem? h3)]
      exact decide_eq_true h4
    · have : rs = rs.take i ++ r :: rs.drop (i + 1) := by
        rw [← (List.getElem?_eq_some_iff.mp h3).2, List.getElem_cons_drop, List.take_append_drop]
      conv => lhs; rw [this]
      rw [List.map_append, List.map_cons]
    · obtain ⟨r', hr', rfl⟩ := List.mem_map.mp hn
      obtain ⟨k, hk⟩ := List.mem_iff_getElem?.mp hr'
      rw [List.getElem?_take] at hk
      split at hk
      · have := h5 k ‹_› r' hk
        rw [lnOf_at hd (List.mem_of_getElem? hk)]
        simp only [Bool.not_eq_true', decide_eq_false_iff_not]
        omega
      · cases hk
theorem sum_leB {f : Str → Nat} {m : Nat} : ∀ {l : List Str}, (∀ n ∈ l, f n ≤ m) → (l.map f).sum ≤ l.length * m
  | [], _ => Nat.zero_le _
  | a :: l, h => by
    have h1 := h a List.mem_cons_self
    have h2 := sum_leB (l := l) fun n hn => h n (List.mem_cons_of_mem _ hn)
    rw [List.map_cons, List.sum_cons, List.length_cons, Nat.add_mul]
    omega
theorem rep_natV : ∀ rs : Rows, (List.replicate rs.length [V.int 0]).flatten = natV (nmsR rs) (fun _ => 0)
  | [] => rfl
  | r :: rs => by
    rw [List.length_cons, List.replicate_succ, List.flatten_cons, rep_natV rs]
    rfl
section
variable {P : Program} {w : World} {K : PySem.W.Frag} {mg : Str → Option Value} {base : Heap}
abbrev fkN : List Str := ["_law_rows_here", "_law_done", "_law_names", "_law_name", "_law_events", "_law_under", "_law_moved", "_law_at", "_law_event_here", "_law_stuck"]
theorem scFK : FnScope fkN ["_law_rows_here"] (defScope sLFirstStuck) := ⟨rfl, rfl, rfl, by decide +kernel, rfl, by decide +kernel, by decide +kernel⟩
theorem ok_fststk {f : Addr} {fd : FuncData} (F : Fun K "_law_first_stuck" "_law_first_stuck" sLFirstStuck f fd) (mlen : mg "len" = none) (mrange : mg "range" = none) : FnOk P w K mg base CX0 1 f fd ["_law_rows_here"] (spFstStk K) := by
  refine F.ok scFK (fun vs H Q E h => ?_) (fun cdv A outer s H vs Q E hr h => ?_)
  · obtain ⟨_, _, _, _, rfl, _⟩ := h
    rfl
  · obtain ⟨l, xs, rs, ms, rfl, hL, hX, hnd, hfew, hlen, hm, k⟩ := h
    have hu := hu_of hr
    refine ⟨_, (pss_cons (ps_set (i := 1) scFK.nd rfl (.inr rfl) (pe_op op_rep (pe_lst (pa_cons pe_int pa_nil)) (pe_callB call_len_seq (by rfl) mlen PySem.boot_len (pa_cons (pv 0) pa_nil)))) (pss_cons (ps_setLc (i := 2) (own := [("_law_name", 3), ("_law_events", 4)]) (g := gTup K 2 (gCons (gName 3) (gCons (gName 4) gNil))) (tt := tYes) rfl scFK.nd rfl rfl (sw_true rfl rfl rfl (by decide +kernel)) (pi_list (pv 0)) (blkOk_by (own := [("_law_name", 3), ("_law_events", 4)]) (N := fkN) (sc := defScope sLFirstStuck) (by decide +kernel)) (fun _ _ _ _ _ => (pg_tup rfl (pgs_cons (pg_name (i := 3) scFK.nd rfl (Or.inl rfl)) (pgs_cons (pg_name (i := 4) scFK.nd rfl (Or.inl rfl)) pgs_nil)))) (fun _ _ _ _ _ => pts_nil) (fun _ _ _ _ _ => (pv 3))) (pss_cons (ps_set (i := 5) scFK.nd rfl (.inl rfl) pe_dnewT) (pss_cons (ps_set (i := 6) scFK.nd rfl (.inl rfl) pe_bl) (pss_cons (ps_while PassesOwn.never (pt_val (pv 6)) (pss_cons (ps_set (i := 6) scFK.nd rfl (.inl rfl) pe_bl) (pss_one (ps_for PassesOwn.never rfl (pi_range1 rfl mrange (pa_cons (pe_callB call_len_seq (by rfl) mlen PySem.boot_len (pa_cons (pv 0) pa_nil)) pa_nil)) (pg_name (i := 7) scFK.nd rfl (.inl rfl)) (pss_cons (ps_asg (pe_ix ix_list (pv 0) (pv 7) (fun _ _ => rfl)) (pg_tup rfl (pgs_cons (pg_name (i := 3) scFK.nd rfl (.inl rfl)) (pgs_cons (pg_name (i := 4) scFK.nd rfl (.inl rfl)) pgs_nil)))) (pss_one (ps_if (pt_cmpR op_lt (pe_ix ix_list (pv 1) (pv 7) (fun _ _ => rfl)) (pe_callB call_len_seq (by rfl) mlen PySem.boot_len (pa_cons (pv 4) pa_nil)) (nomark _)) (pss_cons (ps_set (i := 8) scFK.nd rfl (.inl rfl) (pe_ix ix_tup (pv 4) (pe_ix ix_list (pv 1) (pv 7) (fun _ _ => rfl)) (fun _ _ => rfl))) (pss_cons (ps_if (pt_cmpR op_eq (pe_ix ix_tup (pv 8) pe_int (fun _ _ => rfl)) pe_str (nomark _)) (pss_one (ps_dput hu (pv 5) (pe_tup (pa_cons (pv 3) (pa_cons (pe_ix ix_tup (pv 8) pe_int (fun _ _ => rfl)) pa_nil))) (pe_op op_add (pe_dget2 hu (pv 5) (pe_tup (pa_cons (pv 3) (pa_cons (pe_ix ix_tup (pv 8) pe_int (fun _ _ => rfl)) pa_nil))) pe_int ⟨rfl, rfl, rfl, rfl⟩) pe_int) rfl)) pss_nil) (pss_cons (ps_if (pt_cmpR op_in_seq (pe_ix ix_tup (pv 8) pe_int (fun _ _ => rfl)) (pe_tup (pa_cons pe_str (pa_cons pe_str pa_nil))) rfl) (pss_one (ps_dput hu (pv 5) (pe_tup (pa_cons (pe_ix ix_tup (pv 8) pe_int (fun _ _ => rfl)) (pa_cons (pv 3) pa_nil))) (pe_op op_sub (pe_dget2 hu (pv 5) (pe_tup (pa_cons (pe_ix ix_tup (pv 8) pe_int (fun _ _ => rfl)) (pa_cons (pv 3) pa_nil))) pe_int ⟨rfl, rfl, rfl, rfl⟩) pe_int) rfl)) pss_nil) (pss_one (ps_if (PW.pt (pw_and (pt_cmpR op_in_seq (pe_ix ix_tup (pv 8) pe_int (fun _ _ => rfl)) (pe_tup (pa_cons pe_str (pa_cons pe_str pa_nil))) rfl) (pw_and1 (pt_cmpR op_lt (pe_dget hu (pv 5) (pe_tup (pa_cons (pe_ix ix_tup (pv 8) pe_int (fun _ _ => rfl)) (pa_cons (pv 3) pa_nil))) (fun _ _ => rfl)) pe_int (nomark _))))) (pss_one (ps_dput hu (pv 5) (pe_tup (pa_cons (pe_ix ix_tup (pv 8) pe_int (fun _ _ => rfl)) (pa_cons (pv 3) pa_nil))) pe_int rfl)) (pss_cons (ps_asg (pe_op op_add (pe_ix ix_list (pv 1) (pv 7) (fun _ _ => rfl)) pe_int) (pg_sub (pv 1) (pv 7) set_list)) (pss_one (ps_set (i := 6) scFK.nd rfl (.inl rfl) pe_bl)))))))) pss_nil))))))) (pss_cons (ps_setLc (i := 9) (own := [("_law_at", 7)]) (g := gName 7) (tt := tTest (tOp (rI0 fun i j => .bl (decide (i < j))) (tOp (rIxL K) (tVar 1) (tVar 7)) (tCB (rLenQB K) (tCons (tOp (rIxT K) (tOp (rIxL K) (tVar 0) (tVar 7)) (tC (.int 1))) tNil)))) (te := tVar 7) rfl scFK.nd rfl rfl (sw_true rfl rfl rfl (by decide +kernel)) (pi_range1 rfl mrange (pa_cons (pe_callB call_len_seq (by rfl) mlen PySem.boot_len (pa_cons (pv 0) pa_nil)) pa_nil)) (blkOk_by (own := [("_law_at", 7)]) (N := fkN) (sc := defScope sLFirstStuck) (by decide +kernel)) (fun _ _ _ _ _ => (pg_name (i := 7) scFK.nd rfl (Or.inl rfl))) (fun _ _ _ _ _ => pts_one (pt_cmpR op_lt (pe_ix (by exact ix_list) (pv 1) (pv 7) (fun _ _ => rfl)) (pe_callB call_len_seq (by rfl) mlen PySem.boot_len (pa_cons (pe_ix (by exact ix_tup) (pe_ix (by exact ix_list) (pv 0) (pv 7) (fun _ _ => rfl)) pe_int (fun _ _ => rfl)) pa_nil)) (nomark _))) (fun _ _ _ _ _ => (pv 7))) (pss_one (ps_ret (pe_ifExp (pt_cmpR (op_eqNil hr.units0) (pv 9) (pe_lst pa_nil) (nomark _)) pe_non (pe_lst (pa_cons pe_str (pa_cons (pe_ix ix_list (pv 2) (pe_ix ix_list (pv 9) pe_int (fun _ _ => rfl)) (fun _ _ => rfl)) (pa_cons (pe_op op_add (pe_ix ix_list (pv 1) (pe_ix ix_list (pv 9) pe_int (fun _ _ => rfl)) (fun _ _ => rfl)) pe_int) pa_nil))))))))))))), ?_⟩
    have hln : xs.length = rs.length := by rw [dpAll_len hX, List.length_map]
    have hnl : (nmsR rs).length ≤ 40 := by rw [List.length_map]; exact hfew
    have hsum : ((nmsR rs).map (lnOf rs)).sum ≤ 40000 := by
      have h1 := sum_leB (f := lnOf rs) (m := 1000) (l := nmsR rs) fun n hn => by
        obtain ⟨r, hr, rfl⟩ := List.mem_map.mp hn
        rw [lnOf_at hnd hr]
        exact hlen r hr
      have := Nat.mul_le_mul_right 1000 hnl
      omega
    refine ⟨(by show 1 ≤ sizeLine; decide), fun Z nZ => ?_⟩
    have s0 : Same H H := .refl H
    have sZ := same_new (o := .lst [.int 0]) nZ
    have hZ := upd_same (H := H) (a := Z) (o := .lst [.int 0])
    replace s0 := s0.trans sZ
    generalize upd H Z (.lst [.int 0]) = H0 at sZ hZ s0 ⊢
    refine ⟨_, rfl, l, xs, rfl, .inl (sqL_same s0 hL), Z, (xs.length : Nat), _, rfl, rfl, hZ, by omega, by omega, ?_, fun A nA => ?_⟩
    · show 1 * ((xs.length : Nat) : Int).toNat ≤ sizeLine
      rw [Int.toNat_natCast, Nat.one_mul]
      exact Nat.le_of_lt (fitR (by omega))
    rw [show (List.replicate ((xs.length : Nat) : Int).toNat [V.int 0]).flatten = natV (nmsR rs) (fun _ => 0) from by rw [Int.toNat_natCast, hln]; exact rep_natV rs]
    have nA0 := s0.free nA
    have sA := same_new (o := .lst (natV (nmsR rs) fun _ => 0)) nA
    have hA := upd_same (H := H0) (a := A) (o := .lst (natV (nmsR rs) fun _ => 0))
    replace s0 := s0.trans sA
    generalize upd H0 A (.lst (natV (nmsR rs) fun _ => 0)) = H1 at sA hA s0 ⊢
    refine ⟨_, rfl, l, rfl, ⟨_, sqL_same s0 hL⟩, fun N nN => ?_⟩
    have hAN : A ≠ N := fun z => by rw [z, nN] at hA; cases hA
    refine lc_list (K := K) (a := l) (xs := xs) (fun i Hx => Same H1 Hx ∧ Hx N = some (.lst (((nmsR rs).take i).map V.str))) ⟨same_new nN, upd_same⟩ (fun i Hy _ q => sqL_same (s0.trans q.1) hL) ?_ ?_
    · rintro i x Hx hx ⟨sm, hN⟩
      obtain ⟨r, q, b, vs, hr', rfl, hq, _, _⟩ := row_at hX hx
      refine ⟨q, _, rfl, sqT_same (s0.trans sm) hq, rfl, _, _, rfl, _, _, rfl, rfl, rfl, ?_⟩
      dsimp only [tYes]
      rw [if_pos rfl]
      refine ⟨_, rfl, _, hN, ?_, same_upd sm nN, ?_⟩
      · rw [List.length_map, List.length_take, List.length_map]
        exact fitR (by omega)
      · rw [upd_same, List.take_add_one, List.getElem?_map, hr', List.map_append]
        rfl
    rintro H2 ⟨s2, hN⟩
    rw [hln, show rs.length = (nmsR rs).length by rw [List.length_map], List.take_length] at hN
    have nN0 : H N = none := s0.free nN
    replace hA := s2 _ _ hA
    replace s0 := s0.trans s2
    refine fun D nD => ?_
    have nD0 : H D = none := s0.free nD
    have sD := same_new (o := .dT []) nD
    have hD := upd_same (H := H2) (a := D) (o := .dT [])
    replace hA := sD _ _ hA
    replace hN := sD _ _ hN
    replace s0 := s0.trans sD
    generalize upd H2 D (.dT []) = H3 at sD hD hA hN s0 ⊢
    have U0 : UndAt H3 D (und rs (reachF [])) [] := ⟨hD, fun a b => by rw [show reachF [] = fun _ => 0 from rfl, und_zero]; rfl⟩
    refine ⟨fun w σ Hx => ∃ (x3 x4 x7 x8 x9 : Option V) (mv : Bool) (ids : List EvId) (kvs : List (List Key × V)), σ = [some (.ref l), some (.ref A), some (.ref N), x3, x4, some (.ref D), some (.bl mv), x7, x8, x9] ∧ Same H Hx ∧ Hx N = some (.lst ((nmsR rs).map V.str)) ∧ Hx A = some (.lst (natV (nmsR rs) (reachF ids))) ∧ UndAt Hx D (und rs (reachF ids)) kvs ∧ kvs.length ≤ 40 * ids.length + 40 ∧ (mv = true → kvs.length ≤ 40 * ids.length) ∧ (∀ a b, 0 ≤ und rs (reachF ids) a b) ∧ Legal (nmsR rs) (lnOf rs) (causesF ms) ids ∧ (mv = false → ∀ n ∈ nmsR rs, Stuck (lnOf rs) (causesF ms) ids n) ∧ w = if mv = true then 1 + (((nmsR rs).map (lnOf rs)).sum - ids.length) else 0,
      ⟨_, _, _, _, _, _, true, [], [], rfl, s0, hN, hA, U0, by simp, fun _ => by simp, fun a b => by rw [show reachF [] = fun _ => 0 from rfl, und_zero]; exact Int.le_refl _, .nil, fun z => (by cases z), rfl⟩, ?_⟩
    rintro w σ Hx ⟨x3, x4, x7, x8, x9, mv, ids, kvs, rfl, sx, hNx, hAx, UD, hk1, hk2, nn, hLg, hst, rfl⟩
    have few0 : ids.length ≤ ((nmsR rs).map (lnOf rs)).sum := hLg.few hnd
    refine ⟨_, rfl, _, rfl, ?_⟩
    cases mv with
    | false =>
      refine iteFc rfl ?_
      refine ⟨_, rfl, l, xs, rfl, .inl (sqL_same sx hL), (xs.length : Nat), rfl, by omega, by omega, fun J nJ => ?_⟩
      refine lc_it walk_range (fun j Hz => Same Hx Hz ∧ ∃ L : List Int, Hz J = some (.lst (L.map V.int)) ∧ L.length ≤ j ∧ FstI rs (reachF ids) j L) ⟨same_new nJ, [], upd_same, Nat.le_refl _, .inl ⟨rfl, fun i h => absurd h (Nat.not_lt_zero _)⟩⟩ (fun _ _ _ _ => trivial) ?_ ?_
      · rintro j x Hz Hz' hj ⟨sz, L, hJ, hLl, hFI⟩ ⟨rfl, rfl⟩
        have hj' : j < xs.length := by simpa using hj
        have hx : xs[j]? = some xs[j] := List.getElem?_eq_getElem hj'
        obtain ⟨r, q, b, us, hr', hxe, hq, hb', hus⟩ := row_at hX hx
        rw [hxe] at hx
        obtain ⟨n, es⟩ := r
        have hul : us.length = es.length := by rw [dpAll_len hus, List.length_map]
        have hni : (nmsR rs)[j]? = some n := by rw [List.getElem?_map, hr']; rfl
        have sHz := sx.trans sz
        have hAz := sz _ _ hAx
        have hAi : atI (natV (nmsR rs) (reachF ids)) ((j : Nat) : Int) = some (.int (reachF ids n : Nat)) := atI_nat (by unfold natV; rw [List.getElem?_map, List.getElem?_map, hni]; rfl)
        show gName 7 (V.int (0 + (j : Int))) _ _ _
        rw [show (0 : Int) + (j : Nat) = ((j : Nat) : Int) by omega]
        refine ⟨rfl, _, rfl, _, rfl, A, _, _, _, rfl, rfl, SqL.of hAz, hAi, _, rfl, _, rfl, l, _, _, _, rfl, rfl, sqL_same sHz hL, atI_nat hx, q, _, 1, _, rfl, rfl, sqT_same sHz hq, atI_nat (j := 1) rfl, b, us, rfl, .inr (sqT_same sHz hb'), _, _, rfl, rfl, _, rfl, ?_⟩
        rcases hlt : decide (((reachF ids n : Nat) : Int) < (us.length : Nat)) with _ | _
        · rw [if_neg (by decide)]
          refine ⟨sz, L, hJ, by omega, hFI.no hr' ?_⟩
          have := of_decide_eq_false hlt
          show es.length ≤ reachF ids n
          omega
        · rw [if_pos rfl]
          refine ⟨_, rfl, _, hJ, by rw [List.length_map]; exact fitR (by omega), same_upd sz nJ, L ++ [(j : Int)], by rw [upd_same, List.map_append]; rfl, by rw [List.length_append, List.length_singleton]; omega, hFI.yes hr' ?_⟩
          have := of_decide_eq_true hlt
          show reachF ids n < es.length
          omega
      rintro Hz ⟨sz, L, hJ, hLl, hFI⟩
      rw [show ((xs.length : Nat) : Int).toNat = xs.length by omega, hln] at hFI
      have sHz := sx.trans sz
      have hNz := sz _ _ hNx
      have hAz := sz _ _ hAx
      refine ⟨_, rfl, (by show 0 ≤ sizeLine; decide), fun E nE => ?_⟩
      have sE := same_new (o := .lst []) nE
      have hE := upd_same (H := Hz) (a := E) (o := .lst [])
      replace hJ := sE _ _ hJ
      replace hNz := sE _ _ hNz
      replace hAz := sE _ _ hAz
      replace sHz := sHz.trans sE
      generalize upd Hz E (.lst []) = Hw at sE hE hJ hNz hAz sHz ⊢
      refine ⟨J, E, _, rfl, rfl, SqL.of hJ, SqL.of hE, _, rfl, ?_⟩
      cases L with
      | nil => exact iteTc rfl (k ids _ _ sHz hLg (hst rfl) (.inl ⟨hFI.none hnd, rfl⟩))
      | cons x t =>
        obtain ⟨i, r, rfl, hr, hor⟩ := hFI.some hnd
        have hni : (nmsR rs)[i]? = some r.1 := by rw [List.getElem?_map, hr]; rfl
        have hAi : atI (natV (nmsR rs) (reachF ids)) ((i : Nat) : Int) = some (.int (reachF ids r.1 : Nat)) := atI_nat (by unfold natV; rw [List.getElem?_map, List.getElem?_map, hni]; rfl)
        have hNi : atI ((nmsR rs).map V.str) ((i : Nat) : Int) = some (.str r.1) := atI_nat (by rw [List.getElem?_map, hni]; rfl)
        refine iteFc rfl ?_
        refine ⟨_, rfl, _, rfl, J, _, 0, _, rfl, rfl, SqL.of hJ, atI_nat (j := 0) rfl, N, _, _, _, rfl, rfl, SqL.of hNz, hNi, _, rfl, _, rfl, J, _, 0, _, rfl, rfl, SqL.of hJ, atI_nat (j := 0) rfl, A, _, _, _, rfl, rfl, SqL.of hAz, hAi, _, _, rfl, rfl, (by show 3 ≤ sizeLine; decide), fun R nR => ?_⟩
        exact k ids _ _ (sHz.trans (same_new nR)) hLg (hst rfl) (.inr ⟨r.1, hor, .lst (SqL.of upd_same) (.cons (.str _) (.cons (.str _) (.cons (.int _) .nil)))⟩)
    | true =>
    refine iteTc rfl ?_
    refine ⟨fun σ' H' => ∃ w', w' < 1 + (((nmsR rs).map (lnOf rs)).sum - ids.length) ∧ ∃ (x3 x4 x7 x8 x9 : Option V) (mv : Bool) (jds : List EvId) (kvs : List (List Key × V)), σ' = [some (.ref l), some (.ref A), some (.ref N), x3, x4, some (.ref D), some (.bl mv), x7, x8, x9] ∧ Same H H' ∧ H' N = some (.lst ((nmsR rs).map V.str)) ∧ H' A = some (.lst (natV (nmsR rs) (reachF jds))) ∧ UndAt H' D (und rs (reachF jds)) kvs ∧ kvs.length ≤ 40 * jds.length + 40 ∧ (mv = true → kvs.length ≤ 40 * jds.length) ∧ (∀ a b, 0 ≤ und rs (reachF jds) a b) ∧ Legal (nmsR rs) (lnOf rs) (causesF ms) jds ∧ (mv = false → ∀ n ∈ nmsR rs, Stuck (lnOf rs) (causesF ms) jds n) ∧ w' = if mv = true then 1 + (((nmsR rs).map (lnOf rs)).sum - jds.length) else 0, fun _ _ h => h, ?_⟩
    refine ⟨_, rfl, l, xs, rfl, .inl (sqL_same sx hL), (xs.length : Nat), rfl, by omega, by omega, ?_⟩
    rw [show ((xs.length : Nat) : Int).toNat = xs.length by omega]
    refine for_range (lo := 0) (n := xs.length) (fun i σ Hy => ∃ (x3 x4 x7 x8 x9 : Option V) (mv : Bool) (jds : List EvId) (kvs : List (List Key × V)), σ = [some (.ref l), some (.ref A), some (.ref N), x3, x4, some (.ref D), some (.bl mv), x7, x8, x9] ∧ Same H Hy ∧ Hy N = some (.lst ((nmsR rs).map V.str)) ∧ Hy A = some (.lst (natV (nmsR rs) (reachF jds))) ∧ UndAt Hy D (und rs (reachF jds)) kvs ∧ kvs.length ≤ 40 * ids.length + i ∧ (∀ a b, 0 ≤ und rs (reachF jds) a b) ∧ Legal (nmsR rs) (lnOf rs) (causesF ms) jds ∧ (mv = false → jds = ids ∧ ∀ n ∈ (nmsR rs).take i, Stuck (lnOf rs) (causesF ms) ids n) ∧ (mv = true → ids.length < jds.length))
      ⟨_, _, _, _, _, false, ids, kvs, rfl, sx, hNx, hAx, UD, hk2 rfl, nn, hLg, fun _ => ⟨rfl, fun n h => by simp at h⟩, fun z => (by cases z)⟩ ?_ ?_
    · rintro i σ Hy hi ⟨x3, x4, x7, x8, x9, mv, jds, kvs, rfl, sy, hNy, hAy, UD, hk, nn, hLg, h0, h1⟩
      have hx : xs[i]? = some xs[i] := List.getElem?_eq_getElem hi
      obtain ⟨r, q, b, us, hr', hxe, hq, hb', hus⟩ := row_at hX hx
      rw [hxe] at hx
      obtain ⟨n, es⟩ := r
      have hmem := List.mem_of_getElem? hr'
      have hul : us.length = es.length := by rw [dpAll_len hus, List.length_map]
      have hni : (nmsR rs)[i]? = some n := by rw [List.getElem?_map, hr']; rfl
      have hnn : n ∈ nmsR rs := List.mem_of_getElem? hni
      have hev : evsOf rs n = es := evsOf_at hnd hmem
      have hln' : lnOf rs n = es.length := by rw [← evsOf_len, hev]
      have hel : es.length ≤ 1000 := hlen _ hmem
      have few : jds.length ≤ ((nmsR rs).map (lnOf rs)).sum := hLg.few hnd
      rw [show (0 : Int) + (i : Nat) = ((i : Nat) : Int) by omega]
      have hAi : atI (natV (nmsR rs) (reachF jds)) ((i : Nat) : Int) = some (.int (reachF jds n : Nat)) := atI_nat (by unfold natV; rw [List.getElem?_map, List.getElem?_map, hni]; rfl)
      have etk : (nmsR rs).take (i + 1) = (nmsR rs).take i ++ [n] := by rw [List.take_add_one, hni]; rfl
      refine ⟨_, rfl, _, rfl, l, _, _, _, rfl, rfl, sqL_same sy hL, atI_nat hx, q, _, rfl, sqT_same sy hq, rfl, _, _, rfl, _, _, rfl, rfl, ?_⟩
      refine ⟨_, rfl, _, rfl, A, _, _, _, rfl, rfl, SqL.of hAy, hAi, ?_⟩
      have hln40 : xs.length ≤ 40 := by omega
      -- (x3 x4 x8 x9 : Option V) (Hz : Hp) (kvs' : List (List Key × V)), Same H Hz → Hz N = some (.lst ((nmsR rs).map V.str)) → Hz A = some (.lst (natV (nmsR rs) (reachF ids'))) → UndAt Hz D (und rs (reachF ids')) kvs' → True := fun _ _ _ _ _ _ _ _ _ _ _ => trivial
      refine ⟨_, rfl, b, us, rfl, .inr (sqT_same sy hb'), _, _, rfl, rfl, _, rfl, ite2 (fun hpos => ?_) (fun hno => ?_)⟩
      case' refine_2 =>
        have hno' : es.length ≤ reachF jds n := by
          have : ¬ ((reachF jds n : Nat) : Int) < (us.length : Nat) := by simpa using hno
          omega
        refine ⟨_, _, _, _, _, mv, jds, kvs, rfl, sy, hNy, hAy, UD, by omega, nn, hLg, fun e => ?_, h1⟩
        obtain ⟨e1, e2⟩ := h0 e
        refine ⟨e1, fun m hm' => ?_⟩
        rw [etk] at hm'
        rcases List.mem_append.mp hm' with hm' | hm'
        · exact e2 m hm'
        · rw [List.mem_singleton.mp hm']
          intro z
          rw [← e1, hln'] at z
          omega
      have hpos' : reachF jds n < es.length := by
        have := of_decide_eq_true hpos
        omega
      obtain ⟨e, he⟩ : ∃ e, es[reachF jds n]? = some e := ⟨_, List.getElem?_eq_getElem hpos'⟩
      obtain ⟨qe, hqe, hue⟩ : ∃ qe, SqT K H qe (V.str e.word :: e.restV) ∧ us[reachF jds n]? = some (.ref qe) := by
        have hu1 : us[reachF jds n]? = some us[reachF jds n] := List.getElem?_eq_getElem (by omega)
        obtain ⟨e', qe, he', hv, hqe⟩ := ev_at hus hu1
        rw [he] at he'
        injection he' with he'
        subst he'
        exact ⟨qe, hqe, by rw [hu1, hv]⟩
      refine ⟨_, rfl, _, rfl, _, rfl, A, _, _, _, rfl, rfl, SqL.of hAy, hAi, b, _, _, _, rfl, rfl, sqT_same sy hb', atI_nat hue, ?_⟩
      have hqe0 := hqe
      replace hqe := sqT_same sy hqe
      refine ⟨_, rfl, qe, _, 0, _, rfl, rfl, hqe, atI_nat (j := 0) rfl, rfl, _, rfl, ?_⟩
      rw [word_send]
      have hus' := und_step (rs := rs) (c := reachF jds) (n := n) (e := e) (by rw [hev]; exact he)
      have hlk := lack_iff (c := reachF jds) hnd hm hnn (e := e) (by rw [hev]; exact he)
      have hre : reachF (jds ++ [(n, reachF jds n + 1)]) = fun m => if m = n then reachF jds n + 1 else reachF jds m := reachF_snoc _ _
      have hil : i < (natV (nmsR rs) (reachF jds)).length := by rw [natV_len, List.length_map]; omega
      have hix : ixN (natV (nmsR rs) (reachF jds)).length ((i : Nat) : Int) = some i := by
        unfold ixN
        rw [if_pos (by omega), if_pos (by omega)]
        simp
      have hset : (natV (nmsR rs) (reachF jds)).set i (.int (((reachF jds n : Nat) : Int) + 1)) = natV (nmsR rs) (reachF (jds ++ [(n, reachF jds n + 1)])) := by
        rw [hre, ← natV_set (m := reachF jds n + 1) hnd hni, set_cut hil]
        rfl
      have nn' : (∀ a v, e.recvOf = some (a, v) → 0 < und rs (reachF jds) a n) → ∀ a b, 0 ≤ und rs (reachF (jds ++ [(n, reachF jds n + 1)])) a b := fun hf a b => by
        rw [hre, hus' a b]
        have h2 := nn a b
        by_cases c : b = n ∧ e.recvOf.map (·.1) = some a
        · obtain ⟨rfl, c⟩ := c
          cases hr' : e.recvOf with
          | none => rw [hr'] at c; cases c
          | some w =>
            obtain ⟨a', v⟩ := w
            rw [hr'] at c
            have : a' = a := by simpa using c
            subst this
            have := hf _ _ hr'
            split <;> split <;> omega
        · rw [if_neg c]
          split <;> omega
      have hlg' : (∀ a v, e.recvOf = some (a, v) → 0 < und rs (reachF jds) a n) → Legal (nmsR rs) (lnOf rs) (causesF ms) (jds ++ [(n, reachF jds n + 1)]) := fun hf => .snoc hLg hnn (by rw [hln']; exact hpos') (hlk.mpr hf)
      have hle' : ids.length < (jds ++ [(n, reachF jds n + 1)]).length := by
        rw [List.length_append, List.length_singleton]
        cases mv with
        | false => rw [(h0 rfl).1]; omega
        | true => have := h1 rfl; omega
      cases hso : e.sendOf with
      | some pv =>
        obtain ⟨p, v⟩ := pv
        obtain ⟨hee, hrest⟩ := send_rest hso
        have hro : e.recvOf = none := by rw [hee]; rfl
        rw [hrest] at hqe hqe0
        refine iteTc rfl ?_
        refine ⟨_, rfl, D, rfl, .inr ⟨_, .inl UD.at_⟩, _, rfl, _, rfl, qe, _, 1, _, rfl, rfl, hqe, atI_nat (j := 1) rfl, (by show 2 ≤ sizeLine; decide), fun U nU => ?_⟩
        have nU0 := sy.free nU
        have sU := same_new (o := .tup [.str n, .str p]) nU
        have hU := upd_same (H := Hy) (a := U) (o := .tup [.str n, .str p])
        replace hNy := sU _ _ hNy
        replace hAy := sU _ _ hAy
        replace UD := UD.same sU
        replace hqe := sqT_same sU hqe
        replace sy := sy.trans sU
        generalize upd Hy U (.tup [.str n, .str p]) = Hz at sU hU hNy hAy UD hqe sy ⊢
        replace hU : Hz U = some (.tup ((chK n p).map kV)) := hU
        refine ⟨_, DGet.t UD.at_ hU, ?_⟩
        rw [UD.val]
        refine ⟨_, _, rfl, rfl, ?_⟩
        refine ⟨_, rfl, _, rfl, _, rfl, qe, _, 1, _, rfl, rfl, hqe, atI_nat (j := 1) rfl, (by show 2 ≤ sizeLine; decide), fun U2 nU2 => ?_⟩
        have sU2 := same_new (o := .tup [.str n, .str p]) nU2
        have hU2 := upd_same (H := Hz) (a := U2) (o := .tup [.str n, .str p])
        replace hNy := sU2 _ _ hNy
        replace hAy := sU2 _ _ hAy
        replace UD := UD.same sU2
        replace hqe := sqT_same sU2 hqe
        replace sy := sy.trans sU2
        generalize upd Hz U2 (.tup [.str n, .str p]) = Hw at sU2 hU2 hNy hAy UD hqe sy ⊢
        replace hU2 : Hw U2 = some (.tup ((chK n p).map kV)) := hU2
        refine ⟨D, _, rfl, DPut.t UD.at_ hU2 (fitR (by omega)), ?_⟩
        have U5 := UD.put (g' := und rs (reachF (jds ++ [(n, reachF jds n + 1)]))) (n := n) (p := p) (z := und rs (reachF jds) n p + 1) fun a b => by
          rw [hre, hus' a b, hso, hro]
          by_cases c : a = n ∧ b = p
          · obtain ⟨rfl, rfl⟩ := c
            simp
          · have c' : ¬ (a = n ∧ Option.map (fun x : Str × Int => x.1) (some (p, v)) = some b) := fun z => c ⟨z.1, by simpa using z.2.symm⟩
            rw [if_neg c, if_neg c']
            simp
        have hN5 : upd Hw D (.dT (putK kvs (chK n p) (.int (und rs (reachF jds) n p + 1)))) N = _ := (upd_ne (ne_of hNy UD.at_ (by intro z; cases z))).trans hNy
        have hA5 : upd Hw D (.dT (putK kvs (chK n p) (.int (und rs (reachF jds) n p + 1)))) A = _ := (upd_ne (ne_of hAy UD.at_ (by intro z; cases z))).trans hAy
        have s5 := same_upd (o := .dT (putK kvs (chK n p) (.int (und rs (reachF jds) n p + 1)))) sy nD0
        have hk5 : (putK kvs (chK n p) (.int (und rs (reachF jds) n p + 1))).length ≤ 40 * ids.length + (i + 1) := by
          have := length_putK kvs (chK n p) (V.int (und rs (reachF jds) n p + 1))
          omega
        generalize upd Hw D (.dT (putK kvs (chK n p) (.int (und rs (reachF jds) n p + 1)))) = H5 at U5 hN5 hA5 s5 ⊢
        generalize putK kvs (chK n p) (.int (und rs (reachF jds) n p + 1)) = kvs5 at U5 hk5
        refine ⟨_, rfl, qe, _, 0, _, rfl, rfl, sqT_same s5 hqe0, atI_nat (j := 0) rfl, (by show 2 ≤ sizeLine; decide), fun T nT => ⟨T, _, rfl, .inr (SqT.of upd_same), rfl, rfl, _, rfl, ?_⟩⟩
        have sT := same_new (o := .tup [.str "receive", .str "take"]) nT
        have hT := upd_same (H := H5) (a := T) (o := .tup [.str "receive", .str "take"])
        replace hN5 := sT _ _ hN5
        replace hA5 := sT _ _ hA5
        replace U5 := U5.same sT
        replace s5 := s5.trans sT
        generalize upd H5 T (.tup [.str "receive", .str "take"]) = H6 at sT hT hN5 hA5 U5 s5 ⊢
        show if inV (.str e.word) ((["receive", "take"] : List Str).map V.str) = true then _ else _
        rw [inV_strs, word_recv, hro]
        refine iteFc rfl ?_
        refine ⟨_, rfl, qe, _, 0, _, rfl, rfl, sqT_same s5 hqe0, atI_nat (j := 0) rfl, (by show 2 ≤ sizeLine; decide), fun T nT => ⟨T, _, rfl, .inr (SqT.of upd_same), rfl, rfl, _, rfl, ?_⟩⟩
        have sT := same_new (o := .tup [.str "receive", .str "take"]) nT
        have hT := upd_same (H := H6) (a := T) (o := .tup [.str "receive", .str "take"])
        replace hN5 := sT _ _ hN5
        replace hA5 := sT _ _ hA5
        replace U5 := U5.same sT
        replace s5 := s5.trans sT
        generalize upd H6 T (.tup [.str "receive", .str "take"]) = H7 at sT hT hN5 hA5 U5 s5 ⊢
        show if inV (.str e.word) ((["receive", "take"] : List Str).map V.str) = true then _ else _
        rw [inV_strs, word_recv, hro]
        refine iteFc rfl (iteFc rfl ?_)
        have hf : ∀ a v, e.recvOf = some (a, v) → 0 < und rs (reachF jds) a n := fun a v z => by rw [hro] at z; cases z
        have hDA : D ≠ A := ne_of U5.at_ hA5 (by intro z; cases z)
        refine ⟨_, rfl, _, rfl, A, _, _, _, rfl, rfl, SqL.of hA5, hAi, _, _, rfl, rfl, _, rfl, _, rfl, A, _, _, i, rfl, rfl, hA5, hix, ?_⟩
        rw [hset]
        exact ⟨_, _, _, _, _, true, jds ++ [(n, reachF jds n + 1)], kvs5, rfl, same_upd s5 nA0, (upd_ne (Ne.symm hAN)).trans hN5, upd_same, ⟨(upd_ne hDA).trans U5.at_, U5.val⟩, hk5, nn' hf, hlg' hf, fun z => (by cases z), fun _ => hle'⟩
      | none =>
        refine iteFc rfl ?_
        cases hro : e.recvOf with
        | none =>
          have U5 : UndAt Hy D (und rs (reachF (jds ++ [(n, reachF jds n + 1)]))) kvs := ⟨UD.at_, fun a b => by
            rw [hre, hus' a b, hso, hro]
            simpa using UD.val a b⟩
          have hN5 := hNy
          have hA5 := hAy
          have s5 := sy
          have hk5 : kvs.length ≤ 40 * ids.length + (i + 1) := by omega
          obtain ⟨kvs5, rfl⟩ : ∃ k5, k5 = kvs := ⟨_, rfl⟩
          obtain ⟨H5, rfl⟩ : ∃ H5, H5 = Hy := ⟨_, rfl⟩
          refine ⟨_, rfl, qe, _, 0, _, rfl, rfl, sqT_same s5 hqe0, atI_nat (j := 0) rfl, (by show 2 ≤ sizeLine; decide), fun T nT => ⟨T, _, rfl, .inr (SqT.of upd_same), rfl, rfl, _, rfl, ?_⟩⟩
          have sT := same_new (o := .tup [.str "receive", .str "take"]) nT
          have hT := upd_same (H := H5) (a := T) (o := .tup [.str "receive", .str "take"])
          replace hN5 := sT _ _ hN5
          replace hA5 := sT _ _ hA5
          replace U5 := U5.same sT
          replace s5 := s5.trans sT
          generalize upd H5 T (.tup [.str "receive", .str "take"]) = H6 at sT hT hN5 hA5 U5 s5 ⊢
          show if inV (.str e.word) ((["receive", "take"] : List Str).map V.str) = true then _ else _
          rw [inV_strs, word_recv, hro]
          refine iteFc rfl ?_
          refine ⟨_, rfl, qe, _, 0, _, rfl, rfl, sqT_same s5 hqe0, atI_nat (j := 0) rfl, (by show 2 ≤ sizeLine; decide), fun T nT => ⟨T, _, rfl, .inr (SqT.of upd_same), rfl, rfl, _, rfl, ?_⟩⟩
          have sT := same_new (o := .tup [.str "receive", .str "take"]) nT
          have hT := upd_same (H := H6) (a := T) (o := .tup [.str "receive", .str "take"])
          replace hN5 := sT _ _ hN5
          replace hA5 := sT _ _ hA5
          replace U5 := U5.same sT
          replace s5 := s5.trans sT
          generalize upd H6 T (.tup [.str "receive", .str "take"]) = H7 at sT hT hN5 hA5 U5 s5 ⊢
          show if inV (.str e.word) ((["receive", "take"] : List Str).map V.str) = true then _ else _
          rw [inV_strs, word_recv, hro]
          refine iteFc rfl (iteFc rfl ?_)
          have hf : ∀ a v, e.recvOf = some (a, v) → 0 < und rs (reachF jds) a n := fun a v z => by rw [hro] at z; cases z
          have hDA : D ≠ A := ne_of U5.at_ hA5 (by intro z; cases z)
          refine ⟨_, rfl, _, rfl, A, _, _, _, rfl, rfl, SqL.of hA5, hAi, _, _, rfl, rfl, _, rfl, _, rfl, A, _, _, i, rfl, rfl, hA5, hix, ?_⟩
          rw [hset]
          exact ⟨_, _, _, _, _, true, jds ++ [(n, reachF jds n + 1)], kvs5, rfl, same_upd s5 nA0, (upd_ne (Ne.symm hAN)).trans hN5, upd_same, ⟨(upd_ne hDA).trans U5.at_, U5.val⟩, hk5, nn' hf, hlg' hf, fun z => (by cases z), fun _ => hle'⟩
        | some pv =>
          obtain ⟨p, v⟩ := pv
          obtain ⟨xv, hrest⟩ := recv_rest hro
          rw [hrest] at hqe hqe0
          have hN5 := hNy
          have hA5 := hAy
          have s5 := sy
          have U5 := UD
          obtain ⟨H5, rfl⟩ : ∃ H5, H5 = Hy := ⟨_, rfl⟩
          refine ⟨_, rfl, qe, _, 0, _, rfl, rfl, sqT_same s5 hqe0, atI_nat (j := 0) rfl, (by show 2 ≤ sizeLine; decide), fun T nT => ⟨T, _, rfl, .inr (SqT.of upd_same), rfl, rfl, _, rfl, ?_⟩⟩
          have sT := same_new (o := .tup [.str "receive", .str "take"]) nT
          have hT := upd_same (H := H5) (a := T) (o := .tup [.str "receive", .str "take"])
          replace hN5 := sT _ _ hN5
          replace hA5 := sT _ _ hA5
          replace U5 := U5.same sT
          replace s5 := s5.trans sT
          generalize upd H5 T (.tup [.str "receive", .str "take"]) = H6 at sT hT hN5 hA5 U5 s5 ⊢
          show if inV (.str e.word) ((["receive", "take"] : List Str).map V.str) = true then _ else _
          rw [inV_strs, word_recv, hro]
          refine iteTc rfl ?_
          refine ⟨_, rfl, D, rfl, .inr ⟨_, .inl U5.at_⟩, _, rfl, qe, _, 1, _, rfl, rfl, sqT_same s5 hqe0, atI_nat (j := 1) rfl, _, rfl, (by show 2 ≤ sizeLine; decide), fun U nU => ?_⟩
          have sU := same_new (o := .tup [.str p, .str n]) nU
          have hU := upd_same (H := H6) (a := U) (o := .tup [.str p, .str n])
          replace hN5 := sU _ _ hN5
          replace hA5 := sU _ _ hA5
          replace U5 := U5.same sU
          replace s5 := s5.trans sU
          generalize upd H6 U (.tup [.str p, .str n]) = Hz at sU hU hN5 hA5 U5 s5 ⊢
          replace hU : Hz U = some (.tup ((chK p n).map kV)) := hU
          refine ⟨_, DGet.t U5.at_ hU, ?_⟩
          rw [U5.val]
          refine ⟨_, _, rfl, rfl, ?_⟩
          refine ⟨_, rfl, _, rfl, qe, _, 1, _, rfl, rfl, sqT_same s5 hqe0, atI_nat (j := 1) rfl, _, rfl, (by show 2 ≤ sizeLine; decide), fun U2 nU2 => ?_⟩
          have sU2 := same_new (o := .tup [.str p, .str n]) nU2
          have hU2 := upd_same (H := Hz) (a := U2) (o := .tup [.str p, .str n])
          replace hN5 := sU2 _ _ hN5
          replace hA5 := sU2 _ _ hA5
          replace U5 := U5.same sU2
          replace s5 := s5.trans sU2
          generalize upd Hz U2 (.tup [.str p, .str n]) = Hw at sU2 hU2 hN5 hA5 U5 s5 ⊢
          replace hU2 : Hw U2 = some (.tup ((chK p n).map kV)) := hU2
          refine ⟨D, _, rfl, DPut.t U5.at_ hU2 (fitR (by omega)), ?_⟩
          have DB := U5
          have hu0 := nn p n
          generalize hu : und rs (reachF jds) p n = u at hu0 ⊢
          replace U5 := U5.put (g' := fun a b => if a = p ∧ b = n then u - 1 else und rs (reachF jds) a b) (n := p) (p := n) (z := u - 1) fun _ _ => rfl
          replace hN5 : upd Hw D (.dT (putK kvs (chK p n) (.int (u - 1)))) N = _ := (upd_ne (ne_of hN5 (DB.at_) (by intro z; cases z))).trans hN5
          replace hA5 : upd Hw D (.dT (putK kvs (chK p n) (.int (u - 1)))) A = _ := (upd_ne (ne_of hA5 (DB.at_) (by intro z; cases z))).trans hA5
          replace s5 := same_upd (o := .dT (putK kvs (chK p n) (.int (u - 1)))) s5 nD0
          have hv5 : valV (putK kvs (chK p n) (.int (u - 1))) (chK p n) = some (.int (u - 1)) := by rw [valV_put, if_pos rfl]
          have hk5 : (putK kvs (chK p n) (.int (u - 1))).length ≤ 40 * ids.length + (i + 1) := by
            have := length_putK kvs (chK p n) (V.int (u - 1))
            omega
          clear DB hU2 sU2
          generalize upd Hw D (.dT (putK kvs (chK p n) (.int (u - 1)))) = H5 at U5 hN5 hA5 s5 ⊢
          generalize putK kvs (chK p n) (.int (u - 1)) = kvs5 at U5 hk5 hv5
          refine ⟨_, rfl, qe, _, 0, _, rfl, rfl, sqT_same s5 hqe0, atI_nat (j := 0) rfl, (by show 2 ≤ sizeLine; decide), fun T nT => ⟨T, _, rfl, .inr (SqT.of upd_same), rfl, rfl, _, rfl, ?_⟩⟩
          have sT := same_new (o := .tup [.str "receive", .str "take"]) nT
          have hT := upd_same (H := H5) (a := T) (o := .tup [.str "receive", .str "take"])
          replace hN5 := sT _ _ hN5
          replace hA5 := sT _ _ hA5
          replace U5 := U5.same sT
          replace s5 := s5.trans sT
          generalize upd H5 T (.tup [.str "receive", .str "take"]) = H6 at sT hT hN5 hA5 U5 s5 ⊢
          show if inV (.str e.word) ((["receive", "take"] : List Str).map V.str) = true then _ else _
          rw [inV_strs, word_recv, hro]
          refine iteTc rfl ?_
          refine ⟨_, rfl, _, rfl, qe, _, 1, _, rfl, rfl, sqT_same s5 hqe0, atI_nat (j := 1) rfl, _, rfl, (by show 2 ≤ sizeLine; decide), fun U3 nU3 => ?_⟩
          have sU3 := same_new (o := .tup [.str p, .str n]) nU3
          have hU3 := upd_same (H := H6) (a := U3) (o := .tup [.str p, .str n])
          replace hN5 := sU3 _ _ hN5
          replace hA5 := sU3 _ _ hA5
          replace U5 := U5.same sU3
          replace s5 := s5.trans sU3
          generalize upd H6 U3 (.tup [.str p, .str n]) = H7 at sU3 hU3 hN5 hA5 U5 s5 ⊢
          replace hU3 : H7 U3 = some (.tup ((chK p n).map kV)) := hU3
          refine ⟨D, _, rfl, by have := DGet.t (k := chK p n) U5.at_ hU3; rw [hv5] at this; exact this, _, _, rfl, rfl, _, rfl, ?_⟩
          have hDA : D ≠ A := ne_of U5.at_ hA5 (by intro z; cases z)
          rcases hlt : decide (u - 1 < 0) with _ | _
          · have hu1 : 0 < u := by have := of_decide_eq_false hlt; omega
            refine iteFc rfl ?_
            have hf : ∀ a v, e.recvOf = some (a, v) → 0 < und rs (reachF jds) a n := fun a v' z => by
              rw [hro] at z
              injection z with z
              injection z with z _
              rw [← z, hu]
              exact hu1
            replace U5 : UndAt H7 D (und rs (reachF (jds ++ [(n, reachF jds n + 1)]))) kvs5 := ⟨U5.at_, fun a b => by
              rw [U5.val, hre, hus' a b, hso, hro]
              by_cases c : a = p ∧ b = n
              · obtain ⟨rfl, rfl⟩ := c
                simp [hu]
              · rw [if_neg c, if_neg (fun z => by cases z.2), if_neg (fun z => c ⟨(by simpa using z.2.symm), z.1⟩)]
                simp⟩
            refine ⟨_, rfl, _, rfl, A, _, _, _, rfl, rfl, SqL.of hA5, hAi, _, _, rfl, rfl, _, rfl, _, rfl, A, _, _, i, rfl, rfl, hA5, hix, ?_⟩
            rw [hset]
            exact ⟨_, _, _, _, _, true, jds ++ [(n, reachF jds n + 1)], kvs5, rfl, same_upd s5 nA0, (upd_ne (Ne.symm hAN)).trans hN5, upd_same, ⟨(upd_ne hDA).trans U5.at_, U5.val⟩, hk5, nn' hf, hlg' hf, fun z => (by cases z), fun _ => hle'⟩
          · have hu1 : u = 0 := by have := of_decide_eq_true hlt; omega
            refine iteTc rfl ?_
            refine ⟨_, rfl, _, rfl, qe, _, 1, _, rfl, rfl, sqT_same s5 hqe0, atI_nat (j := 1) rfl, _, rfl, (by show 2 ≤ sizeLine; decide), fun U4 nU4 => ?_⟩
            have sU4 := same_new (o := .tup [.str p, .str n]) nU4
            have hU4 := upd_same (H := H7) (a := U4) (o := .tup [.str p, .str n])
            replace hN5 := sU4 _ _ hN5
            replace hA5 := sU4 _ _ hA5
            replace U5 := U5.same sU4
            replace s5 := s5.trans sU4
            generalize upd H7 U4 (.tup [.str p, .str n]) = H8 at sU4 hU4 hN5 hA5 U5 s5 ⊢
            replace hU4 : H8 U4 = some (.tup ((chK p n).map kV)) := hU4
            refine ⟨D, _, rfl, DPut.t U5.at_ hU4 (fitR (by omega)), ?_⟩
            have hkl := putK_old (w := .int 0) hv5
            have U9 := U5.put (g' := und rs (reachF jds)) (n := p) (p := n) (z := 0) fun a b => by
              by_cases c : a = p ∧ b = n
              · rw [if_pos c, c.1, c.2, hu, hu1]
              · rw [if_neg c]
                exact (if_neg c).symm
            refine ⟨_, _, _, _, _, mv, jds, _, rfl, same_upd s5 nD0, (upd_ne (ne_of hN5 U5.at_ (by intro z; cases z))).trans hN5, (upd_ne (Ne.symm hDA)).trans hA5, U9, by omega, nn, hLg, fun e' => ?_, h1⟩
            obtain ⟨e1, e2⟩ := h0 e'
            refine ⟨e1, fun m hm' => ?_⟩
            rw [etk] at hm'
            rcases List.mem_append.mp hm' with hm' | hm'
            · exact e2 m hm'
            · rw [List.mem_singleton.mp hm', ← e1]
              intro _ z
              have := hlk.mp z p v hro
              rw [hu] at this
              omega
    · rintro σ Hy ⟨x3, x4, x7, x8, x9, mv, jds, kvs, rfl, sy, hNy, hAy, UD, hk, nn, hLg, h0, h1⟩
      have few : jds.length ≤ ((nmsR rs).map (lnOf rs)).sum := hLg.few hnd
      have hle : ids.length ≤ jds.length := by
        cases mv with
        | false => exact Nat.le_of_eq (by rw [(h0 rfl).1])
        | true => exact Nat.le_of_lt (h1 rfl)
      refine ⟨_, ?_, x3, x4, x7, x8, x9, mv, jds, kvs, rfl, sy, hNy, hAy, UD, by omega, fun e => (by have := h1 e; omega), nn, hLg, fun e n hn => ?_, rfl⟩
      · cases mv with
        | false => rw [if_neg (by decide)]; omega
        | true => have := h1 rfl; rw [if_pos rfl]; omega
      · obtain ⟨e1, e2⟩ := h0 e
        rw [e1]
        refine e2 n ?_
        rw [List.take_of_length_le (by rw [List.length_map]; omega)]
        exact hn
end
end XE
set_option Elab.async false
set_option linter.all false
set_option maxRecDepth 100000
set_option maxHeartbeats 1000000
/-! XS9: _law_moved -/
namespace XE
open PySem PySem.Spec PyProof.Rows L2 RZ Rx SX Rc
theorem slA_read {K : PySem.W.Frag} {H : Hp} {b : Addr} {us : List V} {lo hi : Option Int} {Q : VK} (hb : SqT K H b us) (k : ∀ p H', Same H H' → SqT K H' p (cutV us lo hi) → Q (.ref p) H') : rSlA K (.ref b) lo hi H Q := by
  refine ⟨b, us, rfl, hb, fun h => k b H (.refl H) ?_, fun _ p np => k p _ (same_new np) (SqT.of upd_same)⟩
  have : cutV us lo hi = us := by
    unfold cutV
    rw [h.1, h.2, List.drop_zero, Nat.sub_zero, List.take_length]
  rw [this]
  exact hb
theorem catA_read {K : PySem.W.Frag} {H : Hp} {a b : Addr} {xs ys : List V} {Q : VK} (ha : SqT K H a xs) (hb : SqT K H b ys) (hl : xs.length + ys.length ≤ sizeLine) (k : ∀ p H', Same H H' → SqT K H' p (xs ++ ys) → Q (.ref p) H') : rCatA K (.ref a) (.ref b) H Q := by
  refine ⟨a, b, xs, ys, rfl, rfl, ha, hb, hl, fun h => k b H (.refl H) (by rw [h]; exact hb), fun _ h => k a H (.refl H) (by rw [h, List.append_nil]; exact ha), fun _ _ p np => k p _ (same_new np) (SqT.of upd_same)⟩
theorem dpAll_appR {K : PySem.W.Frag} {H : Hp} : ∀ {xs : List V} {ds : List PyData} {ys : List V} {es : List PyData}, DpAll K H xs ds → DpAll K H ys es → DpAll K H (xs ++ ys) (ds ++ es)
  | _, _, _, _, .nil, h => h
  | _, _, _, _, .cons a r, h => .cons a (dpAll_appR r h)
theorem dpAll_takeR {K : PySem.W.Frag} {H : Hp} : ∀ {xs : List V} {ds : List PyData} (n : Nat), DpAll K H xs ds → DpAll K H (xs.take n) (ds.take n)
  | _, _, 0, _ => .nil
  | _, _, n + 1, .nil => .nil
  | _, _, n + 1, .cons a r => .cons a (dpAll_takeR n r)
theorem dpAll_dropR {K : PySem.W.Frag} {H : Hp} : ∀ {xs : List V} {ds : List PyData} (n : Nat), DpAll K H xs ds → DpAll K H (xs.drop n) (ds.drop n)
  | _, _, 0, h => h
  | _, _, n + 1, .nil => .nil
  | _, _, n + 1, .cons a r => dpAll_dropR n r
theorem at_last {xs : List V} {v : V} : atI (xs ++ [v]) (-1) = some v := by
  show (ixN (xs ++ [v]).length (-1)).bind _ = _
  rw [List.length_append, List.length_singleton, ixN_last]
  simp
def _root_.Rc.Ev.isMsg : Ev → Bool
  | .send _ _ => true | .recv _ _ _ => true | .take _ _ _ => true | _ => false
theorem word_msg (e : Ev) : (["send", "receive", "take"] : List Str).contains e.word = e.isMsg := by
  cases e with
  | set _ _ => exact (show (["send", "receive", "take"] : List Str).contains "set" = false by decide +kernel)
  | inp _ _ => exact (show (["send", "receive", "take"] : List Str).contains "input" = false by decide +kernel)
  | send _ _ => exact (show (["send", "receive", "take"] : List Str).contains "send" = true by decide +kernel)
  | recv _ _ _ => exact (show (["send", "receive", "take"] : List Str).contains "receive" = true by decide +kernel)
  | take _ _ _ => exact (show (["send", "receive", "take"] : List Str).contains "take" = true by decide +kernel)
  | chk => exact (show (["send", "receive", "take"] : List Str).contains "checkpoint" = false by decide +kernel)
end XE
set_option Elab.async false
set_option linter.all false
set_option maxRecDepth 100000
set_option maxHeartbeats 1000000
/-! XBo3: _law_turned -/
namespace XE
open PySem PySem.Spec PyProof.Rows L2 RZ RxT Rx SX Rc
abbrev sLTurned : Stmt := topS 46
def evKey : Ev → Str
  | .set x _ => x | .inp x _ => x | .send p _ => p | .recv p _ _ => p | .take p _ _ => p | .chk => Str.ofString "checkpoint"
/-- alike: the same kind of message event, of the same channel -/
def likeB (e x : Ev) : Bool := (if e.sendOf.isSome then x.sendOf.isSome else x.recvOf.isSome) && decide (evKey x = evKey e)
theorem one_only {α : Type} {q : α → Bool} : ∀ {l : List α} {j k : Nat} {x y : α}, (l.filter q).length ≤ 1 → l[j]? = some x → l[k]? = some y → q x = true → q y = true → j = k
  | [], _, _, _, _, _, h, _, _, _ => by cases h
  | a :: l, 0, 0, _, _, _, _, _, _, _ => rfl
  | a :: l, 0, k + 1, x, y, hl, hx, hy, qx, qy => by
    injection hx with hx
    subst hx
    rw [List.filter_cons, if_pos qx, List.length_cons] at hl
    have h0 : l.filter q = [] := List.eq_nil_of_length_eq_zero (by omega)
    exact absurd qy (List.filter_eq_nil_iff.mp h0 y (List.mem_of_getElem? (l := l) (i := k) hy))
  | a :: l, j + 1, 0, x, y, hl, hx, hy, qx, qy => by
    injection hy with hy
    subst hy
    rw [List.filter_cons, if_pos qy, List.length_cons] at hl
    have h0 : l.filter q = [] := List.eq_nil_of_length_eq_zero (by omega)
    exact absurd qx (List.filter_eq_nil_iff.mp h0 x (List.mem_of_getElem? (l := l) (i := j) hx))
  | a :: l, j + 1, k + 1, x, y, hl, hx, hy, qx, qy => by
    have hl2 : (l.filter q).length ≤ 1 := by
      rw [List.filter_cons] at hl
      split at hl
      · rw [List.length_cons] at hl; omega
      · exact hl
    have := one_only hl2 (j := j) (k := k) hx hy qx qy
    omega
def restE (es : List Ev) (i : Nat) : List Ev := es.take i ++ es.drop (i + 1)
def turnE (es : List Ev) (i t : Nat) (e : Ev) : List Ev := (restE es i).take t ++ e :: (restE es i).drop t
theorem split_at {es : List Ev} {i : Nat} {e : Ev} (he : es[i]? = some e) : es = es.take i ++ e :: es.drop (i + 1) := by
  rw [← (List.getElem?_eq_some_iff.mp he).2, List.getElem_cons_drop, List.take_append_drop]
theorem fm_none {f : Ev → Option Int} {l : List Ev} (h : ∀ (k : Nat) x, l[k]? = some x → f x = none) : l.filterMap f = [] := List.filterMap_eq_nil_iff.mpr fun x hx => by
  obtain ⟨k, hk⟩ := List.mem_iff_getElem?.mp hx
  exact h k x hk
theorem turn_fm {f : Ev → Option Int} {es : List Ev} {i t : Nat} {e : Ev} (he : es[i]? = some e) (ht : t < es.length) (h : f e = none ∨ ∀ k x, min i t ≤ k → k ≤ max i t → k ≠ i → es[k]? = some x → f x = none) : (turnE es i t e).filterMap f = es.filterMap f := by
  have hi := (List.getElem?_eq_some_iff.mp he).1
  conv => rhs; rw [split_at he]
  unfold turnE
  rcases h with h | h
  · rw [List.filterMap_append, List.filterMap_cons_none h, ← List.filterMap_append, List.take_append_drop, restE, List.filterMap_append, List.filterMap_append, List.filterMap_cons_none h]
  · rcases Nat.le_total t i with c | c
    · obtain ⟨d, rfl⟩ := Nat.exists_eq_add_of_le c
      have e1 : restE es (t + d) = es.take t ++ ((es.drop t).take d ++ es.drop (t + d + 1)) := by
        unfold restE
        rw [List.take_add, List.append_assoc]
      have hl : (es.take t).length = t := by rw [List.length_take]; omega
      have hm : ((es.drop t).take d).filterMap f = [] := fm_none fun k x hk => by
        rw [List.getElem?_take] at hk
        split at hk
        · rw [List.getElem?_drop] at hk
          exact h (t + k) x (by omega) (by omega) (by omega) hk
        · cases hk
      rw [e1, List.take_left' hl, List.drop_left' hl, List.take_add]
      rw [List.filterMap_append, List.filterMap_append, List.filterMap_append, List.filterMap_cons, List.filterMap_cons, List.filterMap_append, hm]
      simp
    · obtain ⟨d, rfl⟩ := Nat.exists_eq_add_of_le c
      have hl : (es.take i).length = i := by rw [List.length_take]; omega
      have hm : ((es.drop (i + 1)).take d).filterMap f = [] := fm_none fun k x hk => by
        rw [List.getElem?_take] at hk
        split at hk
        · rw [List.getElem?_drop] at hk
          exact h (i + 1 + k) x (by omega) (by omega) (by omega) hk
        · cases hk
      have e1 : (restE es i).take (i + d) = es.take i ++ (es.drop (i + 1)).take d := by
        unfold restE
        rw [List.take_append, hl, List.take_of_length_le (by omega), show i + d - i = d by omega]
      have e2 : (restE es i).drop (i + d) = (es.drop (i + 1)).drop d := by
        unfold restE
        rw [List.drop_append, hl, List.drop_of_length_le (by omega), show i + d - i = d by omega, List.nil_append]
      rw [e1, e2]
      conv => rhs; rw [← List.take_append_drop d (es.drop (i + 1))]
      rw [List.filterMap_append, List.filterMap_append, List.filterMap_append, List.filterMap_cons, List.filterMap_cons, List.filterMap_append, hm]
      simp
theorem turn_len {es : List Ev} {i t : Nat} {e : Ev} (he : es[i]? = some e) : (turnE es i t e).length = es.length := by
  have hi := (List.getElem?_eq_some_iff.mp he).1
  have h1 : ((restE es i).take t).length + ((restE es i).drop t).length = (restE es i).length := by rw [← List.length_append, List.take_append_drop]
  have h2 : (restE es i).length = es.length - 1 := by
    rw [restE, List.length_append, List.length_take, List.length_drop]
    omega
  unfold turnE
  rw [List.length_append, List.length_cons]
  omega
theorem turn_mem {es : List Ev} {i t : Nat} {e : Ev} (he : es[i]? = some e) : ∀ x ∈ turnE es i t e, x ∈ es := fun x hx => by
  have hr : ∀ y ∈ restE es i, y ∈ es := fun y hy => (List.mem_append.mp hy).elim List.mem_of_mem_take List.mem_of_mem_drop
  rcases List.mem_append.mp hx with h | h
  · exact hr x (List.mem_of_mem_take h)
  · rcases List.mem_cons.mp h with rfl | h
    · exact List.mem_of_getElem? he
    · exact hr x (List.mem_of_mem_drop h)
def ComE (e : Ev) : Bool := e.sendOf.isSome || e.recvOf.isSome
theorem like_self {e : Ev} (h : ComE e = true) : likeB e e = true := by
  unfold likeB
  cases e <;> first | (cases h; done) | (simp [Ev.sendOf, Ev.recvOf]; done)
/-- moved events keep what the channels carry -/
theorem turn_keep {es : List Ev} {i t : Nat} {e : Ev} (he : es[i]? = some e) (ht : t < es.length) (h : ComE e = true → (((es.drop (min i t)).take (max i t + 1 - min i t)).filter (likeB e)).length ≤ 1) : (∀ p, sndVs (turnE es i t e) p = sndVs es p) ∧ ∀ p, rcvVs (turnE es i t e) p = rcvVs es p := by
  have hi := (List.getElem?_eq_some_iff.mp he).1
  have at_ : ∀ k x, min i t ≤ k → k ≤ max i t → es[k]? = some x → ((es.drop (min i t)).take (max i t + 1 - min i t))[k - min i t]? = some x := fun k x h1 h2 hx => by
    rw [List.getElem?_take, if_pos (by omega), List.getElem?_drop, show min i t + (k - min i t) = k by omega]
    exact hx
  have key : ComE e = true → ∀ k x, min i t ≤ k → k ≤ max i t → k ≠ i → es[k]? = some x → likeB e x = false := fun hc k x h1 h2 h3 hx => by
    cases hq : likeB e x with
    | false => rfl
    | true =>
      have := one_only (h hc) (at_ k x h1 h2 hx) (at_ i e (Nat.min_le_left ..) (Nat.le_max_left ..) he) hq (like_self hc)
      omega
  constructor
  · intro p
    refine turn_fm he ht ?_
    cases hs : e.sendOf with
    | none => exact .inl rfl
    | some w =>
      obtain ⟨p', v⟩ := w
      by_cases c : p' = p
      · subst c
        refine .inr fun k x h1 h2 h3 hx => ?_
        have := key (by unfold ComE; rw [hs]; rfl) k x h1 h2 h3 hx
        unfold likeB at this
        rw [hs] at this
        have he2 := (send_rest hs).1
        cases hx2 : x.sendOf with
        | none => rfl
        | some w2 =>
          obtain ⟨p2, v2⟩ := w2
          have hx3 := (send_rest hx2).1
          rw [hx2, he2, hx3] at this
          have hne : p2 ≠ p' := fun z => by rw [z] at this; simp [evKey] at this
          show (if p2 = p' then some v2 else none) = none
          rw [if_neg hne]
      · exact .inl (if_neg c)
  · intro p
    refine turn_fm he ht ?_
    cases hs : e.recvOf with
    | none => exact .inl rfl
    | some w =>
      obtain ⟨p', v⟩ := w
      by_cases c : p' = p
      · subst c
        refine .inr fun k x h1 h2 h3 hx => ?_
        have := key (by unfold ComE; rw [hs]; simp) k x h1 h2 h3 hx
        have hes : e.sendOf = none := by cases e <;> first | rfl | cases hs
        have hek : evKey e = p' := by cases e <;> first | (cases hs; rfl) | cases hs
        unfold likeB at this
        rw [hes, hek] at this
        cases hx2 : x.recvOf with
        | none => rfl
        | some w2 =>
          obtain ⟨p2, v2⟩ := w2
          have hxk : evKey x = p2 := by cases x <;> first | (cases hx2; rfl) | cases hx2
          rw [hx2, hxk] at this
          have hne : p2 ≠ p' := fun z => by rw [z] at this; simp at this
          show (if p2 = p' then some v2 else none) = none
          rw [if_neg hne]
      · exact .inl (if_neg c)
abbrev rLenQC (K : PySem.W.Frag) : List V → Hp → VK → Prop := fun xs H Q => ∃ p ys, xs = [V.ref p] ∧ (SqL K H p ys ∨ SqT K H p ys) ∧ Q (V.int ys.length) H
abbrev rMin2B : List V → Hp → VK → Prop := fun xs H Q => ∃ i j, xs = [.int i, .int j] ∧ Q (.int (if j < i then j else i)) H
theorem word_like (e x : Ev) : (if e.sendOf.isSome then ["send"] else ["receive", "take"] : List Str).contains x.word = (if e.sendOf.isSome then x.sendOf.isSome else x.recvOf.isSome) := by
  cases e.sendOf.isSome with
  | false => exact word_recv x
  | true =>
    have h := word_send x
    show (["send"] : List Str).contains x.word = x.sendOf.isSome
    rw [← h]
    by_cases c : x.word = Str.ofString "send"
    · rw [c]; rfl
    · have c' : V.str x.word ≠ V.str (Str.ofString "send") := fun z => c (by injection z)
      have : (x.word == Str.ofString "send") = false := beq_eq_false_iff_ne.mpr c
      rw [decide_eq_false c']
      simp [List.contains, List.elem, this]
theorem at_key (e : Ev) : atI (V.str e.word :: e.restV) (if ((V.str e.word :: e.restV).length : Int) - 1 < 1 then ((V.str e.word :: e.restV).length : Int) - 1 else 1) = some (.str (evKey e)) := by
  cases e <;> rfl
theorem com_key {x : Ev} (h : (x.sendOf.isSome || x.recvOf.isSome) = true) : ∃ r, x.restV = .str (evKey x) :: r := by
  cases x <;> first | exact ⟨_, rfl⟩ | cases h
def spTurned (K : PySem.W.Frag) : Sp := fun vs H Q _ => ∃ (s a b : Addr) (n : Nat) (us : List V) (es : List Ev), vs = [.ref s, .ref b] ∧ StreamAt H s a n ∧ n + 2 < 1000000 ∧ SqT K H b us ∧ DpAll K H us (es.map Ev.data) ∧ 0 < es.length ∧ es.length ≤ 1000 ∧
  ∀ (es' : List Ev) (b' : Addr) (us' : List V) (H' : Hp), es'.length = es.length → (∀ x ∈ es', x ∈ es) → (∀ p, sndVs es' p = sndVs es p) → (∀ p, rcvVs es' p = rcvVs es p) → SqT K H' b' us' → DpAll K H' us' (es'.map Ev.data) → Moved s a H n 2 H' → Q (.ref b') H'
section
variable {P : Program} {w : World} {K : PySem.W.Frag} {mg : Str → Option Value} {base : Heap}
abbrev tuN : List Str := ["_law_stream", "_law_events", "_law_at", "_law_to", "_law_event_here", "_law_rest", "_law_low", "_law_high", "_law_words_here", "_law_alike", "_law_one"]
theorem scTu : FnScope tuN ["_law_stream", "_law_events"] (defScope sLTurned) := ⟨rfl, rfl, rfl, by decide +kernel, rfl, by decide +kernel, by decide +kernel⟩
theorem ok_lturned {fD f : Addr} {fdD fd : FuncData} (F : Fun K "_law_turned" "_law_turned" sLTurned f fd) (mlen : mg "len" = none) (mmin : mg "min" = none) (mmax : mg "max" = none) (mint : mg "int" = none)
    (CD : Cal P w K mg base 1 "_law_draw" fD fdD ["_law_stream", "_law_many"] spDraw) : FnOk P w K mg base CX0 2 f fd ["_law_stream", "_law_events"] (spTurned K) := by
  refine F.ok scTu (fun vs H Q E h => ?_) (fun cdv A outer s H vs Q E hr h => ?_)
  · obtain ⟨_, _, _, _, _, _, rfl, _⟩ := h
    rfl
  · obtain ⟨st, a1, b, m, us, es, rfl, S, hm, hb, hus, hpos, hel, k⟩ := h
    have hu := hu_of hr
    have hr1 : Room 1 _ := hr.mono (by decide)
    refine ⟨_, (pss_cons (ps_par (i := 2) (j := 3) (by rfl) scTu.nd rfl rfl (by decide) rfl rfl (pa_cons (pe_call CD.ok hr1 rfl CD.mg CD.kp CD.bi .nil pass0 (pa_cons (pv 0) (pa_cons (pe_callB call_len_seq (by rfl) mlen PySem.boot_len (pa_cons (pv 1) pa_nil)) pa_nil))) (pa_cons (pe_call CD.ok hr1 rfl CD.mg CD.kp CD.bi .nil pass0 (pa_cons (pv 0) (pa_cons (pe_callB call_len_seq (by rfl) mlen PySem.boot_len (pa_cons (pv 1) pa_nil)) pa_nil))) pa_nil)) (by rfl)) (pss_cons (ps_set (i := 4) scTu.nd rfl (.inr rfl) (pe_ix ix_tup (pv 1) (pv 2) (fun _ _ => rfl))) (pss_cons (ps_set (i := 5) scTu.nd rfl (.inl rfl) (pe_op op_catA (pe_slice sl_tupA (pv 1) po_none (po_some (pv 2))) (pe_slice sl_tupA (pv 1) (po_some (pe_op op_add (pv 2) pe_int)) po_none))) (pss_cons (ps_par (i := 6) (j := 7) (by rfl) scTu.nd rfl rfl (by decide) rfl rfl (pa_cons (pe_callB (call_min2 rfl) (by rfl) mmin (by decide +kernel) (pa_cons (pv 2) (pa_cons (pv 3) pa_nil))) (pa_cons (pe_callB (call_max2 rfl) (by rfl) mmax (by decide +kernel) (pa_cons (pv 2) (pa_cons (pv 3) pa_nil))) pa_nil)) (by rfl)) (pss_cons (ps_set (i := 8) scTu.nd rfl (.inr rfl) (pe_ix ix_list (pe_lst (pa_cons (pe_tup (pa_cons pe_str pa_nil)) (pa_cons (pe_tup (pa_cons pe_str (pa_cons pe_str pa_nil))) pa_nil))) (pe_callTy call_int1 (by rfl) mint (by decide +kernel) (pa_cons (pe_cmpR op_ne (pe_ix ix_tup (pv 4) pe_int (fun _ _ => rfl)) pe_str (nomark _)) pa_nil)) (fun _ _ => rfl))) (pss_cons (ps_setLc (i := 9) (own := [("_law_one", 10)]) (g := gName 10) (tt := tAnd (tTest (tOp (rIn K false) (tOp (rIxT K) (tVar 10) (tC (.int 0))) (tVar 8))) (tTest (tOp rEq (tOp (rIxT K) (tVar 10) (tC (.int 1))) (tOp (rIxT K) (tVar 4) (tCB rMin2B (tCons (tC (.int 1)) (tCons (tOp (rI0 fun i j => .int (i - j)) (tCB (rLenQC K) (tCons (tVar 4) tNil)) (tC (.int 1))) tNil))))))) (te := tVar 10) rfl scTu.nd rfl rfl (sw_true rfl rfl rfl (by decide +kernel)) (pi_tup (pe_slice sl_tupA (pv 1) (po_some (pv 6)) (po_some (pe_op op_add (pv 7) pe_int)))) (blkOk_by (own := [("_law_one", 10)]) (N := tuN) (sc := defScope sLTurned) (by decide +kernel)) (fun _ _ _ _ _ => (pg_name (i := 10) scTu.nd rfl (Or.inl rfl))) (fun _ _ _ _ _ => pts_one (PW.pt (pw_and (pt_cmpR op_in_seq (pe_ix (by exact ix_tup) (pv 10) pe_int (fun _ _ => rfl)) (pv 8) rfl) (pw_and1 (pt_cmpR op_eq (pe_ix (by exact ix_tup) (pv 10) pe_int (fun _ _ => rfl)) (pe_ix (by exact ix_tup) (pv 4) (pe_callB (call_min2 rfl) (by rfl) mmin (by decide +kernel) (pa_cons pe_int (pa_cons (pe_op op_sub (pe_callB call_len_seq (by rfl) mlen PySem.boot_len (pa_cons (pv 4) pa_nil)) pe_int) pa_nil))) (fun _ _ => rfl)) (nomark _)))))) (fun _ _ _ _ _ => (pv 10))) (pss_cons (ps_if (PW.pt (pw_and (pt_cmpR op_in_seq (pe_ix ix_tup (pv 4) pe_int (fun _ _ => rfl)) (pe_tup (pa_cons pe_str (pa_cons pe_str (pa_cons pe_str pa_nil)))) rfl) (pw_and1 (pt_cmpR op_gt (pe_callB call_len_seq (by rfl) mlen PySem.boot_len (pa_cons (pv 9) pa_nil)) pe_int (nomark _))))) (pss_one (ps_ret (pv 1))) pss_nil) (pss_one (ps_ret (pe_op op_catA (pe_op op_catA (pe_slice sl_tupA (pv 5) po_none (po_some (pv 3))) (pe_tup (pa_cons (pv 4) pa_nil))) (pe_slice sl_tupA (pv 5) (po_some (pv 3)) po_none))))))))))), ?_⟩
    have hul : us.length = es.length := by rw [dpAll_len hus, List.length_map]
    have tke : ∀ {Hx : Hp}, Else2 st a1 H Hx → SqT K Hx b us ∧ DpAll K Hx us (es.map Ev.data) := fun e => by
      have kk := keeps_else2 S e
      exact ⟨sqT_keep kk.1 kk.2 hb, dpAll_keep kk.1 kk.2 hus (evs_noList _)⟩
    refine ⟨_, rfl, _, rfl, b, us, rfl, .inr hb, st, a1, m, (us.length : Nat), rfl, by omega, by omega, S, by omega, fun k1 H1 k10 k11 S1 el1 => ?_⟩
    obtain ⟨j1, rfl⟩ := Int.eq_ofNat_of_zero_le k10
    refine ⟨_, rfl, _, rfl, b, us, rfl, .inr (tke el1).1, st, a1, m + 1, (us.length : Nat), rfl, by omega, by omega, S1, by omega, fun k2 H2 k20 k21 S2 el2 => ?_⟩
    obtain ⟨j2, rfl⟩ := Int.eq_ofNat_of_zero_le k20
    have e2 := el1.trans el2
    have hu1 : us[j1]? = some us[j1] := List.getElem?_eq_getElem (by omega)
    obtain ⟨e, qe, he, hqv, hqe⟩ := ev_at (tke e2).2 hu1
    rw [hqv] at hu1
    obtain ⟨hb2, hus2⟩ := tke e2
    have sl : ∀ {Hx : Hp}, Same H2 Hx → SqT K Hx b us ∧ DpAll K Hx us (es.map Ev.data) := fun s => ⟨sqT_same s hb2, dpAll_same s hus2⟩
    have mv : ∀ {Hx : Hp}, Same H2 Hx → Moved st a1 H m 2 Hx := fun s => ⟨m + 2, by omega, by omega, S2.same s, e2.trans (.of_same s)⟩
    have fitU : ∀ {x : Nat}, x ≤ 5000 → x ≤ sizeLine := fun h => Nat.le_of_lt (fitR (by omega))
    refine ⟨_, _, rfl, _, rfl, _, rfl, b, _, _, _, rfl, rfl, hb2, atI_nat hu1, ?_⟩
    refine ⟨_, rfl, _, rfl, _, rfl, slA_read (sl (.refl _)).1 fun p Hx sx hp => ?_⟩
    refine ⟨_, rfl, _, rfl, _, _, rfl, rfl, _, rfl, ?_⟩
    dsimp only [tNoPart]
    refine slA_read (sl sx).1 fun p2 Hy sy hp2 => ?_
    rw [cut_hi] at hp
    rw [show ((j1 : Int) + 1) = ((j1 + 1 : Nat) : Int) from rfl, cut_lo] at hp2
    have hi1 := (List.getElem?_eq_some_iff.mp he).1
    refine catA_read (sqT_same sy hp) hp2 (fitU ?_) fun p3 H3 sz hp3 => ?_
    · rw [List.length_take, List.length_drop]; omega
    have s3 := (sx.trans sy).trans sz
    have hd3 : DpAll K H3 (us.take j1 ++ us.drop (j1 + 1)) ((restE es j1).map Ev.data) := by
      unfold restE
      rw [List.map_append, List.map_take, List.map_drop]
      exact dpAll_appR (dpAll_takeR _ (sl s3).2) (dpAll_dropR _ (sl s3).2)
    have hrl : (us.take j1 ++ us.drop (j1 + 1)).length ≤ 1000 := by rw [List.length_append, List.length_take, List.length_drop]; omega
    generalize us.take j1 ++ us.drop (j1 + 1) = ru at hp3 hd3 hrl
    have emn : (if ((j2 : Nat) : Int) < (j1 : Nat) then ((j2 : Nat) : Int) else (j1 : Nat)) = ((min j1 j2 : Nat) : Int) := by split <;> omega
    have emx : (if ((j2 : Nat) : Int) > (j1 : Nat) then ((j2 : Nat) : Int) else (j1 : Nat)) = ((max j1 j2 : Nat) : Int) := by split <;> omega
    refine ⟨_, rfl, _, rfl, _, _, rfl, _, rfl, _, rfl, _, _, rfl, _, _, rfl, ?_⟩
    rw [emn, emx]
    refine ⟨(by show 1 ≤ sizeLine; decide), fun T1 nT1 => ⟨(by show 2 ≤ sizeLine; decide), fun T2 nT2 => ⟨(by show 2 ≤ sizeLine; decide), fun LL nLL => ?_⟩⟩⟩
    have hT1 := upd_same (H := H3) (a := T1) (o := .tup [.str "send"])
    have sT := ((same_new (o := .tup [.str "send"]) nT1).trans (same_new (o := .tup [.str "receive", .str "take"]) nT2)).trans (same_new (o := .lst [.ref T1, .ref T2]) nLL)
    replace hT1 := same_new (o := .lst [.ref T1, .ref T2]) nLL _ _ (same_new (o := .tup [.str "receive", .str "take"]) nT2 _ _ hT1)
    have hT2 := same_new (o := .lst [.ref T1, .ref T2]) nLL _ _ (upd_same (H := upd H3 T1 (.tup [.str "send"])) (a := T2) (o := .tup [.str "receive", .str "take"]))
    have hLL := upd_same (H := upd (upd H3 T1 (.tup [.str "send"])) T2 (.tup [.str "receive", .str "take"])) (a := LL) (o := .lst [.ref T1, .ref T2])
    show tCB _ _ _ (upd (upd (upd H3 T1 (.tup [.str "send"])) T2 (.tup [.str "receive", .str "take"])) LL (.lst [.ref T1, .ref T2])) _
    generalize upd (upd (upd H3 T1 (.tup [.str "send"])) T2 (.tup [.str "receive", .str "take"])) LL (.lst [.ref T1, .ref T2]) = H4 at hT1 hT2 hLL sT ⊢
    have s4 := s3.trans sT
    replace hp3 := sqT_same sT hp3
    replace hd3 := dpAll_same sT hd3
    refine ⟨_, rfl, qe, _, 0, _, rfl, rfl, sqT_same s4 hqe, atI_nat (j := 0) rfl, rfl, .inr ⟨_, rfl, ?_⟩⟩
    obtain ⟨T, hT, hix⟩ : ∃ T, SqT K H4 T ((if e.sendOf.isSome then ["send"] else ["receive", "take"] : List Str).map V.str) ∧ atI [V.ref T1, V.ref T2] (if (!decide (V.str e.word = V.str "send")) = true then 1 else 0) = some (.ref T) := by
      rw [word_send]
      cases e.sendOf.isSome with
      | true => exact ⟨T1, SqT.of hT1, rfl⟩
      | false => exact ⟨T2, SqT.of hT2, rfl⟩
    refine ⟨LL, _, _, _, rfl, rfl, SqL.of hLL, hix, ?_⟩
    refine ⟨_, rfl, _, rfl, _, rfl, _, rfl, _, _, rfl, rfl, _, rfl, slA_read (sl s4).1 fun p4 H5 s5 hp4 => ?_⟩
    have hsegv : cutV us (some ((min j1 j2 : Nat) : Int)) (some (((max j1 j2 : Nat) : Int) + 1)) = (us.drop (min j1 j2)).take (max j1 j2 + 1 - min j1 j2) := by
      unfold cutV
      rw [show (((max j1 j2 : Nat) : Int) + 1) = ((max j1 j2 + 1 : Nat) : Int) from rfl, HT.sIx_nat, HT.sIx_nat, Nat.min_eq_left (by omega), Nat.min_eq_left (by omega)]
    rw [hsegv] at hp4
    have hsd : DpAll K H5 ((us.drop (min j1 j2)).take (max j1 j2 + 1 - min j1 j2)) (((es.drop (min j1 j2)).take (max j1 j2 + 1 - min j1 j2)).map Ev.data) := by
      rw [List.map_take, List.map_drop]
      exact dpAll_takeR _ (dpAll_dropR _ (sl (s4.trans s5)).2)
    have hkeep := turn_keep (es := es) (i := j1) (t := j2) he (by omega)
    have hseg5 : ((es.drop (min j1 j2)).take (max j1 j2 + 1 - min j1 j2)).length ≤ 1000 := by rw [List.length_take, List.length_drop]; omega
    generalize (us.drop (min j1 j2)).take (max j1 j2 + 1 - min j1 j2) = su at hp4 hsd
    generalize (es.drop (min j1 j2)).take (max j1 j2 + 1 - min j1 j2) = seg at hsd hkeep hseg5
    replace hT := sqT_same s5 hT
    replace s4 := s4.trans s5
    replace hp3 := sqT_same s5 hp3
    replace hd3 := dpAll_same s5 hd3
    refine ⟨p4, rfl, ⟨_, hp4⟩, fun D nD => ?_⟩
    refine lc_tup (K := K) (a := p4) (xs := su) (fun j Hx => Same H5 Hx ∧ ∃ acc, Hx D = some (.lst acc) ∧ acc.length = ((seg.take j).filter (likeB e)).length) ⟨same_new nD, [], upd_same, rfl⟩ (fun j Hx _ q => sqT_same q.1 hp4) ?_ ?_
    · rintro j v Hx hv ⟨sx2, acc, hD, hacc⟩
      obtain ⟨x, qx, hxj, rfl, hqx⟩ := ev_at (dpAll_same sx2 hsd) hv
      have hjs := (List.getElem?_eq_some_iff.mp hxj).1
      have etk : (seg.take (j + 1)).filter (likeB e) = (seg.take j).filter (likeB e) ++ [x].filter (likeB e) := by rw [List.take_add_one, hxj, List.filter_append]; rfl
      have hal : acc.length ≤ 1000 := by
        rw [hacc]
        refine Nat.le_trans (List.length_filter_le ..) ?_
        rw [List.length_take]
        omega
      refine ⟨rfl, _, rfl, qx, _, 0, _, rfl, rfl, hqx, atI_nat (j := 0) rfl, _, rfl, T, _, rfl, .inr (sqT_same sx2 hT), rfl, flat_strs _, _, rfl, ?_⟩
      show if inV (.str x.word) ((if e.sendOf.isSome then ["send"] else ["receive", "take"] : List Str).map V.str) = true then _ else _
      rw [inV_strs, word_like]
      rcases hb1 : (if e.sendOf.isSome then x.sendOf.isSome else x.recvOf.isSome) with _ | _
      · refine iteFc rfl (iteFc rfl ⟨sx2, acc, hD, ?_⟩)
        have : likeB e x = false := by unfold likeB; rw [hb1]; rfl
        rw [etk, List.filter_cons, this, hacc]
        simp
      · have hcx : (x.sendOf.isSome || x.recvOf.isSome) = true := by
          split at hb1 <;> simp [hb1]
        obtain ⟨rr, hrr⟩ := com_key hcx
        rw [hrr] at hqx
        refine iteTc rfl ?_
        have sH := s4.trans sx2
        refine ⟨_, rfl, qx, _, 1, _, rfl, rfl, hqx, atI_nat (j := 1) rfl, _, rfl, _, rfl, qe, _, rfl, .inr (sqT_same sH hqe), _, _, rfl, rfl, _, _, rfl, qe, _, _, _, rfl, rfl, sqT_same sH hqe, at_key e, rfl, _, rfl, ?_⟩
        have hlk : likeB e x = decide (evKey x = evKey e) := by unfold likeB; rw [hb1]; rfl
        by_cases c : evKey x = evKey e
        · refine iteTc (decide_eq_true (by rw [c])) ⟨_, rfl, acc, hD, fitR (by omega), same_upd sx2 nD, _, upd_same, ?_⟩
          rw [etk, List.length_append, List.length_append, hacc, List.filter_cons, hlk, decide_eq_true c]
          rfl
        · refine iteFc (decide_eq_false fun z => c (by injection z)) ⟨sx2, acc, hD, ?_⟩
          rw [etk, List.filter_cons, hlk, decide_eq_false c, hacc]
          simp
    rintro H6 ⟨s6, acc, hD, hacc⟩
    have hsl : su.length = seg.length := by rw [dpAll_len hsd, List.length_map]
    rw [hsl, List.take_length] at hacc
    replace s4 := s4.trans s6
    replace hp3 := sqT_same s6 hp3
    replace hd3 := dpAll_same s6 hd3
    have hcom : ComE e = e.isMsg := by cases e <;> rfl
    refine ⟨_, rfl, qe, _, 0, _, rfl, rfl, sqT_same s4 hqe, atI_nat (j := 0) rfl, (by show 3 ≤ sizeLine; decide), fun U nU => ⟨U, _, rfl, .inr (SqT.of upd_same), rfl, rfl, _, rfl, ?_⟩⟩
    have sU := same_new (o := .tup [.str "send", .str "receive", .str "take"]) nU
    have hU := upd_same (H := H6) (a := U) (o := .tup [.str "send", .str "receive", .str "take"])
    replace hD := sU _ _ hD
    replace s4 := s4.trans sU
    replace hp3 := sqT_same sU hp3
    replace hd3 := dpAll_same sU hd3
    generalize upd H6 U (.tup [.str "send", .str "receive", .str "take"]) = H7 at sU hU hD s4 hp3 hd3 ⊢
    show if inV (.str e.word) ((["send", "receive", "take"] : List Str).map V.str) = true then _ else _
    rw [inV_strs, word_msg]
    cases hms : e.isMsg with
    | true =>
      refine iteTc rfl ⟨_, rfl, D, acc, rfl, .inl (SqL.of hD), _, _, rfl, rfl, _, rfl, ?_⟩
      by_cases c : (1 : Int) < (acc.length : Nat)
      · refine iteTc (decide_eq_true c) ⟨_, rfl, ?_⟩
        exact k es b us _ rfl (fun x h => h) (fun _ => rfl) (fun _ => rfl) (sl s4).1 (sl s4).2 (mv s4)
      · refine iteFc (decide_eq_false c) ?_
        have hal : ComE e = true → (seg.filter (likeB e)).length ≤ 1 := fun _ => by rw [← hacc]; omega
        refine ⟨_, rfl, _, rfl, _, rfl, slA_read hp3 fun p5 Hx sx hp5 => ?_⟩
        rw [cut_hi] at hp5
        replace hp3 := sqT_same sx hp3
        refine ⟨_, rfl, (by show 1 ≤ sizeLine; decide), fun T3 nT3 => ?_⟩
        have sT3 := same_new (o := .tup [.ref qe]) nT3
        have hT3 := SqT.of (K := K) (upd_same (H := Hx) (a := T3) (o := .tup [.ref qe]))
        generalize upd Hx T3 (.tup [.ref qe]) = Hy at sT3 hT3 ⊢
        refine catA_read (sqT_same sT3 hp5) hT3 (fitU ?_) fun p6 Hz sz hp6 => ?_
        · rw [List.length_take]
          show _ + 1 ≤ _
          omega
        have sxz := (sx.trans sT3).trans sz
        refine ⟨_, rfl, _, rfl, _, rfl, ?_⟩
        dsimp only [tNoPart]
        refine slA_read (sqT_same (sT3.trans sz) hp3) fun p7 Hw sw hp7 => ?_
        rw [cut_lo] at hp7
        refine catA_read (sqT_same sw hp6) hp7 (fitU ?_) fun p8 Hv sv hp8 => ?_
        · rw [List.length_append, List.length_take, List.length_drop]
          show _ + 1 + _ ≤ _
          omega
        have sall := (sxz.trans sw).trans sv
        have s9 := s4.trans sall
        obtain ⟨hkp1, hkp2⟩ := hkeep hal
        have hde : Dp K Hv (.ref qe) e.data := by
          obtain ⟨dd, h3, h4⟩ := dpAll_at (sl s9).2 hu1
          rw [List.getElem?_map, he] at h3
          injection h3 with h3
          rw [h3]
          exact h4
        have hd9 := dpAll_same sall hd3
        refine k (turnE es j1 j2 e) p8 _ Hv (turn_len he) (turn_mem he) hkp1 hkp2 hp8 ?_ (mv s9)
        have hdd := dpAll_appR (dpAll_appR (dpAll_takeR j2 hd9) (.cons hde .nil)) (dpAll_dropR j2 hd9)
        rw [turnE, List.map_append, List.map_cons, List.map_take, List.map_drop]
        rw [List.append_cons (_ : List PyData)]
        exact hdd
    | false =>
      refine iteFc rfl (iteFc rfl ?_)
      have hal : ComE e = true → (seg.filter (likeB e)).length ≤ 1 := fun z => by rw [hcom, hms] at z; cases z
      refine ⟨_, rfl, _, rfl, _, rfl, slA_read hp3 fun p5 Hx sx hp5 => ?_⟩
      rw [cut_hi] at hp5
      replace hp3 := sqT_same sx hp3
      refine ⟨_, rfl, (by show 1 ≤ sizeLine; decide), fun T3 nT3 => ?_⟩
      have sT3 := same_new (o := .tup [.ref qe]) nT3
      have hT3 := SqT.of (K := K) (upd_same (H := Hx) (a := T3) (o := .tup [.ref qe]))
      generalize upd Hx T3 (.tup [.ref qe]) = Hy at sT3 hT3 ⊢
      refine catA_read (sqT_same sT3 hp5) hT3 (fitU ?_) fun p6 Hz sz hp6 => ?_
      · rw [List.length_take]
        show _ + 1 ≤ _
        omega
      have sxz := (sx.trans sT3).trans sz
      refine ⟨_, rfl, _, rfl, _, rfl, ?_⟩
      dsimp only [tNoPart]
      refine slA_read (sqT_same (sT3.trans sz) hp3) fun p7 Hw sw hp7 => ?_
      rw [cut_lo] at hp7
      refine catA_read (sqT_same sw hp6) hp7 (fitU ?_) fun p8 Hv sv hp8 => ?_
      · rw [List.length_append, List.length_take, List.length_drop]
        show _ + 1 + _ ≤ _
        omega
      have sall := (sxz.trans sw).trans sv
      have s9 := s4.trans sall
      obtain ⟨hkp1, hkp2⟩ := hkeep hal
      have hde : Dp K Hv (.ref qe) e.data := by
        obtain ⟨dd, h3, h4⟩ := dpAll_at (sl s9).2 hu1
        rw [List.getElem?_map, he] at h3
        injection h3 with h3
        rw [h3]
        exact h4
      have hd9 := dpAll_same sall hd3
      refine k (turnE es j1 j2 e) p8 _ Hv (turn_len he) (turn_mem he) hkp1 hkp2 hp8 ?_ (mv s9)
      have hdd := dpAll_appR (dpAll_appR (dpAll_takeR j2 hd9) (.cons hde .nil)) (dpAll_dropR j2 hd9)
      rw [turnE, List.map_append, List.map_cons, List.map_take, List.map_drop]
      rw [List.append_cons (_ : List PyData)]
      exact hdd
end
end XE
set_option Elab.async false
set_option linter.all false
set_option maxRecDepth 100000
set_option maxHeartbeats 1000000
/-! XBo4: _law_ring -/
namespace XE
open PySem PySem.Spec PyProof.Rows L2 RZ RxT Rx SX Rc
abbrev sLRing : Stmt := topS 47
def prK (n k : Nat) : Nat := (k + n - 1) % n
def nxK (n k : Nat) : Nat := (k + 1) % n
def nmK (ns : List Str) (k : Nat) : Str := ns.getD k Str.empty
def ringE (ns : List Str) (k d1 d2 : Nat) (sw : Bool) : List Ev :=
  [Ev.chk, Ev.set (Str.ofString "x") (k : Nat)].take d1 ++ (if sw = true then [Ev.send (nmK ns (nxK ns.length k)) (nxK ns.length k : Nat), Ev.take (nmK ns (prK ns.length k)) (Str.ofString "x") (k : Nat)] else [Ev.take (nmK ns (prK ns.length k)) (Str.ofString "x") (k : Nat), Ev.send (nmK ns (nxK ns.length k)) (nxK ns.length k : Nat)]) ++ [Ev.chk].take d2
theorem fm_take {f : Ev → Option Int} {l : List Ev} (h : ∀ e ∈ l, f e = none) (d : Nat) : (l.take d).filterMap f = [] := List.filterMap_eq_nil_iff.mpr fun x hx => h x (List.mem_of_mem_take hx)
theorem ring_snd (ns : List Str) (k d1 d2 : Nat) (sw : Bool) (p : Str) : sndVs (ringE ns k d1 d2 sw) p = if nmK ns (nxK ns.length k) = p then [((nxK ns.length k : Nat) : Int)] else [] := by
  unfold sndVs ringE
  rw [List.filterMap_append, List.filterMap_append, fm_take (l := [Ev.chk, Ev.set (Str.ofString "x") (k : Nat)]) (fun e he => by
    simp only [List.mem_cons, List.not_mem_nil, or_false] at he
    rcases he with rfl | rfl <;> rfl), fm_take (l := [Ev.chk]) (fun e he => by rw [List.mem_singleton.mp he]; rfl), List.append_nil, List.nil_append]
  by_cases c : nmK ns (nxK ns.length k) = p
  · cases sw <;> simp [Ev.sendOf, c]
  · cases sw <;> simp [Ev.sendOf, c]
theorem ring_rcv (ns : List Str) (k d1 d2 : Nat) (sw : Bool) (p : Str) : rcvVs (ringE ns k d1 d2 sw) p = if nmK ns (prK ns.length k) = p then [((k : Nat) : Int)] else [] := by
  unfold rcvVs ringE
  rw [List.filterMap_append, List.filterMap_append, fm_take (l := [Ev.chk, Ev.set (Str.ofString "x") (k : Nat)]) (fun e he => by
    simp only [List.mem_cons, List.not_mem_nil, or_false] at he
    rcases he with rfl | rfl <;> rfl), fm_take (l := [Ev.chk]) (fun e he => by rw [List.mem_singleton.mp he]; rfl), List.append_nil, List.nil_append]
  by_cases c : nmK ns (prK ns.length k) = p
  · cases sw <;> simp [Ev.recvOf, c]
  · cases sw <;> simp [Ev.recvOf, c]
theorem ring_len (ns : List Str) (k d1 d2 : Nat) (sw : Bool) : (ringE ns k d1 d2 sw).length ≤ 5 := by
  unfold ringE
  rw [List.length_append, List.length_append, List.length_take, List.length_take]
  cases sw <;> simp <;> omega
theorem nx_pr {n k : Nat} (h2 : 2 ≤ n) (hk : k < n) : nxK n (prK n k) = k ∧ prK n k < n ∧ nxK n k < n ∧ prK n k ≠ k ∧ nxK n k ≠ k := by
  unfold nxK prK
  rcases Nat.eq_zero_or_pos k with rfl | h0
  · rw [Nat.zero_add, Nat.mod_eq_of_lt (by omega : n - 1 < n), show n - 1 + 1 = n by omega, Nat.mod_self, Nat.zero_add, Nat.mod_eq_of_lt (by omega : 1 < n)]
    omega
  · have e1 : (k + n - 1) % n = k - 1 := by
      rw [show k + n - 1 = (k - 1) + n by omega, Nat.add_mod_right, Nat.mod_eq_of_lt (by omega)]
    rw [e1, show k - 1 + 1 = k by omega, Nat.mod_eq_of_lt hk]
    refine ⟨rfl, by omega, Nat.mod_lt _ (by omega), by omega, ?_⟩
    rcases Nat.lt_or_ge (k + 1) n with c | c
    · rw [Nat.mod_eq_of_lt c]; omega
    · rw [show k + 1 = n by omega, Nat.mod_self]; omega
theorem nmK_at {ns : List Str} {k : Nat} (h : k < ns.length) : ns[k]? = some (nmK ns k) := by
  unfold nmK
  rw [List.getD_eq_getElem?_getD, List.getElem?_eq_getElem h]
  rfl
theorem nmK_inj {ns : List Str} (hd : ns.Nodup) {i j : Nat} (hi : i < ns.length) (hj : j < ns.length) (h : nmK ns i = nmK ns j) : i = j :=
  (List.getElem?_inj hi hd).mp (by rw [nmK_at hi, nmK_at hj, h])
theorem ring_ok {ns : List Str} {k d1 d2 : Nat} {sw : Bool} (hd : ns.Nodup) (h2 : 2 ≤ ns.length) (h5 : ns.length ≤ 5) (hk : k < ns.length) : ∀ e ∈ ringE ns k d1 d2 sw, e.ok (othersL ns (nmK ns k)) = true := by
  obtain ⟨_, p1, p2, p3, p4⟩ := nx_pr h2 hk
  have oth : ∀ j, j < ns.length → j ≠ k → (othersL ns (nmK ns k)).contains (nmK ns j) = true := fun j hj hne => by
    rw [List.contains_iff_mem]
    exact List.mem_filter.mpr ⟨List.mem_of_getElem? (nmK_at hj), decide_eq_true fun z => hne (nmK_inj hd hj hk z)⟩
  have o1 := oth _ p1 p3
  have o2 := oth _ p2 p4
  have vb : ∀ j : Nat, j < 5 → valB (j : Int) = true := fun j hj => by
    have : j = 0 ∨ j = 1 ∨ j = 2 ∨ j = 3 ∨ j = 4 := by omega
    rcases this with rfl | rfl | rfl | rfl | rfl <;> decide +kernel
  have nx : nameB (Str.ofString "x") = true := by decide +kernel
  have v1 := vb k (by omega)
  have v2 := vb (nxK ns.length k) (by omega)
  have o1' := List.contains_iff_mem.mp o1
  have o2' := List.contains_iff_mem.mp o2
  intro e he
  unfold ringE at he
  rcases List.mem_append.mp he with he | he
  · rcases List.mem_append.mp he with he | he
    · have he := List.mem_of_mem_take he
      simp only [List.mem_cons, List.not_mem_nil, or_false] at he
      rcases he with rfl | rfl
      · rfl
      · simp [Ev.ok, nx, v1]
    · cases sw
      · rw [if_neg (by decide)] at he
        simp only [List.mem_cons, List.not_mem_nil, or_false] at he
        rcases he with rfl | rfl
        · simp [Ev.ok, nx, v1, o1']
        · simp [Ev.ok, v2, o2']
      · rw [if_pos rfl] at he
        simp only [List.mem_cons, List.not_mem_nil, or_false] at he
        rcases he with rfl | rfl
        · simp [Ev.ok, v2, o2']
        · simp [Ev.ok, nx, v1, o1']
  · have he := List.mem_of_mem_take he
    rw [List.mem_singleton.mp he]
    rfl
theorem ring_match {ns : List Str} {rs : Rows} (hd : ns.Nodup) (h2 : 2 ≤ ns.length) (hn : rs.map (·.1) = ns) (h : ∀ k r, rs[k]? = some r → ∃ d1 d2 sw, r.2 = ringE ns k d1 d2 sw) : ∃ ms, matchR rs = .ok ms := by
  have hdr : (rs.map (·.1)).Nodup := by rw [hn]; exact hd
  have hl : rs.length = ns.length := by rw [← hn, List.length_map]
  have ev : ∀ k, k < ns.length → ∃ d1 d2 sw, evsOf rs (nmK ns k) = ringE ns k d1 d2 sw := fun k hk => by
    have hr : rs[k]? = some (rs[k]'(by omega)) := List.getElem?_eq_getElem (by omega)
    generalize rs[k]'(by omega) = r at hr
    have h1 := nmK_at hk
    have h3 : ns[k]? = some r.1 := by rw [← hn, List.getElem?_map, hr]; rfl
    rw [h1] at h3
    injection h3 with h3
    rw [h3, evsOf_at hdr (es := r.2) (List.mem_of_getElem? hr)]
    exact h k r hr
  rw [matchR_iff hdr]
  intro b hb a j e v he hr
  rw [hn] at hb
  obtain ⟨k, hk⟩ := List.mem_iff_getElem?.mp hb
  have hkl := (List.getElem?_eq_some_iff.mp hk).1
  rw [nmK_at hkl] at hk
  injection hk with hk
  subst hk
  obtain ⟨d1, d2, sw, hev⟩ := ev k hkl
  rw [hev] at he ⊢
  have h4 := rcv_at he hr
  rw [ring_rcv] at h4
  obtain ⟨q1, q2, _, _, _⟩ := nx_pr h2 hkl
  by_cases c : nmK ns (prK ns.length k) = a
  · rw [if_pos c] at h4
    have h5 := (List.getElem?_eq_some_iff.mp h4).1
    have h6 : rcvN ((ringE ns k d1 d2 sw).take j) a = 0 := by simpa using h5
    rw [h6] at h4 ⊢
    injection h4 with h4
    obtain ⟨d1', d2', sw', hev'⟩ := ev _ q2
    rw [← c, hev', ring_snd, q1, if_pos rfl]
    rw [← h4]
    rfl
  · rw [if_neg c] at h4
    cases h4
theorem at_pr {ns : List Str} {i : Nat} (hi : i < ns.length) : atI (ns.map V.str) (((i : Nat) : Int) - 1) = some (.str (nmK ns (prK ns.length i))) := by
  unfold prK
  rcases Nat.eq_zero_or_pos i with rfl | h0
  · have : ixN (ns.map V.str).length (((0 : Nat) : Int) - 1) = some (ns.length - 1) := by
      unfold ixN
      rw [if_neg (by omega), if_pos (by rw [List.length_map]; omega), List.length_map]
      congr 1
      omega
    unfold atI
    rw [this, Nat.zero_add, Nat.mod_eq_of_lt (by omega : ns.length - 1 < ns.length)]
    show (ns.map V.str)[ns.length - 1]? = _
    rw [List.getElem?_map, nmK_at (by omega)]
    rfl
  · rw [show ((i : Nat) : Int) - 1 = ((i - 1 : Nat) : Int) by omega, show i + ns.length - 1 = (i - 1) + ns.length by omega, Nat.add_mod_right, Nat.mod_eq_of_lt (by omega)]
    exact atI_nat (by rw [List.getElem?_map, nmK_at (by omega)]; rfl)
theorem at_nx {ns : List Str} {i : Nat} (hi : i < ns.length) : atI (ns.map V.str) ((((i : Nat) : Int) + 1) % (((ns.map V.str).length : Nat) : Int)) = some (.str (nmK ns (nxK ns.length i))) := by
  rw [List.length_map, show (((i : Nat) : Int) + 1) % ((ns.length : Nat) : Int) = ((nxK ns.length i : Nat) : Int) by unfold nxK; rw [Int.natCast_emod, Int.natCast_add]; rfl]
  have : nxK ns.length i < ns.length := Nat.mod_lt _ (by omega)
  exact atI_nat (by rw [List.getElem?_map, nmK_at this]; rfl)
theorem at_last2 {xs : List V} {u v : V} : atI (xs ++ [u, v]) (-2) = some u := by
  have : ixN (xs ++ [u, v]).length (-2) = some xs.length := by
    have hl : (xs ++ [u, v]).length = xs.length + 2 := by simp
    rw [hl]
    unfold ixN
    rw [if_neg (by omega), if_pos (by omega)]
    congr 1
    omega
  unfold atI
  rw [this]
  show (xs ++ [u, v])[xs.length]? = some u
  rw [List.getElem?_append_right (Nat.le_refl _), Nat.sub_self]
  rfl
theorem at_last1 {xs : List V} {u v : V} : atI (xs ++ [u, v]) (-1) = some v := by
  have := at_last (xs := xs ++ [u]) (v := v)
  rw [List.append_assoc] at this
  exact this
theorem else2_updR {H Hw : Hp} {s a E : Addr} {o : HO} (e : Else2 s a H Hw) (n : H E = none) : Else2 s a H (upd Hw E o) := fun b u q n1 n2 => by
  rw [upd_ne (fun z => by rw [z, n] at q; cases q)]
  exact e b u q n1 n2
theorem stream_updR {H : Hp} {st a W : Addr} {m : Nat} {o : HO} (S : StreamAt H st a m) (n1 : W ≠ st) (n2 : W ≠ a) : StreamAt (upd H W o) st a m := by
  obtain ⟨ns, p, q, h1, h2, h3⟩ := S
  exact ⟨ns, p, q, by rw [upd_ne (Ne.symm n1)]; exact h1, by rw [upd_ne (Ne.symm n2)]; exact h2, h3⟩
def spRing (K : PySem.W.Frag) : Sp := fun vs H Q _ => ∃ (s a N : Addr) (n : Nat) (names : List Str), vs = [.ref s, .ref N] ∧ StreamAt H s a n ∧ n + 20 < 1000000 ∧ H N = some (.lst (names.map V.str)) ∧ N ≠ s ∧ N ≠ a ∧ names.Nodup ∧ 2 ≤ names.length ∧ names.length ≤ 5 ∧
  ∀ (L : Addr) (xs : List V) (rs : Rows) (m' : Nat) (H' : Hp), rs.map (·.1) = names → (∀ k r, rs[k]? = some r → ∃ d1 d2 sw, r.2 = ringE names k d1 d2 sw) → n ≤ m' → m' ≤ n + 15 → StreamAt H' s a m' → Else2 s a H H' → H L = none → H' L = some (.lst xs) → DpAll K H' xs (rs.map rowE) → Q (.ref L) H'
section
variable {P : Program} {w : World} {K : PySem.W.Frag} {mg : Str → Option Value} {base : Heap}
abbrev rngN : List Str := ["_law_stream", "_law_names", "_law_rows_here", "_law_k", "_law_ahead", "_law_behind", "_law_some", "_law_events"]
theorem scRng : FnScope rngN ["_law_stream", "_law_names"] (defScope sLRing) := ⟨rfl, rfl, rfl, by decide +kernel, rfl, by decide +kernel, by decide +kernel⟩
theorem ok_lring {fD f : Addr} {fdD fd : FuncData} (F : Fun K "_law_ring" "_law_ring" sLRing f fd) (mlen : mg "len" = none) (mrange : mg "range" = none) (mtup : mg "tuple" = none)
    (CD : Cal P w K mg base 1 "_law_draw" fD fdD ["_law_stream", "_law_many"] spDraw) : FnOk P w K mg base CX0 2 f fd ["_law_stream", "_law_names"] (spRing K) := by
  refine F.ok scRng (fun vs H Q E h => ?_) (fun cdv A outer s H vs Q E hr h => ?_)
  · obtain ⟨_, _, _, _, _, rfl, _⟩ := h
    rfl
  · obtain ⟨st, a1, N, m, names, rfl, S, hm, hN, Ns, Na, hnd, hn2, hn5, k⟩ := h
    have hu := hu_of hr
    have hr1 : Room 1 _ := hr.mono (by decide)
    refine ⟨_, (pss_cons (ps_set (i := 2) scRng.nd rfl (.inl rfl) (pe_lst pa_nil)) (pss_cons (ps_for PassesOwn.never rfl (pi_range1 rfl mrange (pa_cons (pe_callB call_len_seq (by rfl) mlen PySem.boot_len (pa_cons (pv 1) pa_nil)) pa_nil)) (pg_name (i := 3) scRng.nd rfl (.inl rfl)) (pss_cons (ps_par (i := 4) (j := 5) (by rfl) scRng.nd rfl rfl (by decide) rfl rfl (pa_cons (pe_ix ix_list (pv 1) (pe_op op_sub (pv 3) pe_int) (fun _ _ => rfl)) (pa_cons (pe_ix ix_list (pv 1) (pe_op op_mod (pe_op op_add (pv 3) pe_int) (pe_callB call_len_seq (by rfl) mlen PySem.boot_len (pa_cons (pv 1) pa_nil))) (fun _ _ => rfl)) pa_nil)) (by rfl)) (pss_cons (ps_set (i := 6) scRng.nd rfl (.inl rfl) (pe_slice sl_list (pe_lst (pa_cons (pe_tup (pa_cons pe_str pa_nil)) (pa_cons (pe_tup (pa_cons pe_str (pa_cons pe_str (pa_cons (pv 3) pa_nil)))) pa_nil))) po_none (po_some (pe_call CD.ok hr1 rfl CD.mg CD.kp CD.bi .nil pass0 (pa_cons (pv 0) (pa_cons pe_int pa_nil)))))) (pss_cons (ps_set (i := 7) scRng.nd rfl (.inl rfl) (pe_op op_cat (pv 6) (pe_lst (pa_cons (pe_tup (pa_cons pe_str (pa_cons (pv 4) (pa_cons pe_str (pa_cons (pv 3) pa_nil))))) (pa_cons (pe_tup (pa_cons pe_str (pa_cons (pv 5) (pa_cons (pe_op op_mod (pe_op op_add (pv 3) pe_int) (pe_callB call_len_seq (by rfl) mlen PySem.boot_len (pa_cons (pv 1) pa_nil))) pa_nil)))) pa_nil))))) (pss_cons (ps_if (pt_cmpR op_eq (pe_call CD.ok hr1 rfl CD.mg CD.kp CD.bi .nil pass0 (pa_cons (pv 0) (pa_cons (pe_op op_mul pe_int (pe_callB call_len_seq (by rfl) mlen PySem.boot_len (pa_cons (pv 1) pa_nil))) pa_nil))) pe_int (nomark _)) (pss_one (ps_set (i := 7) scRng.nd rfl (.inl rfl) (pe_op op_cat (pv 6) (pe_lst (pa_cons (pe_ix ix_list (pv 7) (pe_un un_neg pe_int) (fun _ _ => rfl)) (pa_cons (pe_ix ix_list (pv 7) (pe_un un_neg pe_int) (fun _ _ => rfl)) pa_nil)))))) pss_nil) (pss_one (ps_expr (pe_bm PySem.F.plainAttrs_list PySem.F.slot_list_append PySem.F.type_list_append mt_append (pv 2) (pa_cons (pe_tup (pa_cons (pe_ix ix_list (pv 1) (pv 3) (fun _ _ => rfl)) (pa_cons (pe_callTy call_tuple_of (by rfl) mtup (by decide +kernel) (pa_cons (pe_op op_cat (pv 7) (pe_slice sl_list (pe_lst (pa_cons (pe_tup (pa_cons pe_str pa_nil)) pa_nil)) po_none (po_some (pe_call CD.ok hr1 rfl CD.mg CD.kp CD.bi .nil pass0 (pa_cons (pv 0) (pa_cons pe_int pa_nil)))))) pa_nil)) pa_nil))) pa_nil))))))))) (pss_one (ps_ret (pv 2))))), ?_⟩
    refine ⟨(by show 0 ≤ sizeLine; decide), fun L nL => ?_⟩
    have Ls : L ≠ st := fun z => S.tr.1 (by rw [← z]; exact nL)
    have La : L ≠ a1 := fun z => S.tr.2 (by rw [← z]; exact nL)
    have NL : N ≠ L := fun z => by rw [z, nL] at hN; cases hN
    have S0 := stream_updR (o := .lst []) S Ls La
    have e0 : Else2 st a1 H (upd H L (.lst [])) := else2_updR (fun b u q _ _ => q) nL
    have hL0 : upd H L (.lst []) L = some (.lst []) := upd_same
    generalize upd H L (.lst []) = H0 at S0 e0 hL0 ⊢
    refine ⟨_, rfl, N, _, rfl, .inl (SqL.of (e0 _ _ hN Ns Na)), names.length, by rw [List.length_map], by omega, by omega, ?_⟩
    rw [show ((names.length : Nat) : Int).toNat = names.length by omega]
    refine for_range (lo := 0) (n := names.length) (fun i σ Hy => ∃ (x3 x4 x5 x6 x7 : Option V) (m' : Nat) (xs : List V) (rs : Rows), σ = [some (.ref st), some (.ref N), some (.ref L), x3, x4, x5, x6, x7] ∧ m ≤ m' ∧ m' ≤ m + 3 * i ∧ StreamAt Hy st a1 m' ∧ Else2 st a1 H Hy ∧ Hy L = some (.lst xs) ∧ DpAll K Hy xs (rs.map rowE) ∧ rs.map (·.1) = names.take i ∧ ∀ k r, rs[k]? = some r → ∃ d1 d2 sw, r.2 = ringE names k d1 d2 sw)
      ⟨_, _, _, _, _, m, [], [], rfl, Nat.le_refl _, by omega, S0, e0, hL0, .nil, rfl, fun k r h => by cases h⟩ ?_ ?_
    · rintro i σ Hy hi ⟨x3, x4, x5, x6, x7, m', xs, rs, rfl, m0, m1, Sy, ey, hLy, hX, hnm, hring⟩
      have hNy := ey _ _ hN Ns Na
      rw [show (0 : Int) + (i : Nat) = ((i : Nat) : Int) by omega]
      refine ⟨_, rfl, _, rfl, _, _, rfl, rfl, N, _, _, _, rfl, rfl, SqL.of hNy, at_pr hi, ?_⟩
      have hnp : (0 : Int) < (((names.map V.str).length : Nat) : Int) := by rw [List.length_map]; omega
      refine ⟨_, rfl, _, rfl, _, _, rfl, rfl, _, rfl, N, _, rfl, .inl (SqL.of hNy), _, _, rfl, rfl, hnp, N, _, _, _, rfl, rfl, SqL.of hNy, at_nx hi, _, _, rfl, ?_⟩
      refine ⟨(by show 1 ≤ sizeLine; decide), fun T1 nT1 => ?_⟩
      have sT1 := same_new (o := .tup [.str "checkpoint"]) nT1
      have hT1 := upd_same (H := Hy) (a := T1) (o := .tup [.str "checkpoint"])
      replace Sy := Sy.same sT1
      replace ey := ey.trans (.of_same sT1)
      replace hLy := sT1 _ _ hLy
      replace hX := dpAll_same sT1 hX
      generalize upd Hy T1 (.tup [.str "checkpoint"]) = Ha at sT1 hT1 Sy ey hLy hX ⊢
      refine ⟨_, rfl, (by show 3 ≤ sizeLine; decide), fun T2 nT2 => ?_⟩
      have sT2 := same_new (o := .tup [.str "set", .str "x", .int (i : Nat)]) nT2
      have hT2 := upd_same (H := Ha) (a := T2) (o := .tup [.str "set", .str "x", .int (i : Nat)])
      replace hT1 := sT2 _ _ hT1
      replace hLy := sT2 _ _ hLy
      replace Sy := Sy.same sT2
      replace ey := ey.trans (.of_same sT2)
      replace hX := dpAll_same sT2 hX
      generalize upd Ha T2 (.tup [.str "set", .str "x", .int (i : Nat)]) = Hb at sT2 hT2 hT1 hLy Sy ey hX ⊢
      refine ⟨(by show 2 ≤ sizeLine; decide), fun L1 nL1 => ?_⟩
      have L1s : L1 ≠ st := fun z => Sy.tr.1 (by rw [← z]; exact nL1)
      have L1a : L1 ≠ a1 := fun z => Sy.tr.2 (by rw [← z]; exact nL1)
      have sL1 := same_new (o := .lst [.ref T1, .ref T2]) nL1
      have hL1 := upd_same (H := Hb) (a := L1) (o := .lst [.ref T1, .ref T2])
      replace hT1 := sL1 _ _ hT1
      replace hT2 := sL1 _ _ hT2
      replace hLy := sL1 _ _ hLy
      replace Sy := Sy.same sL1
      replace ey := ey.trans (.of_same sL1)
      replace hX := dpAll_same sL1 hX
      generalize upd Hb L1 (.lst [.ref T1, .ref T2]) = Hc at sL1 hL1 hT1 hT2 hLy Sy ey hX ⊢
      have hd : DpAll K Hc [.ref T1, .ref T2] ([Ev.chk, Ev.set (Str.ofString "x") (i : Nat)].map Ev.data) := .cons (.tup (SqT.of hT1) (.cons (.str _) .nil)) (.cons (.tup (SqT.of hT2) (.cons (.str _) (.cons (.str _) (.cons (.int _) .nil)))) .nil)
      refine ⟨_, rfl, st, a1, m', 3, rfl, by decide, by decide, Sy, by omega, fun k1 H1 k10 k11 S1 el1 => ?_⟩
      obtain ⟨j1, rfl⟩ := Int.eq_ofNat_of_zero_le k10
      have kk := keeps_else2 Sy el1
      replace hX := dpAll_keep kk.1 kk.2 hX (rows_noList _)
      replace hd := dpAll_keep kk.1 kk.2 hd (evs_noList _)
      replace hLy := el1 _ _ hLy Ls La
      replace hL1 := el1 _ _ hL1 L1s L1a
      replace ey := ey.trans el1
      refine ⟨_, rfl, L1, _, rfl, SqL.of hL1, fun p1 np1 => ?_⟩
      rw [cut_hi]
      have p1s : p1 ≠ st := fun z => S1.tr.1 (by rw [← z]; exact np1)
      have p1a : p1 ≠ a1 := fun z => S1.tr.2 (by rw [← z]; exact np1)
      have sp1 := same_new (o := .lst (([.ref T1, .ref T2] : List V).take j1)) np1
      have hp1 := upd_same (H := H1) (a := p1) (o := .lst (([.ref T1, .ref T2] : List V).take j1))
      replace hLy := sp1 _ _ hLy
      replace S1 := S1.same sp1
      replace ey := ey.trans (.of_same sp1)
      replace hX := dpAll_same sp1 hX
      replace hd := dpAll_same sp1 hd
      generalize upd H1 p1 (.lst (([.ref T1, .ref T2] : List V).take j1)) = Ha2 at sp1 hp1 hLy S1 ey hX hd ⊢
      replace hd := dpAll_takeR j1 hd
      rw [← List.map_take] at hd
      have hsl : (([.ref T1, .ref T2] : List V).take j1).length ≤ 2 := by rw [List.length_take]; exact Nat.min_le_right ..
      generalize ([.ref T1, .ref T2] : List V).take j1 = sv at hp1 hd hsl
      refine ⟨_, rfl, _, rfl, _, rfl, (by show 4 ≤ sizeLine; decide), fun T3 nT3 => ?_⟩
      have sT3 := same_new (o := .tup [.str "take", .str (nmK names (prK names.length i)), .str "x", .int (i : Nat)]) nT3
      have hT3 := upd_same (H := Ha2) (a := T3) (o := .tup [.str "take", .str (nmK names (prK names.length i)), .str "x", .int (i : Nat)])
      replace hLy := sT3 _ _ hLy
      replace hp1 := sT3 _ _ hp1
      replace S1 := S1.same sT3
      replace ey := ey.trans (.of_same sT3)
      replace hX := dpAll_same sT3 hX
      replace hd := dpAll_same sT3 hd
      generalize upd Ha2 T3 (.tup [.str "take", .str (nmK names (prK names.length i)), .str "x", .int (i : Nat)]) = Hb2 at sT3 hT3 hLy hp1 S1 ey hX hd ⊢
      refine ⟨_, rfl, _, rfl, _, _, rfl, rfl, _, rfl, N, _, rfl, .inl (SqL.of (ey _ _ hN Ns Na)), _, _, rfl, rfl, hnp, (by show 3 ≤ sizeLine; decide), fun T4 nT4 => ?_⟩
      have enx : (((i : Nat) : Int) + 1) % (((names.map V.str).length : Nat) : Int) = ((nxK names.length i : Nat) : Int) := by
        rw [List.length_map]
        unfold nxK
        rw [Int.natCast_emod, Int.natCast_add]
        rfl
      show tNil _ (upd Hb2 T4 (.tup [.str "send", .str (nmK names (nxK names.length i)), .int ((((i : Nat) : Int) + 1) % (((names.map V.str).length : Nat) : Int))])) _
      rw [enx]
      have sT4 := same_new (o := .tup [.str "send", .str (nmK names (nxK names.length i)), .int (nxK names.length i : Nat)]) nT4
      have hT4 := upd_same (H := Hb2) (a := T4) (o := .tup [.str "send", .str (nmK names (nxK names.length i)), .int (nxK names.length i : Nat)])
      replace hLy := sT4 _ _ hLy
      replace hp1 := sT4 _ _ hp1
      replace hT3 := sT4 _ _ hT3
      replace S1 := S1.same sT4
      replace ey := ey.trans (.of_same sT4)
      replace hX := dpAll_same sT4 hX
      replace hd := dpAll_same sT4 hd
      generalize upd Hb2 T4 (.tup [.str "send", .str (nmK names (nxK names.length i)), .int (nxK names.length i : Nat)]) = Hc2 at sT4 hT4 hLy hp1 hT3 S1 ey hX hd ⊢
      refine ⟨(by show 2 ≤ sizeLine; decide), fun L2 nL2 => ?_⟩
      have sL2 := same_new (o := .lst [.ref T3, .ref T4]) nL2
      have hL2 := upd_same (H := Hc2) (a := L2) (o := .lst [.ref T3, .ref T4])
      replace hLy := sL2 _ _ hLy
      replace hp1 := sL2 _ _ hp1
      replace hT3 := sL2 _ _ hT3
      replace hT4 := sL2 _ _ hT4
      replace S1 := S1.same sL2
      replace ey := ey.trans (.of_same sL2)
      replace hX := dpAll_same sL2 hX
      replace hd := dpAll_same sL2 hd
      generalize upd Hc2 L2 (.lst [.ref T3, .ref T4]) = Hd2 at sL2 hL2 hLy hp1 hT3 hT4 S1 ey hX hd ⊢
      refine ⟨p1, L2, _, _, rfl, rfl, hp1, hL2, (by show sv.length + 2 ≤ sizeLine; exact Nat.le_of_lt (fitR (by omega))), fun p2 np2 => ?_⟩
      have p2s : p2 ≠ st := fun z => S1.tr.1 (by rw [← z]; exact np2)
      have p2a : p2 ≠ a1 := fun z => S1.tr.2 (by rw [← z]; exact np2)
      have sp2 := same_new (o := .lst (sv ++ [.ref T3, .ref T4])) np2
      have hp2 := upd_same (H := Hd2) (a := p2) (o := .lst (sv ++ [.ref T3, .ref T4]))
      replace hLy := sp2 _ _ hLy
      replace hp1 := sp2 _ _ hp1
      replace hT3 := sp2 _ _ hT3
      replace hT4 := sp2 _ _ hT4
      replace S1 := S1.same sp2
      replace ey := ey.trans (.of_same sp2)
      replace hX := dpAll_same sp2 hX
      replace hd := dpAll_same sp2 hd
      generalize upd Hd2 p2 (.lst (sv ++ [.ref T3, .ref T4])) = He2 at sp2 hp2 hLy hp1 hT3 hT4 S1 ey hX hd ⊢
      have hdT : DpAll K He2 [.ref T3] ([Ev.take (nmK names (prK names.length i)) (Str.ofString "x") (i : Nat)].map Ev.data) := .cons (.tup (SqT.of hT3) (.cons (.str _) (.cons (.str _) (.cons (.str _) (.cons (.int _) .nil))))) .nil
      have hdS : DpAll K He2 [.ref T4] ([Ev.send (nmK names (nxK names.length i)) (nxK names.length i : Nat)].map Ev.data) := .cons (.tup (SqT.of hT4) (.cons (.str _) (.cons (.str _) (.cons (.int _) .nil)))) .nil
      have hd1 := hd
      refine ⟨_, rfl, _, rfl, N, _, rfl, .inl (SqL.of (ey _ _ hN Ns Na)), _, _, rfl, rfl, .inl (by omega), st, a1, m' + 1, _, rfl, by omega, by rw [List.length_map]; omega, S1, by omega, fun k2 H2 k20 k21 S2 el2 => ?_⟩
      obtain ⟨j2, rfl⟩ := Int.eq_ofNat_of_zero_le k20
      have kk2 := keeps_else2 S1 el2
      replace hX := dpAll_keep kk2.1 kk2.2 hX (rows_noList _)
      replace hd1 := dpAll_keep kk2.1 kk2.2 hd1 (evs_noList _)
      replace hdT := dpAll_keep kk2.1 kk2.2 hdT (evs_noList _)
      replace hdS := dpAll_keep kk2.1 kk2.2 hdS (evs_noList _)
      replace hLy := el2 _ _ hLy Ls La
      replace hp1 := el2 _ _ hp1 p1s p1a
      replace hp2 := el2 _ _ hp2 p2s p2a
      replace ey := ey.trans el2
      clear hd kk kk2
      refine ⟨rfl, _, rfl, ?_⟩
      rcases hdec : decide (V.int ((j2 : Nat) : Int) = V.int 0) with _ | _
      case' false =>
        refine iteFc rfl ?_
        have pEs := p2s
        have pEa := p2a
        obtain ⟨pE, rfl⟩ : ∃ pE, pE = p2 := ⟨_, rfl⟩
        obtain ⟨H5, rfl⟩ : ∃ H5, H5 = H2 := ⟨_, rfl⟩
        have hdE := dpAll_appR hd1 (dpAll_appR hdT hdS)
        rw [← List.map_append, ← List.map_append] at hdE
        have hE : ∀ z, ∃ d1 d2 sw, (([Ev.chk, Ev.set (Str.ofString "x") (i : Nat)].take j1 ++ ([Ev.take (nmK names (prK names.length i)) (Str.ofString "x") (i : Nat)] ++ [Ev.send (nmK names (nxK names.length i)) (nxK names.length i : Nat)])) ++ [Ev.chk].take z) = ringE names i d1 d2 sw := fun z => ⟨j1, z, false, rfl⟩
        generalize [Ev.chk, Ev.set (Str.ofString "x") (i : Nat)].take j1 ++ ([Ev.take (nmK names (prK names.length i)) (Str.ofString "x") (i : Nat)] ++ [Ev.send (nmK names (nxK names.length i)) (nxK names.length i : Nat)]) = evE at hdE hE
        have hlE : (sv ++ [V.ref T3, V.ref T4]).length ≤ 4 := by rw [List.length_append]; show _ + 2 ≤ 4; omega
        replace hdE : DpAll K H5 (sv ++ [.ref T3, .ref T4]) (evE.map Ev.data) := hdE
        generalize sv ++ [V.ref T3, V.ref T4] = vE at hp2 hdE hlE
      case' true =>
        refine iteTc rfl ?_
        refine ⟨_, rfl, _, rfl, _, rfl, p2, _, _, _, rfl, rfl, SqL.of hp2, at_last1, _, rfl, _, rfl, p2, _, _, _, rfl, rfl, SqL.of hp2, at_last2, (by show 2 ≤ sizeLine; decide), fun L5 nL5 => ?_⟩
        have sL5 := same_new (o := .lst [.ref T4, .ref T3]) nL5
        have hL5 := upd_same (H := H2) (a := L5) (o := .lst [.ref T4, .ref T3])
        replace hLy := sL5 _ _ hLy
        replace hp1 := sL5 _ _ hp1
        replace S2 := S2.same sL5
        replace ey := ey.trans (.of_same sL5)
        replace hX := dpAll_same sL5 hX
        replace hd1 := dpAll_same sL5 hd1
        replace hdT := dpAll_same sL5 hdT
        replace hdS := dpAll_same sL5 hdS
        generalize upd H2 L5 (.lst [.ref T4, .ref T3]) = H3 at sL5 hL5 hLy hp1 S2 ey hX hd1 hdT hdS ⊢
        refine ⟨p1, L5, _, _, rfl, rfl, hp1, hL5, (by show sv.length + 2 ≤ sizeLine; exact Nat.le_of_lt (fitR (by omega))), fun pE npE => ?_⟩
        have pEs : pE ≠ st := fun z => S2.tr.1 (by rw [← z]; exact npE)
        have pEa : pE ≠ a1 := fun z => S2.tr.2 (by rw [← z]; exact npE)
        have spE := same_new (o := .lst (sv ++ [.ref T4, .ref T3])) npE
        have hpE := upd_same (H := H3) (a := pE) (o := .lst (sv ++ [.ref T4, .ref T3]))
        replace hLy := spE _ _ hLy
        replace S2 := S2.same spE
        replace ey := ey.trans (.of_same spE)
        replace hX := dpAll_same spE hX
        replace hd1 := dpAll_same spE hd1
        replace hdT := dpAll_same spE hdT
        replace hdS := dpAll_same spE hdS
        generalize upd H3 pE (.lst (sv ++ [.ref T4, .ref T3])) = H5 at spE hpE hLy S2 ey hX hd1 hdT hdS ⊢
        have hdE := dpAll_appR hd1 (dpAll_appR hdS hdT)
        rw [← List.map_append, ← List.map_append] at hdE
        have hE : ∀ z, ∃ d1 d2 sw, (([Ev.chk, Ev.set (Str.ofString "x") (i : Nat)].take j1 ++ ([Ev.send (nmK names (nxK names.length i)) (nxK names.length i : Nat)] ++ [Ev.take (nmK names (prK names.length i)) (Str.ofString "x") (i : Nat)])) ++ [Ev.chk].take z) = ringE names i d1 d2 sw := fun z => ⟨j1, z, true, rfl⟩
        generalize [Ev.chk, Ev.set (Str.ofString "x") (i : Nat)].take j1 ++ ([Ev.send (nmK names (nxK names.length i)) (nxK names.length i : Nat)] ++ [Ev.take (nmK names (prK names.length i)) (Str.ofString "x") (i : Nat)]) = evE at hdE hE
        have hlE : (sv ++ [V.ref T4, V.ref T3]).length ≤ 4 := by rw [List.length_append]; show _ + 2 ≤ 4; omega
        replace hdE : DpAll K H5 (sv ++ [.ref T4, .ref T3]) (evE.map Ev.data) := hdE
        replace hp2 := hpE
        generalize sv ++ [V.ref T4, V.ref T3] = vE at hp2 hdE hlE
      all_goals
        have hNi : atI (names.map V.str) ((i : Nat) : Int) = some (.str (nmK names i)) := atI_nat (by rw [List.getElem?_map, nmK_at hi]; rfl)
        refine ⟨_, rfl, .inl ⟨rfl, _, SqL.of hLy⟩, _, rfl, _, rfl, N, _, _, _, rfl, rfl, SqL.of (ey _ _ hN Ns Na), hNi, _, rfl, (by show 1 ≤ sizeLine; decide), fun T6 nT6 => ?_⟩
        have sT6 := same_new (o := .tup [.str "checkpoint"]) nT6
        have hT6 := upd_same (H := H5) (a := T6) (o := .tup [.str "checkpoint"])
        replace hLy := sT6 _ _ hLy
        replace hp2 := sT6 _ _ hp2
        replace S2 := S2.same sT6
        replace ey := ey.trans (.of_same sT6)
        replace hX := dpAll_same sT6 hX
        replace hdE := dpAll_same sT6 hdE
        generalize upd H5 T6 (.tup [.str "checkpoint"]) = H6 at sT6 hT6 hLy hp2 S2 ey hX hdE ⊢
        refine ⟨(by show 1 ≤ sizeLine; decide), fun L6 nL6 => ?_⟩
        have L6s : L6 ≠ st := fun z => S2.tr.1 (by rw [← z]; exact nL6)
        have L6a : L6 ≠ a1 := fun z => S2.tr.2 (by rw [← z]; exact nL6)
        have sL6 := same_new (o := .lst [.ref T6]) nL6
        have hL6 := upd_same (H := H6) (a := L6) (o := .lst [.ref T6])
        replace hLy := sL6 _ _ hLy
        replace hp2 := sL6 _ _ hp2
        replace hT6 := sL6 _ _ hT6
        replace S2 := S2.same sL6
        replace ey := ey.trans (.of_same sL6)
        replace hX := dpAll_same sL6 hX
        replace hdE := dpAll_same sL6 hdE
        generalize upd H6 L6 (.lst [.ref T6]) = H7 at sL6 hL6 hLy hp2 hT6 S2 ey hX hdE ⊢
        have hd6 : DpAll K H7 [.ref T6] ([Ev.chk].map Ev.data) := .cons (.tup (SqT.of hT6) (.cons (.str _) .nil)) .nil
        refine ⟨_, rfl, st, a1, m' + 2, 2, rfl, by decide, by decide, S2, by omega, fun k3 H8 k30 k31 S3 el3 => ?_⟩
        obtain ⟨j3, rfl⟩ := Int.eq_ofNat_of_zero_le k30
        have kk3 := keeps_else2 S2 el3
        replace hX := dpAll_keep kk3.1 kk3.2 hX (rows_noList _)
        replace hdE := dpAll_keep kk3.1 kk3.2 hdE (evs_noList _)
        replace hd6 := dpAll_keep kk3.1 kk3.2 hd6 (evs_noList _)
        replace hLy := el3 _ _ hLy Ls La
        replace hp2 := el3 _ _ hp2 pEs pEa
        replace hL6 := el3 _ _ hL6 L6s L6a
        replace ey := ey.trans el3
        refine ⟨_, rfl, L6, _, rfl, SqL.of hL6, fun p6 np6 => ?_⟩
        rw [cut_hi]
        have sp6 := same_new (o := .lst (([.ref T6] : List V).take j3)) np6
        have hp6 := upd_same (H := H8) (a := p6) (o := .lst (([.ref T6] : List V).take j3))
        replace hLy := sp6 _ _ hLy
        replace hp2 := sp6 _ _ hp2
        replace S3 := S3.same sp6
        replace ey := ey.trans (.of_same sp6)
        replace hX := dpAll_same sp6 hX
        replace hdE := dpAll_same sp6 hdE
        replace hd6 := dpAll_same sp6 hd6
        generalize upd H8 p6 (.lst (([.ref T6] : List V).take j3)) = H9 at sp6 hp6 hLy hp2 S3 ey hX hdE hd6 ⊢
        replace hd6 := dpAll_takeR j3 hd6
        rw [← List.map_take] at hd6
        have h6l : (([.ref T6] : List V).take j3).length ≤ 1 := by rw [List.length_take]; exact Nat.min_le_right ..
        generalize ([.ref T6] : List V).take j3 = v6 at hp6 hd6 h6l
        refine ⟨pE, p6, _, _, rfl, rfl, hp2, hp6, Nat.le_of_lt (fitR (by omega)), fun p7 np7 => ?_⟩
        have sp7 := same_new (o := .lst (vE ++ v6)) np7
        have hp7 := upd_same (H := H9) (a := p7) (o := .lst (vE ++ v6))
        replace hLy := sp7 _ _ hLy
        replace S3 := S3.same sp7
        replace ey := ey.trans (.of_same sp7)
        replace hX := dpAll_same sp7 hX
        replace hdE := dpAll_same sp7 hdE
        replace hd6 := dpAll_same sp7 hd6
        generalize upd H9 p7 (.lst (vE ++ v6)) = Hf at sp7 hp7 hLy S3 ey hX hdE hd6 ⊢
        refine ⟨p7, _, rfl, .inl ⟨SqL.of hp7, fun t nt => ?_⟩⟩
        have st := same_new (o := .tup (vE ++ v6)) nt
        have ht := upd_same (H := Hf) (a := t) (o := .tup (vE ++ v6))
        replace hLy := st _ _ hLy
        replace S3 := S3.same st
        replace ey := ey.trans (.of_same st)
        replace hX := dpAll_same st hX
        replace hdE := dpAll_same st hdE
        replace hd6 := dpAll_same st hd6
        generalize upd Hf t (.tup (vE ++ v6)) = Hg at st ht hLy S3 ey hX hdE hd6 ⊢
        refine ⟨(by show 2 ≤ sizeLine; decide), fun Rw nRw => ?_⟩
        have sRw := same_new (o := .tup [.str (nmK names i), .ref t]) nRw
        have hRw := upd_same (H := Hg) (a := Rw) (o := .tup [.str (nmK names i), .ref t])
        replace hLy := sRw _ _ hLy
        replace ht := sRw _ _ ht
        replace S3 := S3.same sRw
        replace ey := ey.trans (.of_same sRw)
        replace hX := dpAll_same sRw hX
        replace hdE := dpAll_same sRw hdE
        replace hd6 := dpAll_same sRw hd6
        generalize upd Hg Rw (.tup [.str (nmK names i), .ref t]) = Hh at sRw hRw hLy ht S3 ey hX hdE hd6 ⊢
        have hxl : xs.length ≤ 5 := by
          rw [dpAll_len hX, List.length_map, ← List.length_map (f := (·.1)), hnm, List.length_take]
          omega
        refine ⟨L, xs, _, rfl, rfl, hLy, fitR (by omega), ?_⟩
        have hdd := dpAll_appR hdE hd6
        rw [← List.map_append] at hdd
        have hrow : Dp K Hh (.ref Rw) (rowE (nmK names i, evE ++ [Ev.chk].take j3)) := .tup (SqT.of hRw) (.cons (.str _) (.cons (.tup (SqT.of ht) hdd) .nil))
        have hXX : DpAll K Hh (xs ++ [.ref Rw]) ((rs ++ [(nmK names i, evE ++ [Ev.chk].take j3)]).map rowE) := by
          rw [List.map_append]
          exact dpAll_appR hX (.cons hrow .nil)
        have kl := keeps_lst (o := .lst (xs ++ [.ref Rw])) hLy
        refine ⟨_, _, _, _, _, m' + 3, xs ++ [.ref Rw], rs ++ [(nmK names i, evE ++ [Ev.chk].take j3)], rfl, by omega, by omega, stream_updR S3 Ls La, else2_updR ey nL, upd_same, dpAll_keep kl.1 kl.2 hXX (rows_noList _), ?_, fun k r hk => ?_⟩
        · rw [List.map_append, hnm, List.take_add_one, nmK_at hi]
          rfl
        · have hrl : rs.length = i := by rw [← List.length_map (f := (·.1)), hnm, List.length_take]; omega
          rcases Nat.lt_or_ge k rs.length with c | c
          · rw [List.getElem?_append_left c] at hk
            exact hring k r hk
          · rw [List.getElem?_append_right c] at hk
            have : k = i := by
              have := (List.getElem?_eq_some_iff.mp hk).1
              simp at this
              omega
            subst this
            rw [hrl, Nat.sub_self] at hk
            injection hk with hk
            subst hk
            exact hE j3
    · rintro σ Hy ⟨x3, x4, x5, x6, x7, m', xs, rs, rfl, m0, m1, Sy, ey, hLy, hX, hnm, hring⟩
      rw [List.take_length] at hnm
      exact ⟨_, rfl, k L xs rs m' Hy hnm hring m0 (by omega) Sy ey nL hLy hX⟩
end
end XE
set_option Elab.async false
set_option linter.all false
set_option maxRecDepth 100000
set_option maxHeartbeats 1000000
/-! XS4: drawn words -/
namespace XE
open PySem PySem.Spec PyProof.Rows L2 RZ Rx SX Rc
abbrev sLWord : Stmt := topS 39
abbrev sLWords : Stmt := topS 40
section
variable {P : Program} {w : World} {K : PySem.W.Frag} {mg : Str → Option Value} {base : Heap}
abbrev lwdN : List Str := ["_law_stream", "_law_letters", "_law_word_here", "_law_k", "_law_some"]
theorem scLWd : FnScope lwdN ["_law_stream"] (defScope sLWord) := ⟨rfl, rfl, rfl, by decide +kernel, rfl, by decide +kernel, by decide +kernel⟩
theorem ok_lwordQ {f fD : Addr} {fd fdD : FuncData} (F : Fun K "_law_word" "_law_word" sLWord f fd) (mrange : mg "range" = none) (CD : Cal P w K mg base 1 "_law_draw" fD fdD ["_law_stream", "_law_many"] spDraw) : FnOk P w K mg base CX0 2 f fd ["_law_stream"] spWordQ := by
  refine F.ok scLWd (fun vs H Q E h => ?_) (fun cdv A outer s H vs Q E hr h => ?_)
  · obtain ⟨_, _, _, rfl, _⟩ := h
    rfl
  · obtain ⟨st, a, n, rfl, hS, hn, k⟩ := h
    have hu := hu_of hr
    have hr1 : Room 1 _ := hr
    refine ⟨_, (pss_cons (ps_set (i := 1) scLWd.nd rfl (.inl rfl) pe_str) (pss_cons (ps_set (i := 2) scLWd.nd rfl (.inl rfl) (pe_ix ix_str (pv 1) (pe_call CD.ok hr1 rfl CD.mg CD.kp CD.bi .nil pass0 (pa_cons (pv 0) (pa_cons pe_int pa_nil))) (fun _ _ => rfl))) (pss_cons (ps_for PassesOwn.never rfl (pi_range1 rfl mrange (pa_cons (pe_ix ix_list (pe_lst (pa_cons pe_int (pa_cons pe_int (pa_cons pe_int (pa_cons pe_int (pa_cons pe_int pa_nil)))))) (pe_call CD.ok hr1 rfl CD.mg CD.kp CD.bi .nil pass0 (pa_cons (pv 0) (pa_cons pe_int pa_nil))) (fun _ _ => rfl)) pa_nil)) (pg_name (i := 3) scLWd.nd rfl (.inl rfl)) (pss_one (ps_set (i := 2) scLWd.nd rfl (.inl rfl) (pe_op op_add_str (pv 2) (pe_ix ix_str (pv 1) (pe_call CD.ok hr1 rfl CD.mg CD.kp CD.bi .nil pass0 (pa_cons (pv 0) (pa_cons pe_int pa_nil))) (fun _ _ => rfl)))))) (pss_cons (ps_set (i := 4) scLWd.nd rfl (.inl rfl) (pe_tup (pa_cons pe_str (pa_cons pe_str (pa_cons pe_str (pa_cons pe_str (pa_cons pe_str (pa_cons pe_str (pa_cons pe_str (pa_cons pe_str (pa_cons pe_str (pa_cons pe_str (pa_cons pe_str (pa_cons pe_str (pa_cons pe_str pa_nil))))))))))))))) (pss_one (ps_ret (pe_ifExp (PW.pt (pw_or (pt_cmpR op_in_seq (pv 2) (pv 4) rfl) (pw_or1 (pt_cmpR op_eq (pv 2) pe_str (nomark _))))) (pe_op op_add_str (pv 2) pe_str) (pv 2)))))))), ?_⟩
    refine ⟨_, rfl, _, rfl, st, a, n, 26, rfl, by decide, by decide, hS, by omega, fun k1 H1 k10 k11 S1 el1 => ?_⟩
    obtain ⟨c1, hc1, hl1⟩ := letter_at k10 k11
    refine ⟨lettersS, k1, c1, rfl, rfl, by decide +kernel, hc1, ?_⟩
    refine ⟨by show 5 ≤ sizeLine; decide, fun L nL => ?_⟩
    have nLs : L ≠ st := fun z => S1.tr.1 (by rw [← z]; exact nL)
    have nLa : L ≠ a := fun z => S1.tr.2 (by rw [← z]; exact nL)
    refine ⟨_, rfl, st, a, n + 1, 5, rfl, by decide, by decide, S1.same (same_new nL), by omega, fun k2 H2 k20 k21 S2 el2 => ?_⟩
    obtain ⟨j, v, hj, hv, hm, rfl⟩ := at_drawn (xs := [V.int 0, .int 0, .int 1, .int 2, .int 7]) k20 (by show k2 < 5; omega)
    refine ⟨L, _, (j : Nat), v, rfl, rfl, SqL.of (el2 _ _ upd_same nLs nLa), hv, ?_⟩
    obtain ⟨r, rfl, hr7, hr4⟩ : ∃ r : Nat, v = .int (r : Nat) ∧ r ≤ 7 ∧ r ≠ 4 := by
      simp only [List.mem_cons, List.not_mem_nil, or_false] at hm
      rcases hm with h | h | h | h | h
      · exact ⟨0, h, by decide⟩
      · exact ⟨0, h, by decide⟩
      · exact ⟨1, h, by decide⟩
      · exact ⟨2, h, by decide⟩
      · exact ⟨7, h, by decide⟩
    have e2 := (el1.trans (else_new nL)).trans el2
    refine ⟨r, rfl, by omega, by omega, ?_⟩
    rw [show ((r : Int)).toNat = r by omega]
    refine for_range (lo := 0) (n := r) (fun i σ Hx => ∃ (z : Str) (x3 x4 : Option V), σ = [some (.ref st), some (.str lettersS), some (.str z), x3, x4] ∧ allLet z ∧ z.cps.toList.length = 1 + i ∧ StreamAt Hx st a (n + 1 + 1 + i) ∧ Else2 st a H Hx)
      ⟨_, none, none, rfl, (fun c hc => by rw [show c = c1 by simpa using hc]; exact hl1), rfl, S2, e2⟩ ?_ ?_
    · rintro i σ Hx hi ⟨z, x3, x4, rfl, hz, hzl, Sx, ex⟩
      refine ⟨_, rfl, _, rfl, _, rfl, st, a, _, 26, rfl, by decide, by decide, Sx, by omega, fun k3 H3 k30 k31 S3 el3 => ?_⟩
      obtain ⟨c3, hc3, hl3⟩ := letter_at k30 k31
      refine ⟨lettersS, k3, c3, rfl, rfl, by decide +kernel, hc3, z, ⟨#[c3]⟩, rfl, rfl, ?_, z ++ ⟨#[c3]⟩, _, _, rfl, fun c hc => ?_, ?_, S3, ex.trans el3⟩
      · have : z.length = 1 + i := by rw [← len_tl]; exact hzl
        rw [this]
        exact Nat.le_of_lt (fitR (show 1 + i + 1 ≤ 3000000 by omega))
      · rw [cps_app] at hc
        rcases List.mem_append.mp hc with hc | hc
        · exact hz c hc
        · rw [show c = c3 by simpa using hc]
          exact hl3
      · rw [cps_app, List.length_append, hzl]
        show 1 + i + 1 = _
        omega
    · rintro σ Hx ⟨z, x3, x4, rfl, hz, hzl, Sx, ex⟩
      refine ⟨by show 13 ≤ sizeLine; decide, fun T nT => ?_⟩
      have sT := same_new (o := .tup (someW.map V.str)) nT
      have fin : ∀ y : Str, nameQ y = true → Q (.str y) (upd Hx T (.tup (someW.map V.str))) := fun y hy => k y _ hy ⟨_, by omega, by omega, Sx.same sT, ex.trans (.of_same sT)⟩
      refine ⟨_, rfl, _, rfl, T, someW.map V.str, rfl, .inr (SqT.of upd_same), rfl, flat_strs _, _, rfl, ?_⟩
      show if (inV (.str z) (someW.map V.str)) = true then _ else _
      rw [inV_strsR]
      have hq : ∀ y ∈ (("while" : Str) :: someW), nameQ (y ++ "q") = true := by decide +kernel
      have hzl2 : z.length = 1 + r := by rw [← len_tl]; exact hzl
      have fit : z.length + ("q" : Str).length ≤ sizeLine := by
        rw [hzl2]
        exact Nat.le_of_lt (fitR (show 1 + r + 1 ≤ 3000000 by omega))
      by_cases hin : z ∈ someW
      · refine iteTc (decide_eq_true hin) (iteTc rfl ⟨_, rfl, z, "q", rfl, rfl, fit, fin _ (hq z (List.mem_cons_of_mem _ hin))⟩)
      · refine iteFc (decide_eq_false hin) ⟨_, rfl, rfl, _, rfl, ?_⟩
        by_cases hw : z = "while"
        · refine iteTc (decide_eq_true (by rw [hw])) ⟨_, rfl, z, "q", rfl, rfl, fit, fin _ (hq z (by rw [hw]; exact List.mem_cons_self ..))⟩
        · refine iteFc (decide_eq_false fun q => hw (by injection q)) ⟨_, rfl, fin _ (nameQ_of (name_of hz (by omega) (by omega) hin hw) (by omega))⟩
theorem filter_succW {α : Type} (p : α → Bool) {l : List α} {j : Nat} {x : α} (h : l[j]? = some x) : (l.take (j + 1)).filter p = (l.take j).filter p ++ (if p x = true then [x] else []) := by
  rw [List.take_add_one, h, List.filter_append]
  cases hp : p x <;> simp [hp]
def rAddS : R2 := fun x y H Q => ∃ i j, x = .str i ∧ y = .str j ∧ i.length + j.length ≤ sizeLine ∧ Q (.str (i ++ j)) H
def spareW : List Str := (List.range 41).map fun j => ⟨#[97 + j % 26]⟩ ++ ⟨#[97 + j / 26]⟩ ++ "z"
def spWords : Sp := fun vs H Q _ => ∃ (s a : Addr) (n many : Nat), vs = [.ref s, .int (many : Nat)] ∧ StreamAt H s a n ∧ many ≤ 40 ∧ n + 9 * many < 1000000 ∧
  ∀ (L : Addr) (names : List Str) (m : Nat) (H' : Hp), names.Nodup → names.length = many → (∀ x ∈ names, nameB x = true) → n ≤ m → m ≤ n + 9 * many → StreamAt H' s a m → Else2 s a H H' → H L = none → H' L = some (.lst (names.map V.str)) → Q (.ref L) H'
def spWordsQ : Sp := fun vs H Q _ => ∃ (s a : Addr) (n many : Nat), vs = [.ref s, .int (many : Nat)] ∧ StreamAt H s a n ∧ many ≤ 40 ∧ n + 9 * many < 1000000 ∧
  ∀ (L : Addr) (names : List Str) (m : Nat) (H' : Hp), names.Nodup → names.length = many → (∀ x ∈ names, nameQ x = true) → n ≤ m → m ≤ n + 9 * many → StreamAt H' s a m → Else2 s a H H' → H L = none → H' L = some (.lst (names.map V.str)) → Q (.ref L) H'
theorem letter_nat {j : Nat} (h : j < 26) : atI lettersS.cps.toList ((j : Nat) : Int) = some (97 + j) := by
  have e : lettersS.cps.toList = List.range' 97 26 := by decide +kernel
  rw [e]
  unfold atI
  rw [show ixN (List.range' 97 26).length ((j : Nat) : Int) = some j by unfold ixN; simp; omega]
  show (List.range' 97 26)[j]? = _
  rw [List.getElem?_range' h]
  simp
/-- of more than there are there, one is not there -/
theorem pigeon : ∀ {l m : List Str}, l.Nodup → m.length < l.length → ∃ x ∈ l, x ∉ m
  | [], _, _, h => nomatch h
  | x :: l, m, hd, h => by
    rw [List.nodup_cons] at hd
    by_cases c : x ∈ m
    · have hl : (m.erase x).length < l.length := by
        rw [List.length_erase_of_mem c]
        rw [List.length_cons] at h
        have := List.length_pos_of_mem c
        omega
      obtain ⟨y, hy, hn⟩ := pigeon hd.2 hl
      refine ⟨y, List.mem_cons_of_mem _ hy, fun hm => hn ((List.mem_erase_of_ne fun z => hd.1 (by rw [← z]; exact hy)).mpr hm)⟩
    · exact ⟨x, List.mem_cons_self .., c⟩
abbrev lwsN : List Str := ["_law_stream", "_law_many", "_law_letters", "_law_spare", "_law_j", "_law_found", "_law_k", "_law_word_here", "_law_one"]
theorem scLWs : FnScope lwsN ["_law_stream", "_law_many"] (defScope sLWords) := ⟨rfl, rfl, rfl, by decide +kernel, rfl, by decide +kernel, by decide +kernel⟩
theorem ok_lwordsQ {f fW : Addr} {fd fdW : FuncData} (F : Fun K "_law_words" "_law_words" sLWords f fd) (mrange : mg "range" = none) (CW : Cal P w K mg base 2 "_law_word" fW fdW ["_law_stream"] spWordQ) : FnOk P w K mg base CX0 3 f fd ["_law_stream", "_law_many"] spWordsQ := by
  refine F.ok scLWs (fun vs H Q E h => ?_) (fun cdv A outer s H vs Q E hr h => ?_)
  · obtain ⟨_, _, _, _, rfl, _⟩ := h
    rfl
  · obtain ⟨st, a, n, many, rfl, hS, hmany, hn, k⟩ := h
    have hu := hu_of hr
    refine ⟨_, (pss_cons (ps_set (i := 2) scLWs.nd rfl (.inr rfl) pe_str) (pss_cons (ps_setLc (i := 3) (own := [("_law_j", 4)]) (g := gName 4) (tt := tYes) (te := tOp rAddS (tOp rAddS (tOp rIxS (tVar 2) (tOp (rI (fun _ j => 0 < j) fun i j => .int (i % j)) (tVar 4) (tC (.int 26)))) (tOp rIxS (tVar 2) (tOp (rI CDiv fun i j => .int (i / j)) (tVar 4) (tC (.int 26))))) (tC (.str "z"))) rfl scLWs.nd rfl rfl (sw_true rfl rfl rfl (by decide +kernel)) (pi_range1 rfl mrange (pa_cons pe_int pa_nil)) (blkOk_by (own := [("_law_j", 4)]) (N := lwsN) (sc := defScope sLWords) (by decide +kernel)) (fun _ _ _ _ _ => (pg_name (i := 4) scLWs.nd rfl (Or.inl rfl))) (fun _ _ _ _ _ => pts_nil) (fun _ _ _ _ _ => (pe_op op_add_str (pe_op op_add_str (pe_ix (by exact ix_str) (pv 2) (pe_op op_mod (pv 4) pe_int) (fun _ _ => rfl)) (pe_ix (by exact ix_str) (pv 2) (pe_op op_fdiv (pv 4) pe_int) (fun _ _ => rfl))) pe_str))) (pss_cons (ps_set (i := 5) scLWs.nd rfl (.inr rfl) (pe_lst pa_nil)) (pss_cons (ps_for PassesOwn.never rfl (pi_range1 rfl mrange (pa_cons (pv 1) pa_nil)) (pg_name (i := 6) scLWs.nd rfl (.inl rfl)) (pss_cons (ps_set (i := 7) scLWs.nd rfl (.inl rfl) (pe_call CW.ok hr rfl CW.mg CW.kp CW.bi .nil pass0 (pa_cons (pv 0) pa_nil))) (pss_one (ps_expr (pe_bm PySem.F.plainAttrs_list PySem.F.slot_list_append PySem.F.type_list_append mt_append (pv 5) (pa_cons (pe_ifExp (pt_cmpR op_in_seq (pv 7) (pv 5) rfl) (pe_ix ix_list (pe_lc (own := [("_law_one", 8)]) (g := gName 8) (tt := tTest (tOp (rIn K true) (tVar 8) (tVar 5))) (te := tVar 8) rfl scLWs.nd (pi_list (pv 3)) (blkOk_by (own := [("_law_one", 8)]) (N := lwsN) (sc := defScope sLWords) (by decide +kernel)) (fun _ _ _ _ _ => (pg_name (i := 8) scLWs.nd rfl (Or.inl rfl))) (fun _ _ _ _ _ => pts_one (pt_cmpR op_notIn_seq (pv 8) (pv 5) rfl)) (fun _ _ _ _ _ => (pv 8))) pe_int (fun _ _ => rfl)) (pv 7)) pa_nil)))))) (pss_one (ps_ret (pv 5))))))), ?_⟩
    have hls : lettersS.length ≤ sizeLine := by decide +kernel
    refine ⟨41, rfl, by decide, by decide, fun Sq nSq => ?_⟩
    have hsl : spareW.length = 41 := by decide +kernel
    refine lc_it walk_range (fun j Hy => Same H Hy ∧ Hy Sq = some (.lst ((spareW.take j).map V.str))) ⟨same_new nSq, upd_same⟩ (fun _ _ _ _ => trivial) ?_ ?_
    · rintro j x Hy Hy' hj ⟨sy, hq⟩ ⟨rfl, rfl⟩
      have hj : j < 41 := hj
      refine ⟨rfl, ?_⟩
      dsimp only [tYes]
      rw [if_pos rfl]
      have a1 : atI lettersS.cps.toList ((0 + (j : Int)) % 26) = some (97 + j % 26) := by
        rw [show (0 + (j : Int)) % 26 = ((j % 26 : Nat) : Int) by omega]
        exact letter_nat (by omega)
      have a2 : atI lettersS.cps.toList ((0 + (j : Int)) / 26) = some (97 + j / 26) := by
        rw [show (0 + (j : Int)) / 26 = ((j / 26 : Nat) : Int) by omega]
        exact letter_nat (by omega)
      have e1 : spareW.take (j + 1) = spareW.take j ++ [(⟨#[97 + j % 26]⟩ : Str) ++ ⟨#[97 + j / 26]⟩ ++ "z"] := by
        rw [List.take_add_one]
        congr 1
        unfold spareW
        rw [List.getElem?_map, List.getElem?_range hj]
        rfl
      refine ⟨_, rfl, _, rfl, _, _, rfl, rfl, (by show (0 : Int) < 26; decide), lettersS, _, _, rfl, rfl, hls, a1, _, rfl, _, rfl, _, _, rfl, rfl, ⟨by decide, by decide⟩, lettersS, _, _, rfl, rfl, hls, a2, _, _, rfl, rfl, (by show 1 + 1 ≤ sizeLine; decide), _, "z", rfl, rfl, ?_, _, hq, ?_, same_upd sy nSq, ?_⟩
      · exact Nat.le_of_lt (fitR (show 2 + 1 ≤ 3000000 by decide))
      · rw [List.length_map, List.length_take]
        exact fitR (by omega)
      · rw [upd_same, e1, List.map_append]
        rfl
    rintro H1 ⟨s1, hSq⟩
    rw [show Int.toNat 41 = 41 by decide, ← hsl, List.take_length] at hSq
    dsimp only [List.set]
    refine ⟨by show 0 ≤ sizeLine; decide, fun Fd nF => ?_⟩
    have s2 := s1.trans (same_new (o := .lst []) nF)
    have hS2 := same_new (o := .lst []) nF _ _ hSq
    have hF2 := upd_same (H := H1) (a := Fd) (o := .lst [])
    have nFH := s1.free nF
    have nFs : Fd ≠ st := fun z => hS.tr.1 (by rw [← z]; exact nFH)
    have nFa : Fd ≠ a := fun z => hS.tr.2 (by rw [← z]; exact nFH)
    have nQs : Sq ≠ st := fun z => hS.tr.1 (by rw [← z]; exact nSq)
    have nQa : Sq ≠ a := fun z => hS.tr.2 (by rw [← z]; exact nSq)
    have nFQ : Sq ≠ Fd := ne_of_none hSq nF
    generalize upd H1 Fd (.lst []) = H2 at s2 hS2 hF2 ⊢
    refine ⟨_, rfl, many, rfl, by omega, by omega, ?_⟩
    rw [show ((many : Int)).toNat = many by omega]
    refine for_range (lo := 0) (n := many) (fun i σ Hx => ∃ (x4 x6 x7 x8 : Option V) (xs : List Str) (m : Nat), σ = [some (.ref st), some (.int (many : Nat)), some (.str lettersS), some (.ref Sq), x4, some (.ref Fd), x6, x7, x8] ∧ xs.Nodup ∧ xs.length = i ∧ (∀ x ∈ xs, nameQ x = true) ∧ n ≤ m ∧ m ≤ n + 9 * i ∧ StreamAt Hx st a m ∧ Else2 st a H Hx ∧ Hx Sq = some (.lst (spareW.map V.str)) ∧ Hx Fd = some (.lst (xs.map V.str)))
      ⟨none, none, none, none, [], n, rfl, .nil, rfl, (fun _ h => nomatch h), Nat.le_refl _, Nat.le_refl _, hS.same s2, .of_same s2, hS2, hF2⟩ ?_ ?_
    · rintro i σ Hx hi ⟨x4, x6, x7, x8, xs, m, rfl, hnd, hxl, hxn, m0, m1, Sx, ex, hSx, hFx⟩
      refine ⟨_, rfl, st, a, m, rfl, Sx, by omega, fun z H3 hz mv => ?_⟩
      obtain ⟨m', g1, g2, S3, e3⟩ := mv
      have ex3 := ex.trans e3
      have hS3 := e3 _ _ hSx nQs nQa
      have hF3 := e3 _ _ hFx nFs nFa
      refine ⟨_, rfl, .inl ⟨rfl, _, SqL.of hF3⟩, _, rfl, _, rfl, Fd, _, rfl, .inl (SqL.of hF3), rfl, flat_strs _, _, rfl, ?_⟩
      have add : ∀ (y : Str) (Hy : Hp), nameQ y = true → y ∉ xs → Same H3 Hy → Hy Fd = some (.lst (xs.map V.str)) ∧ (xs.map V.str).length < sizeLine ∧ ∃ (xs' : List Str) (m : Nat), xs'.Nodup ∧ xs'.length = i + 1 ∧ (∀ x ∈ xs', nameQ x = true) ∧ n ≤ m ∧ m ≤ n + 9 * (i + 1) ∧ StreamAt (upd Hy Fd (.lst (xs.map V.str ++ [.str y]))) st a m ∧ Else2 st a H (upd Hy Fd (.lst (xs.map V.str ++ [.str y]))) ∧ upd Hy Fd (.lst (xs.map V.str ++ [.str y])) Sq = some (.lst (spareW.map V.str)) ∧ upd Hy Fd (.lst (xs.map V.str ++ [.str y])) Fd = some (.lst (xs'.map V.str)) := fun y Hy hy hn sy => by
        refine ⟨sy _ _ hF3, by rw [List.length_map, hxl]; exact fitR (by omega), xs ++ [y], m', ?_, by rw [List.length_append, hxl]; rfl, fun x hx => ?_, by omega, by omega, (S3.same sy).upd nFs nFa, fun b o hb n1 n2 => ?_, ?_, ?_⟩
        · rw [List.nodup_append]
          refine ⟨hnd, by simp, fun a ha b hb e => hn ?_⟩
          rw [List.mem_singleton.mp hb] at e
          rw [← e]
          exact ha
        · rcases List.mem_append.mp hx with hx | hx
          · exact hxn x hx
          · rw [List.mem_singleton.mp hx]; exact hy
        · rw [upd_ne (fun z => by rw [z, nFH] at hb; cases hb)]
          exact sy _ _ (ex3 _ _ hb n1 n2)
        · rw [upd_ne nFQ]
          exact sy _ _ hS3
        · rw [upd_same, List.map_append]
          rfl
      show if (inV (.str z) (xs.map V.str)) = true then _ else _
      rw [inV_strsR]
      by_cases hin : z ∈ xs
      · refine iteTc (decide_eq_true hin) ?_
        refine ⟨_, rfl, Sq, rfl, ⟨_, SqL.of hS3⟩, fun G nG => ?_⟩
        refine lc_list (K := K) (a := Sq) (xs := spareW.map V.str) (fun j Hy => Same H3 Hy ∧ Hy G = some (.lst (((spareW.take j).filter fun o => decide (o ∉ xs)).map V.str))) ⟨same_new nG, upd_same⟩ (fun j Hy _ q => SqL.of (q.1 _ _ hS3)) ?_ ?_
        · rintro j u Hy hu ⟨sy, hG⟩
          obtain ⟨o, ho, rfl⟩ := mapS_get hu
          refine ⟨rfl, _, rfl, _, rfl, Fd, _, rfl, .inl (SqL.of (sy _ _ hF3)), rfl, flat_strs _, _, rfl, ?_⟩
          have e2 : (spareW.take (j + 1)).filter (fun o => decide (o ∉ xs)) = (spareW.take j).filter (fun o => decide (o ∉ xs)) ++ (if decide (o ∉ xs) = true then [o] else []) := filter_succW _ ho
          have hlo : ((spareW.take j).filter (fun o => decide (o ∉ xs))).length ≤ 41 := by
            have := List.length_filter_le (fun o => decide (o ∉ xs)) (spareW.take j)
            rw [List.length_take] at this
            omega
          show if (!inV (.str o) (xs.map V.str)) = true then _ else _
          rw [inV_strsR, e2]
          by_cases hc : o ∈ xs
          · refine iteFc (by simp [hc]) ⟨sy, ?_⟩
            rw [if_neg (by simp [hc]), List.append_nil]
            exact hG
          · refine iteTc (by simp [hc]) ⟨_, rfl, _, hG, ?_, same_upd sy nG, ?_⟩
            · rw [List.length_map]
              exact fitR (by omega)
            · rw [upd_same, if_pos (by simp [hc]), List.map_append]
              rfl
        · rintro Hy ⟨sy, hG⟩
          rw [List.length_map, List.take_length] at hG
          obtain ⟨y, hy, hyn⟩ := pigeon (l := spareW) (m := xs) (by decide +kernel) (by omega)
          have hym : y ∈ spareW.filter fun o => decide (o ∉ xs) := List.mem_filter.mpr ⟨hy, decide_eq_true hyn⟩
          cases hf : spareW.filter fun o => decide (o ∉ xs) with
          | nil => rw [hf] at hym; cases hym
          | cons u us =>
            have hu : u ∈ spareW.filter fun o => decide (o ∉ xs) := by rw [hf]; exact List.mem_cons_self ..
            obtain ⟨h1, h2⟩ := List.mem_filter.mp hu
            have hun : nameQ u = true := by
              have : ∀ x ∈ spareW, nameQ x = true := by decide +kernel
              exact this u h1
            rw [hf] at hG
            refine ⟨G, _, 0, .str u, rfl, rfl, SqL.of hG, atI_nat (j := 0) rfl, ?_⟩
            obtain ⟨p1, p2, p3⟩ := add u Hy hun (of_decide_eq_true h2) sy
            obtain ⟨xs', m2, r2, r3, r4, r5, r6, r7, r8, r9, r10⟩ := p3
            refine ⟨Fd, _, _, rfl, rfl, p1, p2, _, _, _, _, xs', m2, rfl, r2, r3, r4, r5, r6, r7, r8, r9, r10⟩
      · refine iteFc (decide_eq_false hin) ⟨_, rfl, ?_⟩
        obtain ⟨p1, p2, p3⟩ := add z H3 hz hin (.refl _)
        obtain ⟨xs', m2, r2, r3, r4, r5, r6, r7, r8, r9, r10⟩ := p3
        refine ⟨Fd, _, _, rfl, rfl, p1, p2, _, _, _, _, xs', m2, rfl, r2, r3, r4, r5, r6, r7, r8, r9, r10⟩
    · rintro σ Hx ⟨x4, x6, x7, x8, xs, m, rfl, hnd, hxl, hxn, m0, m1, Sx, ex, hSx, hFx⟩
      exact ⟨_, rfl, k Fd xs m Hx hnd hxl hxn m0 m1 Sx ex nFH hFx⟩
theorem ok_lwords {f fW : Addr} {fd fdW : FuncData} (F : Fun K "_law_words" "_law_words" sLWords f fd) (mrange : mg "range" = none) (CW : Cal P w K mg base 2 "_law_word" fW fdW ["_law_stream"] spWordQ) : FnOk P w K mg base CX0 3 f fd ["_law_stream", "_law_many"] spWords :=
  (ok_lwordsQ F mrange CW).imp fun vs H Q E h => by
    obtain ⟨st, a, n, many, h1, h2, h3, h4, k⟩ := h
    exact ⟨st, a, n, many, h1, h2, h3, h4, fun L names m H' g1 g2 g3 => k L names m H' g1 g2 fun x hx => nameQ_B (g3 x hx)⟩
end
end XE
set_option Elab.async false
set_option linter.all false
set_option maxRecDepth 100000
set_option maxHeartbeats 1000000
/-! XS5: _law_same, _law_lists_of -/
namespace XE
open PySem PySem.Spec PyProof.Rows L2 RZ Rx SX Rc
abbrev sLSame : Stmt := topS 41
abbrev sLLists : Stmt := topS 42
section
variable {P : Program} {w : World} {K : PySem.W.Frag} {mg : Str → Option Value} {base : Heap}
abbrev lsmN : List Str := ["_law_found", "_law_due", "_law_a", "_law_b"]
theorem scLSame : FnScope lsmN ["_law_found", "_law_due"] (defScope sLSame) := ⟨rfl, rfl, rfl, by decide +kernel, rfl, by decide +kernel, by decide +kernel⟩
theorem step_lsame {n : Nat} {f : Addr} {fd : FuncData} {spR : Sp} (F : Fun K "_law_same" "_law_same" sLSame f fd) (misi : mg "isinstance" = none) (mlen : mg "len" = none) (mall : mg "all" = none) (mzip : mg "zip" = none) (mlist : mg "list" = none) (mtup : mg "tuple" = none) (mint : mg "int" = none) (mbool : mg "bool" = none)
    (CS : Cal P w K mg base (n + 1) "_law_same" f fd ["_law_found", "_law_due"] spR) (hR : ∀ k, n = k + 1 → spR = spSame K k) : FnOk P w K mg base CX0 (n + 2) f fd ["_law_found", "_law_due"] (spSame K n) := by
  refine F.ok scLSame (fun vs H Q E h => ?_) (fun cdv A outer s H vs Q E hr h => ?_)
  · obtain ⟨_, _, _, rfl, _⟩ := h
    rfl
  · obtain ⟨u, v, d, rfl, hu1, hv1, hd, k⟩ := h
    have hr1 : Room (n + 1) _ := hr
    refine ⟨_, (pss_cons (ps_if (pt_val (pe_callB call_isiT (by rfl) misi (by decide +kernel) (pa_cons (pv 1) (pa_cons (pe_tup (pa_cons (pe_bltn (v := .ty "list") (by rfl) mlist (by decide +kernel) rfl) (pa_cons (pe_bltn (v := .ty "tuple") (by rfl) mtup (by decide +kernel) rfl) pa_nil))) pa_nil)))) (pss_cons (ps_if (PW.pt (pw_or (pt_cmpR op_ne (pe_callB call_isi (by rfl) misi (by decide +kernel) (pa_cons (pv 0) (pa_cons (pe_bltn (v := .ty "list") (by rfl) mlist (by decide +kernel) rfl) pa_nil))) (pe_callB call_isi (by rfl) misi (by decide +kernel) (pa_cons (pv 1) (pa_cons (pe_bltn (v := .ty "list") (by rfl) mlist (by decide +kernel) rfl) pa_nil))) (nomark _)) (pw_or1 (pt_cmpR op_ne (pe_callB call_isi (by rfl) misi (by decide +kernel) (pa_cons (pv 0) (pa_cons (pe_bltn (v := .ty "tuple") (by rfl) mtup (by decide +kernel) rfl) pa_nil))) (pe_callB call_isi (by rfl) misi (by decide +kernel) (pa_cons (pv 1) (pa_cons (pe_bltn (v := .ty "tuple") (by rfl) mtup (by decide +kernel) rfl) pa_nil))) (nomark _))))) (pss_one (ps_ret pe_bl)) pss_nil) (pss_one (ps_ret (pe_and (pe_cmpR op_eq (pe_callB call_len_seq (by rfl) mlen PySem.boot_len (pa_cons (pv 0) pa_nil)) (pe_callB call_len_seq (by rfl) mlen PySem.boot_len (pa_cons (pv 1) pa_nil)) (nomark _)) (pe_one (pe_callB (cr_all rfl) (by rfl) mall (by decide +kernel) (pa_cons (pe_lc (own := [("_law_a", 2), ("_law_b", 3)]) (g := gTup K 2 (gCons (gName 2) (gCons (gName 3) gNil))) (tt := tYes) (te := tCall spR [] E0 (tCons (tVar 2) (tCons (tVar 3) tNil))) rfl scLSame.nd (pi_zipA (by rfl) mzip (pa_cons (pv 0) (pa_cons (pv 1) pa_nil))) (blkOk_by (own := [("_law_a", 2), ("_law_b", 3)]) (N := lsmN) (sc := defScope sLSame) (by decide +kernel)) (fun _ _ _ _ _ => (pg_tup rfl (pgs_cons (pg_name (i := 2) scLSame.nd rfl (Or.inl rfl)) (pgs_cons (pg_name (i := 3) scLSame.nd rfl (Or.inl rfl)) pgs_nil)))) (fun _ _ _ _ _ => pts_nil) (fun _ _ _ _ _ => (pe_call CS.ok hr1 rfl CS.mg CS.kp CS.bi .nil pass0 (pa_cons (pv 2) (pa_cons (pv 3) pa_nil))))) pa_nil))))))) pss_nil) (pss_cons (ps_if (pt_val (pe_callB call_isi (by rfl) misi (by decide +kernel) (pa_cons (pv 1) (pa_cons (pe_bltn (v := .ty "int") (by rfl) mint (by decide +kernel) rfl) pa_nil)))) (pss_one (ps_ret (pe_and (pe_callB call_isi (by rfl) misi (by decide +kernel) (pa_cons (pv 0) (pa_cons (pe_bltn (v := .ty "int") (by rfl) mint (by decide +kernel) rfl) pa_nil))) (pe_and (pe_cmpR op_eq (pe_callB call_isi (by rfl) misi (by decide +kernel) (pa_cons (pv 0) (pa_cons (pe_bltn (v := .ty "bool") (by rfl) mbool (by decide +kernel) rfl) pa_nil))) (pe_callB call_isi (by rfl) misi (by decide +kernel) (pa_cons (pv 1) (pa_cons (pe_bltn (v := .ty "bool") (by rfl) mbool (by decide +kernel) rfl) pa_nil))) (nomark _)) (pe_one (pe_cmpR op_eq (pv 0) (pv 1) (nomark _))))))) pss_nil) (pss_one (ps_ret (pe_and (pe_not (pe_callB call_isi (by rfl) misi (by decide +kernel) (pa_cons (pv 0) (pa_cons (pe_bltn (v := .ty "int") (by rfl) mint (by decide +kernel) rfl) pa_nil)))) (pe_one (pe_cmpR op_eq (pv 0) (pv 1) (nomark _)))))))), ?_⟩
    cases hd with
    | lst hxl hx =>
      rename_i n xs
      have eR := hR n rfl
      subst eR
      obtain ⟨p1, us, rfl, hp1, hpd1⟩ : ∃ p us, u = .ref p ∧ SqL K H p us ∧ DpAll K H us xs := by
        cases hu1 with
        | lst h1 h2 => exact ⟨_, _, rfl, h1, h2⟩
      obtain ⟨p2, ws, rfl, hp2, hpd2⟩ : ∃ p us, v = .ref p ∧ SqL K H p us ∧ DpAll K H us xs := by
        cases hv1 with
        | lst h1 h2 => exact ⟨_, _, rfl, h1, h2⟩
      refine ⟨_, rfl, (by show 2 ≤ sizeLine; decide), fun q hq => ?_⟩
      have s1 := same_new (o := .tup [.ty "list", .ty "tuple"]) hq
      obtain ⟨ty, tx, tk⟩ := ty_dp (dp_same s1 hv1)
      refine ⟨_, q, _, ty, _, _, rfl, upd_same, .cons (.ty "list") (.cons (.ty "tuple") .nil), tx, tk, _, rfl, iteTc rfl ?_⟩
      have k2 := fun H' (s : Same (upd H q (.tup [.ty "list", .ty "tuple"])) H') => k H' (s1.trans s)
      have hu2 := dp_same s1 hu1
      have hv2 := dp_same s1 hv1
      replace hp1 := sqL_same s1 hp1
      replace hp2 := sqL_same s1 hp2
      replace hpd1 := dpAll_same s1 hpd1
      replace hpd2 := dpAll_same s1 hpd2
      generalize upd H q (.tup [.ty "list", .ty "tuple"]) = H1 at k2 hu2 hv2 hp1 hp2 hpd1 hpd2 ⊢
      refine ⟨_, rfl, _, _, _, _, _, rfl, .ty "list", dp_tyX hu2, kit_list hu2, _, rfl, _, _, _, _, _, rfl, .ty "list", dp_tyX hv2, kit_list hv2, rfl, _, rfl, iteFc (by simp) ?_⟩
      refine ⟨_, rfl, _, _, _, _, _, rfl, .ty "tuple", dp_tyX hu2, kit_tup hu2, _, rfl, _, _, _, _, _, rfl, .ty "tuple", dp_tyX hv2, kit_tup hv2, rfl, _, rfl, iteFc (by simp) ?_⟩
      have l1 := dpAll_len hpd1
      have l2 := dpAll_len hpd2
      refine ⟨_, rfl, p1, us, rfl, .inl hp1, _, rfl, p2, ws, rfl, .inl hp2, rfl, ?_⟩
      have ll : us.length = ws.length := by rw [l1, l2]
      refine ⟨_, rfl, iteTc (decide_eq_true (by rw [ll])) ?_⟩
      refine ⟨_, rfl, _, rfl, p1, p2, us, ws, rfl, .inl ⟨hp1, hp2, fun D nD => ?_⟩⟩
      refine lc_it (walk_zip rfl) (fun j Hy => Same H1 Hy ∧ Hy D = some (.lst ((List.replicate j true).map V.bl))) ⟨same_new nD, upd_same⟩ (fun j Hy _ q => ⟨sqL_same q.1 hp1, sqL_same q.1 hp2⟩) ?_ ?_
      · rintro j x Hy Hy' hj ⟨sy, hD⟩ ⟨T, x1, x2, rfl, nT, rfl, e1, e2⟩
        obtain ⟨d1, hd1, g1⟩ := dpAll_at hpd1 e1
        obtain ⟨d2, hd2, g2⟩ := dpAll_at hpd2 e2
        rw [hd1] at hd2
        injection hd2 with hd2
        subst hd2
        have s2 := sy.trans (same_new (o := .tup [x1, x2]) nT)
        have hT := upd_same (H := Hy) (a := T) (o := .tup [x1, x2])
        have hD2 := same_new (o := .tup [x1, x2]) nT _ _ hD
        show gTup _ _ _ (V.ref T) _ (upd Hy T (.tup [x1, x2])) _
        generalize upd Hy T (.tup [x1, x2]) = H2 at s2 hT hD2 ⊢
        refine ⟨T, _, rfl, SqT.of hT, rfl, _, _, rfl, _, _, rfl, rfl, rfl, ?_⟩
        dsimp only [tYes]
        rw [if_pos rfl]
        refine ⟨_, rfl, _, rfl, x1, x2, d1, rfl, dp_same s2 g1, dp_same s2 g2, hx d1 (List.mem_of_getElem? hd1), fun H3 s3 => ⟨_, s3 _ _ hD2, ?_, same_upd (s2.trans s3) nD, ?_⟩⟩
        · rw [List.length_map, List.length_replicate]
          exact fitR (by have := (List.getElem?_eq_some_iff.mp hd1).1; omega)
        · rw [upd_same, List.replicate_succ', List.map_append]
          rfl
      · rintro Hy ⟨sy, hD⟩
        refine ⟨D, _, rfl, SqL.of hD, ?_⟩
        have : ∀ m : Nat, (List.replicate m true).all id = true := fun m => by
          rw [List.all_eq_true]
          intro x hx
          rw [(List.mem_replicate.mp hx).2]
          rfl
        rw [this]
        exact k2 Hy sy
    | tup hxl hx =>
      rename_i n xs
      have eR := hR n rfl
      subst eR
      obtain ⟨p1, us, rfl, hp1, hpd1⟩ : ∃ p us, u = .ref p ∧ SqT K H p us ∧ DpAll K H us xs := by
        cases hu1 with
        | tup h1 h2 => exact ⟨_, _, rfl, h1, h2⟩
      obtain ⟨p2, ws, rfl, hp2, hpd2⟩ : ∃ p us, v = .ref p ∧ SqT K H p us ∧ DpAll K H us xs := by
        cases hv1 with
        | tup h1 h2 => exact ⟨_, _, rfl, h1, h2⟩
      refine ⟨_, rfl, (by show 2 ≤ sizeLine; decide), fun q hq => ?_⟩
      have s1 := same_new (o := .tup [.ty "list", .ty "tuple"]) hq
      obtain ⟨ty, tx, tk⟩ := ty_dp (dp_same s1 hv1)
      refine ⟨_, q, _, ty, _, _, rfl, upd_same, .cons (.ty "list") (.cons (.ty "tuple") .nil), tx, tk, _, rfl, iteTc rfl ?_⟩
      have k2 := fun H' (s : Same (upd H q (.tup [.ty "list", .ty "tuple"])) H') => k H' (s1.trans s)
      have hu2 := dp_same s1 hu1
      have hv2 := dp_same s1 hv1
      replace hp1 := sqT_same s1 hp1
      replace hp2 := sqT_same s1 hp2
      replace hpd1 := dpAll_same s1 hpd1
      replace hpd2 := dpAll_same s1 hpd2
      generalize upd H q (.tup [.ty "list", .ty "tuple"]) = H1 at k2 hu2 hv2 hp1 hp2 hpd1 hpd2 ⊢
      refine ⟨_, rfl, _, _, _, _, _, rfl, .ty "list", dp_tyX hu2, kit_list hu2, _, rfl, _, _, _, _, _, rfl, .ty "list", dp_tyX hv2, kit_list hv2, rfl, _, rfl, iteFc (by simp) ?_⟩
      refine ⟨_, rfl, _, _, _, _, _, rfl, .ty "tuple", dp_tyX hu2, kit_tup hu2, _, rfl, _, _, _, _, _, rfl, .ty "tuple", dp_tyX hv2, kit_tup hv2, rfl, _, rfl, iteFc (by simp) ?_⟩
      have l1 := dpAll_len hpd1
      have l2 := dpAll_len hpd2
      refine ⟨_, rfl, p1, us, rfl, .inr hp1, _, rfl, p2, ws, rfl, .inr hp2, rfl, ?_⟩
      have ll : us.length = ws.length := by rw [l1, l2]
      refine ⟨_, rfl, iteTc (decide_eq_true (by rw [ll])) ?_⟩
      refine ⟨_, rfl, _, rfl, p1, p2, us, ws, rfl, .inr ⟨hp1, hp2, fun D nD => ?_⟩⟩
      refine lc_it (walk_zipT rfl) (fun j Hy => Same H1 Hy ∧ Hy D = some (.lst ((List.replicate j true).map V.bl))) ⟨same_new nD, upd_same⟩ (fun j Hy _ q => ⟨sqT_same q.1 hp1, sqT_same q.1 hp2⟩) ?_ ?_
      · rintro j x Hy Hy' hj ⟨sy, hD⟩ ⟨T, x1, x2, rfl, nT, rfl, e1, e2⟩
        obtain ⟨d1, hd1, g1⟩ := dpAll_at hpd1 e1
        obtain ⟨d2, hd2, g2⟩ := dpAll_at hpd2 e2
        rw [hd1] at hd2
        injection hd2 with hd2
        subst hd2
        have s2 := sy.trans (same_new (o := .tup [x1, x2]) nT)
        have hT := upd_same (H := Hy) (a := T) (o := .tup [x1, x2])
        have hD2 := same_new (o := .tup [x1, x2]) nT _ _ hD
        show gTup _ _ _ (V.ref T) _ (upd Hy T (.tup [x1, x2])) _
        generalize upd Hy T (.tup [x1, x2]) = H2 at s2 hT hD2 ⊢
        refine ⟨T, _, rfl, SqT.of hT, rfl, _, _, rfl, _, _, rfl, rfl, rfl, ?_⟩
        dsimp only [tYes]
        rw [if_pos rfl]
        refine ⟨_, rfl, _, rfl, x1, x2, d1, rfl, dp_same s2 g1, dp_same s2 g2, hx d1 (List.mem_of_getElem? hd1), fun H3 s3 => ⟨_, s3 _ _ hD2, ?_, same_upd (s2.trans s3) nD, ?_⟩⟩
        · rw [List.length_map, List.length_replicate]
          exact fitR (by have := (List.getElem?_eq_some_iff.mp hd1).1; omega)
        · rw [upd_same, List.replicate_succ', List.map_append]
          rfl
      · rintro Hy ⟨sy, hD⟩
        refine ⟨D, _, rfl, SqL.of hD, ?_⟩
        have : ∀ m : Nat, (List.replicate m true).all id = true := fun m => by
          rw [List.all_eq_true]
          intro x hx
          rw [(List.mem_replicate.mp hx).2]
          rfl
        rw [this]
        exact k2 Hy sy
    | str x =>
      cases hu1
      cases hv1
      refine ⟨_, rfl, (by show 2 ≤ sizeLine; decide), fun q hq => ?_⟩
      have s1 := same_new (o := .tup [.ty "list", .ty "tuple"]) hq
      obtain ⟨ty, tx, tk⟩ := ty_dp (K := K) (H := upd H q (.tup [.ty "list", .ty "tuple"])) (Dp.str x)
      refine ⟨_, q, _, ty, _, _, rfl, upd_same, .cons (.ty "list") (.cons (.ty "tuple") .nil), tx, tk, _, rfl, iteFc rfl ?_⟩
      have k2 := k _ s1
      generalize upd H q (.tup [.ty "list", .ty "tuple"]) = H1 at k2 ⊢
      have dz : Dp K H1 _ _ := Dp.str x
      refine ⟨_, rfl, _, _, _, _, _, rfl, .ty "int", dp_tyX dz, kit_int dz, _, rfl, iteFc rfl ?_⟩
      refine ⟨_, rfl, _, _, _, _, _, rfl, .ty "int", dp_tyX dz, kit_int dz, _, rfl, _, rfl, iteTc rfl ⟨_, rfl, _, rfl, rfl, ?_⟩⟩
      show Q (.bl (decide (V.str x = V.str x))) H1
      rw [decide_eq_true rfl]
      exact k2
    | int i =>
      cases hu1
      cases hv1
      refine ⟨_, rfl, (by show 2 ≤ sizeLine; decide), fun q hq => ?_⟩
      have s1 := same_new (o := .tup [.ty "list", .ty "tuple"]) hq
      obtain ⟨ty, tx, tk⟩ := ty_dp (K := K) (H := upd H q (.tup [.ty "list", .ty "tuple"])) (Dp.int i)
      refine ⟨_, q, _, ty, _, _, rfl, upd_same, .cons (.ty "list") (.cons (.ty "tuple") .nil), tx, tk, _, rfl, iteFc rfl ?_⟩
      have k2 := k _ s1
      generalize upd H q (.tup [.ty "list", .ty "tuple"]) = H1 at k2 ⊢
      have dz : Dp K H1 _ _ := Dp.int i
      refine ⟨_, rfl, _, _, _, _, _, rfl, .ty "int", dp_tyX dz, kit_int dz, _, rfl, iteTc rfl ?_⟩
      refine ⟨_, rfl, _, _, _, _, _, rfl, .ty "int", dp_tyX dz, kit_int dz, _, rfl, iteTc rfl ?_⟩
      refine ⟨_, rfl, _, _, _, _, _, rfl, .ty "bool", dp_tyX dz, kit_bool dz, _, rfl, _, _, _, _, _, rfl, .ty "bool", dp_tyX dz, kit_bool dz, rfl, _, rfl, iteTc (decide_eq_true rfl) ⟨_, rfl, _, rfl, rfl, ?_⟩⟩
      show Q (.bl (decide (V.int i = V.int i))) H1
      rw [decide_eq_true rfl]
      exact k2
    | bl b =>
      cases hu1
      cases hv1
      refine ⟨_, rfl, (by show 2 ≤ sizeLine; decide), fun q hq => ?_⟩
      have s1 := same_new (o := .tup [.ty "list", .ty "tuple"]) hq
      obtain ⟨ty, tx, tk⟩ := ty_dp (K := K) (H := upd H q (.tup [.ty "list", .ty "tuple"])) (Dp.bl b)
      refine ⟨_, q, _, ty, _, _, rfl, upd_same, .cons (.ty "list") (.cons (.ty "tuple") .nil), tx, tk, _, rfl, iteFc rfl ?_⟩
      have k2 := k _ s1
      generalize upd H q (.tup [.ty "list", .ty "tuple"]) = H1 at k2 ⊢
      have dz : Dp K H1 _ _ := Dp.bl b
      refine ⟨_, rfl, _, _, _, _, _, rfl, .ty "int", dp_tyX dz, kit_int dz, _, rfl, iteTc rfl ?_⟩
      refine ⟨_, rfl, _, _, _, _, _, rfl, .ty "int", dp_tyX dz, kit_int dz, _, rfl, iteTc rfl ?_⟩
      refine ⟨_, rfl, _, _, _, _, _, rfl, .ty "bool", dp_tyX dz, kit_bool dz, _, rfl, _, _, _, _, _, rfl, .ty "bool", dp_tyX dz, kit_bool dz, rfl, _, rfl, iteTc (decide_eq_true rfl) ⟨_, rfl, _, rfl, rfl, ?_⟩⟩
      show Q (.bl (decide (V.bl b = V.bl b))) H1
      rw [decide_eq_true rfl]
      exact k2
    | non =>
      cases hu1
      cases hv1
      refine ⟨_, rfl, (by show 2 ≤ sizeLine; decide), fun q hq => ?_⟩
      have s1 := same_new (o := .tup [.ty "list", .ty "tuple"]) hq
      obtain ⟨ty, tx, tk⟩ := ty_dp (K := K) (H := upd H q (.tup [.ty "list", .ty "tuple"])) (Dp.non)
      refine ⟨_, q, _, ty, _, _, rfl, upd_same, .cons (.ty "list") (.cons (.ty "tuple") .nil), tx, tk, _, rfl, iteFc rfl ?_⟩
      have k2 := k _ s1
      generalize upd H q (.tup [.ty "list", .ty "tuple"]) = H1 at k2 ⊢
      have dz : Dp K H1 _ _ := Dp.non
      refine ⟨_, rfl, _, _, _, _, _, rfl, .ty "int", dp_tyX dz, kit_int dz, _, rfl, iteFc rfl ?_⟩
      refine ⟨_, rfl, _, _, _, _, _, rfl, .ty "int", dp_tyX dz, kit_int dz, _, rfl, _, rfl, iteTc rfl ⟨_, rfl, _, rfl, rfl, ?_⟩⟩
      show Q (.bl (decide (V.non = V.non))) H1
      rw [decide_eq_true rfl]
      exact k2
theorem ok_lsame {f : Addr} {fd : FuncData} (F : Fun K "_law_same" "_law_same" sLSame f fd) (misi : mg "isinstance" = none) (mlen : mg "len" = none) (mall : mg "all" = none) (mzip : mg "zip" = none) (mlist : mg "list" = none) (mtup : mg "tuple" = none) (mint : mg "int" = none) (mbool : mg "bool" = none)
    (mt : mg "_law_same" = some (.ref f)) (bi : Binds K fd ["_law_found", "_law_due"] []) : ∀ n, Cal P w K mg base (n + 2) "_law_same" f fd ["_law_found", "_law_due"] (spSame K n)
  | 0 => ⟨step_lsame F misi mlen mall mzip mlist mtup mint mbool ⟨fn_none, mt, F.kp, bi⟩ (fun k h => by cases h), mt, F.kp, bi⟩
  | n + 1 => ⟨step_lsame F misi mlen mall mzip mlist mtup mint mbool (ok_lsame F misi mlen mall mzip mlist mtup mint mbool mt bi n) (fun k h => by cases h; rfl), mt, F.kp, bi⟩
end
end XE
set_option Elab.async false
set_option linter.all false
set_option maxRecDepth 100000
set_option maxHeartbeats 1000000
/-! XS6: _law_lists_of -/
namespace XE
open PySem PySem.Spec PyProof.Rows L2 RZ Rx SX Rc
section
variable {P : Program} {w : World} {K : PySem.W.Frag} {mg : Str → Option Value} {base : Heap}
abbrev llsN : List Str := ["_law_thing", "_law_part"]
theorem scLLs : FnScope llsN ["_law_thing"] (defScope sLLists) := ⟨rfl, rfl, rfl, by decide +kernel, rfl, by decide +kernel, by decide +kernel⟩
theorem step_lists {n : Nat} {f : Addr} {fd : FuncData} {spR : Sp} (F : Fun K "_law_lists_of" "_law_lists_of" sLLists f fd) (misi : mg "isinstance" = none) (mlist : mg "list" = none) (mtup : mg "tuple" = none)
    (CS : Cal P w K mg base (n + 1) "_law_lists_of" f fd ["_law_thing"] spR) (hR : ∀ k, n = k + 1 → spR = spLists K k) : FnOk P w K mg base CX0 (n + 2) f fd ["_law_thing"] (spLists K n) := by
  refine F.ok scLLs (fun vs H Q E h => ?_) (fun cdv A outer s H vs Q E hr h => ?_)
  · obtain ⟨_, _, rfl, _⟩ := h
    rfl
  · obtain ⟨v, d, rfl, hD, hd, k⟩ := h
    have hr1 : Room (n + 1) _ := hr
    refine ⟨_, (pss_cons (ps_if (pt_val (pe_callB call_isiT (by rfl) misi (by decide +kernel) (pa_cons (pv 0) (pa_cons (pe_tup (pa_cons (pe_bltn (v := .ty "list") (by rfl) mlist (by decide +kernel) rfl) (pa_cons (pe_bltn (v := .ty "tuple") (by rfl) mtup (by decide +kernel) rfl) pa_nil))) pa_nil)))) (pss_one (ps_ret (pe_lc (own := [("_law_part", 1)]) (g := gName 1) (tt := tYes) (te := tCall spR [] E0 (tCons (tVar 1) tNil)) rfl scLLs.nd (pi_seq (pv 0)) (blkOk_by (own := [("_law_part", 1)]) (N := llsN) (sc := defScope sLLists) (by decide +kernel)) (fun _ _ _ _ _ => (pg_name (i := 1) scLLs.nd rfl (Or.inl rfl))) (fun _ _ _ _ _ => pts_nil) (fun _ _ _ _ _ => (pe_call CS.ok hr1 rfl CS.mg CS.kp CS.bi .nil pass0 (pa_cons (pv 1) pa_nil)))))) pss_nil) (pss_one (ps_ret (pv 0)))), ?_⟩
    refine ⟨_, rfl, (by show 2 ≤ sizeLine; decide), fun q hq => ?_⟩
    have s1 := same_new (o := .tup [.ty "list", .ty "tuple"]) hq
    obtain ⟨ty, tx, tk⟩ := ty_dp (dp_same s1 hD)
    refine ⟨_, q, _, ty, _, _, rfl, upd_same, .cons (.ty "list") (.cons (.ty "tuple") .nil), tx, tk, _, rfl, ?_⟩
    have flat : kids d = none → ∀ v', v' = v → Dp K (nwIn H (upd H q (.tup [.ty "list", .ty "tuple"]))) v' (lsF d) → Q v' (upd H q (.tup [.ty "list", .ty "tuple"])) := fun _ v' e h => k v' _ s1 h
    have seq : ∀ (xs : List PyData) (a : Addr) (us : List V) (m : Nat), n = m + 1 → v = .ref a → (SqL K H a us ∨ SqT K H a us) → DpAll K H us xs → xs.length ≤ 1000 → (∀ x ∈ xs, SmD m x) → lsF d = .list (lsAll xs) →
        SeqIt K (upd H q (.tup [.ty "list", .ty "tuple"])) a (fun J H1 => ∀ D, H1 D = none → ∃ W : Nat → Nat → Hp → Prop, (∃ m, W 0 m (upd H1 D (.lst []))) ∧ ∀ i m Hh, W i m Hh → (J.stop i Hh ∧ Q (.ref D) Hh) ∨ (J.go i Hh ∧ ∃ Nx : Hp → Prop, (∀ H', Nx H' → ∃ m', m' < m ∧ W (i + 1) m' H') ∧ ∀ x H', J.yld i Hh x H' → gName 1 x (wipe (L2.start llsN [v]) [1]) H' fun σ2 H2 => wipe σ2 [1] = wipe (L2.start llsN [v]) [1] ∧ tYes σ2 H2 fun b H3 =>
          if b = true then tCall spR [] E0 (tCons (tVar 1) tNil) σ2 H3 fun y H4 => ∃ acc, H4 D = some (.lst acc) ∧ acc.length < sizeLine ∧ Nx (upd H4 D (.lst (acc ++ [y]))) else Nx H3)) := fun xs a us m hnm hva hsq hx hlen hall hls => by
      have hR' := hR m hnm
      subst hR'
      have hsq1 := sq_same hsq s1
      have k1 : ∀ v' H', Same (upd H q (.tup [.ty "list", .ty "tuple"])) H' → Dp K (nwIn (upd H q (.tup [.ty "list", .ty "tuple"])) H') v' (lsF d) → Q v' H' := fun v' H' s h => k v' H' (s1.trans s) (dp_same (nwIn_mono (Live.of_same s1) fun b o _ h => h) h)
      have hx1 := dpAll_same s1 hx
      generalize upd H q (.tup [.ty "list", .ty "tuple"]) = H1 at hsq1 k1 hx1 ⊢
      refine it_seq hsq1 (Same.refl H1) fun J G hG wk => fun D hD' => ?_
      have L := dpAll_len hx
      refine lc_it wk (fun i Hy => ∃ vs, Hy D = some (.lst vs) ∧ vs.length = i ∧ Same H1 Hy ∧ Live (upd H1 D (.lst [])) Hy ∧ DpAll K (nwIn (upd H1 D (.lst [])) Hy) vs ((xs.take i).map lsF)) ⟨[], upd_same, rfl, same_new hD', Live.refl _, .nil⟩ (fun i Hy _ e => by obtain ⟨_, _, _, sm, _⟩ := e; exact hG _ sm) ?_ ?_
      · rintro i x Hy Hy' hi ⟨vs, h1, h2, sm, lv, hv⟩ ⟨rfl, hx0⟩
        obtain ⟨d1, hd1, hdp⟩ := dpAll_at hx1 hx0
        refine ⟨rfl, ?_⟩
        dsimp only [tYes]
        rw [if_pos rfl]
        refine ⟨_, rfl, x, d1, rfl, dp_same sm hdp, hall d1 (List.mem_of_getElem? hd1), fun v' H' s2 hv' => ?_⟩
        have hDn : upd H1 D (.lst []) D ≠ none := by rw [upd_same]; simp
        have hDy : Hy' D ≠ none := by rw [h1]; simp
        refine ⟨vs, s2 _ _ h1, by rw [h2]; exact fitR (by omega), vs ++ [v'], upd_same, by rw [List.length_append, h2]; rfl, ?_, ?_, ?_⟩
        · intro b o hb
          have hbD : b ≠ D := fun z => by rw [z, hD'] at hb; cases hb
          rw [upd_ne hbD]
          exact s2 _ _ (sm _ _ hb)
        · exact (lv.trans (Live.of_same s2)).trans (Live.upd _ _ _)
        · rw [List.take_add_one, hd1]
          simp only [Option.toList, List.map_append, List.map_cons, List.map_nil]
          refine dpAll_snocS ?_ ?_
          · refine dp_same ?_ hv'
            refine nwIn_mono lv (fun b o hb hb2 => ?_)
            have hbD : b ≠ D := fun z => hDy (z ▸ hb)
            rw [upd_ne hbD]
            exact hb2
          · refine dpAll_same ?_ hv
            refine nwIn_mono (Live.refl _) (fun b o hb hb2 => ?_)
            have hbD : b ≠ D := fun z => hDn (z ▸ hb)
            rw [upd_ne hbD]
            exact s2 _ _ hb2
      · rintro Hy ⟨vs, h1, h2, sm, lv, hv⟩
        refine k1 _ _ sm ?_
        rw [hls, lsAll_map]
        rw [L, List.take_length] at hv
        refine .lst (SqL.of (by rw [nwIn_at hD']; exact h1)) (dpAll_same ?_ hv)
        exact nwIn_mono (Live.of_same (same_new hD')) (fun b o _ hb2 => hb2)
    cases hd with
    | str x => cases hD; exact iteFc rfl ⟨_, rfl, flat rfl _ rfl (.str x)⟩
    | int i => cases hD; exact iteFc rfl ⟨_, rfl, flat rfl _ rfl (.int i)⟩
    | bl b => cases hD; exact iteFc rfl ⟨_, rfl, flat rfl _ rfl (.bl b)⟩
    | non => cases hD; exact iteFc rfl ⟨_, rfl, flat rfl _ rfl .non⟩
    | lst hl hx =>
      cases hD with
      | lst h1 h2 => exact iteTc rfl ⟨_, rfl, _, rfl, seq _ _ _ _ rfl rfl (.inl h1) h2 hl hx (by simp only [lsF])⟩
    | tup hl hx =>
      cases hD with
      | tup h1 h2 => exact iteTc rfl ⟨_, rfl, _, rfl, seq _ _ _ _ rfl rfl (.inr h1) h2 hl hx (by simp only [lsF])⟩
theorem ok_lists {f : Addr} {fd : FuncData} (F : Fun K "_law_lists_of" "_law_lists_of" sLLists f fd) (misi : mg "isinstance" = none) (mlist : mg "list" = none) (mtup : mg "tuple" = none)
    (mt : mg "_law_lists_of" = some (.ref f)) (bi : Binds K fd ["_law_thing"] []) : ∀ n, Cal P w K mg base (n + 2) "_law_lists_of" f fd ["_law_thing"] (spLists K n)
  | 0 => ⟨step_lists F misi mlist mtup ⟨fn_none, mt, F.kp, bi⟩ (fun k h => by cases h), mt, F.kp, bi⟩
  | n + 1 => ⟨step_lists F misi mlist mtup (ok_lists F misi mlist mtup mt bi n) (fun k h => by cases h; rfl), mt, F.kp, bi⟩
end
end XE
set_option Elab.async false
set_option linter.all false
set_option maxRecDepth 100000
set_option maxHeartbeats 1000000
/-! RxMkS: an instance made by an __init__ that may raise -/
namespace RxM
open PySem PySem.Spec PyProof.Rows L2
section
variable {X : Cx} {CX : CXT} {k : Nat} {f C : Addr} {fd : FuncData} {ps : List Str} {sp : Sp} {E : L2.St → XK} {x m : Str} {p pos apos : Pos} {e o : Expr} {es : List Expr} {ta : TE} {t : TA}
def tMakeS (C : Addr) (sp : Sp) (E : L2.St → XK) (t : TA) : TE := fun σ H Q => t σ H fun vs H1 => ∀ x dx, H1 x = none → H1 dx = none → dx ≠ x →
  sp (.ref x :: vs) (upd (upd H1 dx (.own x)) x (.ins C dx [])) (fun v H2 => v = .non ∧ Q (.ref x) H2) (E σ)
theorem run_makeS {pins : List (Addr × Obj)} {σ : L2.St} {H : Hp} {s : Shared} {Q : VK} {us : List Value} {vs : List V} (M : Mk X.K C f) (F : FnOk X.prog X.w X.K X.mg X.base CX k f fd ps sp) (hr : Room (k + 1) X.A) (hb : Binds X.K fd ps [])
    (hx : ∀ σ, PassesAt CX X σ (E σ)) (I : Inv X pins σ H s) (r : Vals vs us)
    (h : ∀ x dx, H x = none → H dx = none → dx ≠ x → sp (.ref x :: vs) (upd (upd H dx (.own x)) x (.ins C dx [])) (fun v H2 => v = .non ∧ Q (.ref x) H2) (E σ)) :
    wpAny (model X.prog X.w) X.A (call (.ref C) us) (EP X pins σ Q) X.xe s := by
  have hq := h (s.heap.objs.size + 1) s.heap.objs.size (I.hok.fresh (Nat.le_succ _)) (I.hok.fresh (Nat.le_refl _)) (Nat.ne_of_lt (Nat.lt_succ_self _))
  have I2 := Inv.made (C := C) I
  have r2 : Vals (V.ref (s.heap.objs.size + 1) :: vs) (Value.ref (s.heap.objs.size + 1) :: us) := .cons rfl r
  have hl : (Value.ref (s.heap.objs.size + 1) :: us).length = ps.length := by
    have e := r2.length
    rw [F.len _ _ _ _ hq] at e
    exact e.symm
  have b := hb _ (Value.ref (s.heap.objs.size + 1) :: us) I2.kIn (by rw [List.append_nil]; exact hl)
  rw [List.append_nil] at b
  refine wpAny_call (make_map (f := f) I.kIn M.makes M.init (beq_iff_eq.mp M.fn) (codeAny_mono (F.run _ X.stack _ _ ⟨Value.ref (s.heap.objs.size + 1) :: us, []⟩ (Value.ref (s.heap.objs.size + 1) :: us) _ _ (E σ) (hr.make C us [])
    (I2.env0.make C us []) b r2 hq) fun r s' hq' => ?_))
  cases r with
  | error e => exact hx σ pins _ _ e s' I2 hq'
  | ok fl =>
    cases fl with
    | ret u =>
      obtain ⟨v, H', I3, rv, ev, q3⟩ := I2.after hq'
      subst ev
      exact ⟨rv, ⟨V.ref (s.heap.objs.size + 1), H', I3, rfl, q3⟩⟩
    | next => exact False.elim hq'
    | brk => exact False.elim hq'
    | cont => exact False.elim hq'
theorem pe_makeS' (M : Mk X.K C f) (F : FnOk X.prog X.w X.K X.mg X.base CX k f fd ps sp) (hr : Room (k + 1) X.A) (hg : Gl X x) (hm : X.mg x = some (.ref C)) (hb : Binds X.K fd ps []) (hx : ∀ σ, PassesAt CX X σ (E σ))
    (ha : PA X (e :: es) t) (hdb : (x == ("__debug__" : Str)) = false := by decide) (he : starEach (e :: es) X.env = (false, eval e X.env) :: starEach es X.env := by rfl) (hpl : (backTo pos (starEach es X.env)).any (·.1) = false := by rfl) :
    PE X (.Call (.Name x p) (e :: es) [] pos) (tMakeS C sp E t) := by
  refine ⟨fun pins s σ H Q I h => ?_⟩
  refine wpAny_Call_Name_kw (ld_glob I hg hm ?_ hdb)
  refine PySem.W.callWith_K (h₀ := X.base) I.ok.mod.kin M.kp (thn (ha.run pos pins s σ H _ I h) fun us s1 ⟨vs, H1, I1, r, q⟩ => ⟨I1.kIn, ?_⟩) he hpl
  exact run_makeS M F hr hb hx I1 r q
end
end RxM
set_option Elab.async false
set_option linter.all false
set_option maxRecDepth 100000
set_option maxHeartbeats 1000000
/-! XS7: _law_bad_record -/
namespace XE
open PySem PySem.Spec PyProof.Rows L2 RZ Rx SX Rc RxM
abbrev sLBad : Stmt := topS 43
/-- what the law's own try finds -/
def spBad (K : PySem.W.Frag) : Sp := fun vs H Q _ => ∃ (ds : List PyData) (a : Addr) (xs : List V), vs = [.ref a] ∧ (SqL K H a xs ∨ SqT K H a xs) ∧ DpAll K H xs ds ∧ szAll ds ≤ 4900 ∧ (∀ d ∈ fixAll ds, Gd d) ∧ ds.length ≤ 1000 ∧ (∀ r ∈ rowsOfD (fixAll ds), r.2.length ≤ 1000) ∧
  (∀ i : Nat, rowDue (fixAll ds) = some i → ∀ v H', Same H H' → Dp K H' v (.list [.str "row", .none, .int (i : Nat)]) → Q v H') ∧
  (rowDue (fixAll ds) = none → ∀ (n : Str) (k : Nat), evsBad ((rowsOfD (fixAll ds)).map (·.1)) (rowsOfD (fixAll ds)) = some (n, k) → ∀ v H', Same H H' → Dp K H' v (.list [.str "event", .str n, .int (k : Nat)]) → Q v H') ∧
  (rowDue (fixAll ds) = none → evsBad ((rowsOfD (fixAll ds)).map (·.1)) (rowsOfD (fixAll ds)) = none → ∀ x : EvId, matchR (rowsTy ((rowsOfD (fixAll ds)).map (·.1)) (rowsOfD (fixAll ds))) = .error x → ∀ v H', Same H H' → Dp K H' v (.list [.str "message", .str x.1, .int (x.2 : Nat)]) → Q v H') ∧
  (∀ rs ms, GoodR (fixAll ds) rs ms → ∀ ids, ExecOk (rs.map (·.1)) (lnOf rs) (causesF ms) ids →
    (orderF (rs.map (·.1)) (lnOf rs) (reachF ids) = none → ∀ H', Same H H' → Q .non H') ∧
    ∀ n, orderF (rs.map (·.1)) (lnOf rs) (reachF ids) = some n → ∀ v H', Same H H' → Dp K H' v (.list [.str "order", .str n, .int (reachF ids n + 1 : Nat)]) → Q v H')
section
variable {P : Program} {w : World} {K : PySem.W.Frag} {mg : Str → Option Value} {base : Heap} {C CR CE CQ : Addr}
abbrev lbN : List Str := ["_law_rows_here", "_law_found", "e"]
theorem scLB : FnScope lbN ["_law_rows_here"] (defScope sLBad) := ⟨rfl, rfl, rfl, by decide +kernel, rfl, by decide +kernel, by decide +kernel⟩
theorem ok_lbad {f fI : Addr} {fd fdI : FuncData} (F : Fun K "_law_bad_record" "_law_bad_record" sLBad f fd) (misi : mg "isinstance" = none) (mR : mg "RerunError" = some (.ref CR)) (mV : mg "ValueError" = none) (mE : mg "BadEvent" = some (.ref CE)) (TB : RaiT P w K mg base "BadRecord" CQ ["reason", "name", "number"]) (TEB : ErrT P w K mg base "BadRecord" CQ ["reason", "name", "number"]) (cd : ClsD K)
    (kR : PySem.W.kitOne K (.ref CQ) (.ref CR) = some true) (kV : PySem.W.kitOne K (.ref CQ) (.type "ValueError") = some true) (kE : PySem.W.kitOne K (.ref CQ) (.ref CE) = some false)
    (MQ : Mk K C fI) (mgQ : mg "Record" = some (.ref C)) (GQ : FnOk P w K mg base (L2.CX P w) 6 fI fdI ["self", "rows"] (spRInit K C CQ)) (bQ : Binds K fdI ["self", "rows"] []) : FnOk P w K mg base CX0 8 f fd ["_law_rows_here"] (spBad K) := by
  refine F.ok scLB (fun vs H Q E h => ?_) (fun cdv A outer s H vs Q E hr h => ?_)
  · obtain ⟨_, _, _, rfl, _⟩ := h
    rfl
  · obtain ⟨ds, a, xs, rfl, hA, hD, hsz, hG, hdl, hrl, qR, qE, qM, qO⟩ := h
    have hr0 : Room 7 _ := hr
    refine ⟨_, (pss_cons (ps_set (i := 1) scLB.nd rfl (.inl rfl) pe_non) (pss_cons (ps_try_as (i := 2) rfl rfl scLB.nd rfl rfl ⟨rfl, by decide, .inl TB.mgx⟩ takes0 (fun W pn xe tk _ => (pss_one (ps_expr (pe_makeS' MQ GQ hr rfl mgQ bQ (fun σ => passAt tk σ) (pa_cons (pv 0) pa_nil))))) (fun a oe cls d pn hz hf => (pss_cons (ps_set (i := 1) scLB.nd rfl (.inl rfl) (pe_lst (pa_cons (pe_xf TB.xf (TB.no "reason" (by simp)) hz hf (pv 2)) (pa_cons (pe_xf TB.xf (TB.no "name" (by simp)) hz hf (pv 2)) (pa_cons (pe_xf TB.xf (TB.no "number" (by simp)) hz hf (pv 2)) pa_nil))))) (pss_one (ps_if (PW.pt (pw_or (pt_not (pt_val (pe_callB (call_isXd TEB.err cd hz hf) (by rfl) misi (by decide +kernel) (pa_cons (pv 2) (pa_cons (pe_glob (v := .ref CR) rfl mR rfl) pa_nil))))) (pw_or (pt_not (pt_val (pe_callB (call_isXd TEB.err cd hz hf) (by rfl) misi (by decide +kernel) (pa_cons (pv 2) (pa_cons (pe_bltn (v := .ty "ValueError") (by rfl) mV (by decide +kernel) rfl) pa_nil))))) (pw_or1 (pt_val (pe_callB (call_isXd TEB.err cd hz hf) (by rfl) misi (by decide +kernel) (pa_cons (pv 2) (pa_cons (pe_glob (v := .ref CE) rfl mE rfl) pa_nil)))))))) (pss_one (ps_set (i := 1) scLB.nd rfl (.inl rfl) (pe_lst (pa_cons pe_bl pa_nil)))) pss_nil))))) (pss_one (ps_ret (pv 1))))), ?_⟩
    refine ⟨_, rfl, fun p dx np ndx ndp => ?_⟩
    have s1 : Same H (upd (upd H dx (.own p)) p (.ins C dx [])) := (same_new ndx).trans (same_new (by rw [upd_ne (Ne.symm ndp)]; exact np))
    have hp1 : upd (upd H dx (.own p)) p (.ins C dx []) p = some (.ins C dx []) := upd_same
    generalize upd (upd H dx (.own p)) p (.ins C dx []) = H1 at s1 hp1 ⊢
    have hA1 := sq_same hA s1
    have hD1 := dpAll_same s1 hD
    have sT : ∀ {H' : Hp}, (∀ b o, H1 b = some o → b ≠ p → H' b = some o) → Same H H' := fun h b o e => h _ _ (s1 _ _ e) (fun z => by rw [z, np] at e; cases e)
    refine ⟨p, dx, ds, a, xs, rfl, hp1, hA1, hD1, hsz, hG, hdl, hrl, fun i hi H' dx' sm hd hx => ?_, fun h1 n k h2 H' dx' sm hd hx => ?_, fun h1 h2 x h3 H' dx' sm hd hx => ?_, fun rs ms GR ids ok => ⟨fun ho H' sm _ => ⟨rfl, _, rfl, (qO rs ms GR ids ok).1 ho H' (sT sm)⟩, fun n ho H' dx' sm hd hx => ?_⟩⟩
    · refine ⟨true, TB.self, (fun _ ea hea => ?_), fun z => by cases z⟩
      refine ⟨_, rfl, rfl, rfl, dx', _, _, rfl, hx, rfl, _, rfl, rfl, rfl, dx', _, _, rfl, hx, rfl, _, rfl, rfl, rfl, dx', _, _, rfl, hx, rfl, (by show 3 ≤ sizeLine; decide), fun q nq => ?_⟩
      have sq := same_new (o := .lst [.str "row", .non, .int (i : Nat)]) nq
      have hx2 := sq _ _ hx
      refine ⟨_, rfl, _, _, _, dx', _, rfl, rfl, rfl, .own _, hx2, kR, _, rfl, iteFc rfl ?_⟩
      refine ⟨_, rfl, _, _, _, dx', _, rfl, rfl, rfl, .ty _, hx2, kV, _, rfl, iteFc rfl ?_⟩
      refine ⟨_, rfl, _, _, _, dx', _, rfl, rfl, rfl, .own _, hx2, kE, _, rfl, iteFc rfl ?_⟩
      exact ⟨_, rfl, qR i hi _ _ ((sT sm).trans sq) (.lst (SqL.of upd_same) (.cons (.str _) (.cons .non (.cons (.int _) .nil))))⟩
    · refine ⟨true, TB.self, (fun _ ea hea => ?_), fun z => by cases z⟩
      refine ⟨_, rfl, rfl, rfl, dx', _, _, rfl, hx, rfl, _, rfl, rfl, rfl, dx', _, _, rfl, hx, rfl, _, rfl, rfl, rfl, dx', _, _, rfl, hx, rfl, (by show 3 ≤ sizeLine; decide), fun q nq => ?_⟩
      have sq := same_new (o := .lst [.str "event", .str n, .int (k : Nat)]) nq
      have hx2 := sq _ _ hx
      refine ⟨_, rfl, _, _, _, dx', _, rfl, rfl, rfl, .own _, hx2, kR, _, rfl, iteFc rfl ?_⟩
      refine ⟨_, rfl, _, _, _, dx', _, rfl, rfl, rfl, .ty _, hx2, kV, _, rfl, iteFc rfl ?_⟩
      refine ⟨_, rfl, _, _, _, dx', _, rfl, rfl, rfl, .own _, hx2, kE, _, rfl, iteFc rfl ?_⟩
      exact ⟨_, rfl, qE h1 n k h2 _ _ ((sT sm).trans sq) (.lst (SqL.of upd_same) (.cons (.str _) (.cons (.str _) (.cons (.int _) .nil))))⟩
    · refine ⟨true, TB.self, (fun _ ea hea => ?_), fun z => by cases z⟩
      refine ⟨_, rfl, rfl, rfl, dx', _, _, rfl, hx, rfl, _, rfl, rfl, rfl, dx', _, _, rfl, hx, rfl, _, rfl, rfl, rfl, dx', _, _, rfl, hx, rfl, (by show 3 ≤ sizeLine; decide), fun q nq => ?_⟩
      have sq := same_new (o := .lst [.str "message", .str x.1, .int (x.2 : Nat)]) nq
      have hx2 := sq _ _ hx
      refine ⟨_, rfl, _, _, _, dx', _, rfl, rfl, rfl, .own _, hx2, kR, _, rfl, iteFc rfl ?_⟩
      refine ⟨_, rfl, _, _, _, dx', _, rfl, rfl, rfl, .ty _, hx2, kV, _, rfl, iteFc rfl ?_⟩
      refine ⟨_, rfl, _, _, _, dx', _, rfl, rfl, rfl, .own _, hx2, kE, _, rfl, iteFc rfl ?_⟩
      exact ⟨_, rfl, qM h1 h2 x h3 _ _ ((sT sm).trans sq) (.lst (SqL.of upd_same) (.cons (.str _) (.cons (.str _) (.cons (.int _) .nil))))⟩
    · refine ⟨true, TB.self, (fun _ ea hea => ?_), fun z => by cases z⟩
      refine ⟨_, rfl, rfl, rfl, dx', _, _, rfl, hx, rfl, _, rfl, rfl, rfl, dx', _, _, rfl, hx, rfl, _, rfl, rfl, rfl, dx', _, _, rfl, hx, rfl, (by show 3 ≤ sizeLine; decide), fun q nq => ?_⟩
      have sq := same_new (o := .lst [.str "order", .str n, .int (reachF ids n + 1 : Nat)]) nq
      have hx2 := sq _ _ hx
      refine ⟨_, rfl, _, _, _, dx', _, rfl, rfl, rfl, .own _, hx2, kR, _, rfl, iteFc rfl ?_⟩
      refine ⟨_, rfl, _, _, _, dx', _, rfl, rfl, rfl, .ty _, hx2, kV, _, rfl, iteFc rfl ?_⟩
      refine ⟨_, rfl, _, _, _, dx', _, rfl, rfl, rfl, .own _, hx2, kE, _, rfl, iteFc rfl ?_⟩
      exact ⟨_, rfl, (qO rs ms GR ids ok).2 n ho _ _ ((sT sm).trans sq) (.lst (SqL.of upd_same) (.cons (.str _) (.cons (.str _) (.cons (.int _) .nil))))⟩
end
end XE
set_option Elab.async false
set_option linter.all false
set_option maxRecDepth 100000
set_option maxHeartbeats 1000000
/-! XK32: the law -/
namespace XE
open PySem PySem.Spec PyProof.Rows L2 RZ Rx SX Rc
abbrev sLaw : Stmt := topS 48
def spLaw (K : PySem.W.Frag) : Sp := fun vs H Q _ => ∃ (a : Addr) (ns : List Int), vs = [.ref a] ∧ SqL K H a (ns.map V.int) ∧ ∀ H', Q (.bl true) H'
theorem match_set {rs : Rows} {j : Nat} {n : Str} {es es' : List Ev} (hd : (rs.map (·.1)).Nodup) (hr : rs[j]? = some (n, es)) (hs : ∀ p, sndVs es' p = sndVs es p) (hv : ∀ p, rcvVs es' p = rcvVs es p) (h : ∃ ms, matchR rs = .ok ms) : ∃ ms, matchR (rs.set j (n, es')) = .ok ms := by
  have hj := (List.getElem?_eq_some_iff.mp hr).1
  have hn : (rs.set j (n, es')).map (·.1) = rs.map (·.1) := by
    refine List.ext_getElem? fun i => ?_
    rw [List.getElem?_map, List.getElem?_map, List.getElem?_set]
    by_cases c : j = i
    · subst c
      rw [if_pos rfl, if_pos hj, hr]
      rfl
    · rw [if_neg c]
  have he : ∀ m, evsOf (rs.set j (n, es')) m = if m = n then es' else evsOf rs m := fun m => by
    have hd' : ((rs.set j (n, es')).map (·.1)).Nodup := by rw [hn]; exact hd
    by_cases c : m = n
    · subst c
      rw [if_pos rfl]
      exact evsOf_at hd' (List.mem_of_getElem? (i := j) (by rw [List.getElem?_set, if_pos rfl, if_pos hj]))
    · rw [if_neg c]
      by_cases hm : m ∈ rs.map (·.1)
      · have h1 := evsOf_mem hd hm
        obtain ⟨i, hi⟩ := List.mem_iff_getElem?.mp h1
        have hij : j ≠ i := fun z => by
          subst z
          rw [hr] at hi
          injection hi with hi
          exact c (by injection hi with hi _; exact hi.symm)
        exact evsOf_at hd' (List.mem_of_getElem? (i := i) (by rw [List.getElem?_set, if_neg hij]; exact hi))
      · have e0 : ∀ qs : Rows, m ∉ qs.map (·.1) → evsOf qs m = [] := fun qs hq => by
          have : qs.find? (fun r => decide (r.1 = m)) = none := List.find?_eq_none.mpr fun r hr => by
            simp only [decide_eq_true_eq]
            exact fun z => hq (List.mem_map.mpr ⟨r, hr, z⟩)
          unfold evsOf
          rw [this]
          rfl
        rw [e0 _ hm, e0 _ (by rw [hn]; exact hm)]
  have hen : evsOf rs n = es := evsOf_at hd (List.mem_of_getElem? hr)
  refine match_keep hd hn (fun m b => ?_) (fun m b => ?_) h
  · rw [he]
    by_cases c : m = n
    · rw [if_pos c, c, hen]; exact hs b
    · rw [if_neg c]
  · rw [he]
    by_cases c : m = n
    · rw [if_pos c, c, hen]; exact hv b
    · rw [if_neg c]
section
variable {P : Program} {w : World} {K : PySem.W.Frag} {mg : Str → Option Value} {base : Heap}
abbrev lawN : List Str := ["_law_script", "_law_stream", "_law_names", "_law_rows_here", "_law_turn", "_law_at", "_law_name", "_law_events", "_law_due", "_law_handed"]
theorem scLw : FnScope lawN ["_law_script"] (defScope sLaw) := ⟨rfl, rfl, rfl, by decide +kernel, rfl, by decide +kernel, by decide +kernel⟩
theorem ok_law {fD fW fR fG fM fF fK fL fB fS f : Addr} {fd fdD fdW fdR fdG fdM fdF fdK fdL fdB fdS : FuncData} (F : Fun K "law" "law" sLaw f fd) (mlen : mg "len" = none) (mlist : mg "list" = none) (mrange : mg "range" = none) (mall : mg "all" = none)
    (CD : Cal P w K mg base 1 "_law_draw" fD fdD ["_law_stream", "_law_many"] spDraw) (CW : Cal P w K mg base 3 "_law_words" fW fdW ["_law_stream", "_law_many"] spWords) (CR : Cal P w K mg base 4 "_law_rows" fR fdR ["_law_stream", "_law_names", "_law_many"] (spRowsL K))
    (CG : Cal P w K mg base 2 "_law_ring" fG fdG ["_law_stream", "_law_names"] (spRing K)) (CM : Cal P w K mg base 2 "_law_turned" fM fdM ["_law_stream", "_law_events"] (spTurned K)) (CF : Cal P w K mg base 1 "_law_first_message" fF fdF ["_law_rows_here"] (spFstMsg K)) (CK : Cal P w K mg base 1 "_law_first_stuck" fK fdK ["_law_rows_here"] (spFstStk K)) (CL : Cal P w K mg base 6 "_law_lists_of" fL fdL ["_law_thing"] (spLists K 4))
    (CB : Cal P w K mg base 8 "_law_bad_record" fB fdB ["_law_rows_here"] (spBad K)) (CS : Cal P w K mg base 6 "_law_same" fS fdS ["_law_found", "_law_due"] (spSame K 4)) :
    FnG P w K mg base 10 f fd ["_law_script"] (spLaw K) := by
  refine fnG_of F scLw (fun vs H Q E h => ?_) (fun cdv A outer s H vs Q hg hr h => ?_)
  · obtain ⟨a, ns, rfl, _⟩ := h
    rfl
  · obtain ⟨sc, ns, rfl, hsc, k⟩ := h
    have hu := hu_of hr
    have hr1 : Room 1 _ := hr.mono (by decide)
    have hr2 : Room 2 _ := hr.mono (by decide)
    have hr3 : Room 3 _ := hr.mono (by decide)
    have hr4 : Room 4 _ := hr.mono (by decide)
    have hr6 : Room 6 _ := hr.mono (by decide)
    have hr8 : Room 8 _ := hr.mono (by decide)
    refine ⟨_, (pss_cons (ps_set (i := 1) scLw.nd rfl (.inl rfl) (pe_lst (pa_cons (pe_callTy call_list_of (by rfl) mlist (by decide +kernel) (pa_cons (pv 0) pa_nil)) (pa_cons pe_int (pa_cons pe_int (pa_cons pe_int pa_nil)))))) (pss_cons (ps_set (i := 2) scLw.nd rfl (.inl rfl) (pe_call CW.ok hr3 rfl CW.mg CW.kp CW.bi .nil pass0 (pa_cons (pv 1) (pa_cons (pe_op op_add pe_int (pe_call CD.ok hr1 rfl CD.mg CD.kp CD.bi .nil pass0 (pa_cons (pv 1) (pa_cons pe_int pa_nil)))) pa_nil)))) (pss_cons (ps_set (i := 3) scLw.nd rfl (.inl rfl) (pe_call CG.ok hr2 rfl CG.mg CG.kp CG.bi .nil pass0 (pa_cons (pv 1) (pa_cons (pv 2) pa_nil)))) (C8.pss_cut (ps_if (pt_cmpR op_gt (pe_call CD.ok hr1 rfl CD.mg CD.kp CD.bi .nil pass0 (pa_cons (pv 1) (pa_cons pe_int pa_nil))) pe_int (nomark _)) (pss_cons (ps_set (i := 3) scLw.nd rfl (.inl rfl) (pe_call CR.ok hr4 rfl CR.mg CR.kp CR.bi .nil pass0 (pa_cons (pv 1) (pa_cons (pv 2) (pa_cons (pe_op op_add pe_int (pe_call CD.ok hr1 rfl CD.mg CD.kp CD.bi .nil pass0 (pa_cons (pv 1) (pa_cons pe_int pa_nil)))) pa_nil))))) (pss_one (ps_for PassesOwn.never rfl (pi_range1 rfl mrange (pa_cons (pe_op op_add pe_int (pe_call CD.ok hr1 rfl CD.mg CD.kp CD.bi .nil pass0 (pa_cons (pv 1) (pa_cons pe_int pa_nil)))) pa_nil)) (pg_name (i := 4) scLw.nd rfl (.inl rfl)) (pss_cons (ps_set (i := 5) scLw.nd rfl (.inl rfl) (pe_call CD.ok hr1 rfl CD.mg CD.kp CD.bi .nil pass0 (pa_cons (pv 1) (pa_cons (pe_callB call_len_seq (by rfl) mlen PySem.boot_len (pa_cons (pv 3) pa_nil)) pa_nil)))) (pss_cons (ps_asg (pe_ix ix_list (pv 3) (pv 5) (fun _ _ => rfl)) (pg_tup rfl (pgs_cons (pg_name (i := 6) scLw.nd rfl (.inl rfl)) (pgs_cons (pg_name (i := 7) scLw.nd rfl (.inl rfl)) pgs_nil)))) (pss_one (ps_if (pt_cmpR op_gt (pe_callB call_len_seq (by rfl) mlen PySem.boot_len (pa_cons (pv 7) pa_nil)) pe_int (nomark _)) (pss_one (ps_set (i := 3) scLw.nd rfl (.inl rfl) (pe_op op_cat (pe_op op_cat (pe_slice sl_list (pv 3) po_none (po_some (pv 5))) (pe_lst (pa_cons (pe_tup (pa_cons (pv 6) (pa_cons (pe_call CM.ok hr2 rfl CM.mg CM.kp CM.bi .nil pass0 (pa_cons (pv 1) (pa_cons (pv 7) pa_nil))) pa_nil))) pa_nil))) (pe_slice sl_list (pv 3) (po_some (pe_op op_add (pv 5) pe_int)) po_none)))) pss_nil))))))) pss_nil) (pss_cons (ps_if (pt_cmpR op_notN (pe_call CF.ok hr1 rfl CF.mg CF.kp CF.bi .nil pass0 (pa_cons (pv 3) pa_nil)) pe_non (nomark _)) (pss_one (ps_ret pe_bl)) pss_nil) (pss_cons (ps_set (i := 8) scLw.nd rfl (.inr rfl) (pe_call CK.ok hr1 rfl CK.mg CK.kp CK.bi .nil pass0 (pa_cons (pv 3) pa_nil))) (pss_one (ps_ret (pe_callB (cr_all rfl) (by rfl) mall (by decide +kernel) (pa_cons (pe_lc (own := [("_law_handed", 9)]) (g := gName 9) (tt := tYes) (te := tCall (spSame K 4) [] E0 (tCons (tCall (spBad K) [] E0 (tCons (tVar 9) tNil)) (tCons (tVar 8) tNil))) rfl scLw.nd (pi_tup (pe_tup (pa_cons (pv 3) (pa_cons (pe_call CL.ok hr6 rfl CL.mg CL.kp CL.bi .nil pass0 (pa_cons (pv 3) pa_nil)) pa_nil)))) (blkOk_by (own := [("_law_handed", 9)]) (N := lawN) (sc := defScope sLaw) (by decide +kernel)) (fun _ _ _ _ _ => (pg_name (i := 9) scLw.nd rfl (Or.inl rfl))) (fun _ _ _ _ _ => pts_nil) (fun _ _ _ _ _ => (pe_call CS.ok hr6 rfl CS.mg CS.kp CS.bi .nil pass0 (pa_cons (pe_call CB.ok hr8 rfl CB.mg CB.kp CB.bi .nil pass0 (pa_cons (pv 9) pa_nil)) (pa_cons (pv 8) pa_nil))))) pa_nil)))))))))), ?_⟩
    refine ⟨_, rfl, sc, _, rfl, .inl hsc, fun a1 n1 => ⟨(by show 4 ≤ sizeLine; decide), fun st nst => ?_⟩⟩
    have st1 : a1 ≠ st := fun z => by rw [← z, upd_same] at nst; cases nst
    have S0 : StreamAt (upd (upd H a1 (.lst (ns.map V.int))) st (.lst [.ref a1, .int 0, .int 0, .int 0])) st a1 0 := ⟨ns, 0, 0, by rw [upd_same]; rfl, by rw [upd_ne st1, upd_same], by decide, by decide⟩
    generalize upd (upd H a1 (.lst (ns.map V.int))) st (.lst [.ref a1, .int 0, .int 0, .int 0]) = H0 at S0 ⊢
    refine ⟨_, rfl, _, rfl, st, a1, 0, 4, rfl, by decide, by decide, S0, by decide, fun k1 H1 k10 k11 S1 el1 => ?_⟩
    obtain ⟨j1, rfl⟩ := Int.eq_ofNat_of_zero_le k10
    refine ⟨_, _, rfl, rfl, st, a1, 1, j1 + 2, (by show [V.ref st, V.int (2 + (j1 : Nat))] = _; rw [show (2 + ((j1 : Nat) : Int)) = ((j1 + 2 : Nat) : Int) by omega]), S1, by omega, by omega, fun N names m2 H2 hnd hnl hnn m20 m21 S2 el2 nN hN => ?_⟩
    have Ns : N ≠ st := fun z => S1.tr.1 (by rw [← z]; exact nN)
    have Na : N ≠ a1 := fun z => S1.tr.2 (by rw [← z]; exact nN)
    refine ⟨_, rfl, _, rfl, st, a1, N, m2, names, rfl, S2, by omega, hN, Ns, Na, hnd, by omega, by omega, fun L0 xs0 rs0 m3 H3 hn0 hring0 m30 m31 S3 el3 nL0 hL0 hX0 => ?_⟩
    have L0s : L0 ≠ st := fun z => S2.tr.1 (by rw [← z]; exact nL0)
    have L0a : L0 ≠ a1 := fun z => S2.tr.2 (by rw [← z]; exact nL0)
    have hN3 := el3 _ _ hN Ns Na
    have W0 : RowsW 50 rs0 := by
      refine ⟨fun z => ?_, by rw [← List.length_map (f := (·.1)), hn0]; omega, by rw [hn0]; exact hnd, fun r hr => hnn _ (by rw [← hn0]; exact List.mem_map.mpr ⟨r, hr, rfl⟩), fun r hr e he => ?_, fun r hr => ?_⟩
      · rw [z] at hn0
        rw [← hn0] at hnl
        simp at hnl
      · obtain ⟨i, hi⟩ := List.mem_iff_getElem?.mp hr
        obtain ⟨d1, d2, sw, hE⟩ := hring0 i r hi
        have hil : i < names.length := by
          have := (List.getElem?_eq_some_iff.mp hi).1
          rw [← hn0, List.length_map]
          exact this
        have hr1 : nmK names i = r.1 := by
          have h1 := nmK_at hil
          have h2 : names[i]? = some r.1 := by rw [← hn0, List.getElem?_map, hi]; rfl
          rw [h1] at h2
          injection h2
        rw [hE] at he
        rw [hn0, ← hr1]
        exact ring_ok hnd (by omega) (by omega) hil e he
      · obtain ⟨i, hi⟩ := List.mem_iff_getElem?.mp hr
        obtain ⟨d1, d2, sw, hE⟩ := hring0 i r hi
        rw [hE]
        exact Nat.le_trans (ring_len _ _ _ _ _) (by decide)
    have M0 := ring_match hnd (by omega) hn0 hring0
    refine ⟨fun σ Hx => ∃ (x4 x5 x6 x7 x8 x9 : Option V) (L : Addr) (xs : List V) (rs : Rows) (c : Nat), σ = [some (.ref sc), some (.ref st), some (.ref N), some (.ref L), x4, x5, x6, x7, x8, x9] ∧ StreamAt Hx st a1 c ∧ c ≤ 2000 ∧ Hx N = some (.lst (names.map V.str)) ∧ Hx L = some (.lst xs) ∧ L ≠ st ∧ L ≠ a1 ∧ DpAll K Hx xs (rs.map rowE) ∧ RowsW 50 rs ∧ rs.map (·.1) = names ∧ (∃ ms, matchR rs = .ok ms), ?_, ?_⟩
    · refine ⟨_, rfl, st, a1, m3, 3, rfl, by decide, by decide, S3, by omega, fun k4 H4 k40 k41 S4 el4 => ?_⟩
      obtain ⟨j4, rfl⟩ := Int.eq_ofNat_of_zero_le k40
      have kk4 := keeps_else2 S3 el4
      have hN4 := el4 _ _ hN3 Ns Na
      refine ⟨_, _, rfl, rfl, _, rfl, ite2 (fun _ => ?_) (fun _ => ?_)⟩
      case' refine_2 => exact ⟨_, _, _, _, _, _, L0, xs0, rs0, m3 + 1, rfl, S4, by omega, hN4, el4 _ _ hL0 L0s L0a, L0s, L0a, dpAll_keep kk4.1 kk4.2 hX0 (rows_noList _), W0, hn0, M0⟩
      refine ⟨_, rfl, _, rfl, _, rfl, st, a1, m3 + 1, 39, rfl, by decide, by decide, S4, by omega, fun k5 H5 k50 k51 S5 el5 => ?_⟩
      obtain ⟨j5, rfl⟩ := Int.eq_ofNat_of_zero_le k50
      have hN5 := el5 _ _ hN4 Ns Na
      refine ⟨_, _, rfl, rfl, st, a1, N, m3 + 2, j5 + 2, names, (by show [V.ref st, V.ref N, V.int (2 + (j5 : Nat))] = _; rw [show (2 + ((j5 : Nat) : Int)) = ((j5 + 2 : Nat) : Int) by omega]), S5, by omega, by omega, hN5, Ns, Na, hnd, by omega, by omega, hnn, fun R m6 L1 xs1 H6 hR hRl m60 m61 S6 el6 nL1 hL1 hX1 => ?_⟩
      have L1s : L1 ≠ st := fun z => S5.tr.1 (by rw [← z]; exact nL1)
      have L1a : L1 ≠ a1 := fun z => S5.tr.2 (by rw [← z]; exact nL1)
      have hN6 := el6 _ _ hN5 Ns Na
      have W1 : RowsW 50 (runRows names R) := by
        have w := hR.rowsW (by omega) (by omega) hnd hnn
        exact ⟨w.ne, w.few, w.nd, w.nm, w.ok, fun r hr => by have := w.len r hr; omega⟩
      have M1 : ∃ ms, matchR (runRows names R) = .ok ms := by
        obtain ⟨ms, WH⟩ := run_whole hR (by omega) (by omega) hnd hnn
        exact ⟨ms, WH.msg⟩
      have n1 := runRows_names names R
      generalize runRows names R = rs1 at hX1 W1 n1 M1
      refine ⟨_, rfl, st, a1, m6, 6, rfl, by decide, by decide, S6, by omega, fun k7 H7 k70 k71 S7 el7 => ?_⟩
      obtain ⟨j7, rfl⟩ := Int.eq_ofNat_of_zero_le k70
      refine ⟨_, _, rfl, rfl, 1 + (j7 : Int), rfl, by omega, by omega, ?_⟩
      rw [show (1 + ((j7 : Nat) : Int)).toNat = j7 + 1 by omega]
      have kk7 := keeps_else2 S6 el7
      refine for_range (lo := 0) (n := j7 + 1) (fun i σ Hx => ∃ (x4 x5 x6 x7 x8 x9 : Option V) (L : Addr) (xs : List V) (rs : Rows) (c : Nat), σ = [some (.ref sc), some (.ref st), some (.ref N), some (.ref L), x4, x5, x6, x7, x8, x9] ∧ StreamAt Hx st a1 c ∧ c ≤ 1200 + 10 * i ∧ Hx N = some (.lst (names.map V.str)) ∧ Hx L = some (.lst xs) ∧ L ≠ st ∧ L ≠ a1 ∧ DpAll K Hx xs (rs.map rowE) ∧ RowsW 50 rs ∧ rs.map (·.1) = names ∧ (∃ ms, matchR rs = .ok ms))
        ⟨_, _, _, _, _, _, L1, xs1, rs1, m6 + 1, rfl, S7, by omega, el7 _ _ hN6 Ns Na, el7 _ _ hL1 L1s L1a, L1s, L1a, dpAll_keep kk7.1 kk7.2 hX1 (rows_noList _), W1, n1, M1⟩ ?_ ?_
      · rintro i σ Hx hi ⟨x4, x5, x6, x7, x8, x9, L, xs, rs, c, rfl, SA, hc, hNx, hLx, Ls, La, hD, W, hnm, MM⟩
        have hxl : xs.length = rs.length := by rw [dpAll_len hD, List.length_map]
        have hrl : rs.length = names.length := by rw [← hnm, List.length_map]
        refine ⟨_, rfl, _, rfl, L, xs, rfl, .inl (SqL.of hLx), st, a1, c, (xs.length : Nat), rfl, by omega, by omega, SA, by omega, fun k6 H6 k60 k61 S6 el6 => ?_⟩
        obtain ⟨j6, rfl⟩ := Int.eq_ofNat_of_zero_le k60
        have kk6 := keeps_else2 SA el6
        have hL6 := el6 _ _ hLx Ls La
        have hN6 := el6 _ _ hNx Ns Na
        have hD6 := dpAll_keep kk6.1 kk6.2 hD (rows_noList _)
        have hj6 : j6 < xs.length := by omega
        have hx6 : xs[j6]? = some (xs[j6]'hj6) := List.getElem?_eq_getElem hj6
        obtain ⟨r, q, b, us, hr6, hxe, hq, hb, hus⟩ := row_at hD6 hx6
        rw [hxe] at hx6
        obtain ⟨n, es⟩ := r
        have hul : us.length = es.length := by rw [dpAll_len hus, List.length_map]
        have hnm6 : n ∈ names := by rw [← hnm]; exact List.mem_map.mpr ⟨_, List.mem_of_getElem? hr6, rfl⟩
        have hok6 := W.ok _ (List.mem_of_getElem? hr6)
        rw [hnm] at hok6
        have hel : es.length ≤ 50 := W.len _ (List.mem_of_getElem? hr6)
        refine ⟨_, rfl, _, rfl, L, _, _, _, rfl, rfl, SqL.of hL6, atI_nat hx6, q, _, rfl, hq, rfl, _, _, rfl, _, _, rfl, rfl, ?_⟩
        refine ⟨_, rfl, b, us, rfl, .inr hb, _, _, rfl, rfl, _, rfl, ite2 (fun hpos => ?_) (fun _ => ?_)⟩
        · have hpos' : 0 < us.length := by
            have : (1 : Int) < us.length := by simpa using hpos
            omega
          refine ⟨_, rfl, _, rfl, _, rfl, L, xs, rfl, SqL.of hL6, fun p1 np1 => ?_⟩
          have e1 : cutV xs none (some ((j6 : Nat) : Int)) = xs.take j6 := cut_hi xs j6
          rw [e1]
          have s7 := same_new (o := .lst (xs.take j6)) np1
          have hp1 := upd_same (H := H6) (a := p1) (o := .lst (xs.take j6))
          have p1s : p1 ≠ st := fun z => S6.tr.1 (by rw [← z]; exact np1)
          have p1a : p1 ≠ a1 := fun z => S6.tr.2 (by rw [← z]; exact np1)
          generalize upd H6 p1 (.lst (xs.take j6)) = H7 at s7 hp1 ⊢
          have S7 := S6.same s7
          refine ⟨_, rfl, _, rfl, _, rfl, st, a1, b, c + 1, us, es, rfl, S7, by omega, sqT_same s7 hb, dpAll_same s7 hus, by omega, by omega, fun es' b' us' H8 hle hmem8 hsn8 hrc8 hb8 hus8 mv => ?_⟩
          have hok8 : ∀ e ∈ es', e.ok (othersL names n) = true := fun e he => hok6 e (hmem8 e he)
          obtain ⟨m8, m80, m81, S8, el8⟩ := mv
          have kk8 := keeps_else2 S7 el8
          have hL8 := el8 _ _ (s7 _ _ hL6) Ls La
          have hN8 := el8 _ _ (s7 _ _ hN6) Ns Na
          have hp18 := el8 _ _ hp1 p1s p1a
          have hD8 := dpAll_keep kk8.1 kk8.2 (dpAll_same s7 hD6) (rows_noList _)
          refine ⟨(by show 2 ≤ sizeLine; decide), fun tq ntq => ⟨(by show 1 ≤ sizeLine; decide), fun tl ntl => ?_⟩⟩
          have s9 := (same_new (o := .tup [.str n, .ref b']) ntq).trans (same_new (o := .lst [.ref tq]) ntl)
          have htl := upd_same (H := upd H8 tq (.tup [.str n, .ref b'])) (a := tl) (o := .lst [.ref tq])
          have htq := same_new (o := .lst [.ref tq]) ntl _ _ (upd_same (H := H8) (a := tq) (o := .tup [.str n, .ref b']))
          show rCat (V.ref p1) (V.ref tl) (upd (upd H8 tq (.tup [.str n, .ref b'])) tl (.lst [.ref tq])) _
          generalize upd (upd H8 tq (.tup [.str n, .ref b'])) tl (.lst [.ref tq]) = H9 at s9 htl htq ⊢
          have hxl40 : xs.length ≤ 40 := by have := W.few; omega
          refine ⟨p1, tl, _, _, rfl, rfl, s9 _ _ hp18, htl, (by rw [List.length_take]; exact Nat.le_of_lt (fitR (by show _ + 1 ≤ 3000000; omega))), fun p2 np2 => ?_⟩
          have s10 := s9.trans (same_new (o := .lst (xs.take j6 ++ [.ref tq])) np2)
          have hp2 := upd_same (H := H9) (a := p2) (o := .lst (xs.take j6 ++ [.ref tq]))
          have htq10 := same_new (o := .lst (xs.take j6 ++ [.ref tq])) np2 _ _ htq
          generalize upd H9 p2 (.lst (xs.take j6 ++ [.ref tq])) = H10 at s10 hp2 htq10 ⊢
          refine ⟨_, rfl, _, rfl, _, _, rfl, rfl, _, rfl, ?_⟩
          dsimp only [tNoPart]
          refine ⟨L, xs, rfl, SqL.of (s10 _ _ hL8), fun p3 np3 => ?_⟩
          rw [show ((j6 : Int) + 1) = ((j6 + 1 : Nat) : Int) from rfl, cut_lo]
          have s11 := s10.trans (same_new (o := .lst (xs.drop (j6 + 1))) np3)
          have hp3 := upd_same (H := H10) (a := p3) (o := .lst (xs.drop (j6 + 1)))
          have hp2' := same_new (o := .lst (xs.drop (j6 + 1))) np3 _ _ hp2
          have htq11 := same_new (o := .lst (xs.drop (j6 + 1))) np3 _ _ htq10
          generalize upd H10 p3 (.lst (xs.drop (j6 + 1))) = H11 at s11 hp3 hp2' htq11 ⊢
          refine ⟨p2, p3, _, _, rfl, rfl, hp2', hp3, (by rw [List.length_append, List.length_take, List.length_drop]; exact Nat.le_of_lt (fitR (by show _ + 1 + _ ≤ 3000000; omega))), fun p4 np4 => ?_⟩
          have s12 := s11.trans (same_new (o := .lst (xs.take j6 ++ [.ref tq] ++ xs.drop (j6 + 1))) np4)
          have hp4 := upd_same (H := H11) (a := p4) (o := .lst (xs.take j6 ++ [.ref tq] ++ xs.drop (j6 + 1)))
          have htq12 := same_new (o := .lst (xs.take j6 ++ [.ref tq] ++ xs.drop (j6 + 1))) np4 _ _ htq11
          have S11 := S8.same s11
          have p4s : p4 ≠ st := fun z => S11.tr.1 (by rw [← z]; exact np4)
          have p4a : p4 ≠ a1 := fun z => S11.tr.2 (by rw [← z]; exact np4)
          generalize upd H11 p4 (.lst (xs.take j6 ++ [.ref tq] ++ xs.drop (j6 + 1))) = H12 at s12 hp4 htq12 ⊢
          obtain ⟨W', hnm'⟩ := W.put hr6 (es' := es') (by rw [hnm]; exact hok8) (by omega)
          refine ⟨_, _, _, _, _, _, p4, _, rs.set j6 (n, es'), m8, rfl, S8.same s12, by omega, s12 _ _ hN8, hp4, p4s, p4a, ?_, W', by rw [hnm', hnm], match_set W.nd hr6 hsn8 hrc8 MM⟩
          have hrj : j6 < rs.length := by omega
          rw [← set_cut hrj, List.map_append, List.map_append, List.map_take, List.map_drop]
          refine dpAll_appR (dpAll_appR (dpAll_takeR _ (dpAll_same s12 hD8)) (.cons ?_ .nil)) (dpAll_dropR _ (dpAll_same s12 hD8))
          exact .tup (SqT.of htq12) (.cons (.str n) (.cons (.tup (sqT_same s12 hb8) (dpAll_same s12 hus8)) .nil))
        · exact ⟨_, _, _, _, _, _, L, xs, rs, c + 1, rfl, S6, by omega, hN6, hL6, Ls, La, hD6, W, hnm, MM⟩
      · rintro σ Hx ⟨x4, x5, x6, x7, x8, x9, L, xs, rs, c, rfl, SA, hc, hNx, hLx, Ls, La, hD, W, hnm, MM⟩
        exact ⟨_, _, _, _, _, _, L, xs, rs, c, rfl, SA, by omega, hNx, hLx, Ls, La, hD, W, hnm, MM⟩
    rintro σ Hx ⟨x4, x5, x6, x7, x8, x9, L, xs, rs, c, rfl, SA, hc, hNx, hLx, Ls, La, hD, W, hnm, ms, hms⟩
    have hel : ∀ r ∈ rs, r.2.length ≤ 1000 := fun r hr => Nat.le_trans (W.len r hr) (by decide)
    refine ⟨_, rfl, L, xs, rs, rfl, SqL.of hLx, hD, W.nd, W.few, hel, fun v0 H2 s2 hmd => ?_⟩
    obtain rfl : v0 = .non := by
      rcases hmd with ⟨_, _, h2⟩ | ⟨y, h1, _⟩
      · exact h2
      · rw [hms] at h1; cases h1
    refine ⟨rfl, _, rfl, iteFc rfl ?_⟩
    have hL2 := s2 _ _ hLx
    have hD2 := dpAll_same s2 hD
    refine ⟨_, rfl, L, xs, rs, ms, rfl, SqL.of hL2, hD2, W.nd, W.few, hel, hms, fun ids0 due H3 s3 hLg hSt hdue => ?_⟩
    have hL3 := s3 _ _ hL2
    have hD3 := dpAll_same s3 hD2
    refine ⟨_, rfl, _, rfl, .ref L, .list (rs.map rowE), rfl, .lst (SqL.of hL3) hD3, W.smd (by decide), fun lv H4 s4 hlv => ⟨(by show 2 ≤ sizeLine; decide), fun T nT => ?_⟩⟩
    have s5 := s4.trans (same_new (o := .tup [.ref L, lv]) nT)
    have hT := upd_same (H := H4) (a := T) (o := .tup [.ref L, lv])
    have hlv5 := dp_same ((nwIn_same H3 H4).trans (same_new (o := .tup [.ref L, lv]) nT)) hlv
    have hL5 : Dp K (upd H4 T (.tup [.ref L, lv])) (.ref L) (.list (rs.map rowE)) := .lst (SqL.of (s5 _ _ hL3)) (dpAll_same s5 hD3)
    have hdue5 : StuckDue K (upd H4 T (.tup [.ref L, lv])) due rs (reachF ids0) := by
      rcases hdue with h | ⟨n, h1, h2⟩
      · exact .inl h
      · exact .inr ⟨n, h1, dp_same s5 h2⟩
    generalize upd H4 T (.tup [.ref L, lv]) = H5 at s5 hT hlv5 hL5 hdue5 ⊢
    have hsz : szAll (rs.map rowE) ≤ 4900 := by
      have h1 := szAll_rows (m := 50) W.len
      have h2 : rs.length ≤ 5 := by rw [← List.length_map (f := (·.1)), hnm]; omega
      have h3 := Nat.mul_le_mul_left (6 * 50 + 5) h2
      omega
    have hand : ∀ (i : Nat) (v : V), ([V.ref L, lv])[i]? = some v → ∃ ds a ys, v = .ref a ∧ SqL K H5 a ys ∧ DpAll K H5 ys ds ∧ fixAll ds = rs.map rowE ∧ szAll ds ≤ 4900 ∧ ds.length ≤ 1000 := by
      intro i v hv
      have hl : (rs.map rowE).length ≤ 1000 := by rw [List.length_map]; exact Nat.le_trans W.few (by decide)
      match i, hv with
      | 0, hv =>
        injection hv with hv
        subst hv
        obtain ⟨a, ys, h1, h2, h3⟩ := dpL_inv hL5
        exact ⟨_, a, ys, h1, h2, h3, rows_fix rs, hsz, hl⟩
      | 1, hv =>
        injection hv with hv
        subst hv
        obtain ⟨a, ys, h1, h2, h3⟩ := dpL_inv (show Dp K H5 lv (.list (lsAll (rs.map rowE))) from hlv5)
        refine ⟨_, a, ys, h1, h2, h3, by rw [fixAll_ls]; exact rows_fix rs, by rw [szAll_ls]; exact hsz, by rw [lsAll_map, List.length_map]; exact hl⟩
    refine ⟨T, rfl, ⟨_, SqT.of hT⟩, fun D nD => ?_⟩
    refine lc_tup (K := K) (a := T) (xs := [.ref L, lv]) (fun i Hx => Same H5 Hx ∧ Hx D = some (.lst ((List.replicate i true).map V.bl))) ⟨same_new nD, upd_same⟩ (fun i Hx _ q => SqT.of (q.1 _ _ hT)) ?_ ?_
    · rintro i v Hx hv ⟨sx, hDx⟩
      obtain ⟨ds, a, ys, rfl, hys, hds, hfx, hsz2, hdl⟩ := hand i v hv
      have hi2 : i < 2 := by have := (List.getElem?_eq_some_iff.mp hv).1; simpa using this
      have hfx' : fixAll ds = fixAll (rs.map rowE) := by rw [hfx, rows_fix]
      have gd := W.gd
      have fe := W.few_ev
      have hdu := W.due
      have hev := W.evs
      have hty := W.ty
      rw [← hfx'] at gd fe hdu hev hty
      refine ⟨rfl, ?_⟩
      dsimp only [tYes]
      rw [if_pos rfl]
      have fin : ∀ Hz, Same H5 Hz → Hz D = some (.lst ((List.replicate i true).map V.bl)) → ∃ acc, Hz D = some (.lst acc) ∧ acc.length < sizeLine ∧ Same H5 (upd Hz D (.lst (acc ++ [.bl true]))) ∧ upd Hz D (.lst (acc ++ [.bl true])) D = some (.lst ((List.replicate (i + 1) true).map V.bl)) := fun Hz sz hz => by
        refine ⟨_, hz, ?_, same_upd sz nD, ?_⟩
        · rw [List.length_map, List.length_replicate]
          exact fitR (by omega)
        · rw [upd_same, List.replicate_succ', List.map_append]
          rfl
      refine ⟨_, rfl, ds, a, ys, rfl, .inl (sqL_same sx hys), dpAll_same sx hds, hsz2, gd, hdl, fun r hr => Nat.le_trans (fe r hr) (by decide), fun i hi => ?_, fun _ n k hnk => ?_, fun _ _ x hx v Hy sy hv => ?_, fun rs' ms' GR ids ok => ?_⟩
      · rw [hdu] at hi; cases hi
      · rw [hev] at hnk; cases hnk
      · rw [hty, hms] at hx; cases hx
      · have hrs : rs' = rs := by rw [GR.eq]; exact hty
        subst hrs
        have hmm : ms' = ms := by
          have := GR.msg
          rw [hms] at this
          injection this with this
          exact this.symm
        subst hmm
        have hre := reach_one ok.legal hLg ok.stuck hSt
        rw [hre]
        refine ⟨fun ho H' s' => ?_, fun n ho v H' s' hv => ?_⟩
        · have hdn : due = .non := by
            rcases hdue5 with ⟨_, h⟩ | ⟨n, h, _⟩
            · exact h
            · rw [ho] at h; cases h
          subst hdn
          refine ⟨_, rfl, .non, .non, .none, rfl, .non, .non, .non, fun H6 s6 => ?_⟩
          exact fin H6 ((sx.trans s').trans s6) (s6 _ _ (s' _ _ hDx))
        · have hdn : Dp K H' due (.list [.str "order", .str n, .int (reachF ids0 n + 1 : Nat)]) := by
            rcases hdue5 with ⟨h, _⟩ | ⟨n', h, h2⟩
            · rw [ho] at h; cases h
            · rw [ho] at h
              injection h with h
              subst h
              exact dp_same (sx.trans s') h2
          refine ⟨_, rfl, v, due, _, rfl, hv, hdn, .lst (by simp) (fun d hd => ?_), fun H6 s6 => ?_⟩
          · simp only [List.mem_cons, List.not_mem_nil, or_false] at hd
            rcases hd with rfl | rfl | rfl
            · exact .str _
            · exact .str _
            · exact .int _
          · exact fin H6 ((sx.trans s').trans s6) (s6 _ _ (s' _ _ hDx))
    · rintro Hx ⟨sx, hDx⟩
      refine ⟨D, _, rfl, SqL.of hDx, ?_⟩
      exact k _
end
end XE
set_option Elab.async false
set_option linter.all false
set_option maxRecDepth 100000
set_option maxHeartbeats 4000000
namespace XE
open PySem PySem.Spec PyProof.Rows L2 RZ Rx SX Rc
structure DefF (K : PySem.W.Frag) (x : Str) (st : Stmt) (f : Addr) (fd : FuncData) : Prop where
  at_ : PySem.W.nsIn K mainGlobals x = some (some (.ref f))
  fn : Fun K x x st f fd
structure MetF (K : PySem.W.Frag) (C : Addr) (x qual : Str) (st : Stmt) (f : Addr) (fd : FuncData) : Prop where
  me : Meth K C x f
  fn : Fun K x qual st f fd
theorem all_mk {l : PySem.W.OpenLaw} {w : World} {K : PySem.W.Frag} {h : Heap} {mg : Str → Option Value} {fa R NR CQ : Addr} (X : K.In h) (G : h.Ns mainGlobals mg) (hfa : mg "law" = some (.ref fa))
    {bsR subR : List Value} {snR : List Str} {abR : Bool} {colR : Option Bool} {ddR : Option Addr} {r0 r1 r2 r3 r5 : Option Value}
    (D0 : ∃ f fd, DefF K "is_name" sIsName f fd)
    (D1 : ∃ f fd, DefF K "is_integer" sIsInteger f fd)
    (D2 : ∃ f fd, DefF K "is_value" sIsValue f fd)
    (D3 : ∃ f fd, DefF K "frozen" sFrozen f fd)
    (D4 : ∃ f fd, DefF K "check_rows" sCheckRows f fd)
    (D5 : ∃ f fd, DefF K "is_row" sIsRow f fd)
    (D6 : ∃ f fd, DefF K "check_events" sCheckEvents f fd)
    (D7 : ∃ f fd, DefF K "has_shape" sHasShape f fd)
    (D8 : ∃ f fd, DefF K "fits_in" sFitsIn f fd)
    (D9 : ∃ f fd, DefF K "matched_messages" sMatched f fd)
    (D10 : ∃ f fd, DefF K "sends_by_channel" sSendsBy f fd)
    (D11 : ∃ f fd, DefF K "partners_by_event" sPartnersBy f fd)
    (D12 : ∃ f fd, DefF K "check_order" sCheckOrder f fd)
    (D13 : ∃ f fd, DefF K "causes_by_event" sCausesBy f fd)
    (D14 : ∃ f fd, DefF K "execution" sExecution f fd)
    (D15 : ∃ f fd, DefF K "lacking" sLacking f fd)
    (D16 : ∃ f fd, DefF K "numbers_reached" sReached f fd)
    (D17 : ∃ f fd, DefF K "_law_draw" sDraw f fd)
    (D18 : ∃ f fd, DefF K "_law_value" sLValue f fd)
    (D19 : ∃ f fd, DefF K "_law_event" sLEvent f fd)
    (D20 : ∃ f fd, DefF K "_law_rows" sLRows f fd)
    (D21 : ∃ f fd, DefF K "_law_word" sLWord f fd)
    (D22 : ∃ f fd, DefF K "_law_words" sLWords f fd)
    (D23 : ∃ f fd, DefF K "_law_same" sLSame f fd)
    (D24 : ∃ f fd, DefF K "_law_lists_of" sLLists f fd)
    (D25 : ∃ f fd, DefF K "_law_bad_record" sLBad f fd)
    (D26 : ∃ f fd, DefF K "_law_first_message" sLFirstMsg f fd)
    (D27 : ∃ f fd, DefF K "_law_first_stuck" sLFirstStuck f fd)
    (D28 : ∃ f fd, DefF K "_law_turned" sLTurned f fd)
    (D29 : ∃ f fd, DefF K "_law_ring" sLRing f fd)
    (D30 : ∃ f fd, DefF K "law" sLaw f fd)
    (aQ : PySem.W.nsIn K mainGlobals "Record" = some (some (.ref CQ))) (pgQ : PySem.W.plainGet K CQ Str.empty = true) (hdQ : PySem.W.hasDictIn K CQ = true) (poQ : PySem.W.plainOver K CQ = true) (saQ : PySem.W.findIn K (.ref CQ) "__setattr__" = some (some (.builtin "object.__setattr__"))) (mkQ : PySem.W.makesIn K CQ = true) (kcQ : PySem.W.keepIn K (.ref CQ) = true) (nQ0 : PySem.W.findIn K (.ref CQ) "rows" = some none) (nQ1 : PySem.W.findIn K (.ref CQ) "histories" = some none) (nQ2 : PySem.W.findIn K (.ref CQ) "messages" = some none) (nQ3 : PySem.W.findIn K (.ref CQ) "partners" = some none)
    (MQ0 : ∃ f fd, MetF K CQ "__init__" "Record.__init__" sRInit f fd)
    (SH : ∃ a, PySem.W.nsIn K mainGlobals "SHAPES" = some (some (.ref a)) ∧ KTab K w a shapeL)
    (U0 : ∃ a, PySem.W.nsIn K mainGlobals "RESERVED" = some (some (.ref a)) ∧ KTup K a (reservedL.map V.str))
    (U1 : ∃ a, PySem.W.nsIn K mainGlobals "RECEIVING" = some (some (.ref a)) ∧ KTup K a ((["receive", "take"] : List Str).map V.str))
    {tl0 : Tok} (I0 : PySem.W.nsIn K mainGlobals "LETTERS" = some (some (.str lettersS tl0)))
    {tl1 : Tok} (I1 : PySem.W.nsIn K mainGlobals "NAME_LENGTH" = some (some (.int (8) tl1)))
    {tl2 : Tok} (I2 : PySem.W.nsIn K mainGlobals "TOO_LARGE" = some (some (.int (1000000000000000000000000000000) tl2)))
    {tl3 : Tok} (I3 : PySem.W.nsIn K mainGlobals "MOST_PROCESSES" = some (some (.int (40) tl3)))
    (z0 : PySem.W.nsIn K mainGlobals "len" = some none)
    (z1 : PySem.W.nsIn K mainGlobals "isinstance" = some none)
    (z2 : PySem.W.nsIn K mainGlobals "all" = some none)
    (z3 : PySem.W.nsIn K mainGlobals "int" = some none)
    (z4 : PySem.W.nsIn K mainGlobals "str" = some none)
    (z5 : PySem.W.nsIn K mainGlobals "bool" = some none)
    (z6 : PySem.W.nsIn K mainGlobals "abs" = some none)
    (z7 : PySem.W.nsIn K mainGlobals "tuple" = some none)
    (z8 : PySem.W.nsIn K mainGlobals "list" = some none)
    (z9 : PySem.W.nsIn K mainGlobals "enumerate" = some none)
    (z10 : PySem.W.nsIn K mainGlobals "zip" = some none)
    (z11 : PySem.W.nsIn K mainGlobals "range" = some none)
    (z12 : PySem.W.nsIn K mainGlobals "ValueError" = some none)
    (z13 : PySem.W.nsIn K mainGlobals "min" = some none)
    (z14 : PySem.W.nsIn K mainGlobals "max" = some none)
    (aR : PySem.W.nsIn K mainGlobals "RerunError" = some (some (.ref R))) (xR : K.lookup R = some (excClassObj "RerunError" "RerunError" R NR bsR veT true snR subR abR colR ddR r0 r1 r2 r3 r5 "ValueError.__new__"))
    (sp : PySem.W.nsIn K mainGlobals "super" = some none) (opq : PySem.W.nsIn K cStatics "thirdparty.any" = some none) (ht : (l.prog.main.scope.names.lookup ("super" : Str)).isSome = false) (hn : PySem.W.specialIn K (.builtin "object.__class__") "__get__" = some (some (.builtin "getset_descriptor.__get__"))) (htk : PySem.W.takesIn K (.builtin "object.__class__") = some true)
    (E0 : ∃ (C f cda cc : Addr) (fd : FuncData), ClsF l.prog K "BadRecord" "BadRecord.__init__" sBadRecord R C f cda cc fd ["reason", "name", "number"])
    (E1 : ∃ (C f cda cc : Addr) (fd : FuncData), ClsF l.prog K "BadEvent" "BadEvent.__init__" sBadEvent R C f cda cc fd ["event"])
    : ∃ fd : FuncData, (∀ (s : Shared) (v : Value), BindsTo s fd ⟨[v], []⟩ [("_law_script", v)]) ∧ ∀ base : Heap, K.In base → base.Ns mainGlobals mg → FnG l.prog w K mg base 10 fa fd ["_law_script"] (spLaw K) := by
  obtain ⟨f0, fd0, D0⟩ := D0
  have b0 := D0.fn.binds (ps := ["thing"]) fun _ _ _ _ _ _ us hl => match us, hl with | [_], _ => rfl
  obtain ⟨f1, fd1, D1⟩ := D1
  have b1 := D1.fn.binds (ps := ["thing"]) fun _ _ _ _ _ _ us hl => match us, hl with | [_], _ => rfl
  obtain ⟨f2, fd2, D2⟩ := D2
  have b2 := D2.fn.binds (ps := ["thing"]) fun _ _ _ _ _ _ us hl => match us, hl with | [_], _ => rfl
  obtain ⟨f3, fd3, D3⟩ := D3
  have b3 := D3.fn.binds (ps := ["thing"]) fun _ _ _ _ _ _ us hl => match us, hl with | [_], _ => rfl
  obtain ⟨f4, fd4, D4⟩ := D4
  have b4 := D4.fn.binds (ps := ["rows"]) fun _ _ _ _ _ _ us hl => match us, hl with | [_], _ => rfl
  obtain ⟨f5, fd5, D5⟩ := D5
  have b5 := D5.fn.binds (ps := ["row"]) fun _ _ _ _ _ _ us hl => match us, hl with | [_], _ => rfl
  obtain ⟨f6, fd6, D6⟩ := D6
  have b6 := D6.fn.binds (ps := ["rows"]) fun _ _ _ _ _ _ us hl => match us, hl with | [_], _ => rfl
  obtain ⟨f7, fd7, D7⟩ := D7
  have b7 := D7.fn.binds (ps := ["event", "others"]) fun _ _ _ _ _ _ us hl => match us, hl with | [_, _], _ => rfl
  obtain ⟨f8, fd8, D8⟩ := D8
  have b8 := D8.fn.binds (ps := ["kind", "part", "others"]) fun _ _ _ _ _ _ us hl => match us, hl with | [_, _, _], _ => rfl
  obtain ⟨f9, fd9, D9⟩ := D9
  have b9 := D9.fn.binds (ps := ["rows"]) fun _ _ _ _ _ _ us hl => match us, hl with | [_], _ => rfl
  obtain ⟨f10, fd10, D10⟩ := D10
  have b10 := D10.fn.binds (ps := ["rows"]) fun _ _ _ _ _ _ us hl => match us, hl with | [_], _ => rfl
  obtain ⟨f11, fd11, D11⟩ := D11
  have b11 := D11.fn.binds (ps := ["messages"]) fun _ _ _ _ _ _ us hl => match us, hl with | [_], _ => rfl
  obtain ⟨f12, fd12, D12⟩ := D12
  have b12 := D12.fn.binds (ps := ["histories", "messages"]) fun _ _ _ _ _ _ us hl => match us, hl with | [_, _], _ => rfl
  obtain ⟨f13, fd13, D13⟩ := D13
  have b13 := D13.fn.binds (ps := ["pairs"]) fun _ _ _ _ _ _ us hl => match us, hl with | [_], _ => rfl
  obtain ⟨f14, fd14, D14⟩ := D14
  have b14 := D14.fn.binds (ps := ["histories", "causes"]) fun _ _ _ _ _ _ us hl => match us, hl with | [_, _], _ => rfl
  obtain ⟨f15, fd15, D15⟩ := D15
  have b15 := D15.fn.binds (ps := ["events", "executed"]) fun _ _ _ _ _ _ us hl => match us, hl with | [_, _], _ => rfl
  obtain ⟨f16, fd16, D16⟩ := D16
  have b16 := D16.fn.binds (ps := ["histories", "events"]) fun _ _ _ _ _ _ us hl => match us, hl with | [_, _], _ => rfl
  obtain ⟨f17, fd17, D17⟩ := D17
  have b17 := D17.fn.binds (ps := ["_law_stream", "_law_many"]) fun _ _ _ _ _ _ us hl => match us, hl with | [_, _], _ => rfl
  obtain ⟨f18, fd18, D18⟩ := D18
  have b18 := D18.fn.binds (ps := ["_law_stream"]) fun _ _ _ _ _ _ us hl => match us, hl with | [_], _ => rfl
  obtain ⟨f19, fd19, D19⟩ := D19
  have b19 := D19.fn.binds (ps := ["_law_stream", "_law_names", "_law_at", "_law_queues"]) fun _ _ _ _ _ _ us hl => match us, hl with | [_, _, _, _], _ => rfl
  obtain ⟨f20, fd20, D20⟩ := D20
  have b20 := D20.fn.binds (ps := ["_law_stream", "_law_names", "_law_many"]) fun _ _ _ _ _ _ us hl => match us, hl with | [_, _, _], _ => rfl
  obtain ⟨f21, fd21, D21⟩ := D21
  have b21 := D21.fn.binds (ps := ["_law_stream"]) fun _ _ _ _ _ _ us hl => match us, hl with | [_], _ => rfl
  obtain ⟨f22, fd22, D22⟩ := D22
  have b22 := D22.fn.binds (ps := ["_law_stream", "_law_many"]) fun _ _ _ _ _ _ us hl => match us, hl with | [_, _], _ => rfl
  obtain ⟨f23, fd23, D23⟩ := D23
  have b23 := D23.fn.binds (ps := ["_law_found", "_law_due"]) fun _ _ _ _ _ _ us hl => match us, hl with | [_, _], _ => rfl
  obtain ⟨f24, fd24, D24⟩ := D24
  have b24 := D24.fn.binds (ps := ["_law_thing"]) fun _ _ _ _ _ _ us hl => match us, hl with | [_], _ => rfl
  obtain ⟨f25, fd25, D25⟩ := D25
  have b25 := D25.fn.binds (ps := ["_law_rows_here"]) fun _ _ _ _ _ _ us hl => match us, hl with | [_], _ => rfl
  obtain ⟨f26, fd26, D26⟩ := D26
  have b26 := D26.fn.binds (ps := ["_law_rows_here"]) fun _ _ _ _ _ _ us hl => match us, hl with | [_], _ => rfl
  obtain ⟨f27, fd27, D27⟩ := D27
  have b27 := D27.fn.binds (ps := ["_law_rows_here"]) fun _ _ _ _ _ _ us hl => match us, hl with | [_], _ => rfl
  obtain ⟨f28, fd28, D28⟩ := D28
  have b28 := D28.fn.binds (ps := ["_law_stream", "_law_events"]) fun _ _ _ _ _ _ us hl => match us, hl with | [_, _], _ => rfl
  obtain ⟨f29, fd29, D29⟩ := D29
  have b29 := D29.fn.binds (ps := ["_law_stream", "_law_names"]) fun _ _ _ _ _ _ us hl => match us, hl with | [_, _], _ => rfl
  obtain ⟨f30, fd30, D30⟩ := D30
  obtain ⟨gQ0, gdQ0, MQ0⟩ := MQ0
  have cQ0 := MQ0.fn.binds (ps := ["self", "rows"]) fun _ _ _ _ _ _ us hl => match us, hl with | [_, _], _ => rfl
  have TG : TxtRc K CQ := ⟨⟨pgQ, hdQ, poQ, saQ⟩, nQ0, nQ1, nQ2, nQ3⟩
  obtain ⟨u0, U0, V0⟩ := U0
  obtain ⟨u1, U1, V1⟩ := U1
  obtain ⟨aSH, SH, VSH⟩ := SH
  have SHt : ∃ a, mg "SHAPES" = some (.ref a) ∧ KTab K w a shapeL := ⟨aSH, PySem.W.mg_of X G SH, VSH⟩
  obtain ⟨CBadRecord, fIBadRecord, caBadRecord, ccBadRecord, fdBadRecord, E0⟩ := E0
  obtain ⟨CBadEvent, fIBadEvent, caBadEvent, ccBadEvent, fdBadEvent, E1⟩ := E1
  have hR : ClsAt K "RerunError" R veT := ⟨NR, bsR, snR, subR, abR, colR, ddR, r0, r1, r2, r3, r5, xR⟩
  have e := hfa.symm.trans (PySem.W.mg_of X G D30.at_)
  cases e
  have TBi : TxtB mg := ⟨PySem.W.mg_none_of X G z0, PySem.W.mg_none_of X G z7, PySem.W.mg_none_of X G z8, PySem.W.mg_none_of X G z1⟩
  refine ⟨fd30, ?_, fun base _ _ => ?_⟩
  · obtain ⟨oc, od, kV, doc, pm, an, cdv, ct, osl, rfl, _, _⟩ := D30.fn.ex
    exact fun s v => .of_eq rfl
  have CFZ : Cal l.prog w K mg base 1 "frozen" f3 fd3 ["thing"] (spFrozen K) := ⟨ok_frozen D3.fn TBi, PySem.W.mg_of X G D3.at_, D3.fn.kp, b3⟩
  have okBadRecord_ := okBadRecord (P := l.prog) (w := w) (base := base) E0.fn (E0.supC sp opq ht) CFZ E0.no
  have TRBadRecord : RaiT l.prog w K mg base "BadRecord" CBadRecord ["reason", "name", "number"] := E0.raiT X G okBadRecord_ (biBadRecord E0.fn)
  have TEBadRecord : ErrT l.prog w K mg base "BadRecord" CBadRecord ["reason", "name", "number"] := E0.errT X G okBadRecord_ (bpBadRecord E0.fn) (bkBadRecord E0.fn)
  have okBadEvent_ := okBadEvent (P := l.prog) (w := w) (base := base) E1.fn (E1.supC sp opq ht) CFZ E1.no
  have TRBadEvent : RaiT l.prog w K mg base "BadEvent" CBadEvent ["event"] := E1.raiT X G okBadEvent_ (biBadEvent E1.fn)
  have TEBadEvent : ErrT l.prog w K mg base "BadEvent" CBadEvent ["event"] := E1.errT X G okBadEvent_ (bpBadEvent E1.fn) (bkBadEvent E1.fn)
  have hbig : bigZ = 1000000000000000000000000000000 := by decide +kernel
  have TN : TxtN K mg := ⟨⟨_, PySem.W.mg_of X G I0⟩, ⟨_, PySem.W.mg_of X G I1⟩, ⟨u0, PySem.W.mg_of X G U0, V0⟩, ⟨_, by rw [hbig]; exact PySem.W.mg_of X G I2⟩, PySem.W.mg_none_of X G z0, PySem.W.mg_none_of X G z1, PySem.W.mg_none_of X G z2, PySem.W.mg_none_of X G z3, PySem.W.mg_none_of X G z4, PySem.W.mg_none_of X G z5, PySem.W.mg_none_of X G z7, PySem.W.mg_none_of X G z6⟩
  have CFN : Cal l.prog w K mg base 1 "frozen" f3 fd3 ["thing"] (spFrozenN K 5000) := ⟨ok_frozenN 5000 (by decide +kernel) D3.fn TBi, PySem.W.mg_of X G D3.at_, D3.fn.kp, b3⟩
  have CIN : Cal l.prog w K mg base 1 "is_name" f0 fd0 ["thing"] (spTestD K isNameD) := ⟨ok_isNameD D0.fn TN, PySem.W.mg_of X G D0.at_, D0.fn.kp, b0⟩
  have CII : Cal l.prog w K mg base 1 "is_integer" f1 fd1 ["thing"] (spTestD K isIntegerD) := ⟨ok_isInteger D1.fn TN, PySem.W.mg_of X G D1.at_, D1.fn.kp, b1⟩
  have CIV : Cal l.prog w K mg base 2 "is_value" f2 fd2 ["thing"] (spTestD K isValueD) := ⟨ok_isValue D2.fn TN CII, PySem.W.mg_of X G D2.at_, D2.fn.kp, b2⟩
  have CIR : Cal l.prog w K mg base 2 "is_row" f5 fd5 ["row"] (spTestG K isRowD) := ⟨ok_isRow D5.fn TN CIN, PySem.W.mg_of X G D5.at_, D5.fn.kp, b5⟩
  have CFI : Cal l.prog w K mg base 3 "fits_in" f8 fd8 ["kind", "part", "others"] (spFits K) := ⟨ok_fitsIn D8.fn TN CIN CIV, PySem.W.mg_of X G D8.at_, D8.fn.kp, b8⟩
  have CHS : Cal l.prog w K mg base 4 "has_shape" f7 fd7 ["event", "others"] (spHas K) := ⟨ok_hasShape D7.fn TN (PySem.W.mg_none_of X G z10) SHt CFI, PySem.W.mg_of X G D7.at_, D7.fn.kp, b7⟩
  have CKR : CalY l.prog w K mg base 4 "check_rows" f4 fd4 ["rows"] (spCheckR K CBadRecord) := ⟨ok_checkRows D4.fn (PySem.W.mg_none_of X G z9) (PySem.W.mg_of X G I3) TRBadRecord CIR, PySem.W.mg_of X G D4.at_, D4.fn.kp, b4⟩
  have CKE : CalY l.prog w K mg base 5 "check_events" f6 fd6 ["rows"] (spCheckE K CBadRecord) := ⟨ok_checkEvents D6.fn (PySem.W.mg_none_of X G z9) TRBadRecord CHS, PySem.W.mg_of X G D6.at_, D6.fn.kp, b6⟩
  have CSB : Cal l.prog w K mg base 1 "sends_by_channel" f10 fd10 ["rows"] (spSends K) := ⟨ok_sendsBy D10.fn (PySem.W.mg_none_of X G z9), PySem.W.mg_of X G D10.at_, D10.fn.kp, b10⟩
  have CMM : CalY l.prog w K mg base 4 "matched_messages" f9 fd9 ["rows"] (spMatched K CBadRecord) := ⟨ok_matched D9.fn (PySem.W.mg_none_of X G z9) (PySem.W.mg_none_of X G z0) (PySem.W.mg_none_of X G z7) ⟨u1, PySem.W.mg_of X G U1, V1⟩ TRBadRecord CSB, PySem.W.mg_of X G D9.at_, D9.fn.kp, b9⟩
  have CPB : Cal l.prog w K mg base 1 "partners_by_event" f11 fd11 ["messages"] (spPartners K) := ⟨ok_partnersBy D11.fn, PySem.W.mg_of X G D11.at_, D11.fn.kp, b11⟩
  have CCB : Cal l.prog w K mg base 1 "causes_by_event" f13 fd13 ["pairs"] (spCauses K) := ⟨ok_causesBy D13.fn, PySem.W.mg_of X G D13.at_, D13.fn.kp, b13⟩
  have CLK : Cal l.prog w K mg base 1 "lacking" f15 fd15 ["events", "executed"] (spLacking K) := ⟨ok_lacking D15.fn, PySem.W.mg_of X G D15.at_, D15.fn.kp, b15⟩
  have CEX : Cal l.prog w K mg base 2 "execution" f14 fd14 ["histories", "causes"] (spExecution K) := ⟨ok_execution D14.fn (PySem.W.mg_none_of X G z0) CLK, PySem.W.mg_of X G D14.at_, D14.fn.kp, b14⟩
  have CNR : Cal l.prog w K mg base 1 "numbers_reached" f16 fd16 ["histories", "events"] (spReached K) := ⟨ok_reached D16.fn, PySem.W.mg_of X G D16.at_, D16.fn.kp, b16⟩
  have CCO : CalY l.prog w K mg base 4 "check_order" f12 fd12 ["histories", "messages"] (spOrder K CBadRecord) := ⟨ok_checkOrder D12.fn (PySem.W.mg_none_of X G z0) TRBadRecord CCB CEX CNR, PySem.W.mg_of X G D12.at_, D12.fn.kp, b12⟩
  have GRI := ok_rinit (P := l.prog) (w := w) (mg := mg) (base := base) MQ0.fn TG (PySem.W.mg_none_of X G z8) CFN CKR CKE CMM CCO CPB
  have MKQ : Mk K CQ gQ0 := ⟨mkQ, MQ0.me.at_, MQ0.me.fn, kcQ⟩
  have CD : Cal l.prog w K mg base 1 "_law_draw" f17 fd17 ["_law_stream", "_law_many"] spDraw := ⟨ok_draw D17.fn, PySem.W.mg_of X G D17.at_, D17.fn.kp, b17⟩
  have CV : Cal l.prog w K mg base 2 "_law_value" f18 fd18 ["_law_stream"] spValue := ⟨ok_lvalue D18.fn CD, PySem.W.mg_of X G D18.at_, D18.fn.kp, b18⟩
  have CE : Cal l.prog w K mg base 3 "_law_event" f19 fd19 ["_law_stream", "_law_names", "_law_at", "_law_queues"] (spEvent K) := ⟨ok_levent D19.fn (PySem.W.mg_none_of X G z0) CD CV, PySem.W.mg_of X G D19.at_, D19.fn.kp, b19⟩
  have CR : Cal l.prog w K mg base 4 "_law_rows" f20 fd20 ["_law_stream", "_law_names", "_law_many"] (spRowsL K) := ⟨ok_lrows D20.fn (PySem.W.mg_none_of X G z0) (PySem.W.mg_none_of X G z7) (PySem.W.mg_none_of X G z11) CD CE, PySem.W.mg_of X G D20.at_, D20.fn.kp, b20⟩
  have CW1 : Cal l.prog w K mg base 2 "_law_word" f21 fd21 ["_law_stream"] spWordQ := ⟨ok_lwordQ D21.fn (PySem.W.mg_none_of X G z11) CD, PySem.W.mg_of X G D21.at_, D21.fn.kp, b21⟩
  have CW : Cal l.prog w K mg base 3 "_law_words" f22 fd22 ["_law_stream", "_law_many"] spWords := ⟨ok_lwords D22.fn (PySem.W.mg_none_of X G z11) CW1, PySem.W.mg_of X G D22.at_, D22.fn.kp, b22⟩
  have CS := fun n => ok_lsame (P := l.prog) (w := w) (base := base) D23.fn (PySem.W.mg_none_of X G z1) (PySem.W.mg_none_of X G z0) (PySem.W.mg_none_of X G z2) (PySem.W.mg_none_of X G z10) (PySem.W.mg_none_of X G z8) (PySem.W.mg_none_of X G z7) (PySem.W.mg_none_of X G z3) (PySem.W.mg_none_of X G z5) (PySem.W.mg_of X G D23.at_) b23 n
  have CLO := fun n => ok_lists (P := l.prog) (w := w) (base := base) D24.fn (PySem.W.mg_none_of X G z1) (PySem.W.mg_none_of X G z8) (PySem.W.mg_none_of X G z7) (PySem.W.mg_of X G D24.at_) b24 n
  have CBR : Cal l.prog w K mg base 8 "_law_bad_record" f25 fd25 ["_law_rows_here"] (spBad K) := ⟨ok_lbad D25.fn (PySem.W.mg_none_of X G z1) (PySem.W.mg_of X G aR) (PySem.W.mg_none_of X G z12) (PySem.W.mg_of X G E1.aC) TRBadRecord TEBadRecord ⟨hn, htk⟩ (E0.kitR hR) E0.kitV (E0.kitN E1 hR (by decide) (by decide)) MKQ (PySem.W.mg_of X G aQ) GRI cQ0, PySem.W.mg_of X G D25.at_, D25.fn.kp, b25⟩
  have CFM : Cal l.prog w K mg base 1 "_law_first_message" f26 fd26 ["_law_rows_here"] (spFstMsg K) := ⟨ok_fstmsg D26.fn (PySem.W.mg_none_of X G z0) (PySem.W.mg_none_of X G z11), PySem.W.mg_of X G D26.at_, D26.fn.kp, b26⟩
  have CFK : Cal l.prog w K mg base 1 "_law_first_stuck" f27 fd27 ["_law_rows_here"] (spFstStk K) := ⟨ok_fststk D27.fn (PySem.W.mg_none_of X G z0) (PySem.W.mg_none_of X G z11), PySem.W.mg_of X G D27.at_, D27.fn.kp, b27⟩
  have CTU : Cal l.prog w K mg base 2 "_law_turned" f28 fd28 ["_law_stream", "_law_events"] (spTurned K) := ⟨ok_lturned D28.fn (PySem.W.mg_none_of X G z0) (PySem.W.mg_none_of X G z13) (PySem.W.mg_none_of X G z14) (PySem.W.mg_none_of X G z3) CD, PySem.W.mg_of X G D28.at_, D28.fn.kp, b28⟩
  have CRG : Cal l.prog w K mg base 2 "_law_ring" f29 fd29 ["_law_stream", "_law_names"] (spRing K) := ⟨ok_lring D29.fn (PySem.W.mg_none_of X G z0) (PySem.W.mg_none_of X G z11) (PySem.W.mg_none_of X G z7) CD, PySem.W.mg_of X G D29.at_, D29.fn.kp, b29⟩
  exact ok_law D30.fn (PySem.W.mg_none_of X G z0) (PySem.W.mg_none_of X G z8) (PySem.W.mg_none_of X G z11) (PySem.W.mg_none_of X G z2) CD CW CR CRG CTU CFM CFK (CLO 4) CBR (CS 4)
end XE
set_option Elab.async false
set_option linter.all false
set_option maxRecDepth 100000
set_option maxHeartbeats 0
namespace XE
open PySem PySem.Spec PyProof.Rows L2 RZ Rx SX Rc
def hkA : List Addr := ([3, 2, 6, 21, 22, 23, 28, 35, 42, 49, 56, 66, 95, 123, 151, 154, 220, 231, 238, 243, 248, 255, 262, 269, 276, 283, 290, 295, 300, 305] : List Addr) ++ ([312, 319, 324, 329, 336, 341, 346, 351, 358, 363, 368, 373, 380, 385, 20, 27, 34, 41, 48, 55, 65, 94, 122, 150, 155, 156, 157, 158, 159, 160] : List Addr) ++ ([219, 230, 237, 242, 247, 254, 261, 268, 275, 282, 289, 294, 299, 304, 311, 318, 323, 328, 335, 340, 345, 350, 357, 362, 367, 372, 379, 384, 64, 67] : List Addr) ++ ([85, 92, 93, 113, 120, 121, 141, 148, 149, 172, 177, 184, 191, 196, 203, 210, 217, 218, 221, 222, 84, 73, 91, 112, 101, 119, 140, 129, 147, 171] : List Addr) ++ ([176, 183, 190, 195, 202, 209, 216] : List Addr)
def hkFn : List He.DefD := ([Hk.dn "is_name" sIsName, Hk.dn "is_integer" sIsInteger, Hk.dn "is_value" sIsValue, Hk.dn "frozen" sFrozen, Hk.dn "check_rows" sCheckRows, Hk.dn "is_row" sIsRow, Hk.dn "check_events" sCheckEvents, Hk.dn "has_shape" sHasShape, Hk.dn "fits_in" sFitsIn, Hk.dn "matched_messages" sMatched, Hk.dn "sends_by_channel" sSendsBy, Hk.dn "partners_by_event" sPartnersBy, Hk.dn "check_order" sCheckOrder, Hk.dn "causes_by_event" sCausesBy, Hk.dn "execution" sExecution, Hk.dn "lacking" sLacking, Hk.dn "numbers_reached" sReached, Hk.dn "_law_draw" sDraw, Hk.dn "_law_value" sLValue, Hk.dn "_law_event" sLEvent, Hk.dn "_law_rows" sLRows, Hk.dn "_law_word" sLWord, Hk.dn "_law_words" sLWords, Hk.dn "_law_same" sLSame, Hk.dn "_law_lists_of" sLLists, Hk.dn "_law_bad_record" sLBad, Hk.dn "_law_first_message" sLFirstMsg, Hk.dn "_law_first_stuck" sLFirstStuck, Hk.dn "_law_turned" sLTurned, Hk.dn "_law_ring" sLRing] : List He.DefD) ++ ([Hk.dn "law" sLaw, Hk.dm "Record" "__init__" "Record.__init__" sRInit] : List He.DefD)
def hkTs : List He.Tab := [(fun K => He.ga K "SHAPES", shapeL.map (·.1))]
def hkCs : List Hk.CsD := [⟨"BadRecord", "BadRecord.__init__", sBadRecord, ["reason", "name", "number"]⟩, ⟨"BadEvent", "BadEvent.__init__", sBadEvent, ["event"]⟩]
def hkBs (K : PySem.W.Frag) : List Bool := ([He.eqO (PySem.W.nsIn K mainGlobals "is_name") (some (some (.ref (He.ga K "is_name")))), He.eqO (PySem.W.nsIn K mainGlobals "is_integer") (some (some (.ref (He.ga K "is_integer")))), He.eqO (PySem.W.nsIn K mainGlobals "is_value") (some (some (.ref (He.ga K "is_value")))), He.eqO (PySem.W.nsIn K mainGlobals "frozen") (some (some (.ref (He.ga K "frozen")))), He.eqO (PySem.W.nsIn K mainGlobals "check_rows") (some (some (.ref (He.ga K "check_rows")))), He.eqO (PySem.W.nsIn K mainGlobals "is_row") (some (some (.ref (He.ga K "is_row")))), He.eqO (PySem.W.nsIn K mainGlobals "check_events") (some (some (.ref (He.ga K "check_events")))), He.eqO (PySem.W.nsIn K mainGlobals "has_shape") (some (some (.ref (He.ga K "has_shape")))), He.eqO (PySem.W.nsIn K mainGlobals "fits_in") (some (some (.ref (He.ga K "fits_in")))), He.eqO (PySem.W.nsIn K mainGlobals "matched_messages") (some (some (.ref (He.ga K "matched_messages")))), He.eqO (PySem.W.nsIn K mainGlobals "sends_by_channel") (some (some (.ref (He.ga K "sends_by_channel")))), He.eqO (PySem.W.nsIn K mainGlobals "partners_by_event") (some (some (.ref (He.ga K "partners_by_event")))), He.eqO (PySem.W.nsIn K mainGlobals "check_order") (some (some (.ref (He.ga K "check_order")))), He.eqO (PySem.W.nsIn K mainGlobals "causes_by_event") (some (some (.ref (He.ga K "causes_by_event")))), He.eqO (PySem.W.nsIn K mainGlobals "execution") (some (some (.ref (He.ga K "execution")))), He.eqO (PySem.W.nsIn K mainGlobals "lacking") (some (some (.ref (He.ga K "lacking")))), He.eqO (PySem.W.nsIn K mainGlobals "numbers_reached") (some (some (.ref (He.ga K "numbers_reached")))), He.eqO (PySem.W.nsIn K mainGlobals "_law_draw") (some (some (.ref (He.ga K "_law_draw")))), He.eqO (PySem.W.nsIn K mainGlobals "_law_value") (some (some (.ref (He.ga K "_law_value")))), He.eqO (PySem.W.nsIn K mainGlobals "_law_event") (some (some (.ref (He.ga K "_law_event")))), He.eqO (PySem.W.nsIn K mainGlobals "_law_rows") (some (some (.ref (He.ga K "_law_rows")))), He.eqO (PySem.W.nsIn K mainGlobals "_law_word") (some (some (.ref (He.ga K "_law_word")))), He.eqO (PySem.W.nsIn K mainGlobals "_law_words") (some (some (.ref (He.ga K "_law_words")))), He.eqO (PySem.W.nsIn K mainGlobals "_law_same") (some (some (.ref (He.ga K "_law_same")))), He.eqO (PySem.W.nsIn K mainGlobals "_law_lists_of") (some (some (.ref (He.ga K "_law_lists_of")))), He.eqO (PySem.W.nsIn K mainGlobals "_law_bad_record") (some (some (.ref (He.ga K "_law_bad_record")))), He.eqO (PySem.W.nsIn K mainGlobals "_law_first_message") (some (some (.ref (He.ga K "_law_first_message")))), He.eqO (PySem.W.nsIn K mainGlobals "_law_first_stuck") (some (some (.ref (He.ga K "_law_first_stuck")))), He.eqO (PySem.W.nsIn K mainGlobals "_law_turned") (some (some (.ref (He.ga K "_law_turned")))), He.eqO (PySem.W.nsIn K mainGlobals "_law_ring") (some (some (.ref (He.ga K "_law_ring"))))] : List Bool) ++ ([He.eqO (PySem.W.nsIn K mainGlobals "law") (some (some (.ref (He.ga K "law")))), He.eqO (PySem.W.nsIn K mainGlobals "Record") (some (some (.ref (He.ga K "Record")))), PySem.W.plainGet K (He.ga K "Record") Str.empty, PySem.W.hasDictIn K (He.ga K "Record"), PySem.W.plainOver K (He.ga K "Record"), Hk.isB K (He.ga K "Record") "__setattr__" (some (.builtin "object.__setattr__")), PySem.W.makesIn K (He.ga K "Record"), PySem.W.keepIn K (.ref (He.ga K "Record")), Hk.isB K (He.ga K "Record") "rows" none, Hk.isB K (He.ga K "Record") "histories" none, Hk.isB K (He.ga K "Record") "messages" none, Hk.isB K (He.ga K "Record") "partners" none, Hk.isB K (He.ga K "Record") "__init__" (some (.ref (He.ma K (He.ga K "Record") "__init__"))), PySem.W.isFn K (.ref (He.ma K (He.ga K "Record") "__init__")), PySem.W.keepIn K (.ref (He.ma K (He.ga K "Record") "__init__")), He.eqO (PySem.W.nsIn K mainGlobals "SHAPES") (some (some (.ref (He.ga K "SHAPES")))), Hk.tabB K (He.ga K "SHAPES") shapeL, He.eqO (PySem.W.nsIn K mainGlobals "RESERVED") (some (some (.ref (He.ga K "RESERVED")))), Hk.ktB K (He.ga K "RESERVED") (reservedL.map V.str), He.eqO (PySem.W.nsIn K mainGlobals "RECEIVING") (some (some (.ref (He.ga K "RECEIVING")))), Hk.ktB K (He.ga K "RECEIVING") ((["receive", "take"] : List Str).map V.str), Hk.litB K mainGlobals "LETTERS" (.str lettersS), Hk.litB K mainGlobals "NAME_LENGTH" (.int 8), Hk.litB K mainGlobals "TOO_LARGE" (.int 1000000000000000000000000000000), Hk.litB K mainGlobals "MOST_PROCESSES" (.int 40), He.eqO (PySem.W.nsIn K mainGlobals "len") (some none), He.eqO (PySem.W.nsIn K mainGlobals "isinstance") (some none), He.eqO (PySem.W.nsIn K mainGlobals "all") (some none), He.eqO (PySem.W.nsIn K mainGlobals "int") (some none), He.eqO (PySem.W.nsIn K mainGlobals "str") (some none)] : List Bool) ++ ([He.eqO (PySem.W.nsIn K mainGlobals "bool") (some none), He.eqO (PySem.W.nsIn K mainGlobals "abs") (some none), He.eqO (PySem.W.nsIn K mainGlobals "tuple") (some none), He.eqO (PySem.W.nsIn K mainGlobals "list") (some none), He.eqO (PySem.W.nsIn K mainGlobals "enumerate") (some none), He.eqO (PySem.W.nsIn K mainGlobals "zip") (some none), He.eqO (PySem.W.nsIn K mainGlobals "range") (some none), He.eqO (PySem.W.nsIn K mainGlobals "ValueError") (some none), He.eqO (PySem.W.nsIn K mainGlobals "min") (some none), He.eqO (PySem.W.nsIn K mainGlobals "max") (some none), He.eqO (PySem.W.nsIn K mainGlobals "RerunError") (some (some (.ref (He.ga K "RerunError")))), Hk.clB K (He.ga K "RerunError") "RerunError" veT, He.eqO (PySem.W.nsIn K mainGlobals "super") (some none), He.eqO (PySem.W.nsIn K cStatics "thirdparty.any") (some none), He.eqO (PySem.W.specialIn K (.builtin "object.__class__") "__get__") (some (some (.builtin "getset_descriptor.__get__"))), decide (PySem.W.takesIn K (.builtin "object.__class__") = some true)] : List Bool)
abbrev hkL : PySem.W.OpenLaw := PySem.Challenge.rw_rerunrein_k32_orders_refused
abbrev hkR : PySem.W.OpenRow := PySem.W.OpenLaw.row hkL
abbrev hkH : PySem.W.Hook := Hk.hook hkA hkFn hkTs hkCs hkBs hkL.prog.main.file
def hkO (s : PySem.W.SharedT) : Hk.Al := Hk.look hkA hkFn hkTs hkCs hkBs hkL.prog.main.file (HandSHeadRun.getT s)
def hkN : List PySem.Str := (["_wall", "LETTERS", "NAME_LENGTH", "TOO_LARGE", "MOST_PROCESSES", "RESERVED", "RECEIVING", "is_name", "is_integer", "is_value", "assigned", "frozen", "RerunError", "UnknownProcess", "BadRecord", "BadEvent", "SHAPES", "Record", "check_rows", "is_row", "check_events", "has_shape", "fits_in", "matched_messages", "sends_by_channel", "partners_by_event", "check_order", "causes_by_event", "execution", "lacking"] : List PySem.Str) ++ (["numbers_reached", "_law_draw", "_law_value", "_law_event", "_law_rows", "_law_word", "_law_words", "_law_same", "_law_lists_of", "_law_bad_record", "_law_first_message", "_law_first_stuck", "_law_turned", "_law_ring"] : List PySem.Str)
theorem hk_eq (s : PySem.W.SharedT) : hkO s = hkH.obs s.abs := Hk.look_eq (HandSHeadRun.getT_eq s)
theorem hk_no (w : World) : HandSHeadRun.RunEq hkR (PySem.W.view hkR.prog [48]) hkH hkO 20000 hkN (w.withFollow "special-get-raises" false) := by
  intro os
  kernel_rfl
theorem hk_yes (w : World) : HandSHeadRun.RunEq hkR (PySem.W.view hkR.prog [48]) hkH hkO 20000 hkN (w.withFollow "special-get-raises" true) := by
  intro os
  kernel_rfl
theorem hk_run : ∀ w : World, HandSHeadRun.RunEq hkR (PySem.W.view hkR.prog [48]) hkH hkO 20000 hkN w := PySem.W.byRow2 "special-get-raises" hk_no hk_yes
theorem hk_law {w : World} {K : PySem.W.Frag} {h : Heap} {mg : Str → Option Value} {fa : Addr} (KX : K.In h) (G : h.Ns mainGlobals mg) (hmg : mg "law" = some (.ref fa)) (c : Hk.ob hkFn hkTs hkCs hkBs hkL.prog.main.file K = Hk.va hkFn hkTs hkCs w) :
    ∃ fd : FuncData, (∀ (s : Shared) (v : Value), BindsTo s fd ⟨[v], []⟩ [("_law_script", v)]) ∧ ∀ base : Heap, K.In base → base.Ns mainGlobals mg → FnG hkL.prog w K mg base 10 fa fd ["_law_script"] (spLaw K) := by
  have hb := Hk.sB c
  have D0 : ∃ f fd, DefF K "is_name" sIsName f fd := by
    obtain ⟨fd, F⟩ := (Hk.sD c).def_ 0 (d := Hk.dn "is_name" sIsName) (by rfl)
    exact ⟨_, fd, (He.eqO_ok (Hk.nth hb 0 (by rfl))), He5.fun_of F⟩
  have D1 : ∃ f fd, DefF K "is_integer" sIsInteger f fd := by
    obtain ⟨fd, F⟩ := (Hk.sD c).def_ 1 (d := Hk.dn "is_integer" sIsInteger) (by rfl)
    exact ⟨_, fd, (He.eqO_ok (Hk.nth hb 1 (by rfl))), He5.fun_of F⟩
  have D2 : ∃ f fd, DefF K "is_value" sIsValue f fd := by
    obtain ⟨fd, F⟩ := (Hk.sD c).def_ 2 (d := Hk.dn "is_value" sIsValue) (by rfl)
    exact ⟨_, fd, (He.eqO_ok (Hk.nth hb 2 (by rfl))), He5.fun_of F⟩
  have D3 : ∃ f fd, DefF K "frozen" sFrozen f fd := by
    obtain ⟨fd, F⟩ := (Hk.sD c).def_ 3 (d := Hk.dn "frozen" sFrozen) (by rfl)
    exact ⟨_, fd, (He.eqO_ok (Hk.nth hb 3 (by rfl))), He5.fun_of F⟩
  have D4 : ∃ f fd, DefF K "check_rows" sCheckRows f fd := by
    obtain ⟨fd, F⟩ := (Hk.sD c).def_ 4 (d := Hk.dn "check_rows" sCheckRows) (by rfl)
    exact ⟨_, fd, (He.eqO_ok (Hk.nth hb 4 (by rfl))), He5.fun_of F⟩
  have D5 : ∃ f fd, DefF K "is_row" sIsRow f fd := by
    obtain ⟨fd, F⟩ := (Hk.sD c).def_ 5 (d := Hk.dn "is_row" sIsRow) (by rfl)
    exact ⟨_, fd, (He.eqO_ok (Hk.nth hb 5 (by rfl))), He5.fun_of F⟩
  have D6 : ∃ f fd, DefF K "check_events" sCheckEvents f fd := by
    obtain ⟨fd, F⟩ := (Hk.sD c).def_ 6 (d := Hk.dn "check_events" sCheckEvents) (by rfl)
    exact ⟨_, fd, (He.eqO_ok (Hk.nth hb 6 (by rfl))), He5.fun_of F⟩
  have D7 : ∃ f fd, DefF K "has_shape" sHasShape f fd := by
    obtain ⟨fd, F⟩ := (Hk.sD c).def_ 7 (d := Hk.dn "has_shape" sHasShape) (by rfl)
    exact ⟨_, fd, (He.eqO_ok (Hk.nth hb 7 (by rfl))), He5.fun_of F⟩
  have D8 : ∃ f fd, DefF K "fits_in" sFitsIn f fd := by
    obtain ⟨fd, F⟩ := (Hk.sD c).def_ 8 (d := Hk.dn "fits_in" sFitsIn) (by rfl)
    exact ⟨_, fd, (He.eqO_ok (Hk.nth hb 8 (by rfl))), He5.fun_of F⟩
  have D9 : ∃ f fd, DefF K "matched_messages" sMatched f fd := by
    obtain ⟨fd, F⟩ := (Hk.sD c).def_ 9 (d := Hk.dn "matched_messages" sMatched) (by rfl)
    exact ⟨_, fd, (He.eqO_ok (Hk.nth hb 9 (by rfl))), He5.fun_of F⟩
  have D10 : ∃ f fd, DefF K "sends_by_channel" sSendsBy f fd := by
    obtain ⟨fd, F⟩ := (Hk.sD c).def_ 10 (d := Hk.dn "sends_by_channel" sSendsBy) (by rfl)
    exact ⟨_, fd, (He.eqO_ok (Hk.nth hb 10 (by rfl))), He5.fun_of F⟩
  have D11 : ∃ f fd, DefF K "partners_by_event" sPartnersBy f fd := by
    obtain ⟨fd, F⟩ := (Hk.sD c).def_ 11 (d := Hk.dn "partners_by_event" sPartnersBy) (by rfl)
    exact ⟨_, fd, (He.eqO_ok (Hk.nth hb 11 (by rfl))), He5.fun_of F⟩
  have D12 : ∃ f fd, DefF K "check_order" sCheckOrder f fd := by
    obtain ⟨fd, F⟩ := (Hk.sD c).def_ 12 (d := Hk.dn "check_order" sCheckOrder) (by rfl)
    exact ⟨_, fd, (He.eqO_ok (Hk.nth hb 12 (by rfl))), He5.fun_of F⟩
  have D13 : ∃ f fd, DefF K "causes_by_event" sCausesBy f fd := by
    obtain ⟨fd, F⟩ := (Hk.sD c).def_ 13 (d := Hk.dn "causes_by_event" sCausesBy) (by rfl)
    exact ⟨_, fd, (He.eqO_ok (Hk.nth hb 13 (by rfl))), He5.fun_of F⟩
  have D14 : ∃ f fd, DefF K "execution" sExecution f fd := by
    obtain ⟨fd, F⟩ := (Hk.sD c).def_ 14 (d := Hk.dn "execution" sExecution) (by rfl)
    exact ⟨_, fd, (He.eqO_ok (Hk.nth hb 14 (by rfl))), He5.fun_of F⟩
  have D15 : ∃ f fd, DefF K "lacking" sLacking f fd := by
    obtain ⟨fd, F⟩ := (Hk.sD c).def_ 15 (d := Hk.dn "lacking" sLacking) (by rfl)
    exact ⟨_, fd, (He.eqO_ok (Hk.nth hb 15 (by rfl))), He5.fun_of F⟩
  have D16 : ∃ f fd, DefF K "numbers_reached" sReached f fd := by
    obtain ⟨fd, F⟩ := (Hk.sD c).def_ 16 (d := Hk.dn "numbers_reached" sReached) (by rfl)
    exact ⟨_, fd, (He.eqO_ok (Hk.nth hb 16 (by rfl))), He5.fun_of F⟩
  have D17 : ∃ f fd, DefF K "_law_draw" sDraw f fd := by
    obtain ⟨fd, F⟩ := (Hk.sD c).def_ 17 (d := Hk.dn "_law_draw" sDraw) (by rfl)
    exact ⟨_, fd, (He.eqO_ok (Hk.nth hb 17 (by rfl))), He5.fun_of F⟩
  have D18 : ∃ f fd, DefF K "_law_value" sLValue f fd := by
    obtain ⟨fd, F⟩ := (Hk.sD c).def_ 18 (d := Hk.dn "_law_value" sLValue) (by rfl)
    exact ⟨_, fd, (He.eqO_ok (Hk.nth hb 18 (by rfl))), He5.fun_of F⟩
  have D19 : ∃ f fd, DefF K "_law_event" sLEvent f fd := by
    obtain ⟨fd, F⟩ := (Hk.sD c).def_ 19 (d := Hk.dn "_law_event" sLEvent) (by rfl)
    exact ⟨_, fd, (He.eqO_ok (Hk.nth hb 19 (by rfl))), He5.fun_of F⟩
  have D20 : ∃ f fd, DefF K "_law_rows" sLRows f fd := by
    obtain ⟨fd, F⟩ := (Hk.sD c).def_ 20 (d := Hk.dn "_law_rows" sLRows) (by rfl)
    exact ⟨_, fd, (He.eqO_ok (Hk.nth hb 20 (by rfl))), He5.fun_of F⟩
  have D21 : ∃ f fd, DefF K "_law_word" sLWord f fd := by
    obtain ⟨fd, F⟩ := (Hk.sD c).def_ 21 (d := Hk.dn "_law_word" sLWord) (by rfl)
    exact ⟨_, fd, (He.eqO_ok (Hk.nth hb 21 (by rfl))), He5.fun_of F⟩
  have D22 : ∃ f fd, DefF K "_law_words" sLWords f fd := by
    obtain ⟨fd, F⟩ := (Hk.sD c).def_ 22 (d := Hk.dn "_law_words" sLWords) (by rfl)
    exact ⟨_, fd, (He.eqO_ok (Hk.nth hb 22 (by rfl))), He5.fun_of F⟩
  have D23 : ∃ f fd, DefF K "_law_same" sLSame f fd := by
    obtain ⟨fd, F⟩ := (Hk.sD c).def_ 23 (d := Hk.dn "_law_same" sLSame) (by rfl)
    exact ⟨_, fd, (He.eqO_ok (Hk.nth hb 23 (by rfl))), He5.fun_of F⟩
  have D24 : ∃ f fd, DefF K "_law_lists_of" sLLists f fd := by
    obtain ⟨fd, F⟩ := (Hk.sD c).def_ 24 (d := Hk.dn "_law_lists_of" sLLists) (by rfl)
    exact ⟨_, fd, (He.eqO_ok (Hk.nth hb 24 (by rfl))), He5.fun_of F⟩
  have D25 : ∃ f fd, DefF K "_law_bad_record" sLBad f fd := by
    obtain ⟨fd, F⟩ := (Hk.sD c).def_ 25 (d := Hk.dn "_law_bad_record" sLBad) (by rfl)
    exact ⟨_, fd, (He.eqO_ok (Hk.nth hb 25 (by rfl))), He5.fun_of F⟩
  have D26 : ∃ f fd, DefF K "_law_first_message" sLFirstMsg f fd := by
    obtain ⟨fd, F⟩ := (Hk.sD c).def_ 26 (d := Hk.dn "_law_first_message" sLFirstMsg) (by rfl)
    exact ⟨_, fd, (He.eqO_ok (Hk.nth hb 26 (by rfl))), He5.fun_of F⟩
  have D27 : ∃ f fd, DefF K "_law_first_stuck" sLFirstStuck f fd := by
    obtain ⟨fd, F⟩ := (Hk.sD c).def_ 27 (d := Hk.dn "_law_first_stuck" sLFirstStuck) (by rfl)
    exact ⟨_, fd, (He.eqO_ok (Hk.nth hb 27 (by rfl))), He5.fun_of F⟩
  have D28 : ∃ f fd, DefF K "_law_turned" sLTurned f fd := by
    obtain ⟨fd, F⟩ := (Hk.sD c).def_ 28 (d := Hk.dn "_law_turned" sLTurned) (by rfl)
    exact ⟨_, fd, (He.eqO_ok (Hk.nth hb 28 (by rfl))), He5.fun_of F⟩
  have D29 : ∃ f fd, DefF K "_law_ring" sLRing f fd := by
    obtain ⟨fd, F⟩ := (Hk.sD c).def_ 29 (d := Hk.dn "_law_ring" sLRing) (by rfl)
    exact ⟨_, fd, (He.eqO_ok (Hk.nth hb 29 (by rfl))), He5.fun_of F⟩
  have D30 : ∃ f fd, DefF K "law" sLaw f fd := by
    obtain ⟨fd, F⟩ := (Hk.sD c).def_ 30 (d := Hk.dn "law" sLaw) (by rfl)
    exact ⟨_, fd, (He.eqO_ok (Hk.nth hb 30 (by rfl))), He5.fun_of F⟩
  have MQ0 : ∃ f fd, MetF K (He.ga K "Record") "__init__" "Record.__init__" sRInit f fd := by
    obtain ⟨fd, F⟩ := (Hk.sD c).def_ 31 (d := Hk.dm "Record" "__init__" "Record.__init__" sRInit) (by rfl)
    exact ⟨_, fd, ⟨He.eqO_ok (Hk.nth hb 42 (by rfl)), (Hk.nth hb 43 (by rfl)), (Hk.nth hb 44 (by rfl))⟩, He5.fun_of F⟩
  obtain ⟨tl0, I0⟩ := Hk.str_of (Hk.nth hb 51 (by rfl))
  obtain ⟨tl1, I1⟩ := Hk.int_of (Hk.nth hb 52 (by rfl))
  obtain ⟨tl2, I2⟩ := Hk.int_of (Hk.nth hb 53 (by rfl))
  obtain ⟨tl3, I3⟩ := Hk.int_of (Hk.nth hb 54 (by rfl))
  obtain ⟨NR, bsR, snR, subR, abR, colR, ddR, r0, r1, r2, r3, r5, xR⟩ := Hk.cl_ok (Hk.nth hb 71 (by rfl))
  exact all_mk (l := hkL) KX G hmg D0 D1 D2 D3 D4 D5 D6 D7 D8 D9 D10 D11 D12 D13 D14 D15 D16 D17 D18 D19 D20 D21 D22 D23 D24 D25 D26 D27 D28 D29 D30 (He.eqO_ok (Hk.nth hb 31 (by rfl))) (Hk.nth hb 32 (by rfl)) (Hk.nth hb 33 (by rfl)) (Hk.nth hb 34 (by rfl)) (He.eqO_ok (Hk.nth hb 35 (by rfl))) (Hk.nth hb 36 (by rfl)) (Hk.nth hb 37 (by rfl)) (He.eqO_ok (Hk.nth hb 38 (by rfl))) (He.eqO_ok (Hk.nth hb 39 (by rfl))) (He.eqO_ok (Hk.nth hb 40 (by rfl))) (He.eqO_ok (Hk.nth hb 41 (by rfl))) MQ0 ⟨He.ga K "SHAPES", (He.eqO_ok (Hk.nth hb 45 (by rfl))), Hk.tab_ok (Hk.nth hb 46 (by rfl)) ((Hk.sT c).tab 0 (t := (fun K => He.ga K "SHAPES", shapeL.map (·.1))) (by rfl))⟩ ⟨_, (He.eqO_ok (Hk.nth hb 47 (by rfl))), Hk.kt_ok (Hk.nth hb 48 (by rfl))⟩ ⟨_, (He.eqO_ok (Hk.nth hb 49 (by rfl))), Hk.kt_ok (Hk.nth hb 50 (by rfl))⟩ I0 I1 I2 I3 (He.eqO_ok (Hk.nth hb 55 (by rfl))) (He.eqO_ok (Hk.nth hb 56 (by rfl))) (He.eqO_ok (Hk.nth hb 57 (by rfl))) (He.eqO_ok (Hk.nth hb 58 (by rfl))) (He.eqO_ok (Hk.nth hb 59 (by rfl))) (He.eqO_ok (Hk.nth hb 60 (by rfl))) (He.eqO_ok (Hk.nth hb 61 (by rfl))) (He.eqO_ok (Hk.nth hb 62 (by rfl))) (He.eqO_ok (Hk.nth hb 63 (by rfl))) (He.eqO_ok (Hk.nth hb 64 (by rfl))) (He.eqO_ok (Hk.nth hb 65 (by rfl))) (He.eqO_ok (Hk.nth hb 66 (by rfl))) (He.eqO_ok (Hk.nth hb 67 (by rfl))) (He.eqO_ok (Hk.nth hb 68 (by rfl))) (He.eqO_ok (Hk.nth hb 69 (by rfl))) (He.eqO_ok (Hk.nth hb 70 (by rfl))) xR (He.eqO_ok (Hk.nth hb 72 (by rfl))) (He.eqO_ok (Hk.nth hb 73 (by rfl))) (by rfl) (He.eqO_ok (Hk.nth hb 74 (by rfl))) (of_decide_eq_true (Hk.nth hb 75 (by rfl))) (Hk.sC c 0 (by rfl)) (Hk.sC c 1 (by rfl))
end XE
open PySem PySem.W PySem.Calls PyProof.Rows
theorem PySem.Challenge.cw_rerunrein_k32_orders_refused_holds : PySem.Challenge.rw_rerunrein_k32_orders_refused.Holds := by
  w_on; o_law
  refine HandSHeadRun.head_any (r := XE.hkR) (q := view XE.hkR.prog [48]) (H := XE.hkH) (ob := XE.hkO) (M := 20000) (loose := XE.hkN) (d := HandSHeadRun.topDef XE.hkR.prog 48) (kwd := []) XE.hk_eq
    (by kernel_rfl) (fun s => by kernel_rfl) XE.hk_run (by kernel_rfl) (by kernel_rfl) (by kernel_rfl) (by rfl) (by first | assumption | decide +kernel) (by decide +kernel) ⟨rfl, rfl, rfl, rfl, rfl, by decide +kernel⟩ ?hw ?hc
  case hw => w_witness2
  case hc =>
    refine Hk.walk_ofH (l := XE.hkL) (m := 63) (k := 10) (x := "_law_script") (sp := XE.spLaw) rfl (by decide) (by kernel_rfl) ⟨rfl, by decide, by decide⟩ ?F (fun K H a is _ _ hS => ⟨a, is, rfl, hS, fun _ => rfl⟩)
    intro w mg fa h Y G hm
    obtain ⟨K, KX, c⟩ := Y
    have e : (HandSHeadRun.topDef XE.hkR.prog 48).name = ("law" : PySem.Str) := by kernel_rfl
    rw [e] at hm
    exact ⟨K, KX, XE.hk_law KX G hm c⟩
