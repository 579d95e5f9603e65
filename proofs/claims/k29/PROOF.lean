import PyProof.Rows.All
import Wide.All
import OpenK.AllK
import Wide.FinOn
import KE.KExcSuper
import KE.KExcIs
import PyProof.ReprRoads
import HandS.ForMost
import HandS.ForExc
import HandS.ExcInit
import HandS.IsInst
import HandS.Defaults
import HandS.MakeKwOnly
import HandS.Codes
import HandS.StrMore
import HandS.Walk
import HandS.ExcField
import KE.GoesEnumKw
import PyProof.Rows.CallKwBuiltin
import HandS.SetKeys
import PyProof.DictFindH
import PyProof.DictRoadsH
import HandS.NoneIn
import PyProof.NeData
import HandS.TupAny
import HandS.Style
import KE.KRevSl
import HandS.Zip
import HandS.More
import HandS.Deep
import HandS.RaiseMore
import PyProof.StrBlock2
import HandS.Dict
import HandS.FStrTup
import PyProof.StrLawsRepr
import HandS.Text
import HandS.Wide
import HandS.DictComp
import HandS.ExcOwn
import HandS.ExcIs
import PySem.Challenge.RW_rerunrein_k29_rows_refused
set_option Elab.async false
set_option linter.all false
set_option maxRecDepth 100000
set_option maxHeartbeats 4000000
/-! Exceptions whose __init__ begins with super().__init__(), walked as defs -/
namespace Rx
open PySem PySem.Spec PyProof.Rows L2

section
variable {prog : Program} {w : World} {A : Around} {E : Value → Shared → Prop} {h : Heap} {g : Array GenState} {d : Drawn} {t : Nat} {os : OsState}
variable {nm q : Str} {C N : Addr} {bs bm : List Value} {hdct : Bool} {sn : List Str} {sub : List Value} {ab : Bool} {col : Option Bool} {dd : Option Addr} {k0 k1 k2 k3 k5 : Option Value}
/-- the built-in __init__, bound to an exception, called -/
theorem call_bwV {wr ex tt : Addr} {ar : List Value} {Q : Value → Shared → Prop}
    (hK : h.get? C = some (excClassObj nm q C N bs bm hdct sn sub ab col dd k0 k1 k2 k3 k5 "ValueError.__new__")) (hex : h.get? ex = some (HandSPX.excO C tt))
    (hw : h.get? wr = some (PySem.W.kxs_mw "ValueError.__init__" ex)) (hlen : ar.length ≤ sizeLine)
    (hz : ∀ h' t1, (∀ b o, b ≠ ex → h.get? b = some o → h'.get? b = some o) → h'.get? ex = some (HandSPX.excO C t1) → Q .none ⟨h', g, d, t, os⟩) :
    wpAny (model prog w) A (call (.ref wr) ar) Q E ⟨h, g, d, t, os⟩ := by
  refine wpAny_call (codeAny_of_tree ?_)
  show wpAny _ A.in1 (callAny (.ref wr) ⟨ar, []⟩) _ _ _
  simp only [callAny]
  refine wpAny_bind (wpAny_load hw ?_)
  simp only [PySem.W.kxs_mw, show (Value.type "method-wrapper" == Value.type "method" || Value.type "method-wrapper" == Value.type "builtin_function_or_method" || Value.type "method-wrapper" == Value.type "method-wrapper") = true by decide, if_true]
  refine W.KFB.if_so (by decide) ?_
  refine wpAny_bind (PySem.W.check_bound_init F.excBase_ValueError.toExcCallFacts hK hex rfl ?_)
  refine wpAny_bind (wpAny_pure (wpAny_pure ?_))
  refine ⟨Code.quiet_builtin _ (by decide +kernel), codeAny_builtin F.excBase_ValueError.initEntry ?_⟩
  rw [Around.under_plainId F.excBase_ValueError.init.plain _]
  wp_walk
  refine hz _ h.objs.size (fun b o hb ho => ?_) ?_
  · rw [Heap.get?_update_other _ _ (Ne.symm hb)]
    exact Heap.get?_push_of_some _ ho
  · rw [Heap.get?_update_self _ (Heap.get?_push_of_some _ hex) rfl]
    rfl
end

/-- the names of such a def: parameters local, one free name, __class__ -/
structure ScopeS (N ps : List Str) (sc : Scope) : Prop where
  kind : sc.kind = .function
  co : sc.isCoroutine = false
  gen : sc.isGenerator = false
  nd : N.Nodup
  pre : N.take ps.length = ps
  par : ∀ x ∈ ps, sc.names.lookup x = some .local
  nocell : ∀ y ∈ sc.names, y.2 ≠ .cell
  free1 : ∀ y ∈ sc.names, y.2 = .free → y.1 = "__class__"
  ks : sc.names.lookup ("super" : Str) = some .globalImplicit
  kc : sc.names.lookup ("__class__" : Str) = some .free

theorem lookup_mem {l : List (Str × Value)} : ∀ {y : Str} {u : Value}, (l.map (·.1)).Nodup → (y, u) ∈ l → l.lookup y = some u := by
  induction l with
  | nil => intro y u _ h; cases h
  | cons p l ih =>
    obtain ⟨a, b⟩ := p
    intro y u nd hm
    rw [List.map_cons, List.nodup_cons] at nd
    rcases List.mem_cons.mp hm with e | hm
    · cases e
      simp [List.lookup]
    · have hne : y ≠ a := fun e => nd.1 (List.mem_map.mpr ⟨(y, u), hm, e⟩)
      have hb : (y == a) = false := by simpa using hne
      simp [List.lookup, hb, ih nd.2 hm]
theorem lookup_rev {l : List (Str × Value)} {y : Str} {u : Value} (nd : (l.map (·.1)).Nodup) (hm : (y, u) ∈ l) : l.reverse.lookup y = some u :=
  lookup_mem (by rw [List.map_reverse]; exact (List.pairwise_reverse.mpr (List.Pairwise.imp (fun h => h.symm) nd))) (List.mem_reverse.mpr hm)
theorem zip_mem {ps : List Str} {us : List Value} {i : Nat} {y : Str} {u : Value} (h1 : ps[i]? = some y) (h2 : us[i]? = some u) : (y, u) ∈ ps.zip us := by
  have : (ps.zip us)[i]? = some (y, u) := by
    rw [List.getElem?_zip_eq_some]
    exact ⟨h1, h2⟩
  exact List.mem_of_getElem? this
theorem zip_nd : ∀ {ps : List Str} {us : List Value}, ps.Nodup → ((ps.zip us).map (·.1)).Nodup
  | [], _, _ => by simp
  | _ :: _, [], _ => by simp
  | a :: ps, b :: us, h => by
    rw [List.nodup_cons] at h
    rw [List.zip_cons_cons, List.map_cons, List.nodup_cons]
    refine ⟨fun q => h.1 ?_, zip_nd h.2⟩
    obtain ⟨⟨c, e⟩, hm, rfl⟩ := List.mem_map.mp q
    exact (List.of_mem_zip hm).1

/-- the context of such a body -/
def cxS (CX : CXT) (P : Program) (w : World) (K : PySem.W.Frag) (mg : Str → Option Value) (base : Heap) (N : List Str) (qual : Str) (scope : Scope) (f : Addr) (cd : Value) (cc : Addr) (A : Around) (outer : List Env) (s : Shared) (H : Hp) (E : XK) : Cx where
  prog := P
  w := w
  K := K
  mg := mg
  base := base
  A := A.deeper (PySem.W.ksEnv qual scope s.heap.objs.size f cd cc)
  N := N
  s_0 := s
  H_0 := H
  env := PySem.W.ksEnv qual scope s.heap.objs.size f cd cc
  outer := outer
  stack := PySem.W.ksEnv qual scope s.heap.objs.size f cd cc :: outer
  ex := []
  calm := true
  fn := fun _ => false
  pn := []
  xe := fun e s' => wpAny (model P w) (A.deeper (PySem.W.ksEnv qual scope s.heap.objs.size f cd cc)) (leaving (PySem.W.ksEnv qual scope s.heap.objs.size f cd cc) e) (fun _ s'' => CX outer H s E e s'') (fun e' s'' => CX outer H s E e' s'') s'

theorem inv_startS {CX : CXT} {P : Program} {w : World} {K : PySem.W.Frag} {mg : Str → Option Value} {base : Heap} {N ps : List Str} {qual : Str} {scope : Scope} {f : Addr} {cd : Value} {cc : Addr} {A : Around} {outer : List Env} {s : Shared} {H : Hp} {E : XK} {us : List Value} {vs : List V} {h1 : Heap} {tk : Nat} {D : Value} {cl : Value} {cld : Option Addr} {csl : Array (Option Value)}
    (S : ScopeS N ps scope) (hd : A.handled = none) (e0 : Env0 P w K mg base A outer s H) (hl : vs.length = ps.length) (r : Vals vs us) (hcell : K.lookup cc = some ⟨cl, cld, .cell (some D), csl⟩)
    (hns : h1.Ns s.heap.objs.size (fun nm => (ps.zip us).reverse.lookup nm)) (hk : ∀ b o, s.heap.get? b = some o → h1.get? b = some o) :
    Inv (cxS CX P w K mg base N qual scope f cd cc A outer s H E) [] (L2.start N vs) H { s with heap := h1, toks := tk } := by
  have hle : ps.length ≤ N.length := by have := congrArg List.length S.pre; rw [List.length_take] at this; omega
  have noX : ∀ b : Addr, b ∉ (cxS CX P w K mg base N qual scope f cd cc A outer s H E).ex := fun b z => absurd (show b ∈ ([] : List Addr) from z) (by simp)
  have hcb : base.get? cc = some ⟨cl, cld, .cell (some D), csl⟩ := e0.mod.kin _ _ hcell
  have one : ∀ {nm : Str} {c : Addr}, (cxS CX P w K mg base N qual scope f cd cc A outer s H E).env.cells.lookup nm = some c → nm = "__class__" ∧ c = cc := fun {nm c} q => by
    have q' : ([(("__class__" : Str), cc)] : List (Str × Addr)).lookup nm = some c := q
    rw [List.lookup] at q'
    split at q'
    · rename_i hnm
      cases q'
      exact ⟨by simpa using hnm, rfl⟩
    · cases q'
  refine ⟨⟨e0.mod, S.kind, rfl, rfl, Nat.le_refl _, fun nm z c h1 h2 => ?_, fun nm hnm => ?_, fun nm c z _ => absurd (show false = true from z) (by decide), fun _ => hd, Around.frames_deeper e0.frames, .inr ⟨rfl, rfl⟩, fun b z => absurd z (noX b), e0.bs, e0.bsz, fun b _ _ => noX b, fun b z => absurd z (noX b), e0.funs, e0.frf⟩,
    rfl, e0.bare, Un.kept hk, ⟨_, hns, fun i nm vv h1 h2 h3 => ?_⟩, fun nm c h => ?_, e0.hok.fresh (Nat.le_refl _), fun nm c h => ?_, fun p hpar => absurd (show p ∈ ([] : List (Addr × Obj)) from hpar) (by simp), e0.hok.kept hk, ?_⟩
  · rw [(one h1).1, (one h2).1]
  · have hnm : scope.names.lookup nm = some .cell ∨ scope.names.lookup nm = some .free := hnm
    rcases hnm with hnm | hnm
    · exact absurd rfl (S.nocell _ (PySem.mem_of_lookup hnm))
    · have e := S.free1 _ (PySem.mem_of_lookup hnm) rfl
      have e' : nm = "__class__" := e
      subst e'
      exact ⟨cc, rfl⟩
  · have hlt : i < vs.length := by
      unfold L2.start at h2
      by_cases hlt : i < vs.length
      · exact hlt
      · rw [List.getElem?_append_right (by simpa using hlt)] at h2
        rw [List.getElem?_replicate] at h2
        split at h2 <;> cases h2
    have hval : vs[i]? = some vv := by
      unfold L2.start at h2
      rw [List.getElem?_append_left (by simpa using hlt), List.getElem?_map] at h2
      cases e : vs[i]? with
      | none => rw [e] at h2; cases h2
      | some a => rw [e] at h2; cases h2; rfl
    obtain ⟨u, hus, rel⟩ := r.get hval
    have hpar : ps[i]? = some nm := by
      rw [← S.pre, List.getElem?_take_of_lt (by omega)]; exact h1
    have ndq : ps.Nodup := by rw [← S.pre]; exact S.nd.sublist (List.take_sublist _ _)
    exact ⟨u, rel, .inl ⟨S.par nm (List.mem_of_getElem? hpar), lookup_rev (zip_nd ndq) (zip_mem hpar hus)⟩⟩
  · obtain ⟨_, e⟩ := one h
    subst e
    exact ⟨_, _, hk _ _ (e0.bs _ _ hcb).1, rfl⟩
  · obtain ⟨_, e⟩ := one h
    subst e
    exact (e0.bs _ _ hcb).2
  · unfold L2.start
    show _ = N.length
    rw [List.length_append, List.length_map, List.length_replicate]
    omega

/-- what the written part says of the class and of its __init__ -/
structure SupC (P : Program) (K : PySem.W.Frag) (C cda cc : Addr) : Prop where
  oex : OexC K C
  code : ∃ (ccl : Value) (cdd : Option Addr) (vs : Array Value) (ccs : Array (Option Value)) (file : Str) (tf : Tok), K.lookup cda = some ⟨ccl, cdd, .fields vs, ccs⟩ ∧ vs[2]? = some (.str file tf) ∧ ((P.main.file : Str) == file) = true
  cell : ∃ (cl : Value) (cld : Option Addr) (csl : Array (Option Value)), K.lookup cc = some ⟨cl, cld, .cell (some (.ref C)), csl⟩
  sub : PySem.W.mroIn K C (.ref C) = some true
  sup : PySem.W.nsIn K mainGlobals "super" = some none
  opq : PySem.W.nsIn K cStatics "thirdparty.any" = some none
  ini : PySem.W.ks_superIn K C C "__init__" = some (some (.builtin "ValueError.__init__"))
  subB : PySem.W.subIn K (.ref C) (.type "ValueError") = some true
  htop : (P.main.scope.names.lookup ("super" : Str)).isSome = false

theorem fn_super {CX : CXT} {P : Program} {w : World} {K : PySem.W.Frag} {mg : Str → Option Value} {base : Heap} {k : Nat} {f C cda cc : Addr} {name qual : Str} {params : Arguments} {rest : List Stmt} {scope : Scope} {kV doc pm ct oc : Value} {an od : Option Addr}
    {osl : Array (Option Value)} {N ps : List Str} {sp : Sp} {p0 p1 p2 p3 p4 : Pos} {ar : Arg}
    (lk : K.lookup f = some ⟨oc, od, .func (PySem.W.ksFn name qual params (.Expr (.Call (.Attribute (.Call (.Name "super" p0) [] [] p1) "__init__" p2) [] [] p3) p4 :: rest) scope .none kV doc pm an (.ref cda) ct cc), osl⟩)
    (hcd : PySem.W.codeIn K (.ref cda) qual = true) (S : ScopeS N ps scope) (T : SupC P K C cda cc)
    (hp : (params.posonlyargs ++ params.args).head? = some ar) (hps : ps[0]? = some ar.arg)
    (len : ∀ vs H Q E, sp vs H Q E → vs.length = ps.length)
    (slf : ∀ vs H Q E, sp vs H Q E → ∃ a ws, vs = .ref a :: ws ∧ H a = some (exo a C none))
    (hbody : ∀ (A : Around) (outer : List Env) (s : Shared) (H : Hp) (vs : List V) (Q : VK) (E : XK), Room k (A.deeper (PySem.W.ksEnv qual scope s.heap.objs.size f (.ref cda) cc)) → sp vs H Q E →
      ∃ t, PSs (cxS CX P w K mg base N qual scope f (.ref cda) cc A outer s H E) rest t ∧ t { nx := fun _ H' => Q .non H', rt := Q } (L2.start N vs) H)
    (hi : ∀ L, interactive (PySem.W.ksEnv qual scope L f (.ref cda) cc) = false := by intro _; rfl)
    (hsw : ∀ L, swapsWith (.Call (.Attribute (.Call (.Name "super" p0) [] [] p1) "__init__" p2) [] [] p3) none p4.line (PySem.W.ksEnv qual scope L f (.ref cda) cc) = pure false := by intro _; rfl)
    (he : ∀ L, ∃ pl : Sem Bool, eval (.Call (.Attribute (.Call (.Name "super" p0) [] [] p1) "__init__" p2) [] [] p3) (PySem.W.ksEnv qual scope L f (.ref cda) cc) = (do
      let ov ← attributeBase (.Call (.Name "super" p0) [] [] p1) "__init__" (PySem.W.ksEnv qual scope L f (.ref cda) cc) (eval (.Call (.Name "super" p0) [] [] p1) (PySem.W.ksEnv qual scope L f (.ref cda) cc))
      standAt p2.atName
      let (fx, first) ← holding [ov] (getMethod ov "__init__" pl)
      callWith p3 fx first (backTo p3 (starEach [] (PySem.W.ksEnv qual scope L f (.ref cda) cc))) []) := by intro _; exact ⟨_, rfl⟩) :
    FnOk P w K mg base CX (k + 1) f (PySem.W.ksFn name qual params (.Expr (.Call (.Attribute (.Call (.Name "super" p0) [] [] p1) "__init__" p2) [] [] p3) p4 :: rest) scope .none kV doc pm an (.ref cda) ct cc) ps sp := by
  refine ⟨len, fun A outer s H args us vs Q E hr e0 hb r hsp => ?_⟩
  have hln := len _ _ _ _ hsp
  have KI : K.In s.heap := e0.mod.kin.keeps fun b o e => (e0.bs b o e).1
  have nolim : s.heap.NoLimit := e0.mod.nolimit.keeps fun b o e => (e0.bs b o e).1
  have hloc : ∀ y ∈ ps.zip us, scope.names.lookup y.1 = some .local := fun ⟨n, v⟩ hy => S.par n (List.of_mem_zip hy).1
  obtain ⟨cl, cld, csl, hcell⟩ := T.cell
  obtain ⟨ccl, cdd, cvs, ccs, file, tf, hcode, hvs, hfile⟩ := T.code
  obtain ⟨a, ws, rfl, ha⟩ := slf _ _ _ _ hsp
  obtain ⟨t, ht, hq⟩ := hbody A outer s H _ Q E (hr.deeper _) hsp
  refine ks_codeAny_call_defAt (fd := PySem.W.ksFn name qual params (.Expr (.Call (.Attribute (.Call (.Name "super" p0) [] [] p1) "__init__" p2) [] [] p3) p4 :: rest) scope .none kV doc pm an (.ref cda) ct cc) (binds := ps.zip us) hr.depth (KI _ _ lk) rfl nolim (PySem.W.codeRec_of KI hcd) rfl hb S.nocell hloc (fun h1 hns hk => ?_) S.co S.gen S.kind
  have I : Inv (cxS CX P w K mg base N qual scope f (.ref cda) cc A outer s H E) [] (L2.start N (.ref a :: ws)) H { s with heap := h1, toks := s.toks + (ps.zip us).length } := inv_startS (us := us) S hr.hd e0 hln r hcell hns hk
  have X1 : K.In h1 := I.kIn
  obtain ⟨nm, q, NN, bs, bm, sn, sub, ab, col, dd, k0, k1, k2, k3, k5, hC, hbm⟩ := T.oex.cls
  obtain ⟨t1, ho⟩ := exo_at I.hok ha
  obtain ⟨u0, hu0, ru0⟩ := r.get (i := 0) (x := .ref a) rfl
  cases (show u0 = Value.ref a from ru0)
  have hself : (ps.zip us).reverse.lookup ar.arg = some (Value.ref a) := lookup_rev (zip_nd (by rw [← S.pre]; exact S.nd.sublist (List.take_sublist _ _))) (zip_mem hps hu0)
  have hka : scope.names.lookup ar.arg = some .local := S.par _ (List.mem_of_getElem? hps)
  have hcl : PySem.W.clsIn K C = some { name := nm, bases := bs, mro := .ref C :: bm, ns := NN, qualname := q, hasDict := true, slotNames := sn, subclasses := sub, abstract := ab, collection := col, hasDel := false } := by unfold PySem.W.clsIn; rw [hC] <;> rfl
  have hmg : mg "super" = none := PySem.W.mg_none_of e0.mod.kin e0.mod.glob T.sup
  obtain ⟨mb, hbl, hbb⟩ := e0.mod.blt
  show PySem.wpAt (model P w) (A.deeper (PySem.W.ksEnv qual scope s.heap.objs.size f (.ref cda) cc)) (.func _ (PySem.W.ksEnv qual scope s.heap.objs.size f (.ref cda) cc)) (execs _ (PySem.W.ksEnv qual scope s.heap.objs.size f (.ref cda) cc)) _ _ _
  obtain ⟨pl, he⟩ := he s.heap.objs.size
  refine ks_wpAt_execs_cons (ks_wpAt_Expr_any (ks_wpAt_MethodCall (pl := pl) ?_ he) (hi _) (hsw _))
  refine ks_wpAt_super_base (env := PySem.W.ksEnv qual scope s.heap.objs.size f (.ref cda) cc) S.ks S.kc (by decide) rfl (X1 _ _ lk) rfl hp rfl (X1 _ _ hcode) rfl hvs hfile T.htop ?_
  refine PySem.W.ks_loadName_global S.kind S.ks (PySem.Calls.loadGlobal_builtin (env := PySem.W.ksEnv qual scope s.heap.objs.size f (.ref cda) cc) (e0.mod.glob.keeps I.bk) hmg (hbl.keeps I.bk) ((hbb _ (by decide +kernel)).trans (by first | boot_by_name | rfl | kernel_rfl)) ⟨rfl, ?_⟩)
  refine wpAny_loadName_free S.kind S.kc rfl ⟨_, X1 _ _ hcell, rfl⟩ ?_
  refine wpAny_loadName_local S.kind hka hns hself ?_
  refine ks_wpAny_isType_cls (X1 _ _ hC) rfl ⟨rfl, ?_⟩
  refine ks_wpAny_call_super (X1 _ _ hC) rfl ho rfl (fun c => nofun) (PySem.W.looks_mroIn X1 T.sub) (fun h2 e2 kk2 => ?_)
  have I2 : Inv (cxS CX P w K mg base N qual scope f (.ref cda) cc A outer s H E) [] (L2.start N (.ref a :: ws)) H { s with heap := h2, toks := s.toks + (ps.zip us).length } := I.kept kk2
  have hsup := T.ini
  unfold PySem.W.ks_superIn at hsup
  rw [hcl] at hsup
  have ne : a ≠ C := fun z => by
    rw [z, X1 _ _ hC] at ho
    cases ho
  have JI : PySem.W.InstAt h2 a { cls := .ref C, data := .fields #[.ref t1, .none, .none, .none, .bool false, .none] } C none := ⟨kk2 _ _ ho, rfl, rfl, trivial⟩
  have hI : PySem.W.Looks (model P w) h2 (isInstance (.ref a) (.type "ValueError")) true := JI.type.andThen (PySem.W.looks_subIn I2.kIn T.subB)
  refine PySem.W.kxs_getMethod PySem.W.kxs_ValueError e2 (PySem.W.looks_opaque I2.kIn T.opq) (l₀ := .ref C :: bm) (fun A Q E s k q => wpAny_bind ((PySem.W.looks_clsIn I2.kIn hcl) A _ E s k (wpAny_pure q))) rfl I2.kIn hsup hI ne (by decide) ?_
  have kk3 : ∀ b o, h2.get? b = some o → (h2.push (PySem.W.kxs_mw "ValueError.__init__" a)).get? b = some o := fun b o e => Heap.get?_push_of_some _ e
  have I3 : Inv (cxS CX P w K mg base N qual scope f (.ref cda) cc A outer s H E) [] (L2.start N (.ref a :: ws)) H { s with heap := h2.push (PySem.W.kxs_mw "ValueError.__init__" a), toks := s.toks + (ps.zip us).length + 1 } := I2.kept (t' := s.toks + (ps.zip us).length + 1) kk3
  have hmw : (h2.push (PySem.W.kxs_mw "ValueError.__init__" a)).get? h2.objs.size = some (PySem.W.kxs_mw "ValueError.__init__" a) := Heap.get?_push_size _ rfl
  refine PySem.W.kxs_callWith (i := "ValueError.__init__") (x := a) rfl (evalArgs_empty ⟨hmw, ?_⟩)
  refine call_bwV (I3.kIn _ _ hC) (kk3 _ _ (kk2 _ _ ho)) hmw (Nat.zero_le _) fun h4 t4 k4 e4 => ?_
  have J := I3.write (t' := s.toks + (ps.zip us).length + 1) (x := a) (e := a) (o := exo a C none) (by rw [ha]; exact True.intro) (.inl rfl) k4 ⟨_, e4⟩ (exo_ok e4)
  have back : upd H a (exo a C none) = H := by
    funext b
    by_cases hb : b = a
    · rw [hb, upd_same, ha]
    · rw [upd_ne hb]
  rw [back] at J
  refine wpAt_of_wpAny (wpAny_mono (ht.run [] _ (L2.start N (.ref a :: ws)) H _ J hq) (fun fl s' hs => ?_) fun e s' hs => hs)
  have done : ∀ {σ' : L2.St} {H' : Hp} {v : V} {u : Value}, Inv (cxS CX P w K mg base N qual scope f (.ref cda) cc A outer s H E) [] σ' H' s' → RelV v u → Q v H' → CE outer P w H s Q u s' :=
    fun {σ' H' v u} J rel q => ⟨v, H', J.os, J.bare, J.base, J.hok, rel, q⟩
  cases fl with
  | ret u =>
    obtain ⟨v, σ', H', J, rel, q⟩ := hs
    exact done J rel q
  | next =>
    obtain ⟨σ', H', J, q⟩ := hs
    exact done (v := V.non) (u := Value.none) J rfl q
  | brk =>
    obtain ⟨_, _, _, q⟩ := hs
    exact False.elim q
  | cont =>
    obtain ⟨_, _, _, q⟩ := hs
    exact False.elim q
end Rx

set_option Elab.async false
set_option linter.all false
set_option maxRecDepth 100000
set_option maxHeartbeats 4000000
namespace Rx
open PySem PySem.Spec PyProof.Rows L2
/-! ### C(..) of an exception class, with keywords -/
section
open Builtin Builtin.ObjectAttr HandSPX
variable {prog : Program} {w : World} {M : Model} {A : Around} {E : Value → Shared → Prop} {R : Result → Shared → Prop} {h : Heap} {g : Array GenState} {d : Drawn} {t : Nat} {os : OsState}
variable {nn q : Str} {C N : Addr} {bs bms bX : List Value} {hdc : Bool} {ss : List Str} {sb : List Value} {abs : Bool} {cl : Option Bool} {dv : Option Addr} {q0 q1 q2 q3 q5 : Option Value} {B nI iI : String} {kw : List (Str × Value)}
theorem check_new_ownK (FB : ExcBaseFacts B nI iI bX) (hIn : ∀ X : String, bms.contains (.type X) = bX.contains (.type X)) {ar : List Value} {Q : Unit → Shared → Prop}
    (hK : h.get? C = some (excClassObj nn q C N bs bms hdc ss sb abs cl dv q0 q1 q2 q3 q5 nI)) (hz : Q () ⟨h, g, d, t, os⟩) : wpAny M A (checkBuiltinCall nI ⟨.ref C :: ar, kw⟩) Q E ⟨h, g, d, t, os⟩ := by
  have hhas : (Value.ref C :: bms).contains (.type B) = true := by rw [List.contains_cons, hIn, FB.hasB, Bool.or_true]
  have hst := FB.noStar
  simp only [checkBuiltinCall, FB.newKind, FB.newSplit, FB.newRow]
  repeat (first | refine wpAny_loadPart_at hK ?_ | (refine wpAny_isSubtype_exc hK ?_; rw [hhas]) | refine wpAny_staticBase_exc hK ?_ | refine wpAny_madeBy_exc hK ?_ | simp only [bne_self_eq_false, Bool.false_eq_true, if_false] | wp_step)
  exact hz
theorem new_ownK (FB : ExcBaseFacts B nI iI bX) (hIn : ∀ X : String, bms.contains (.type X) = bX.contains (.type X)) {ar : List Value}
    (hK : h.get? C = some (excClassObj nn q C N bs bms hdc ss sb abs cl dv q0 q1 q2 q3 q5 nI))
    (hz : R (.ok (.ret (.ref (h.objs.size + 1)))) ⟨(h.push { cls := .type "tuple", data := .seq ar.toArray }).push
      { cls := .ref C, data := .fields #[.ref h.objs.size, .none, .none, .none, .bool false, .none] }, g, d, t, os⟩) (hlen : ar.length ≤ sizeLine) :
    codeAny (model prog w) A (.builtin nI ⟨.ref C :: ar, kw⟩) R ⟨h, g, d, t, os⟩ := by
  have hen := FB.ends
  have hB1 : (Value.ref C :: bms).contains (.type B) = true := by rw [List.contains_cons, hIn, FB.hasB, Bool.or_true]
  have hA1 : (Value.ref C :: bms).contains (.type "AttributeError") = false := by rw [List.contains_cons, hIn, FB.noAttr]; rfl
  have hN1 : (Value.ref C :: bms).contains (.type "NameError") = false := by rw [List.contains_cons, hIn, FB.noName]; rfl
  refine codeAny_builtinAt FB.entry ?_
  unfold Builtin.«BaseException.__new__»
  refine PySem.wpAt_bind ?_
  show PySem.wpAt _ _ _ (stack >>= _) _ _ _
  refine PySem.wpAt_bind (PySem.wpAt_stack fun p below => PySem.wpAt_of_wpAny ?_)
  wp_walk
  refine PySem.wpAt_of_wpAny ?_
  rw [FB.owner]
  repeat (first | with_reducible refine wpAny_madeHere_exc FB.canon hK ?_ | with_reducible refine wpAny_loadPart_at hK ?_ | (with_reducible refine wpAny_isSubtype_exc hK ?_; first | rw [hB1] | rw [hA1] | rw [hN1]) | wp_step)
  show R _ _
  rw [Heap.size_push]
  exact hz
theorem type_call_ownK (FB : ExcBaseFacts B nI iI bX) (hIn : ∀ X : String, bms.contains (.type X) = bX.contains (.type X)) {ar : List Value} {fN : Addr} {Q : Fin → Shared → Prop}
    (hK : h.get? C = some (excClassObj nn q C N bs bms hdc ss sb abs cl dv q0 q1 q2 q3 q5 nI))
    (hlook : W.Looks (model prog w) h (typeLookup (.ref C) "__init__") (some (.ref fN))) (hbnd : ∀ self, W.Looks (model prog w) h (bindSpecial (.ref fN) self) (.ref fN, [self])) (hlen : ar.length ≤ sizeLine)
    (hz : codeAny (model prog w) A (.call (.ref fN) ⟨.ref (h.objs.size + 1) :: ar, kw⟩)
      (fun r s' => match r with | .ok (.ret v) => v = .none ∧ Q (.done (.ret (.ref (h.objs.size + 1)))) s' | .ok _ => False | .error e => E e s')
      ⟨(h.push (W.kdv_tup ar)).push (excO C h.objs.size), g, d, t, os⟩) :
    wpAny (model prog w) A (Builtin.«type.__call__» ⟨.ref C :: ar, kw⟩) Q E ⟨h, g, d, t, os⟩ := by
  repeat (first | with_reducible refine wpAny_loadPart_at hK ?_ | with_reducible refine wpAny_madeBy_exc hK ?_ | wp_step)
  refine codeAny_call_builtin_code (Code.quiet_builtin _ FB.quiet) (check_new_ownK FB hIn hK ?_)
  refine new_ownK FB hIn hK ?_ hlen
  show wpAny _ _ _ _ _ _
  have k : ∀ b o, h.get? b = some o → ((h.push (W.kdv_tup ar)).push (excO C h.objs.size)).get? b = some o := fun b o e => Heap.get?_push_of_some _ (Heap.get?_push_of_some _ e)
  have hK1 := k _ _ hK
  have hgot : ((h.push (W.kdv_tup ar)).push (excO C h.objs.size)).get? (h.objs.size + 1) = some (excO C h.objs.size) := by heap_get
  have hC1 : (Value.ref C :: bms).contains (.ref C) = true := by simp
  have li := hlook.keeps k
  have lb := (hbnd (.ref (h.objs.size + 1))).keeps k
  unfold isInstance
  repeat (first | with_reducible refine wpAny_loadPart_at hgot ?_ | (with_reducible refine wpAny_isSubtype_exc hK1 ?_; rw [hC1]) | wp_step)
  show wpAny _ _ (typeLookup (.ref C) _) _ _ _
  refine li.at ?_
  refine wpAny_holding (wpAny_bind (lb.at ?_))
  refine wpAny_bind (wpAny_call (codeAny_mono hz fun r s' z => ?_))
  rcases r with e | (v | _ | _ | _) <;> first | exact z | exact z.elim | skip
  obtain ⟨rfl, z⟩ := z
  first
    | exact wpAny_pure (wpAny_pure z)
    | (wp_walk; exact z)
theorem check_type_callK {ar : List Value} {Q : Unit → Shared → Prop} (hK : h.get? C = some (excClassObj nn q C N bs bms hdc ss sb abs cl dv q0 q1 q2 q3 q5 nI))
    (hz : Q () ⟨h, g, d, t, os⟩) : wpAny M A (checkBuiltinCall "type.__call__" ⟨.ref C :: ar, kw⟩) Q E ⟨h, g, d, t, os⟩ := by
  have t3 := tc_sub
  have hIn : (⟨h, g, d, t, os⟩ : Shared).TypeIs (.ref C) "type" := ⟨_, hK, rfl⟩
  simp only [checkBuiltinCall, tc_kind, tc_split]
  repeat (any_goals (first | assumption | with_reducible refine wpAny_loadPart_at hK ?_ | with_reducible refine wpAny_onRaise ?_ | with_reducible refine wpAny_map ?_ | wp_step))
theorem call_ownK (FB : ExcBaseFacts B nI iI bX) (hIn : ∀ X : String, bms.contains (.type X) = bX.contains (.type X)) {ar : List Value} {fN : Addr}
    (hK : h.get? C = some (excClassObj nn q C N bs bms hdc ss sb abs cl dv q0 q1 q2 q3 q5 nI))
    (hlook : W.Looks (model prog w) h (typeLookup (.ref C) "__init__") (some (.ref fN))) (hbnd : ∀ self, W.Looks (model prog w) h (bindSpecial (.ref fN) self) (.ref fN, [self])) (hlen : ar.length ≤ sizeLine)
    (hz : codeAny (model prog w) (A.under (.builtin "type.__call__" ⟨.ref C :: ar, kw⟩)) (.call (.ref fN) ⟨.ref (h.objs.size + 1) :: ar, kw⟩) (W.InitBack (h.objs.size + 1) R)
      ⟨(h.push (W.kdv_tup ar)).push (excO C h.objs.size), g, d, t, os⟩) :
    codeAny (model prog w) A (.call (.ref C) ⟨ar, kw⟩) R ⟨h, g, d, t, os⟩ := by
  have t1 := tc_lookup
  have t2 := tc_bind (.ref C)
  have hty : (⟨h, g, d, t, os⟩ : Shared).TypeIs (.ref C) "type" := ⟨_, hK, rfl⟩
  refine codeAny_of_tree ?_
  show wpAny _ _ (callAny (.ref C) _) _ _ _
  repeat (any_goals (first | assumption | with_reducible refine wpAny_loadPart_at hK ?_ | wp_step))
  refine ⟨rfl, ?_⟩
  refine codeAny_call_builtin_at (Code.quiet_builtin _ (by decide +kernel)) entry_typeCall (check_type_callK hK (type_call_ownK FB hIn hK hlook hbnd hlen ?_))
  refine codeAny_mono hz fun r s' z => ?_
  rcases r with e | (v | _ | _ | _) <;> exact z
end

/-! ### an exception made as a value -/
/-- C(e, .., k = v, ..) -/
def tExv (C : Addr) (n m : Nat) (sp : Sp) (gV : List V → List V → List V) (t tk : TA) : TE := fun σ H Q => t σ H fun vs H1 => tk σ H1 fun zs H2 => vs.length = n ∧ zs.length = m ∧ ∀ a, H2 a = none →
  sp (gV (.ref a :: vs) zs) (upd H2 a (exo a C none)) (fun v H3 => v = .non ∧ Q (.ref a) H3) (fun _ _ _ => False)
section
variable {X : Cx} {CX : CXT} {k n : Nat} {f C : Addr} {fd : FuncData} {ps ks : List Str} {sp : Sp} {x : Str} {p pos : Pos} {e : Expr} {es : List Expr} {kws : List Keyword} {t tk : TA} {g : List Value → List Value → List Value} {gV : List V → List V → List V}
theorem run_exv {pins : List (Addr × Obj)} {σ : L2.St} {H : Hp} {s : Shared} {Q : VK} {us ws : List Value} {vs zs : List V} (T : OexC X.K C) (iC : PySem.W.findIn X.K (.ref C) "__init__" = some (some (.ref f))) (tI : PySem.W.typeIn X.K (.ref f) = some (.type "function"))
    (F1 : FnOk X.prog X.w X.K X.mg X.base CX k f fd ps sp) (hr : Room (k + 1) X.A) (hb : KBn X.K fd ps (n + 1) ks g gV) (hx : Passes CX X (fun _ _ _ => False))
    (I1 : Inv X pins σ H s) (r : Vals vs us) (rz : Vals zs ws) (l1 : vs.length = n) (l2 : zs.length = ks.length) (hn1 : n ≤ 1000)
    (h : ∀ a, H a = none → sp (gV (.ref a :: vs) zs) (upd H a (exo a C none)) (fun v H2 => v = .non ∧ Q (.ref a) H2) (fun _ _ _ => False)) :
    wpAny (model X.prog X.w) X.A (call (.ref C) us (ks.zip ws)) (EP X pins σ Q) X.xe s := by
  obtain ⟨nn, q, N, bs, bm, sn, sub, ab, col, dd, k0, k1, k2, k3, k5, hK, hms⟩ := T.cls
  obtain ⟨hp, gg, dr, tok, os⟩ := s
  have hup : hp.objs.size ≤ hp.objs.size + 1 := Nat.le_succ _
  have hn : H (hp.objs.size + 1) = none := I1.hok.fresh hup
  have hq := h (hp.objs.size + 1) hn
  have kept : ∀ b o, hp.get? b = some o → ((hp.push (PySem.W.kdv_tup us)).push (PySem.HandSPX.excO C hp.objs.size)).get? b = some o := fun b o e => Heap.get?_push_of_some _ (Heap.get?_push_of_some _ e)
  have hgot : ((hp.push (PySem.W.kdv_tup us)).push (PySem.HandSPX.excO C hp.objs.size)).get? (hp.objs.size + 1) = some (PySem.HandSPX.excO C hp.objs.size) := by heap_get
  have I2 : Inv X pins σ (upd H (hp.objs.size + 1) (exo (hp.objs.size + 1) C none)) ⟨(hp.push (PySem.W.kdv_tup us)).push (PySem.HandSPX.excO C hp.objs.size), gg, dr, tok, os⟩ :=
    I1.laid (t' := tok) (a := hp.objs.size + 1) (o := exo (hp.objs.size + 1) C none) (h' := (hp.push (PySem.W.kdv_tup us)).push (PySem.HandSPX.excO C hp.objs.size)) kept hup (exo_ok hgot)
  have r1 : Vals (V.ref (hp.objs.size + 1) :: vs) (Value.ref (hp.objs.size + 1) :: us) := .cons rfl r
  have r2 := hb.rel r1 rz
  have ln1 : (Value.ref (hp.objs.size + 1) :: us).length = n + 1 := by
    rw [List.length_cons, ← r.length, l1]
  have hlus : us.length ≤ sizeLine := by
    rw [← r.length, l1, sizeLine_eq]
    omega
  refine wpAny_call (call_ownK F.excBase_ValueError (fun Y => PySem.HandSPX.refsVE_contains Y bm hms) (I1.kIn _ _ hK) (PySem.W.looks_findIn I1.kIn iC) (fun self => PySem.W.bind_fn I1.kIn self tI) hlus
    (codeAny_mono (F1.run _ X.stack _ _ ⟨Value.ref (hp.objs.size + 1) :: us, ks.zip ws⟩ (g (Value.ref (hp.objs.size + 1) :: us) ws) _ _ (fun _ _ _ => False) (hr.make C us (ks.zip ws)) (I2.env0.make C us (ks.zip ws)) (hb.to _ (Value.ref (hp.objs.size + 1) :: us) ws I2.kIn ln1 (rz.length.symm.trans l2)) r2 hq) fun r s' hq' => ?_))
  cases r with
  | error ex => exact hx pins σ _ _ ex s' I2 hq'
  | ok fl =>
    cases fl with
    | ret u =>
      obtain ⟨v, H', J3, rr, en, q4⟩ := I2.after hq'
      subst en
      exact ⟨rr, ⟨V.ref (hp.objs.size + 1), H', J3, rfl, q4⟩⟩
    | next => exact False.elim hq'
    | brk => exact False.elim hq'
    | cont => exact False.elim hq'
/-- C(e, ..) -/
theorem pe_exv (T : OexC X.K C) (iC : PySem.W.findIn X.K (.ref C) "__init__" = some (some (.ref f))) (tI : PySem.W.typeIn X.K (.ref f) = some (.type "function"))
    (F1 : FnOk X.prog X.w X.K X.mg X.base CX k f fd ps sp) (hr : Room (k + 1) X.A) (hb : KBn X.K fd ps (n + 1) [] g gV) (hx : Passes CX X (fun _ _ _ => False)) (hg : Gl X x) (hm : X.mg x = some (.ref C)) (hn1 : n ≤ 1000) (ha : PA X (e :: es) t)
    (hdb : (x == ("__debug__" : Str)) = false := by decide) (he : starEach (e :: es) X.env = (false, eval e X.env) :: starEach es X.env := by rfl) (hpl : (backTo pos (starEach es X.env)).any (·.1) = false := by rfl) :
    PE X (.Call (.Name x p) (e :: es) [] pos) (tExv C n 0 sp gV t tNil) := by
  refine ⟨fun pins s σ H Q I h => ?_⟩
  refine wpAny_Call_Name_kw (ld_glob I hg hm ?_ hdb)
  refine PySem.W.callWith_K (h₀ := X.base) I.ok.mod.kin T.kC (thn (ha.run pos pins s σ H _ I h) fun us s1 ⟨vs, H1, I1, r1, q1⟩ => ⟨I1.kIn, ?_⟩) he hpl
  obtain ⟨l1, l2, q2⟩ := q1
  exact run_exv (ks := []) (ws := []) (zs := []) T iC tI F1 hr hb hx I1 r1 .nil l1 rfl hn1 q2
/-- C(k = v, ..) -/
theorem pe_exvK (T : OexC X.K C) (iC : PySem.W.findIn X.K (.ref C) "__init__" = some (some (.ref f))) (tI : PySem.W.typeIn X.K (.ref f) = some (.type "function"))
    (F1 : FnOk X.prog X.w X.K X.mg X.base CX k f fd ps sp) (hr : Room (k + 1) X.A) (hb : KBn X.K fd ps 1 ks g gV) (hx : Passes CX X (fun _ _ _ => False)) (hg : Gl X x) (hm : X.mg x = some (.ref C)) (hkw : PK X kws tk)
    (hall : (backToKw pos (keywordEach kws X.env)).all (·.1.isSome) = true := by rfl) (hks : (backToKw pos (keywordEach kws X.env)).filterMap (·.1) = ks := by rfl) (hdb : (x == ("__debug__" : Str)) = false := by decide)
    (hpl : ((backTo pos (starEach [] X.env)).any (·.1) || (backToKw pos (keywordEach kws X.env)).any (·.1.isNone)) = false := by rfl) :
    PE X (.Call (.Name x p) [] kws pos) (tExv C 0 ks.length sp gV tNil tk) := by
  refine ⟨fun pins s σ H Q I h => ?_⟩
  refine wpAny_Call_Name_kw (ld_glob I hg hm ?_ hdb)
  refine PySem.W.callWith_KW0 (h₀ := X.base) I.ok.mod.kin T.kC hall ?_ hpl
  refine thn (hkw.run pos pins s σ H _ I h) fun ws s2 ⟨zs, H2, I2, rz, l1, l2, q2⟩ => ⟨I2.kIn, ?_⟩
  rw [hks]
  exact run_exv (n := 0) (us := []) (vs := []) T iC tI F1 hr hb hx I2 .nil rz rfl l2 (Nat.zero_le _) q2
end
end Rx

set_option Elab.async false
set_option linter.all false
set_option maxRecDepth 100000
set_option maxHeartbeats 4000000
namespace Rx
open PySem PySem.Spec PyProof.Rows L2
/-! ### what is asked of an exception value -/
/-- what the written part says of its class -/
structure ErrC (K : PySem.W.Frag) (C : Addr) : Prop where
  hcl : (PySem.W.clsIn K C).isSome = true
  hga : PySem.W.findIn K (.ref C) "__getattribute__" = some (some (.builtin "BaseException.__getattribute__"))
  hgt : PySem.W.findIn K (.ref C) "__getattr__" = some none
  hsb : PySem.W.subIn K (.ref C) (.type "BaseException") = some true
  hdc : PySem.W.hasDictIn K C = true
  hac : PySem.W.findIn K (.ref C) "__class__" = some (some (.builtin "object.__class__"))
  hmo : PySem.W.mroIn K C (.type "object") = some true
/-- the descriptor of __class__ -/
structure ClsD (K : PySem.W.Frag) : Prop where
  hn : PySem.W.specialIn K (.builtin "object.__class__") "__get__" = some (some (.builtin "getset_descriptor.__get__"))
  ht : PySem.W.takesIn K (.builtin "object.__class__") = some true
section
variable {X : Cx}
theorem inst_exo {H : Hp} {hp : Heap} {P : Program} {w : World} {a C d : Addr} {fs : List (Str × V)} (ok : HOk P w H hp) (ea : H a = some (exo a C (some d))) (ed : H d = some (exd d fs)) :
    ∃ (ox od : Obj) (mA : Str → Option Value), PySem.W.InstAt hp a ox C (some od) ∧ (∀ name, PySem.W.lookIn name od = some (mA name)) ∧ ∀ f, RelO (fs.lookup f) (mA f) := by
  obtain ⟨t1, ho⟩ := exo_at ok ea
  obtain ⟨mA, hns, rel⟩ := exd_at ok ed
  obtain ⟨od, hod, hl⟩ := lookIn_ns hns
  exact ⟨_, od, mA, ⟨ho, rfl, rfl, hod⟩, hl, rel⟩
/-- e.f -/
def tExf (K : PySem.W.Frag) (f : Str) (te : TE) : TE := fun σ H Q => te σ H fun x H1 => ∃ (a C d : Addr) (fs : List (Str × V)) (v : V), x = .ref a ∧ ErrC K C ∧ PySem.W.findIn K (.ref C) f = some none ∧ H1 a = some (exo a C (some d)) ∧ H1 d = some (exd d fs) ∧ fs.lookup f = some v ∧ Q v H1
theorem pe_exf {e : Expr} {te : TE} {n : Str} {pos : Pos} (he : PE X e te) (hb : attributeBase e n X.env (eval e X.env) = eval e X.env := by rfl) : PE X (.Attribute e n pos) (tExf X.K n te) := by
  refine ⟨fun pins s σ H Q I h => attr_of hb (thn (he.run pins s σ H _ I h) fun u s1 hh => ?_)⟩
  obtain ⟨x, H1, I1, rx, a, C, d, fs, v, rfl, T, hno, ea, ed, l, q⟩ := hh
  cases (show u = Value.ref a from rx)
  obtain ⟨ox, od, mA, J, hl, rel⟩ := inst_exo I1.hok ea ed
  obtain ⟨z, hz, rz⟩ := RelO.some_of (v := v) (o := mA n) (by rw [← l]; exact rel n)
  exact HandSPX.exc_get I1.kIn J T.hga T.hgt T.hsb (PySem.W.findObj_own T.hdc hno rfl (by rw [hl, hz])) (handed_of rz) ⟨v, H1, I1.tok _, rz, q⟩
/-- isinstance(e, c) -/
def rIsX (K : PySem.W.Frag) : List V → Hp → VK → Prop := fun xs H Q => ∃ (a C d : Addr) (fs : List (Str × V)) (c : V) (u : Value) (b : Bool), xs = [.ref a, c] ∧ ClsV c u ∧ ErrC K C ∧ ClsD K ∧ H a = some (exo a C (some d)) ∧ H d = some (exd d fs) ∧ PySem.W.kitOne K (.ref C) u = some b ∧ Q (.bl b) H
theorem call_isX : CallR X (.builtin "isinstance") (rIsX X.K) := by
  intro pins s σ H xs us Q I r h
  obtain ⟨a, C, d, fs, c, u, b, rfl, k, T, D, ea, ed, e, q⟩ := h
  obtain ⟨u1, u2, rfl, r1, r2⟩ := vals2 r
  cases (show u1 = Value.ref a from r1)
  cases k.eq r2
  obtain ⟨ox, od, mA, J, _, _⟩ := inst_exo I.hok ea ed
  exact PySem.W.kia_one (PySem.W.kitx_exc T.hcl T.hga T.hgt T.hsb T.hac D.hn D.ht T.hmo) I.kIn J e (fun z => nomatch z) fun tk => ⟨.bl b, H, I.tok tk, rfl, q⟩
/-- str(x), x a list or a tuple of data -/
def rStrD (K : PySem.W.Frag) : List V → Hp → VK → Prop := fun xs H Q => ∃ (a : Addr) (d : PyData), xs = [.ref a] ∧ Dp K H (.ref a) d ∧ d.showable = true ∧ d.hasDict = false ∧ d.depth ≤ 64 ∧ d.shown.length ≤ sizeLine ∧ Q (.str d.shown) H
theorem call_strD (hg : X.A.guards = some []) (hu : X.A.units + 100 < cLine) : CallR X (.type "str") (rStrD X.K) := by
  intro pins s σ H xs us Q I r h
  obtain ⟨a, d, rfl, hd, hs, hn, hz, hl, q⟩ := h
  obtain ⟨u1, rfl, r1⟩ := vals1 r
  cases (show u1 = Value.ref a from r1)
  obtain ⟨as, rr⟩ := Dp.reads I d _ _ hd r1
  exact str_of_reads rr hs (PyData.noDict_hsm hn) hg (by omega) (fun _ _ e => e) (fun h' u tk k => ⟨.str _, H, I.kept k, ⟨u, rfl⟩, q⟩) hl
end
end Rx

set_option Elab.async false
set_option linter.all false
set_option maxRecDepth 100000
set_option maxHeartbeats 4000000
namespace Rx
open PySem PySem.Spec PyProof.Rows L2
/-! ### a law whose own body asks str(..) of data: nothing is being shown around it -/
/-- the promise of a def, where no __repr__ is under way -/
def FnG (P : Program) (w : World) (K : PySem.W.Frag) (mg : Str → Option Value) (base : Heap) (k : Nat) (f : Addr) (fd : FuncData) (ps : List Str) (sp : Sp) : Prop :=
  ∀ (A : Around) (outer : List Env) (s : Shared) (H : Hp) (args : Args) (us : List Value) (vs : List V) (Q : VK), A.guards = some [] → Room k A → Env0 P w K mg base A outer s H → BindsTo s fd args (ps.zip us) → Vals vs us → sp vs H Q E0 →
    codeAny (model P w) A (.call (.ref f) args) (CR CX0 outer P w H s Q E0) s
theorem fnG_of {P : Program} {w : World} {K : PySem.W.Frag} {mg : Str → Option Value} {base : Heap} {x qual : Str} {st : Stmt} {f : Addr} {fd : FuncData} {N ps : List Str} {k : Nat} {sp : Sp} (F : Fun K x qual st f fd) (S : FnScope N ps (defScope st)) (len : ∀ vs H Q E, sp vs H Q E → vs.length = ps.length)
    (hbody : ∀ (cdv : Value) (A : Around) (outer : List Env) (s : Shared) (H : Hp) (vs : List V) (Q : VK), A.guards = some [] → Room k (A.deeper (envOfC qual (defScope st) s.heap.objs.size f cdv)) → sp vs H Q E0 →
      ∃ t, PSs (cxOf CX0 P w K mg base N qual (defScope st) f cdv A outer s H E0).nox (defBody st) t ∧ t { nx := fun _ H' => Q .non H', rt := Q } (L2.start N vs) H) : FnG P w K mg base (k + 1) f fd ps sp := by
  obtain ⟨oc, od, kV, doc, pm, an, cdv, ct, osl, rfl, lk, hcd⟩ := F.ex
  intro A outer s H args us vs Q hg hr e0 hb r hsp
  have up : ∀ b o, base.get? b = some o → s.heap.get? b = some o := fun b o e => (e0.bs b o e).1
  have KX := e0.mod.kin.keeps up
  refine codeAny_call_function hr.depth (KX _ _ lk) rfl S.co S.gen rfl (PySem.W.codeRec_of KX hcd) (hb _ _ _ _ ?_)
  refine wpAny_newFunctionEnv_cells S.kind (fun y hy => ?_) fun env he s1 z => ?_
  · rcases S.par y.1 (List.of_mem_zip (a := y.1) (b := y.2) hy).1 with q | q
    · exact .inl q
    · exact .inr ⟨q, PySem.W.cellsFrom_some _ _ _ (.inl q)⟩
  subst he
  obtain ⟨t, ht, hq⟩ := hbody cdv A outer s H vs Q hg (hr.deeper _) hsp
  have I := inv_start (CX := CX0) (mg := mg) (base := base) (E := E0) S hr.hd e0 (len _ _ _ _ hsp) r z
  refine ⟨(e0.mod.nolimit.keeps up).keeps z.toInCall.keep, codeAny_func (wpAny_mono (ht.nox.run [] s1 _ H _ I hq) (fun fl s' hs => ?_) fun _ _ y => y)⟩
  match fl, hs with
  | .ret u, ⟨v, _, H', J, rv, q⟩ => exact ⟨v, H', J.os, J.bare, J.base, J.hok, rv, q⟩
  | .next, ⟨_, H', J, q⟩ => exact ⟨V.non, H', J.os, J.bare, J.base, J.hok, rfl, q⟩
  | .brk, ⟨_, _, _, q⟩ => exact q.elim
  | .cont, ⟨_, _, _, q⟩ => exact q.elim
/-- the call of the law -/
theorem law_callG {P : Program} {w : World} {K : PySem.W.Frag} {mg mb : Str → Option Value} {k : Nat} {fa a : Addr} {fd : FuncData} {x : Str} {sp : Sp} {s₁ : Shared} {vs : List Value} {ns : List Int}
    (KX : K.In s₁.heap) (hns : s₁.heap.Ns mainGlobals mg) (hb : s₁.heap.Ns builtinsNs mb) (hbb : ∀ y : Str, y ≠ "__name__" → mb y = bootBuiltins y) (hlim : s₁.heap.NoLimit) (hgen : s₁.gens = #[])
    (ha : s₁.heap.get? a = some { cls := .type "list", data := .seq vs.toArray }) (hi : IntsAre vs ns) (hl : ns.length ≤ sizeLine) (hr : Room k callerA)
    (F : ∀ base : Heap, K.In base → base.Ns mainGlobals mg → FnG P w K mg base k fa fd [x] sp) (hbind : ∀ (s : Shared) (u : Value), BindsTo s fd ⟨[u], []⟩ [(x, u)])
    (hsp : ∀ H : Hp, Only H → SqL K H a (ns.map V.int) → sp [.ref a] H (fun v _ => v = .bl true) E0) :
    codeAny (model P w) callerA (.call (.ref fa) ⟨[.ref a], []⟩) (fun r s' => r = .ok (.ret (.bool true)) ∧ OldK s₁.heap s'.heap ∧ s'.os = s₁.os ∧ AllBare s'.gens) s₁ := by
  have rv := vals_ints hi
  have lenV := hi.length
  obtain ⟨H, hO, hS, hok, hA⟩ : ∃ H : Hp, Only H ∧ SqL K H a (ns.map V.int) ∧ HOk P w H s₁.heap ∧ ∀ b u, H b = some u → b = a ∧ K.lookup a = none := by
    cases hk : K.lookup a with
    | some o =>
      have e := KX a o hk
      rw [ha] at e
      cases e
      exact ⟨fun _ => none, fun _ => .inl rfl, .inr ⟨_, vs.toArray, _, hk, rfl, rfl, rfl, by rw [List.size_toArray, lenV]; exact hl, by simpa using rv⟩, (fun _ _ z => nomatch z), fun _ _ z => nomatch z⟩
    | none =>
      have only : ∀ {b : Addr} {u v : HO}, (if b = a then some v else none) = some u → b = a ∧ v = u := fun {b u v} z => by
        split at z
        · rename_i hb
          exact ⟨hb, Option.some.inj z⟩
        · cases z
      refine ⟨fun b => if b = a then some (.frz { cls := .type "list", data := .seq vs.toArray } (.lst (ns.map V.int))) else none, fun b => ?_, .inl (.inr ⟨_, if_pos rfl⟩), fun b u z => ?_, fun b u z => ⟨(only z).1, rfl⟩⟩
      · by_cases hba : b = a
        · exact .inr ⟨_, _, if_pos hba⟩
        · exact .inl (if_neg hba)
      · obtain ⟨rfl, rfl⟩ := only z
        exact ⟨ha, by rw [List.length_map]; exact hl, vs, _, rv, ha⟩
  have free : ∀ {b : Addr} {o : Obj}, s₁.heap.get? b = some o → (b = a → K.lookup a = none → False) → (hidT s₁.heap H).get? b = some o := fun {b o} e n => hidT_get e (by
    cases q : H b with
    | none => rfl
    | some u => exact (n (hA b u q).1 (hA b u q).2).elim)
  have nsK : ∀ {b : Addr} {m : Str → Option Value}, s₁.heap.Ns b m → (hidT s₁.heap H).Ns b m := fun {b m} ⟨o, es, ep, e, dt, r⟩ => ⟨o, es, ep, free e (fun hba _ => by
    rw [hba, ha] at e
    cases e
    cases dt), dt, r⟩
  have hKb : K.In (hidT s₁.heap H) := fun b o e => free (KX b o e) fun hba hn => by
    rw [hba, hn] at e
    cases e
  have hM : Mod K mg (hidT s₁.heap H) := ⟨hKb, nsK hns, ⟨mb, nsK hb, hbb⟩, let ⟨mc, y1, y2⟩ := hlim; ⟨mc, nsK y1, y2⟩⟩
  have e0 : Env0 P w K mg (hidT s₁.heap H) callerA [] s₁ H := ⟨rfl, hM, (fun b o e => of_hidT e), Nat.le_of_eq (hidT_size _ _), trivial, (fun b z => by cases z), hok, .of_eq hgen⟩
  refine codeAny_mono (F _ hKb (nsK hns) callerA [] s₁ H ⟨[.ref a], []⟩ [.ref a] [.ref a] (fun v _ => v = .bl true) rfl hr e0 (hbind s₁ (.ref a)) (.cons rfl .nil) (hsp H hO hS)) fun r s' y => ?_
  match r, y with
  | .ok (.ret u), ⟨v, H', os, bare, un, hok', rr, q⟩ =>
    cases (show v = V.bl true from q)
    cases (show u = Value.bool true from rr)
    refine ⟨rfl, OldK.of_keep fun b o e => ?_, os, bare⟩
    rcases hO b with z | ⟨ob, xs, z⟩
    · exact un.keep b o e z (fun z => by cases z) (fun z => by cases z)
    · obtain ⟨g1, _⟩ := hok b _ z
      obtain ⟨g2, _⟩ := hok' b _ (un.frzs b ob _ z)
      rw [g1] at e
      cases e
      exact g2
/-- what k_head leaves -/
theorem walk_ofG {l : PySem.W.OpenLaw} {n k : Nat} {q : Program} {loose : List Str} {XP : (Str → Option Value) → Heap → Prop} {YP : World → Heap → Prop} {d : DefRec} {K : Params → PySem.W.Frag} {sp : PySem.W.Frag → Sp} {x : Str}
    (hn : l.most = some n) (hn2 : n ≤ sizeLine) (hdf : d.params.defaults = []) (hr : Room k callerA) (hY : ∀ (w : World) (h : Heap), YP w h → (K w.params).In h)
    (F : ∀ (w : World) (mg : Str → Option Value) (fa : Addr) (h : Heap), (K w.params).In h → h.Ns mainGlobals mg → mg d.name = some (.ref fa) →
      ∃ fd : FuncData, (∀ (s : Shared) (u : Value), BindsTo s fd ⟨[u], []⟩ [(x, u)]) ∧ ∀ base : Heap, (K w.params).In base → base.Ns mainGlobals mg → FnG l.prog w (K w.params) mg base k fa fd [x] (sp (K w.params)))
    (hsp : ∀ (K : PySem.W.Frag) (H : Hp) (a : Addr) (ns : List Int), ns.length ≤ n → Only H → SqL K H a (ns.map V.int) → sp K [.ref a] H (fun v _ => v = .bl true) E0) :
    PySem.W.WalkO q loose XP YP l.row.toRowW d [] (fun f vs => PySem.call f vs) := by
  refine Att.attach_call hn hdf fun w s₀ s₁ mg mb fa o pm cd doc a vs ns G Y ho hd hcd hmg hobj hints hlen hg => ?_
  obtain ⟨fd, hb, hF⟩ := F w mg fa _ (hY w _ Y) G.T.g hmg
  exact law_callG (hY w _ Y) G.T.g G.T.b G.T.builtins G.T.nolimit hg hobj hints (Nat.le_trans hlen hn2) hr hF hb fun H hO hS => hsp _ H a ns hlen hO hS
end Rx

set_option Elab.async false
set_option linter.all false
set_option maxRecDepth 100000
set_option maxHeartbeats 4000000
namespace Rx
open PySem PySem.Spec PyProof.Rows L2
/-! ### data with lists turned into tuples -/
mutual
def fix : PyData → PyData
  | .list xs => .tuple (fixAll xs)
  | .tuple xs => .tuple (fixAll xs)
  | .none => .none
  | .bool b => .bool b
  | .int i => .int i
  | .str x => .str x
  | .dict kvs => .dict kvs
def fixAll : List PyData → List PyData
  | [] => []
  | x :: xs => fix x :: fixAll xs
end
mutual
def sz : PyData → Nat
  | .list xs => 2 + szAll xs
  | .tuple xs => 2 + szAll xs
  | _ => 1
def szAll : List PyData → Nat
  | [] => 0
  | x :: xs => sz x + szAll xs
end
def kids : PyData → Option (List PyData)
  | .list xs => some xs
  | .tuple xs => some xs
  | _ => none
theorem fixAll_map : ∀ xs : List PyData, fixAll xs = xs.map fix
  | [] => by simp [fixAll]
  | x :: xs => by simp [fixAll, fixAll_map xs]
theorem fix_kids {c : PyData} {xs : List PyData} (h : kids c = some xs) : fix c = .tuple (fixAll xs) := by
  cases c <;> simp [kids] at h <;> subst h <;> simp [fix]
theorem sz_kids {c : PyData} {xs : List PyData} (h : kids c = some xs) : sz c = 2 + szAll xs := by
  cases c <;> simp [kids] at h <;> subst h <;> simp [sz]
theorem sz_pos (c : PyData) : 1 ≤ sz c := by cases c <;> simp [sz] <;> omega
theorem szAll_drop : ∀ {xs : List PyData} {n : Nat} {c : PyData}, xs[n]? = some c → szAll (xs.drop n) = sz c + szAll (xs.drop (n + 1))
  | [], _, _, h => by simp at h
  | x :: xs, 0, c, h => by
    simp at h
    subst h
    simp [szAll]
  | x :: xs, n + 1, c, h => by
    simp only [List.getElem?_cons_succ] at h
    simpa using szAll_drop h
theorem sz_le_all : ∀ {xs : List PyData} {c : PyData}, c ∈ xs → sz c ≤ szAll xs
  | [], _, h => by cases h
  | x :: xs, c, h => by
    rcases List.mem_cons.mp h with rfl | h
    · simp [szAll]
    · have := sz_le_all h
      simp only [szAll]
      omega
theorem len_le_sz : ∀ xs : List PyData, xs.length ≤ szAll xs
  | [] => by simp
  | x :: xs => by
    have h1 := sz_pos x
    have h2 := len_le_sz xs
    simp only [List.length_cons, szAll]
    omega
/-! ### data in a heap -/
/-! no list in it -/
mutual
def noList : PyData → Bool
  | .list _ => false
  | .tuple xs => noListAll xs
  | _ => true
def noListAll : List PyData → Bool
  | [] => true
  | x :: xs => noList x && noListAll xs
end
mutual
theorem fix_noList : ∀ d : PyData, noList (fix d) = true
  | .list xs => by simp only [fix, noList]; exact fixAll_noList xs
  | .tuple xs => by simp only [fix, noList]; exact fixAll_noList xs
  | .none => by simp [fix, noList]
  | .bool _ => by simp [fix, noList]
  | .int _ => by simp [fix, noList]
  | .str _ => by simp [fix, noList]
  | .dict _ => by simp [fix, noList]
theorem fixAll_noList : ∀ xs : List PyData, noListAll (fixAll xs) = true
  | [] => by simp [fixAll, noListAll]
  | x :: xs => by simp only [fixAll, noListAll, fix_noList x, fixAll_noList xs, Bool.and_self]
end
section
variable {K : PySem.W.Frag} {H H' : Hp}
theorem sqT_keep (k : ∀ a xs, H a = some (.tup xs) → H' a = some (.tup xs)) (kf : ∀ a o u, H a = some (.frz o u) → H' a = some (.frz o u)) {a : Addr} {xs : List V} (h : SqT K H a xs) : SqT K H' a xs := by
  rcases h with (h | ⟨o, h⟩) | h
  · exact .inl (.inl (k _ _ h))
  · exact .inl (.inr ⟨o, kf _ _ _ h⟩)
  · exact .inr h
theorem sqL_same (e : Same H H') {a : Addr} {xs : List V} (h : SqL K H a xs) : SqL K H' a xs := Same.seq e h
theorem sqT_same (e : Same H H') {a : Addr} {xs : List V} (h : SqT K H a xs) : SqT K H' a xs := sqT_keep (fun a xs => e a _) (fun a o u => e a _) h
mutual
theorem dp_keep (k : ∀ a xs, H a = some (.tup xs) → H' a = some (.tup xs)) (kf : ∀ a o u, H a = some (.frz o u) → H' a = some (.frz o u)) : ∀ {v : V} {d : PyData}, Dp K H v d → noList d = true → Dp K H' v d
  | _, _, .non, _ => .non
  | _, _, .bl b, _ => .bl b
  | _, _, .int i, _ => .int i
  | _, _, .str x, _ => .str x
  | _, _, .lst _ _, h => by simp [noList] at h
  | _, _, .tup h1 h2, h => .tup (sqT_keep k kf h1) (dpAll_keep k kf h2 (by simpa [noList] using h))
theorem dpAll_keep (k : ∀ a xs, H a = some (.tup xs) → H' a = some (.tup xs)) (kf : ∀ a o u, H a = some (.frz o u) → H' a = some (.frz o u)) : ∀ {vs : List V} {ds : List PyData}, DpAll K H vs ds → noListAll ds = true → DpAll K H' vs ds
  | _, _, .nil, _ => .nil
  | _, _, .cons h1 h2, h => by
    simp only [noListAll, Bool.and_eq_true] at h
    exact .cons (dp_keep k kf h1 h.1) (dpAll_keep k kf h2 h.2)
end
mutual
theorem dp_same (e : Same H H') : ∀ {v : V} {d : PyData}, Dp K H v d → Dp K H' v d
  | _, _, .non => .non
  | _, _, .bl b => .bl b
  | _, _, .int i => .int i
  | _, _, .str x => .str x
  | _, _, .lst h1 h2 => .lst (sqL_same e h1) (dpAll_same e h2)
  | _, _, .tup h1 h2 => .tup (sqT_same e h1) (dpAll_same e h2)
theorem dpAll_same (e : Same H H') : ∀ {vs : List V} {ds : List PyData}, DpAll K H vs ds → DpAll K H' vs ds
  | _, _, .nil => .nil
  | _, _, .cons h1 h2 => .cons (dp_same e h1) (dpAll_same e h2)
end
theorem dpAll_app : ∀ {vs ws : List V} {ds es : List PyData}, DpAll K H vs ds → DpAll K H ws es → DpAll K H (vs ++ ws) (ds ++ es)
  | _, _, _, _, .nil, h => h
  | _, _, _, _, .cons h1 h2, h => .cons h1 (dpAll_app h2 h)
theorem dpAll_len : ∀ {vs : List V} {ds : List PyData}, DpAll K H vs ds → vs.length = ds.length
  | _, _, .nil => rfl
  | _, _, .cons _ h2 => by rw [List.length_cons, List.length_cons, dpAll_len h2]
theorem dpAll_get : ∀ {vs : List V} {ds : List PyData} {i : Nat} {d : PyData}, DpAll K H vs ds → ds[i]? = some d → ∃ v, vs[i]? = some v ∧ Dp K H v d
  | _, _, _, _, .nil, h => by simp at h
  | _, _, 0, _, .cons h1 _, h => by
    simp at h
    subst h
    exact ⟨_, rfl, h1⟩
  | _, _, i + 1, _, .cons _ h2, h => by
    simp only [List.getElem?_cons_succ] at h
    obtain ⟨v, e, q⟩ := dpAll_get h2 h
    exact ⟨v, by simpa using e, q⟩
theorem dpAll_getV {vs : List V} {ds : List PyData} {i : Nat} {v : V} (h : DpAll K H vs ds) (e : vs[i]? = some v) : ∃ d, ds[i]? = some d ∧ Dp K H v d := by
  have hi : i < ds.length := by
    rw [← dpAll_len h]
    exact (List.getElem?_eq_some_iff.mp e).1
  obtain ⟨w, e2, q⟩ := dpAll_get h (List.getElem?_eq_getElem hi)
  rw [e] at e2
  cases e2
  exact ⟨_, List.getElem?_eq_getElem hi, q⟩
/-- a list or a tuple of such items stands there -/
def Src (K : PySem.W.Frag) (H : Hp) (v : V) (its : List PyData) : Prop := ∃ (a : Addr) (xs : List V), v = .ref a ∧ (SqL K H a xs ∨ SqT K H a xs) ∧ DpAll K H xs its
theorem src_same (e : Same H H') {v : V} {its : List PyData} (h : Src K H v its) : Src K H' v its := by
  obtain ⟨a, xs, rfl, h1, h2⟩ := h
  exact ⟨a, xs, rfl, h1.imp (sqL_same e) (sqT_same e), dpAll_same e h2⟩
theorem src_of {v : V} {c : PyData} {its : List PyData} (h : Dp K H v c) (k : kids c = some its) : Src K H v its := by
  cases h with
  | lst h1 h2 =>
    simp only [kids, Option.some.injEq] at k
    subst k
    exact ⟨_, _, rfl, .inl h1, h2⟩
  | tup h1 h2 =>
    simp only [kids, Option.some.injEq] at k
    subst k
    exact ⟨_, _, rfl, .inr h1, h2⟩
  | _ => simp [kids] at k
/-- isinstance(x, (list, tuple)) -/
theorem ty_dp {v : V} {c : PyData} (h : Dp K H v c) : ∃ t, TyX K H v t ∧ PySem.W.kitAny K t [.type "list", .type "tuple"] = some (kids c).isSome := by
  have no : ∀ t : String, kitB t "list" = some false → kitB t "tuple" = some false → PySem.W.kitAny K (.type t) [.type "list", .type "tuple"] = some false := fun t h1 h2 =>
    kitAny_cons (kit_ty h1) (fun _ => kitAny_cons (kit_ty h2) (fun _ => kitAny_nil) (fun z => nomatch z)) (fun z => nomatch z)
  have yl : PySem.W.kitAny K (.type "list") [.type "list", .type "tuple"] = some true := kitAny_cons (b := true) (kit_ty (by decide +kernel)) (fun z => nomatch z) (fun _ => rfl)
  have yt : PySem.W.kitAny K (.type "tuple") [.type "list", .type "tuple"] = some true :=
    kitAny_cons (b := false) (kit_ty (by decide +kernel)) (fun _ => kitAny_cons (b := true) (kit_ty (by decide +kernel)) (fun z => nomatch z) (fun _ => rfl)) (fun z => nomatch z)
  cases h with
  | non => exact ⟨_, .base .non, no _ (by decide +kernel) (by decide +kernel)⟩
  | bl b => exact ⟨_, .base (.bl b), no _ (by decide +kernel) (by decide +kernel)⟩
  | int i => exact ⟨_, .base (.int i), no _ (by decide +kernel) (by decide +kernel)⟩
  | str x => exact ⟨_, .base (.str x), no _ (by decide +kernel) (by decide +kernel)⟩
  | lst h1 _ =>
    refine ⟨.type "list", ?_, yl⟩
    rcases h1 with (h | ⟨o, h⟩) | ⟨o, its, n, h, hc, _⟩
    · exact .base (.lst h)
    · exact .base (.frz h)
    · exact .kList h hc
  | tup h1 _ =>
    refine ⟨.type "tuple", ?_, yt⟩
    rcases h1 with (h | ⟨o, h⟩) | ⟨o, its, n, h, hc, _⟩
    · exact .base (.tup h)
    · exact .fTuple h
    · exact .kTuple h hc
theorem leaf_dp {v : V} {c : PyData} (h : Dp K H v c) (k : kids c = none) : fix c = c ∧ Dp K H' v c := by
  cases h with
  | non => exact ⟨by simp [fix], .non⟩
  | bl b => exact ⟨by simp [fix], .bl b⟩
  | int i => exact ⟨by simp [fix], .int i⟩
  | str x => exact ⟨by simp [fix], .str x⟩
  | lst _ _ => simp [kids] at k
  | tup _ _ => simp [kids] at k
theorem same_new {H : Hp} {a : Addr} {o : HO} (h : H a = none) : Same H (upd H a o) := fun b u e => by
  rw [upd_ne (ne_of_none e h)]
  exact e
theorem same_upd {H0 H : Hp} {a : Addr} {o : HO} (e : Same H0 H) (h : H0 a = none) : Same H0 (upd H a o) := fun b u q => by
  rw [upd_ne (ne_of_none q h)]
  exact e _ _ q
end
end Rx

set_option Elab.async false
set_option linter.all false
set_option maxRecDepth 100000
set_option maxHeartbeats 4000000
namespace Rx
open PySem PySem.Spec PyProof.Rows L2 SX
/-! ### signs, words, numbers of a text -/
def isLet (c : Nat) : Bool := decide (97 ≤ c) && decide (c ≤ 122)
def isDig (c : Nat) : Bool := decide (48 ≤ c) && decide (c ≤ 57)
def lettersS : Str := "abcdefghijklmnopqrstuvwxyz"
def digitsS : Str := "0123456789"
def reservedL : List Str := ["and", "checkpoint", "else", "end", "if", "input", "mod", "not", "or", "process", "receive", "send", "set", "take", "while"]
def wordsL : List Str := ["and", "mod", "not", "or"]
def signsL : List Str := ["//", "!=", "<=", ">=", "+", "-", "*", "(", ")", "[", "]", "=", "<", ">"]
theorem let_mem (c : Nat) : decide (c ∈ lettersS.cps.toList) = isLet c := by
  have h : lettersS.cps.toList = List.range' 97 26 := by decide +kernel
  rw [h, Bool.eq_iff_iff]
  simp only [isLet, decide_eq_true_eq, Bool.and_eq_true, List.mem_range'_1]
  omega
theorem dig_mem (c : Nat) : decide (c ∈ digitsS.cps.toList) = isDig c := by
  have h : digitsS.cps.toList = List.range' 48 10 := by decide +kernel
  rw [h, Bool.eq_iff_iff]
  simp only [isDig, decide_eq_true_eq, Bool.and_eq_true, List.mem_range'_1]
  omega
def isName (cs : List Nat) : Bool := !(reservedL.contains (S cs)) && (decide (cs ≠ []) && (decide (cs.length ≤ 8) && cs.all isLet))
def isNum (cs : List Nat) : Bool := decide (cs ≠ []) && (decide (cs.length ≤ 30) && (!(decide (cs.head? = some 48) && decide (cs ≠ [48])) && cs.all isDig))
/-- the token at the head of a text: its sign, its worth, its size -/
def wordTok (w : List Nat) : Str × V × Nat := if wordsL.contains (S w) then (S w, .non, w.length) else if isName w then ("variable", .str (S w), w.length) else ("bad", .non, w.length)
def numTok (w : List Nat) : Str × V × Nat := if isNum w then ("number", .int (NumText.digitsVal w : Nat), w.length) else ("bad", .non, w.length)
def signTok (cs : List Nat) : Str × V × Nat := match signsL.find? (fun s => s.cps.toList.isPrefixOf cs) with
  | some s => (s, .non, s.length)
  | none => ("bad", .non, 1)
def tokAt (cs : List Nat) : Str × V × Nat := match cs with
  | [] => ("bad", .non, 1)
  | c :: _ => if isLet c then wordTok (cs.takeWhile isLet) else if isDig c then numTok (cs.takeWhile isDig) else signTok cs
theorem signTok_pos (cs : List Nat) : 1 ≤ (signTok cs).2.2 := by
  unfold signTok
  split
  · rename_i s h
    have hm := List.mem_of_find?_eq_some h
    have : ∀ s ∈ signsL, 1 ≤ s.length := by decide +kernel
    exact this s hm
  · exact Nat.le_refl _
theorem tokAt_pos (cs : List Nat) : 1 ≤ (tokAt cs).2.2 := by
  unfold tokAt
  split
  · exact Nat.le_refl _
  · rename_i c r
    split
    · rename_i h
      have hl : 1 ≤ ((c :: r).takeWhile isLet).length := by rw [List.takeWhile_cons, if_pos h]; simp
      unfold wordTok
      split
      · exact hl
      · split <;> exact hl
    · split
      · rename_i h
        have hl : 1 ≤ ((c :: r).takeWhile isDig).length := by rw [List.takeWhile_cons, if_pos h]; simp
        unfold numTok
        split <;> exact hl
      · exact signTok_pos _
/-- the tokens of the rest of a text that stands from the place at on -/
def toksF : Nat → Nat → List Nat → List (Str × V × Nat)
  | 0, at_, _ => [("end", .non, at_)]
  | _ + 1, at_, [] => [("end", .non, at_)]
  | n + 1, at_, c :: r => if c = 32 then toksF n (at_ + 1) r else ((tokAt (c :: r)).1, (tokAt (c :: r)).2.1, at_) :: toksF n (at_ + (tokAt (c :: r)).2.2) ((c :: r).drop (tokAt (c :: r)).2.2)
def toks (cs : List Nat) : List (Str × V × Nat) := toksF cs.length 0 cs
theorem toksF_fuel : ∀ (n m : Nat) (at_ : Nat) (cs : List Nat), cs.length ≤ n → cs.length ≤ m → toksF n at_ cs = toksF m at_ cs
  | 0, 0, _, _, _, _ => rfl
  | 0, m + 1, at_, [], _, _ => rfl
  | 0, m + 1, at_, c :: r, h, _ => by simp at h
  | n + 1, 0, at_, [], _, _ => rfl
  | n + 1, 0, at_, c :: r, _, h => by simp at h
  | n + 1, m + 1, at_, [], _, _ => rfl
  | n + 1, m + 1, at_, c :: r, h1, h2 => by
    simp only [List.length_cons] at h1 h2
    have hp := tokAt_pos (c :: r)
    unfold toksF
    rw [toksF_fuel n m (at_ + 1) r (by omega) (by omega), toksF_fuel n m _ ((c :: r).drop (tokAt (c :: r)).2.2) (by rw [List.length_drop, List.length_cons]; omega) (by rw [List.length_drop, List.length_cons]; omega)]
/-! ### constants of the module -/
/-- a written tuple -/
def KTup (K : PySem.W.Frag) (a : Addr) (xs : List V) : Prop := ∃ (o : Obj) (its : Array Value) (n : Nat), K.lookup a = some o ∧ o.cls = .type "tuple" ∧ o.data = .seq its n ∧ its.size ≤ sizeLine ∧ Vals xs its.toList
theorem KTup.sq {K : PySem.W.Frag} {a : Addr} {xs : List V} (h : KTup K a xs) (H : Hp) : SqT K H a xs := .inr h
theorem inV_strs (x : Str) (l : List Str) : inV (.str x) (l.map V.str) = l.contains x := by
  induction l with
  | nil => rfl
  | cons y l ih =>
    show (eqV (.str y) (.str x) || inV (.str x) (l.map V.str)) = _
    rw [ih, List.contains_cons]
    congr 1
    show decide (y = x) = (x == y)
    by_cases e : y = x
    · subst e; simp
    · have : ¬ x = y := fun z => e z.symm
      simp [e, this]
theorem flat_strs (l : List Str) : (l.map V.str).all flatV = true := by
  induction l with
  | nil => rfl
  | cons y l ih => rw [List.map_cons, List.all_cons, ih]; rfl
end Rx

set_option Elab.async false
set_option linter.all false
set_option maxRecDepth 100000
set_option maxHeartbeats 4000000
namespace XE
open PySem PySem.Spec PyProof.Rows L2 Rx SX
def topS (i : Nat) : Stmt := PySem.Challenge.pw_rerunrein_k29_rows_refused.main.body.getD i (.Pass ⟨0, 0, 0, 0⟩)
/-- a def of the module, as its callers see it -/
structure Cal (P : Program) (w : World) (K : PySem.W.Frag) (mg : Str → Option Value) (base : Heap) (k : Nat) (x : Str) (f : Addr) (fd : FuncData) (ps : List Str) (sp : Sp) : Prop where
  ok : FnOk P w K mg base CX0 k f fd ps sp
  mg : mg x = some (.ref f)
  kp : PySem.W.keepIn K (.ref f) = true
  bi : Binds K fd ps []
section
variable {P : Program} {w : World} {K : PySem.W.Frag} {mg : Str → Option Value} {base : Heap}
theorem iteTc {c : Bool} {A B : Prop} (h : c = true) (a : A) : if c = true then A else B := by rw [if_pos h]; exact a
theorem iteFc {c : Bool} {A B : Prop} (h : c = false) (b : B) : if c = true then A else B := by rw [if_neg (by rw [h]; decide)]; exact b
theorem len_tl (z : Str) : z.cps.toList.length = z.length := by simp [Str.length]
theorem nil_tl (z : Str) : (z = ("" : Str)) ↔ z.cps.toList = [] := by
  constructor
  · intro h; subst h; decide +kernel
  · intro h
    have := S_tl z
    rw [h] at this
    exact this.symm
/-- the list of answers, sign by sign -/
theorem all_read {z : Str} {p : Nat → Bool} {D : Addr} {H : Hp} {Q : VK} (h : ∃ bs : List Bool, H D = some (.lst (bs.map V.bl)) ∧ bs = z.cps.toList.map p) (k : Q (.bl (z.cps.toList.all p)) H) :
    ∃ a bs, [V.ref D] = [V.ref a] ∧ SqL K H a (List.map V.bl bs) ∧ Q (.bl (bs.all id)) H := by
  obtain ⟨bs, h1, h2⟩ := h
  refine ⟨D, bs, rfl, SqL.of h1, ?_⟩
  rw [h2, List.all_map]
  exact k
end
end XE

set_option Elab.async false
set_option linter.all false
set_option maxRecDepth 100000
set_option maxHeartbeats 4000000
namespace Rx
open PySem PySem.Spec PyProof.Rows L2
/-- one level of the walk through nested data: what is walked, its items, how far, the list of what is made, and what is in it -/
structure Lv where
  src : V
  its : List PyData
  pl : Nat
  rs : Addr
  vl : List V
def lvOk (K : PySem.W.Frag) (H1 H : Hp) (N : Nat) (l : Lv) (n : Nat) : Prop := Src K H1 l.src l.its ∧ DpAll K H l.vl (fixAll (l.its.take n)) ∧ szAll l.its ≤ N
def below (K : PySem.W.Frag) (H1 H : Hp) (N : Nat) (d : PyData) : List PyData → List Lv → Prop
  | its, [] => its = [d]
  | its, l :: r => ∃ q c, l.pl = q + 1 ∧ l.its[q]? = some c ∧ kids c = some its ∧ lvOk K H1 H N l q ∧ below K H1 H N d l.its r
def mu : List Lv → Nat
  | [] => 0
  | l :: r => szAll (l.its.drop l.pl) + 1 + mu r
theorem below_len {K : PySem.W.Frag} {H1 H : Hp} {N : Nat} {d : PyData} : ∀ {r : List Lv} {its : List PyData}, below K H1 H N d its r → ∀ l ∈ r, l.vl.length ≤ N
  | [], _, _, _, hm => by cases hm
  | l :: r, its, ⟨q, c, e1, e2, e3, ⟨h1, h2, h3⟩, hb⟩, x, hm => by
    rcases List.mem_cons.mp hm with rfl | hm
    · have hl := dpAll_len h2
      rw [fixAll_map, List.length_map, List.length_take] at hl
      have := len_le_sz x.its
      omega
    · exact below_len hb x hm
/-- a list is written: the levels stay good -/
theorem below_keep {K : PySem.W.Frag} {H1 H H' : Hp} {N : Nat} {d : PyData} (k : ∀ a xs, H a = some (.tup xs) → H' a = some (.tup xs)) (kf : ∀ a o u, H a = some (.frz o u) → H' a = some (.frz o u)) :
    ∀ {r : List Lv} {its : List PyData}, below K H1 H N d its r → below K H1 H' N d its r
  | [], _, h => h
  | l :: r, its, ⟨q, c, e1, e2, e3, ⟨h1, h2, h3⟩, hb⟩ => ⟨q, c, e1, e2, e3, ⟨h1, dpAll_keep k kf h2 (fixAll_noList _), h3⟩, below_keep k kf hb⟩
def colS (L : List Lv) : List V := L.reverse.map (·.src)
def colP (L : List Lv) : List V := L.reverse.map fun l => V.int l.pl
def colR (L : List Lv) : List V := L.reverse.map fun l => V.ref l.rs
/-- the state between two turns -/
structure Mid (K : PySem.W.Frag) (H1 H : Hp) (N B : Nat) (d : PyData) (S P R : Addr) (t : Lv) (r : List Lv) : Prop where
  hS : H S = some (.lst (colS (t :: r)))
  hP : H P = some (.lst (colP (t :: r)))
  hR : H R = some (.lst (colR (t :: r)))
  hv : ∀ l ∈ t :: r, H l.rs = some (.lst l.vl)
  nSP : S ≠ P
  nSR : S ≠ R
  nPR : P ≠ R
  nd : ((t :: r).map (·.rs)).Nodup
  out : ∀ l ∈ t :: r, l.rs ≠ S ∧ l.rs ≠ P ∧ l.rs ≠ R ∧ H1 l.rs = none
  same : Same H1 H
  fS : H1 S = none
  fP : H1 P = none
  fR : H1 R = none
  ok : lvOk K H1 H N t t.pl
  le : t.pl ≤ t.its.length
  bl : below K H1 H N d t.its r
  bd : mu (t :: r) + (t :: r).length ≤ B
theorem colS_cons (t : Lv) (r : List Lv) : colS (t :: r) = colS r ++ [t.src] := by simp [colS]
theorem colP_cons (t : Lv) (r : List Lv) : colP (t :: r) = colP r ++ [V.int t.pl] := by simp [colP]
theorem colR_cons (t : Lv) (r : List Lv) : colR (t :: r) = colR r ++ [V.ref t.rs] := by simp [colR]
theorem col_lens (L : List Lv) : (colS L).length = L.length ∧ (colP L).length = L.length ∧ (colR L).length = L.length := by simp [colS, colP, colR]
/-- tuples and locked things stay -/
def Keeps (H H' : Hp) : Prop := (∀ a xs, H a = some (.tup xs) → H' a = some (.tup xs)) ∧ ∀ a o u, H a = some (.frz o u) → H' a = some (.frz o u)
theorem Keeps.refl (H : Hp) : Keeps H H := ⟨fun _ _ h => h, fun _ _ _ h => h⟩
theorem Keeps.trans {H H1 H2 : Hp} (a : Keeps H H1) (b : Keeps H1 H2) : Keeps H H2 := ⟨fun x y h => b.1 _ _ (a.1 x y h), fun x y z h => b.2 _ _ _ (a.2 x y z h)⟩
theorem keeps_lst {H : Hp} {a : Addr} {xs : List V} {o : HO} (h : H a = some (.lst xs)) : Keeps H (upd H a o) :=
  ⟨fun b ys e => by rw [upd_ne (ne_of e h (by intro z; cases z))]; exact e, fun b ob u e => by rw [upd_ne (ne_of e h (by intro z; cases z))]; exact e⟩
theorem keeps_new {H : Hp} {a : Addr} {o : HO} (h : H a = none) : Keeps H (upd H a o) :=
  ⟨fun b ys e => by rw [upd_ne (ne_of_none e h)]; exact e, fun b ob u e => by rw [upd_ne (ne_of_none e h)]; exact e⟩
section
variable {K : PySem.W.Frag} {H1 H : Hp} {N B : Nat} {d : PyData} {S P R : Addr} {t l : Lv} {r : List Lv}
/-- behind the last item of a level: it becomes a tuple -/
theorem mid_pop (M : Mid K H1 H N B d S P R t (l :: r)) (hpl : t.pl = t.its.length) {p : Addr} {oS oP oR : List V} (eS : oS = colS (l :: r)) (eP : oP = colP (l :: r)) (eR : oR = colR (l :: r))
    (hp : upd (upd (upd H S (.lst oS)) P (.lst oP)) R (.lst oR) p = none) :
    Mid K H1 (upd (upd (upd (upd (upd H S (.lst oS)) P (.lst oP)) R (.lst oR)) p (.tup t.vl)) l.rs (.lst (l.vl ++ [.ref p]))) N B d S P R { l with vl := l.vl ++ [.ref p] } r ∧ mu ({ l with vl := l.vl ++ [.ref p] } :: r) < mu (t :: l :: r) := by
  subst eS eP eR
  obtain ⟨q, c, e1, e2, e3, ⟨h1, h2, h3⟩, hb⟩ := M.bl
  have pS : p ≠ S := fun z => by rw [z, upd_ne M.nSR, upd_ne M.nSP, upd_same] at hp; cases hp
  have pP : p ≠ P := fun z => by rw [z, upd_ne M.nPR, upd_same] at hp; cases hp
  have pR : p ≠ R := fun z => by rw [z, upd_same] at hp; cases hp
  have hpn : H p = none := by rw [upd_ne pR, upd_ne pP, upd_ne pS] at hp; exact hp
  have p1 : H1 p = none := M.same.free hpn
  obtain ⟨lS, lP, lR, l1⟩ := M.out l (by simp)
  have lp : l.rs ≠ p := ne_of_none (M.hv l (by simp)) hpn
  have kk : Keeps H (upd (upd (upd (upd (upd H S (.lst (colS (l :: r)))) P (.lst (colP (l :: r)))) R (.lst (colR (l :: r)))) p (.tup t.vl)) l.rs (.lst (l.vl ++ [.ref p]))) := by
    refine (keeps_lst M.hS).trans ((keeps_lst (xs := colP (t :: l :: r)) ?_).trans ((keeps_lst (xs := colR (t :: l :: r)) ?_).trans ((keeps_new hp).trans (keeps_lst (xs := l.vl) ?_))))
    · rw [upd_ne M.nSP.symm]; exact M.hP
    · rw [upd_ne M.nPR.symm, upd_ne M.nSR.symm]; exact M.hR
    · rw [upd_ne lp, upd_ne lR, upd_ne lP, upd_ne lS]; exact M.hv l (by simp)
  have nd := M.nd
  simp only [List.map_cons, List.nodup_cons, List.mem_cons, not_or] at nd
  have hq : q + 1 ≤ l.its.length := (List.getElem?_eq_some_iff.mp e2).1
  have etk : l.its.take (q + 1) = l.its.take q ++ [c] := by rw [List.take_add_one, e2]; rfl
  have T : Dp K (upd (upd (upd (upd (upd H S (.lst (colS (l :: r)))) P (.lst (colP (l :: r)))) R (.lst (colR (l :: r)))) p (.tup t.vl)) l.rs (.lst (l.vl ++ [.ref p]))) (.ref p) (fix c) := by
    rw [fix_kids e3]
    refine .tup (SqT.of (by rw [upd_ne lp.symm, upd_same])) ?_
    have := M.ok.2.1
    rw [hpl, List.take_length] at this
    exact dpAll_keep kk.1 kk.2 this (fixAll_noList _)
  refine ⟨⟨?_, ?_, ?_, ?_, M.nSP, M.nSR, M.nPR, ?_, ?_, ?_, M.fS, M.fP, M.fR, ⟨h1, ?_, h3⟩, ?_, ?_, ?_⟩, ?_⟩
  · rw [upd_ne lS.symm, upd_ne pS.symm, upd_ne M.nSR, upd_ne M.nSP, upd_same]; simp [colS]
  · rw [upd_ne lP.symm, upd_ne pP.symm, upd_ne M.nPR, upd_same]; simp [colP]
  · rw [upd_ne lR.symm, upd_ne pR.symm, upd_same]; simp [colR]
  · intro x hx
    rcases List.mem_cons.mp hx with rfl | hx
    · exact upd_same
    · obtain ⟨xS, xP, xR, x1⟩ := M.out x (by simp [hx])
      have xl : x.rs ≠ l.rs := fun z => nd.2.1 (by rw [← z]; exact List.mem_map_of_mem hx)
      have xv := M.hv x (by simp [hx])
      rw [upd_ne xl, upd_ne (ne_of_none xv hpn), upd_ne xR, upd_ne xP, upd_ne xS]
      exact xv
  · simp only [List.map_cons, List.nodup_cons]
    exact nd.2
  · intro x hx
    rcases List.mem_cons.mp hx with rfl | hx
    · exact ⟨lS, lP, lR, l1⟩
    · exact M.out x (by simp [hx])
  · exact same_upd (same_upd (same_upd (same_upd (same_upd M.same M.fS) M.fP) M.fR) p1) l1
  · show DpAll K _ (l.vl ++ [.ref p]) (fixAll (l.its.take l.pl))
    rw [e1, etk, fixAll_map, List.map_append, ← fixAll_map]
    exact dpAll_app (dpAll_keep kk.1 kk.2 h2 (fixAll_noList _)) (.cons T .nil)
  · show l.pl ≤ l.its.length
    omega
  · exact below_keep kk.1 kk.2 hb
  · have := M.bd
    simp only [mu, List.length_cons] at this ⊢
    omega
  · simp only [mu]
    omega
/-- an item that is no list and no tuple -/
theorem mid_leaf (M : Mid K H1 H N B d S P R t r) {c : PyData} {v : V} (hc : t.its[t.pl]? = some c) (kc : kids c = none) (hv : Dp K H1 v c) {q : Addr} {oq : HO} {oP : List V} (eP : oP = colP ({ t with pl := t.pl + 1 } :: r))
    (hq : upd H P (.lst oP) q = none) :
    Mid K H1 (upd (upd (upd H P (.lst oP)) q oq) t.rs (.lst (t.vl ++ [v]))) N B d S P R { t with pl := t.pl + 1, vl := t.vl ++ [v] } r ∧ mu ({ t with pl := t.pl + 1, vl := t.vl ++ [v] } :: r) < mu (t :: r) := by
  subst eP
  have qP : q ≠ P := fun z => by rw [z, upd_same] at hq; cases hq
  have hqn : H q = none := by rw [upd_ne qP] at hq; exact hq
  have q1 : H1 q = none := M.same.free hqn
  obtain ⟨tS, tP, tR, t1⟩ := M.out t (by simp)
  have tq : t.rs ≠ q := ne_of_none (M.hv t (by simp)) hqn
  have kk : Keeps H (upd (upd (upd H P (.lst (colP ({ t with pl := t.pl + 1 } :: r)))) q oq) t.rs (.lst (t.vl ++ [v]))) := by
    refine (keeps_lst M.hP).trans ((keeps_new hq).trans (keeps_lst (xs := t.vl) ?_))
    rw [upd_ne tq, upd_ne tP]; exact M.hv t (by simp)
  have nd := M.nd
  simp only [List.map_cons, List.nodup_cons] at nd
  have hlt : t.pl < t.its.length := (List.getElem?_eq_some_iff.mp hc).1
  have etk : t.its.take (t.pl + 1) = t.its.take t.pl ++ [c] := by rw [List.take_add_one, hc]; rfl
  have hd := szAll_drop hc
  have hs := sz_pos c
  refine ⟨⟨?_, ?_, ?_, ?_, M.nSP, M.nSR, M.nPR, ?_, ?_, ?_, M.fS, M.fP, M.fR, ⟨M.ok.1, ?_, M.ok.2.2⟩, ?_, ?_, ?_⟩, ?_⟩
  · rw [upd_ne tS.symm, upd_ne (ne_of_none M.hS hqn), upd_ne M.nSP, M.hS]; simp [colS]
  · rw [upd_ne tP.symm, upd_ne qP.symm, upd_same]; simp [colP]
  · rw [upd_ne tR.symm, upd_ne (ne_of_none M.hR hqn), upd_ne M.nPR.symm, M.hR]; simp [colR]
  · intro x hx
    rcases List.mem_cons.mp hx with rfl | hx
    · exact upd_same
    · obtain ⟨xS, xP, xR, x1⟩ := M.out x (by simp [hx])
      have xl : x.rs ≠ t.rs := fun z => nd.1 (by rw [← z]; exact List.mem_map_of_mem hx)
      have xv := M.hv x (by simp [hx])
      rw [upd_ne xl, upd_ne (ne_of_none xv hqn), upd_ne xP]
      exact xv
  · simp only [List.map_cons, List.nodup_cons]
    exact nd
  · intro x hx
    rcases List.mem_cons.mp hx with rfl | hx
    · exact ⟨tS, tP, tR, t1⟩
    · exact M.out x (by simp [hx])
  · exact same_upd (same_upd (same_upd M.same M.fP) q1) t1
  · show DpAll K _ (t.vl ++ [v]) (fixAll (t.its.take (t.pl + 1)))
    rw [etk, fixAll_map, List.map_append, ← fixAll_map]
    refine dpAll_app (dpAll_keep kk.1 kk.2 M.ok.2.1 (fixAll_noList _)) (.cons ?_ .nil)
    obtain ⟨e, h⟩ := leaf_dp (H' := _) hv kc
    rw [e]
    exact h
  · exact hlt
  · exact below_keep kk.1 kk.2 M.bl
  · have := M.bd
    simp only [mu, List.length_cons] at this ⊢
    omega
  · simp only [mu]
    omega
/-- an item that is a list or a tuple: a new level -/
theorem mid_push (M : Mid K H1 H N B d S P R t r) {c : PyData} {v : V} {its : List PyData} (hc : t.its[t.pl]? = some c) (kc : kids c = some its) (hv : Dp K H1 v c) {q e : Addr} {oq : HO} {oP oS oP' oR : List V}
    (eP : oP = colP ({ t with pl := t.pl + 1 } :: r)) (hq : upd H P (.lst oP) q = none) (eS : oS = colS ({ t with pl := t.pl + 1 } :: r) ++ [v]) (eP' : oP' = colP ({ t with pl := t.pl + 1 } :: r) ++ [V.int 0]) (eR : oR = colR ({ t with pl := t.pl + 1 } :: r) ++ [V.ref e])
    (he : upd (upd (upd (upd H P (.lst oP)) q oq) S (.lst oS)) P (.lst oP') e = none) :
    Mid K H1 (upd (upd (upd (upd (upd (upd H P (.lst oP)) q oq) S (.lst oS)) P (.lst oP')) e (.lst [])) R (.lst oR)) N B d S P R ⟨v, its, 0, e, []⟩ ({ t with pl := t.pl + 1 } :: r) ∧ mu (⟨v, its, 0, e, []⟩ :: { t with pl := t.pl + 1 } :: r) < mu (t :: r) := by
  subst eP eS eP' eR
  have qP : q ≠ P := fun z => by rw [z, upd_same] at hq; cases hq
  have hqn : H q = none := by rw [upd_ne qP] at hq; exact hq
  have q1 : H1 q = none := M.same.free hqn
  have qS : S ≠ q := ne_of_none M.hS hqn
  have qR : R ≠ q := ne_of_none M.hR hqn
  have eP : e ≠ P := fun z => by rw [z, upd_same] at he; cases he
  have eS : e ≠ S := fun z => by rw [z, upd_ne M.nSP, upd_same] at he; cases he
  have eq : e ≠ q := fun z => by rw [z, upd_ne qP, upd_ne qS.symm, upd_same] at he; cases he
  have hen : H e = none := by rw [upd_ne eP, upd_ne eS, upd_ne eq, upd_ne eP] at he; exact he
  have e1 : H1 e = none := M.same.free hen
  have eR : R ≠ e := ne_of_none M.hR hen
  have kk : Keeps H (upd (upd (upd (upd (upd (upd H P (.lst (colP ({ t with pl := t.pl + 1 } :: r)))) q oq) S (.lst (colS ({ t with pl := t.pl + 1 } :: r) ++ [v]))) P (.lst (colP ({ t with pl := t.pl + 1 } :: r) ++ [V.int 0]))) e (.lst [])) R (.lst (colR ({ t with pl := t.pl + 1 } :: r) ++ [V.ref e]))) := by
    refine (keeps_lst M.hP).trans ((keeps_new hq).trans ((keeps_lst (xs := colS (t :: r)) ?_).trans ((keeps_lst (xs := colP ({ t with pl := t.pl + 1 } :: r)) ?_).trans ((keeps_new he).trans (keeps_lst (xs := colR (t :: r)) ?_)))))
    · rw [upd_ne qS, upd_ne M.nSP]; exact M.hS
    · rw [upd_ne M.nSP.symm, upd_ne qP.symm, upd_same]
    · rw [upd_ne eR, upd_ne M.nPR.symm, upd_ne M.nSR.symm, upd_ne qR, upd_ne M.nPR.symm]; exact M.hR
  have nd := M.nd
  simp only [List.map_cons, List.nodup_cons] at nd
  have hlt : t.pl < t.its.length := (List.getElem?_eq_some_iff.mp hc).1
  have hd := szAll_drop hc
  have hs := sz_kids kc
  have hm : c ∈ t.its := List.mem_of_getElem? hc
  refine ⟨⟨?_, ?_, ?_, ?_, M.nSP, M.nSR, M.nPR, ?_, ?_, ?_, M.fS, M.fP, M.fR, ⟨src_of hv kc, ?_, ?_⟩, ?_, ?_, ?_⟩, ?_⟩
  · rw [upd_ne M.nSR, upd_ne eS.symm, upd_ne M.nSP, upd_same]; simp [colS]
  · rw [upd_ne M.nPR, upd_ne eP.symm, upd_same]; simp [colP]
  · rw [upd_same]; simp [colR]
  · intro x hx
    rcases List.mem_cons.mp hx with rfl | hx
    · rw [upd_ne eR.symm, upd_same]
    · have xx : ∃ y ∈ t :: r, y.rs = x.rs ∧ y.vl = x.vl := by
        rcases List.mem_cons.mp hx with rfl | hx
        · exact ⟨t, by simp, rfl, rfl⟩
        · exact ⟨x, by simp [hx], rfl, rfl⟩
      obtain ⟨y, hy, y1, y2⟩ := xx
      obtain ⟨xS, xP, xR, x1⟩ := M.out y hy
      have xv := M.hv y hy
      rw [← y1, ← y2, upd_ne xR, upd_ne (ne_of_none xv hen), upd_ne xP, upd_ne xS, upd_ne (ne_of_none xv hqn), upd_ne xP]
      exact xv
  · simp only [List.map_cons, List.nodup_cons, List.mem_cons, not_or]
    refine ⟨⟨fun z => ?_, fun z => ?_⟩, nd⟩
    · have := M.hv t (by simp)
      rw [← z, hen] at this
      cases this
    · obtain ⟨y, hy, z⟩ := List.mem_map.mp z
      have := M.hv y (by simp [hy])
      rw [z, hen] at this
      cases this
  · intro x hx
    rcases List.mem_cons.mp hx with rfl | hx
    · exact ⟨eS, eP, eR.symm, e1⟩
    · rcases List.mem_cons.mp hx with rfl | hx
      · exact M.out t (by simp)
      · exact M.out x (by simp [hx])
  · exact same_upd (same_upd (same_upd (same_upd (same_upd (same_upd M.same M.fP) q1) M.fS) M.fP) e1) M.fR
  · show DpAll K _ [] (fixAll (its.take 0))
    rw [List.take_zero]
    exact .nil
  · show szAll its ≤ N
    have := sz_le_all hm
    have := M.ok.2.2
    omega
  · exact Nat.zero_le _
  · exact ⟨t.pl, c, rfl, hc, kc, ⟨M.ok.1, dpAll_keep kk.1 kk.2 M.ok.2.1 (fixAll_noList _), M.ok.2.2⟩, below_keep kk.1 kk.2 M.bl⟩
  · have := M.bd
    simp only [mu, List.length_cons, List.drop_zero] at this ⊢
    omega
  · simp only [mu, List.drop_zero]
    omega
end
end Rx

set_option Elab.async false
set_option linter.all false
set_option maxRecDepth 100000
set_option maxHeartbeats 4000000
namespace XE
open PySem PySem.Spec PyProof.Rows L2 Rx SX
abbrev sFrozen : Stmt := topS 12
/-- the built-in names that stand as they were -/
structure TxtB (mg : Str → Option Value) : Prop where
  len : mg "len" = none
  tup : mg "tuple" = none
  lst : mg "list" = none
  isi : mg "isinstance" = none
def spFrozenN (K : PySem.W.Frag) (N : Nat) : Sp := fun vs H Q _ => ∃ (v : V) (d : PyData), vs = [v] ∧ Dp K H v d ∧ sz d ≤ N ∧ ∀ H' v', Same H H' → Dp K H' v' (fix d) → Q v' H'
abbrev spFrozen (K : PySem.W.Frag) : Sp := spFrozenN K 1000
section
variable {P : Program} {w : World} {K : PySem.W.Frag} {mg : Str → Option Value} {base : Heap}
theorem scFz : FnScope ["thing", "sources", "places", "results", "source", "place", "finished", "item"] ["thing"] (defScope sFrozen) := ⟨rfl, rfl, rfl, by decide +kernel, rfl, by decide +kernel, by decide +kernel⟩
theorem set_last (xs : List V) (v u : V) : (xs ++ [v]).set xs.length u = xs ++ [u] := by
  rw [List.set_append_right _ _ (Nat.le_refl _), Nat.sub_self]
  rfl
theorem ixN_last (n : Nat) : ixN (n + 1) (-1) = some n := by
  unfold ixN
  rw [if_neg (by decide), if_pos (by omega)]
  congr 1
  omega
theorem last_get (xs : List V) (v : V) : (xs ++ [v])[(xs ++ [v]).length - 1]? = some v := by simp
theorem ix_any {H : Hp} {x v : V} {a : Addr} {xs : List V} {i : Nat} {Q : VK} (h : SqL K H a xs ∨ SqT K H a xs) (e : x = .ref a) (hv : xs[i]? = some v) (q : Q v H) : rIx K x (.int i) H Q :=
  h.elim (fun h => .inl ⟨a, xs, _, v, e, rfl, h, atI_nat hv, q⟩) (fun h => .inr (.inl ⟨a, xs, _, v, e, rfl, h, atI_nat hv, q⟩))
theorem ok_frozenN {f : Addr} {fd : FuncData} (N : Nat) (hN : N + 20 < sizeLine) (F : Fun K "frozen" "frozen" sFrozen f fd) (T : TxtB mg) : FnOk P w K mg base CX0 1 f fd ["thing"] (spFrozenN K N) := by
  refine F.ok scFz (fun vs H Q E h => ?_) (fun cdv A outer s H vs Q E hr h => ?_)
  · obtain ⟨v, d, rfl, _⟩ := h
    rfl
  · obtain ⟨v, d, rfl, hv, hsz, k⟩ := h
    refine ⟨_, pss_cons (ps_set (i := 1) scFz.nd rfl (.inl rfl) (pe_lst (pa_cons (pe_lst (pa_cons (pv 0) pa_nil)) pa_nil)))
      (pss_cons (ps_set (i := 2) scFz.nd rfl (.inl rfl) (pe_lst (pa_cons pe_int pa_nil)))
      (pss_cons (ps_set (i := 3) scFz.nd rfl (.inl rfl) (pe_lst (pa_cons (pe_lst pa_nil) pa_nil)))
      (pss_cons (ps_while PassesOwn.never
        (PW.pt (pw_or (pt_cmpR op_gt (pe_callB call_len_seq (by rfl) T.len PySem.boot_len (pa_cons (pv 1) pa_nil)) pe_int (nomark _)) (pw_or1 (pt_cmpR op_eq (pe_ix ix_list (pv 2) pe_int (fun _ _ => rfl)) pe_int (nomark _)))))
        (pss_cons (ps_set (i := 4) scFz.nd rfl (.inl rfl) (pe_ix ix_list (pv 1) (pe_un un_neg pe_int) (fun _ _ => rfl)))
        (pss_cons (ps_set (i := 5) scFz.nd rfl (.inl rfl) (pe_ix ix_list (pv 2) (pe_un un_neg pe_int) (fun _ _ => rfl)))
        (pss_cons (ps_if (pt_cmpR op_eq (pv 5) (pe_callB call_len_seq (by rfl) T.len PySem.boot_len (pa_cons (pv 4) pa_nil)) (nomark _))
          (pss_cons (ps_expr (pe_bm0 PySem.F.plainAttrs_list PySem.F.slot_list_pop PySem.F.type_list_pop mt_pop (pv 1)))
          (pss_cons (ps_expr (pe_bm0 PySem.F.plainAttrs_list PySem.F.slot_list_pop PySem.F.type_list_pop mt_pop (pv 2)))
          (pss_cons (ps_set (i := 6) scFz.nd rfl (.inl rfl) (pe_callTy call_tuple_of (by rfl) T.tup (by decide +kernel) (pa_cons (pe_bm0 PySem.F.plainAttrs_list PySem.F.slot_list_pop PySem.F.type_list_pop mt_pop (pv 3)) pa_nil)))
          (pss_cons (ps_expr (pe_bm PySem.F.plainAttrs_list PySem.F.slot_list_append PySem.F.type_list_append mt_append (pe_ix ix_list (pv 3) (pe_un un_neg pe_int) (fun _ _ => rfl)) (pa_cons (pv 6) pa_nil)))
          (pss_one ps_continue))))) pss_nil)
        (pss_cons (ps_asg (pe_op op_add (pv 5) pe_int) (pg_sub (pv 2) (pe_un un_neg pe_int) set_list))
        (pss_cons (ps_set (i := 7) scFz.nd rfl (.inl rfl) (pe_ix ix_seq (pv 4) (pv 5) (fun _ _ => rfl)))
        (pss_one (ps_if (pt_val (pe_callB call_isiT (by rfl) T.isi (by decide +kernel) (pa_cons (pv 7) (pa_cons (pe_tup (pa_cons (pe_bltn (v := .ty "list") (by rfl) T.lst (by decide +kernel) rfl) (pa_cons (pe_bltn (v := .ty "tuple") (by rfl) T.tup (by decide +kernel) rfl) pa_nil))) pa_nil))))
          (pss_cons (ps_expr (pe_bm PySem.F.plainAttrs_list PySem.F.slot_list_append PySem.F.type_list_append mt_append (pv 1) (pa_cons (pv 7) pa_nil)))
          (pss_cons (ps_expr (pe_bm PySem.F.plainAttrs_list PySem.F.slot_list_append PySem.F.type_list_append mt_append (pv 2) (pa_cons pe_int pa_nil)))
          (pss_one (ps_expr (pe_bm PySem.F.plainAttrs_list PySem.F.slot_list_append PySem.F.type_list_append mt_append (pv 3) (pa_cons (pe_lst pa_nil) pa_nil))))))
          (pss_one (ps_expr (pe_bm PySem.F.plainAttrs_list PySem.F.slot_list_append PySem.F.type_list_append mt_append (pe_ix ix_list (pv 3) (pe_un un_neg pe_int) (fun _ _ => rfl)) (pa_cons (pv 7) pa_nil))))))))))))
      (pss_one (ps_ret (pe_ix ix_list (pe_ix ix_list (pv 3) pe_int (fun _ _ => rfl)) pe_int (fun _ _ => rfl))))))), ?_⟩
    refine ⟨_, rfl, (by show 1 ≤ sizeLine; decide), fun B0 hB => ⟨(by show 1 ≤ sizeLine; decide), fun S hS => ?_⟩⟩
    refine ⟨(by show 1 ≤ sizeLine; decide), fun Pp hP => ?_⟩
    refine ⟨(by show 0 ≤ sizeLine; decide), fun E1 hE => ⟨(by show 1 ≤ sizeLine; decide), fun R hR => ?_⟩⟩
    have nSB : S ≠ B0 := fun z => by rw [z, upd_same] at hS; cases hS
    have nPS : Pp ≠ S := fun z => by rw [z, upd_same] at hP; cases hP
    have hP1 : upd H B0 (.lst [v]) Pp = none := by rw [upd_ne nPS] at hP; exact hP
    have nEP : E1 ≠ Pp := fun z => by rw [z, upd_same] at hE; cases hE
    have hE1 : upd (upd H B0 (.lst [v])) S (.lst [V.ref B0]) E1 = none := by rw [upd_ne nEP] at hE; exact hE
    have nES : E1 ≠ S := fun z => by rw [z, upd_same] at hE1; cases hE1
    have hE2 : upd H B0 (.lst [v]) E1 = none := by rw [upd_ne nES] at hE1; exact hE1
    have nRE : R ≠ E1 := fun z => by rw [z, upd_same] at hR; cases hR
    have hR1 : upd (upd (upd H B0 (.lst [v])) S (.lst [V.ref B0])) Pp (.lst [V.int 0]) R = none := by rw [upd_ne nRE] at hR; exact hR
    have nRP : R ≠ Pp := fun z => by rw [z, upd_same] at hR1; cases hR1
    have hR2 : upd (upd H B0 (.lst [v])) S (.lst [V.ref B0]) R = none := by rw [upd_ne nRP] at hR1; exact hR1
    have nRS : R ≠ S := fun z => by rw [z, upd_same] at hR2; cases hR2
    have hR3 : upd H B0 (.lst [v]) R = none := by rw [upd_ne nRS] at hR2; exact hR2
    have sm : Same H (upd H B0 (.lst [v])) := same_new hB
    refine ⟨fun m σ H' => ∃ (t : Lv) (r : List Lv) (x4 x5 x6 x7 : Option V), m = mu (t :: r) ∧ σ = [some v, some (.ref S), some (.ref Pp), some (.ref R), x4, x5, x6, x7] ∧ Mid K (upd H B0 (.lst [v])) H' (sz d) (sz d + 2) d S Pp R t r,
      ⟨_, ⟨.ref B0, [d], 0, E1, []⟩, [], none, none, none, none, rfl, rfl, ?_⟩, ?_⟩
    · refine ⟨?_, ?_, ?_, ?_, nPS.symm, nRS.symm, nRP.symm, ?_, ?_, ?_, hS, hP1, hR3, ⟨⟨B0, [v], rfl, .inl (SqL.of upd_same), .cons (dp_same sm hv) .nil⟩, .nil, ?_⟩, ?_, rfl, ?_⟩
      · rw [upd_ne nRS.symm, upd_ne nES.symm, upd_ne nPS.symm, upd_same]; rfl
      · rw [upd_ne nRP.symm, upd_ne nEP.symm, upd_same]; rfl
      · rw [upd_same]; rfl
      · intro l hl
        obtain rfl : l = _ := List.mem_singleton.mp hl
        rw [upd_ne nRE.symm, upd_same]
      · simp
      · intro l hl
        obtain rfl : l = _ := List.mem_singleton.mp hl
        exact ⟨nES, nEP, nRE.symm, hE2⟩
      · exact same_upd (same_upd (same_upd (same_upd (Same.refl _) hS) hP1) hE2) hR3
      · simp [szAll]
      · exact Nat.zero_le _
      · simp [mu, szAll]
    · rintro m σ Hc ⟨t, r, x4, x5, x6, x7, rfl, rfl, M⟩
      have hS' : Hc S = some (.lst (colS r ++ [t.src])) := by rw [← colS_cons]; exact M.hS
      have hP' : Hc Pp = some (.lst (colP r ++ [V.int t.pl])) := by rw [← colP_cons]; exact M.hP
      have hR' : Hc R = some (.lst (colR r ++ [V.ref t.rs])) := by rw [← colR_cons]; exact M.hR
      by_cases hx : r = [] ∧ t.pl ≠ 0
      · obtain ⟨rfl, hx⟩ := hx
        have hits : t.its = [d] := M.bl
        have hpl : t.pl = 1 := by
          have := M.le
          rw [hits] at this
          simp at this
          omega
        have hvl := M.ok.2.1
        rw [hits, hpl] at hvl
        simp only [List.take_succ_cons, List.take_nil, fixAll] at hvl
        obtain ⟨vl0, e0, q0⟩ := dpAll_get (i := 0) hvl rfl
        refine ⟨_, rfl, S, _, rfl, .inl (SqL.of M.hS), _, _, rfl, rfl, _, rfl, iteFc ?_ ?_⟩
        · simp [colS]
        refine ⟨_, rfl, Pp, _, _, _, rfl, rfl, SqL.of hP', atI_nat (j := 0) rfl, rfl, _, rfl, iteFc ?_ ?_⟩
        · simp [hpl]
        refine ⟨_, rfl, R, _, _, _, rfl, rfl, SqL.of hR', atI_nat (j := 0) rfl, t.rs, _, _, _, rfl, rfl, SqL.of (M.hv t (by simp)), atI_nat (j := 0) e0, ?_⟩
        exact k _ _ (sm.trans M.same) q0
      · have go : r = [] → t.pl = 0 := fun z => Classical.byContradiction fun n => hx ⟨z, n⟩
        have big : ∀ n, n ≤ N + 10 → n < sizeLine := fun n hn => Nat.lt_of_le_of_lt hn (by omega)
        have hLen : (t :: r).length ≤ N + 2 := by have := M.bd; omega
        obtain ⟨a, xs, hsrc, hsq, hxs⟩ := M.ok.1
        have hlen := dpAll_len hxs
        have hsq' : SqL K Hc a xs ∨ SqT K Hc a xs := hsq.imp (sqL_same M.same) (sqT_same M.same)
        refine ⟨_, rfl, S, _, rfl, .inl (SqL.of M.hS), _, _, rfl, rfl, _, rfl, ite2 (fun _ => iteT ?g1) (fun hn => ?g2)⟩
        case' g2 =>
          have hr0 : r = [] := by
            cases r with
            | nil => rfl
            | cons l r => exact absurd (by simp [colS]; omega) hn
          refine ⟨_, rfl, Pp, _, _, _, rfl, rfl, SqL.of hP', atI_nat (j := 0) (v := V.int t.pl) (by rw [hr0]; rfl), rfl, _, rfl, iteTc (by simp [go hr0]) ?_⟩
        all_goals
          refine ⟨fun σ' H' => ∃ m', m' < mu (t :: r) ∧ ∃ (t' : Lv) (r' : List Lv) (x4 x5 x6 x7 : Option V), m' = mu (t' :: r') ∧ σ' = [some v, some (.ref S), some (.ref Pp), some (.ref R), x4, x5, x6, x7] ∧ Mid K (upd H B0 (.lst [v])) H' (sz d) (sz d + 2) d S Pp R t' r', fun _ _ h => h, ?_⟩
          refine ⟨_, rfl, _, rfl, S, _, _, _, rfl, rfl, SqL.of hS', atI_last _ _, ?_⟩
          refine ⟨_, rfl, _, rfl, Pp, _, _, _, rfl, rfl, SqL.of hP', atI_last _ _, ?_⟩
          refine ⟨_, rfl, _, rfl, a, xs, (by rw [hsrc]), hsq', rfl, _, rfl, ?_⟩
          refine ite2 (fun h => ?_) (fun h => ?_)
          · have hpl : t.pl = t.its.length := by
              have h2 := of_decide_eq_true h
              injection h2 with h2
              omega
            cases r with
            | nil =>
              have hits : t.its = [d] := M.bl
              have := go rfl
              rw [hits] at hpl
              simp at hpl
              omega
            | cons l r =>
              refine ⟨_, rfl, .inl ⟨rfl, _, SqL.of hS'⟩, S, _, _, rfl, rfl, hS', last_get _ _, ?_⟩
              have hP2 : upd Hc S (.lst ((colS (l :: r) ++ [t.src]).dropLast)) Pp = some (.lst (colP (l :: r) ++ [V.int t.pl])) := by rw [upd_ne nPS]; exact hP'
              refine ⟨_, rfl, .inl ⟨rfl, _, SqL.of hP2⟩, Pp, _, _, rfl, rfl, hP2, last_get _ _, ?_⟩
              have hR2' : upd (upd Hc S (.lst ((colS (l :: r) ++ [t.src]).dropLast))) Pp (.lst ((colP (l :: r) ++ [V.int t.pl]).dropLast)) R = some (.lst (colR (l :: r) ++ [V.ref t.rs])) := by rw [upd_ne nRP, upd_ne nRS]; exact hR'
              refine ⟨_, rfl, .inl ⟨rfl, _, SqL.of hR2'⟩, R, _, _, rfl, rfl, hR2', last_get _ _, ?_⟩
              obtain ⟨tS, tP, tR, t1⟩ := M.out t (by simp)
              refine ⟨t.rs, t.vl, rfl, .inl ⟨SqL.of (by rw [upd_ne tR, upd_ne tP, upd_ne tS]; exact M.hv t (by simp)), fun p hp => ?_⟩⟩
              obtain ⟨M', lt⟩ := mid_pop M hpl (List.dropLast_concat) (List.dropLast_concat) (List.dropLast_concat) hp
              obtain ⟨lS, lP, lR, l1⟩ := M.out l (by simp)
              have hR3' : upd (upd (upd (upd Hc S (.lst ((colS (l :: r) ++ [t.src]).dropLast))) Pp (.lst ((colP (l :: r) ++ [V.int t.pl]).dropLast))) R (.lst ((colR (l :: r) ++ [V.ref t.rs]).dropLast))) p (.tup t.vl) R = some (.lst (colR r ++ [V.ref l.rs])) := by
                rw [upd_ne (fun z => by rw [← z, upd_same] at hp; cases hp), upd_same, List.dropLast_concat, colR_cons]
              have hvl' : upd (upd (upd (upd Hc S (.lst ((colS (l :: r) ++ [t.src]).dropLast))) Pp (.lst ((colP (l :: r) ++ [V.int t.pl]).dropLast))) R (.lst ((colR (l :: r) ++ [V.ref t.rs]).dropLast))) p (.tup t.vl) l.rs = some (.lst l.vl) := by
                have e : upd (upd (upd Hc S (.lst ((colS (l :: r) ++ [t.src]).dropLast))) Pp (.lst ((colP (l :: r) ++ [V.int t.pl]).dropLast))) R (.lst ((colR (l :: r) ++ [V.ref t.rs]).dropLast)) l.rs = some (.lst l.vl) := by
                  rw [upd_ne lR, upd_ne lP, upd_ne lS]; exact M.hv l (by simp)
                rw [upd_ne (ne_of_none e hp)]
                exact e
              refine ⟨_, rfl, _, rfl, R, _, _, _, rfl, rfl, SqL.of hR3', atI_last _ _, .inl ⟨rfl, _, SqL.of hvl'⟩, _, rfl, l.rs, _, _, rfl, rfl, hvl', big _ (by have := below_len M.bl l (by simp); omega), ?_⟩
              exact ⟨_, lt, _, r, _, _, _, _, rfl, rfl, M'⟩
          · have hlt : t.pl < t.its.length := by
              have h2 : ¬ (V.int (t.pl : Int) = V.int (xs.length : Int)) := fun z => h (decide_eq_true z)
              have h3 : t.pl ≠ xs.length := fun z => h2 (by rw [z])
              have := M.le
              omega
            obtain ⟨c, hc⟩ : ∃ c, t.its[t.pl]? = some c := ⟨_, List.getElem?_eq_getElem hlt⟩
            obtain ⟨vi, hvi, hdp⟩ := dpAll_get hxs hc
            have eP : (colP r ++ [V.int t.pl]).set (colP r).length (V.int ((t.pl : Int) + 1)) = colP ({ t with pl := t.pl + 1 } :: r) := by
              rw [set_last, colP_cons]
              simp
            refine ⟨_, rfl, _, _, rfl, rfl, _, rfl, _, rfl, Pp, _, _, (colP r).length, rfl, rfl, hP', (by rw [List.length_append]; exact ixN_last _), ?_⟩
            have sm2 : Same (upd H B0 (.lst [v])) (upd Hc Pp (.lst ((colP r ++ [V.int t.pl]).set (colP r).length (V.int ((t.pl : Int) + 1))))) := same_upd M.same hP1
            refine ⟨_, rfl, _, rfl, ix_any (hsq.imp (sqL_same sm2) (sqT_same sm2)) hsrc hvi ?_⟩
            refine ⟨_, rfl, (by show 2 ≤ sizeLine; decide), fun q hq => ?_⟩
            have qP : q ≠ Pp := fun z => by rw [z, upd_same] at hq; cases hq
            have hqn : Hc q = none := by rw [upd_ne qP] at hq; exact hq
            have q1 : upd H B0 (.lst [v]) q = none := M.same.free hqn
            have qS : S ≠ q := ne_of_none M.hS hqn
            have qR : R ≠ q := ne_of_none M.hR hqn
            obtain ⟨ty, tx, tk⟩ := ty_dp (dp_same (same_upd (o := .tup [.ty "list", .ty "tuple"]) sm2 q1) hdp)
            refine ⟨_, q, _, ty, _, _, rfl, upd_same, .cons (.ty "list") (.cons (.ty "tuple") .nil), tx, tk, _, rfl, ?_⟩
            cases kc : kids c with
            | some its =>
              refine iteTc rfl ?_
              have hS3 : upd (upd Hc Pp (.lst ((colP r ++ [V.int t.pl]).set (colP r).length (V.int ((t.pl : Int) + 1))))) q (.tup [.ty "list", .ty "tuple"]) S = some (.lst (colS (t :: r))) := by rw [upd_ne qS, upd_ne nPS.symm]; exact M.hS
              refine ⟨_, rfl, .inl ⟨rfl, _, SqL.of hS3⟩, _, rfl, S, _, _, rfl, rfl, hS3, big _ (by rw [(col_lens _).1]; omega), ?_⟩
              have hP3 : upd (upd (upd Hc Pp (.lst ((colP r ++ [V.int t.pl]).set (colP r).length (V.int ((t.pl : Int) + 1))))) q (.tup [.ty "list", .ty "tuple"])) S (.lst (colS (t :: r) ++ [vi])) Pp = some (.lst (colP ({ t with pl := t.pl + 1 } :: r))) := by rw [upd_ne nPS, upd_ne qP.symm, upd_same, eP]
              refine ⟨_, rfl, .inl ⟨rfl, _, SqL.of hP3⟩, Pp, _, _, rfl, rfl, hP3, big _ (by rw [(col_lens _).2.1]; simp only [List.length_cons] at hLen ⊢; omega), ?_⟩
              have hR4 : upd (upd (upd (upd Hc Pp (.lst ((colP r ++ [V.int t.pl]).set (colP r).length (V.int ((t.pl : Int) + 1))))) q (.tup [.ty "list", .ty "tuple"])) S (.lst (colS (t :: r) ++ [vi]))) Pp (.lst (colP ({ t with pl := t.pl + 1 } :: r) ++ [V.int 0])) R = some (.lst (colR (t :: r))) := by
                rw [upd_ne nRP, upd_ne nRS, upd_ne qR, upd_ne nRP]; exact M.hR
              refine ⟨_, rfl, .inl ⟨rfl, _, SqL.of hR4⟩, (by show 0 ≤ sizeLine; decide), fun e he => ?_⟩
              have neR : R ≠ e := ne_of_none hR4 he
              refine ⟨R, _, _, rfl, rfl, (by rw [upd_ne neR]; exact hR4), big _ (by rw [(col_lens _).2.2]; omega), ?_⟩
              obtain ⟨M', lt⟩ := mid_push (oq := .tup [.ty "list", .ty "tuple"]) (oS := colS (t :: r) ++ [vi]) (oR := colR (t :: r) ++ [V.ref e]) M hc kc hdp eP hq (by simp [colS]) rfl (by simp [colR]) he
              exact ⟨_, lt, _, _, _, _, _, _, rfl, rfl, M'⟩
            | none =>
              refine iteFc rfl ?_
              obtain ⟨tS, tP, tR, t1⟩ := M.out t (by simp)
              have hR3' : upd (upd Hc Pp (.lst ((colP r ++ [V.int t.pl]).set (colP r).length (V.int ((t.pl : Int) + 1))))) q (.tup [.ty "list", .ty "tuple"]) R = some (.lst (colR r ++ [V.ref t.rs])) := by rw [upd_ne qR, upd_ne nRP]; exact hR'
              have ht3 : upd (upd Hc Pp (.lst ((colP r ++ [V.int t.pl]).set (colP r).length (V.int ((t.pl : Int) + 1))))) q (.tup [.ty "list", .ty "tuple"]) t.rs = some (.lst t.vl) := by rw [upd_ne (ne_of_none (M.hv t (by simp)) hqn), upd_ne tP]; exact M.hv t (by simp)
              have hvlen : t.vl.length ≤ N := by
                have h1 := dpAll_len M.ok.2.1
                rw [fixAll_map, List.length_map, List.length_take] at h1
                have h2 := len_le_sz t.its
                have h3 := M.ok.2.2
                omega
              refine ⟨_, rfl, _, rfl, R, _, _, _, rfl, rfl, SqL.of hR3', atI_last _ _, .inl ⟨rfl, _, SqL.of ht3⟩, _, rfl, t.rs, _, _, rfl, rfl, ht3, big _ (by omega), ?_⟩
              obtain ⟨M', lt⟩ := mid_leaf (oq := .tup [.ty "list", .ty "tuple"]) M hc kc hdp eP hq
              exact ⟨_, lt, _, _, _, _, _, _, rfl, rfl, M'⟩
theorem ok_frozen {f : Addr} {fd : FuncData} (F : Fun K "frozen" "frozen" sFrozen f fd) (T : TxtB mg) : FnOk P w K mg base CX0 1 f fd ["thing"] (spFrozen K) := ok_frozenN 1000 (by decide) F T
end
end XE

set_option Elab.async false
set_option linter.all false
set_option maxRecDepth 100000
set_option maxHeartbeats 4000000
namespace Rx
open PySem PySem.Spec PyProof.Rows L2
/-! ### the __init__ of an error -/
structure SupFn (K : PySem.W.Frag) (qual : Str) (st : Stmt) (f cda cc : Addr) (fd : FuncData) : Prop where
  ex : ∃ (oc : Value) (od : Option Addr) (kV doc pm : Value) (an : Option Addr) (ct : Value) (osl : Array (Option Value)),
    fd = PySem.W.ksFn "__init__" qual (defArgs st) (defBody st) (defScope st) .none kV doc pm an (.ref cda) ct cc ∧ K.lookup f = some ⟨oc, od, .func fd, osl⟩ ∧ PySem.W.codeIn K (.ref cda) qual = true
/-- the arguments' data are kept under the fields' names, lists turned into tuples -/
def spInit (K : PySem.W.Frag) (C : Addr) (fs : List Str) : Sp := fun vs H Q _ => ∃ (a : Addr) (ws : List V) (ds : List PyData), vs = .ref a :: ws ∧ ws.length = fs.length ∧ H a = some (exo a C none) ∧ DpAll K H ws ds ∧ (∀ d ∈ ds, sz d ≤ 1000) ∧
  ∀ (H' : Hp) (dx : Addr) (us : List V), H dx = none → H' a = some (exo a C (some dx)) → H' dx = some (exd dx (fs.zip us).reverse) → DpAll K H' us (fixAll ds) → (∀ b o, H b = some o → b ≠ a → H' b = some o) → us.length = fs.length → Q .non H'
theorem spInit_self {K : PySem.W.Frag} {C : Addr} {fs : List Str} : ∀ vs H Q E, spInit K C fs vs H Q E → ∃ a ws, vs = .ref a :: ws ∧ H a = some (exo a C none) := fun vs H Q E h => by
  obtain ⟨a, ws, ds, e, _, h, _⟩ := h
  exact ⟨a, ws, e, h⟩
theorem spInit_len {K : PySem.W.Frag} {C : Addr} {fs : List Str} : ∀ vs H Q E, spInit K C fs vs H Q E → vs.length = ("self" :: fs : List Str).length := fun vs H Q E h => by
  obtain ⟨a, ws, ds, rfl, e, _⟩ := h
  rw [List.length_cons, List.length_cons, e]
theorem keeps_ext {H : Hp} {a : Addr} {φ : Heap → Prop} {o : HO} (h : H a = some (.ext φ)) : Keeps H (upd H a o) :=
  ⟨fun b ys e => by rw [upd_ne (ne_of e h (by intro z; cases z))]; exact e, fun b ob u e => by rw [upd_ne (ne_of e h (by intro z; cases z))]; exact e⟩
theorem Keeps.of_same {H H' : Hp} (h : Same H H') : Keeps H H' := ⟨fun a xs => h a _, fun a o u => h a _⟩
theorem SupFn.ok {CX : CXT} {P : Program} {w : World} {K : PySem.W.Frag} {mg : Str → Option Value} {base : Heap} {k : Nat} {f C cda cc : Addr} {qual : Str} {st : Stmt} {fd : FuncData} {N ps : List Str} {sp : Sp} {p0 p1 p2 p3 p4 : Pos} {rest : List Stmt} {ar : Arg}
    (F : SupFn K qual st f cda cc fd) (S : ScopeS N ps (defScope st)) (T : SupC P K C cda cc) (hb : defBody st = .Expr (.Call (.Attribute (.Call (.Name "super" p0) [] [] p1) "__init__" p2) [] [] p3) p4 :: rest)
    (hp : ((defArgs st).posonlyargs ++ (defArgs st).args).head? = some ar) (hps : ps[0]? = some ar.arg) (len : ∀ vs H Q E, sp vs H Q E → vs.length = ps.length) (slf : ∀ vs H Q E, sp vs H Q E → ∃ a ws, vs = .ref a :: ws ∧ H a = some (exo a C none))
    (hi : ∀ L, interactive (PySem.W.ksEnv qual (defScope st) L f (.ref cda) cc) = false)
    (hsw : ∀ L, swapsWith (.Call (.Attribute (.Call (.Name "super" p0) [] [] p1) "__init__" p2) [] [] p3) none p4.line (PySem.W.ksEnv qual (defScope st) L f (.ref cda) cc) = pure false)
    (he : ∀ L, ∃ pl : Sem Bool, eval (.Call (.Attribute (.Call (.Name "super" p0) [] [] p1) "__init__" p2) [] [] p3) (PySem.W.ksEnv qual (defScope st) L f (.ref cda) cc) = (do
      let ov ← attributeBase (.Call (.Name "super" p0) [] [] p1) "__init__" (PySem.W.ksEnv qual (defScope st) L f (.ref cda) cc) (eval (.Call (.Name "super" p0) [] [] p1) (PySem.W.ksEnv qual (defScope st) L f (.ref cda) cc))
      standAt p2.atName
      let (fx, first) ← holding [ov] (getMethod ov "__init__" pl)
      callWith p3 fx first (backTo p3 (starEach [] (PySem.W.ksEnv qual (defScope st) L f (.ref cda) cc))) []))
    (hbody : ∀ (A : Around) (outer : List Env) (s : Shared) (H : Hp) (vs : List V) (Q : VK) (E : XK), Room k (A.deeper (PySem.W.ksEnv qual (defScope st) s.heap.objs.size f (.ref cda) cc)) → sp vs H Q E →
      ∃ t, PSs (cxS CX P w K mg base N qual (defScope st) f (.ref cda) cc A outer s H E) rest t ∧ t { nx := fun _ H' => Q .non H', rt := Q } (L2.start N vs) H) : FnOk P w K mg base CX (k + 1) f fd ps sp := by
  obtain ⟨oc, od, kV, doc, pm, an, ct, osl, rfl, lk, hcd⟩ := F.ex
  rw [hb] at lk ⊢
  exact fn_super lk hcd S T hp hps len slf hbody hi hsw he
mutual
theorem dp_but {K : PySem.W.Frag} {H H' : Hp} {a : Addr} {φ : Heap → Prop} (ha : H a = some (.ext φ)) (k : ∀ b o, H b = some o → b ≠ a → H' b = some o) : ∀ {v : V} {d : PyData}, Dp K H v d → Dp K H' v d
  | _, _, .non => .non
  | _, _, .bl b => .bl b
  | _, _, .int i => .int i
  | _, _, .str x => .str x
  | _, _, .lst h1 h2 => .lst (by
      rcases h1 with (h | ⟨o, h⟩) | h
      · exact .inl (.inl (k _ _ h (ne_of h ha (by intro z; cases z))))
      · exact .inl (.inr ⟨o, k _ _ h (ne_of h ha (by intro z; cases z))⟩)
      · exact .inr h) (dpAll_but ha k h2)
  | _, _, .tup h1 h2 => .tup (by
      rcases h1 with (h | ⟨o, h⟩) | h
      · exact .inl (.inl (k _ _ h (ne_of h ha (by intro z; cases z))))
      · exact .inl (.inr ⟨o, k _ _ h (ne_of h ha (by intro z; cases z))⟩)
      · exact .inr h) (dpAll_but ha k h2)
theorem dpAll_but {K : PySem.W.Frag} {H H' : Hp} {a : Addr} {φ : Heap → Prop} (ha : H a = some (.ext φ)) (k : ∀ b o, H b = some o → b ≠ a → H' b = some o) : ∀ {vs : List V} {ds : List PyData}, DpAll K H vs ds → DpAll K H' vs ds
  | _, _, .nil => .nil
  | _, _, .cons h1 h2 => .cons (dp_but ha k h1) (dpAll_but ha k h2)
end
/-! ### an error that stands in the heap -/
def ErrAt (K : PySem.W.Frag) (H : Hp) (v : V) (C : Addr) (fs : List Str) (es : List PyData) : Prop := ∃ (a d : Addr) (us : List V), v = .ref a ∧ H a = some (exo a C (some d)) ∧ H d = some (exd d (fs.zip us).reverse) ∧ DpAll K H us es ∧ us.length = fs.length
theorem ErrAt.same {K : PySem.W.Frag} {H H' : Hp} {v : V} {C : Addr} {fs : List Str} {es : List PyData} (h : ErrAt K H v C fs es) (e : Same H H') : ErrAt K H' v C fs es := by
  obtain ⟨a, d, us, h1, h2, h3, h4, h5⟩ := h
  exact ⟨a, d, us, h1, e _ _ h2, e _ _ h3, dpAll_same e h4, h5⟩
theorem init_read {K : PySem.W.Frag} {C a : Addr} {fs : List Str} {H : Hp} {ws : List V} {ds : List PyData} {Q : Hp → Prop} (ha : H a = none) (hl : ws.length = fs.length) (hd : DpAll K H ws ds) (hz : ∀ d ∈ ds, sz d ≤ 1000)
    (k : ∀ H', Same H H' → ErrAt K H' (.ref a) C fs (fixAll ds) → Q H') : spInit K C fs (.ref a :: ws) (upd H a (exo a C none)) (fun v H3 => v = .non ∧ Q H3) E0 :=
  ⟨a, ws, ds, rfl, hl, upd_same, dpAll_same (same_new ha) hd, hz, fun H' dx us _ h1 h2 h3 h4 h5 => ⟨rfl, k H' (fun b o e => h4 b o (by rw [upd_ne (ne_of_none e ha)]; exact e) (ne_of_none e ha)) ⟨a, dx, us, rfl, h1, h2, h3, h5⟩⟩⟩
/-- how the arguments of an error bind -/
def gB {α : Type} (us ws : List α) : List α := us ++ ws.reverse
theorem vals_rev : ∀ {xs : List V} {us : List Value}, Vals xs us → Vals xs.reverse us.reverse
  | _, _, .nil => .nil
  | _, _, .cons r t => by
    rw [List.reverse_cons, List.reverse_cons]
    exact (vals_rev t).append (.cons r .nil)
theorem gB_rel {vs : List V} {us : List Value} {zs : List V} {ws : List Value} (h1 : Vals vs us) (h2 : Vals zs ws) : Vals (gB vs zs) (gB us ws) := h1.append (vals_rev h2)
/-- what the written part and the promise say of an error's class -/
structure ErrT (P : Program) (w : World) (K : PySem.W.Frag) (mg : Str → Option Value) (base : Heap) (x : Str) (C : Addr) (fs : List Str) : Prop where
  oex : OexC K C
  err : ErrC K C
  mgx : mg x = some (.ref C)
  no : ∀ f ∈ fs, PySem.W.findIn K (.ref C) f = some none
  ini : ∃ (f : Addr) (fd : FuncData), PySem.W.findIn K (.ref C) "__init__" = some (some (.ref f)) ∧ PySem.W.typeIn K (.ref f) = some (.type "function") ∧ FnOk P w K mg base CX0 2 f fd ("self" :: fs) (spInit K C fs) ∧
    KBn K fd ("self" :: fs) (fs.length + 1) [] gB gB ∧ KBn K fd ("self" :: fs) 1 fs.reverse gB gB
/-! ### what the top has left of the errors' classes -/
abbrev veT : List Value := [.type "ValueError", .type "Exception", .type "BaseException", .type "object"]
def ClsAt (K : PySem.W.Frag) (x : Str) (C : Addr) (bm : List Value) : Prop := ∃ (N : Addr) (bs : List Value) (sn : List Str) (sub : List Value) (ab : Bool) (col : Option Bool) (dd : Option Addr) (k0 k1 k2 k3 k5 : Option Value), K.lookup C = some (excClassObj x x C N bs bm true sn sub ab col dd k0 k1 k2 k3 k5 "ValueError.__new__")
theorem ClsAt.cls {K : PySem.W.Frag} {x : Str} {C : Addr} {bm : List Value} (h : ClsAt K x C bm) : ∃ cd, PySem.W.clsIn K C = some cd ∧ cd.mro = .ref C :: bm ∧ cd.hasDict = true ∧ cd.name = x ∧ PySem.W.typeIn K (.ref C) = some (.type "type") := by
  obtain ⟨N, bs, sn, sub, ab, col, dd, k0, k1, k2, k3, k5, h⟩ := h
  have hcl : PySem.W.clsIn K C = some { name := x, bases := bs, mro := .ref C :: bm, ns := N, qualname := x, hasDict := true, slotNames := sn, subclasses := sub, abstract := ab, collection := col, hasDel := false } := by unfold PySem.W.clsIn; rw [h] <;> rfl
  refine ⟨_, hcl, rfl, rfl, rfl, ?_⟩
  show (K.lookup C).map (·.cls) = _
  rw [h]
  rfl
theorem ClsAt.mro {K : PySem.W.Frag} {x : Str} {C : Addr} {bm : List Value} (h : ClsAt K x C bm) (b : Value) : PySem.W.mroIn K C b = some ((Value.ref C :: bm).contains b) := by
  obtain ⟨cd, h1, h2, _⟩ := h.cls
  unfold PySem.W.mroIn
  rw [h1, Option.bind_some, h2]
  rfl
theorem ClsAt.ne {K : PySem.W.Frag} {x y : Str} {C D : Addr} {bm bn : List Value} (h : ClsAt K x C bm) (g : ClsAt K y D bn) (n : x ≠ y) : C ≠ D := fun z => by
  obtain ⟨cd, h1, _, _, h2, _⟩ := h.cls
  obtain ⟨ce, g1, _, _, g2, _⟩ := g.cls
  rw [z, g1] at h1
  cases h1
  exact n (h2.symm.trans g2)
theorem ClsAt.kit {K : PySem.W.Frag} {x y : Str} {C D : Addr} {bm bn : List Value} (h : ClsAt K x C bm) (g : ClsAt K y D bn) : PySem.W.kitOne K (.ref C) (.ref D) = some ((Value.ref C :: bm).contains (.ref D)) := by
  unfold PySem.W.kitOne
  by_cases e : C = D
  · subst e
    rw [if_pos (by simp)]
    simp
  · rw [if_neg (by simpa using e)]
    obtain ⟨ce, g1, _, _, _, g2⟩ := g.cls
    show (if ((PySem.W.clsIn K D).isSome && PySem.W.typeIn K (.ref D) == some (.type "type")) = true then PySem.W.subIn K (.ref C) (.ref D) else none) = _
    rw [if_pos (by rw [g1, g2]; rfl)]
    exact h.mro _
/-- one class of them, and its __init__ -/
structure ClsF (P : Program) (K : PySem.W.Frag) (x qual : Str) (st : Stmt) (R C f cda cc : Addr) (fd : FuncData) (fs : List Str) : Prop where
  aC : PySem.W.nsIn K mainGlobals x = some (some (.ref C))
  at_ : ClsAt K x C (.ref R :: veT)
  sa : PySem.W.findIn K (.ref C) "__setattr__" = some (some (.builtin "object.__setattr__"))
  ga : PySem.W.findIn K (.ref C) "__getattribute__" = some (some (.builtin "BaseException.__getattribute__"))
  gg : PySem.W.findIn K (.ref C) "__getattr__" = some none
  ac : PySem.W.findIn K (.ref C) "__class__" = some (some (.builtin "object.__class__"))
  kC : PySem.W.keepIn K (.ref C) = true
  no : ∀ g ∈ fs, PySem.W.findIn K (.ref C) g = some none
  ini : PySem.W.findIn K (.ref C) "__init__" = some (some (.ref f))
  fn : SupFn K qual st f cda cc fd
  tf : PySem.W.typeIn K (.ref f) = some (.type "function")
  code : ∃ (ccl : Value) (cdd : Option Addr) (vs : Array Value) (ccs : Array (Option Value)) (file : Str) (tk : Tok), K.lookup cda = some ⟨ccl, cdd, .fields vs, ccs⟩ ∧ vs[2]? = some (.str file tk) ∧ ((P.main.file : Str) == file) = true
  cell : ∃ (cl : Value) (cld : Option Addr) (csl : Array (Option Value)), K.lookup cc = some ⟨cl, cld, .cell (some (.ref C)), csl⟩
  sup : PySem.W.ks_superIn K C C "__init__" = some (some (.builtin "ValueError.__init__"))
theorem cls_mk {P : Program} {K : PySem.W.Frag} {x qual : Str} {st : Stmt} {R C f cda cc : Addr} {fs : List Str} {N : Addr} {bs : List Value} {sn : List Str} {sub : List Value} {ab : Bool} {col : Option Bool} {dd : Option Addr} {k0 k1 k2 k3 k5 : Option Value}
    {oc kV doc pm ct ccl cl : Value} {od an cdd cld : Option Addr} {osl ccs csl : Array (Option Value)} {vs : Array Value} {file : Str} {tk : Tok}
    (aC : PySem.W.nsIn K mainGlobals x = some (some (.ref C)))
    (xL : K.lookup C = some (excClassObj x x C N bs (.ref R :: veT) true sn sub ab col dd k0 k1 k2 k3 k5 "ValueError.__new__"))
    (sa : PySem.W.findIn K (.ref C) "__setattr__" = some (some (.builtin "object.__setattr__")))
    (ga : PySem.W.findIn K (.ref C) "__getattribute__" = some (some (.builtin "BaseException.__getattribute__")))
    (gg : PySem.W.findIn K (.ref C) "__getattr__" = some none) (ac : PySem.W.findIn K (.ref C) "__class__" = some (some (.builtin "object.__class__")))
    (kC : PySem.W.keepIn K (.ref C) = true) (no : ∀ g ∈ fs, PySem.W.findIn K (.ref C) g = some none) (ini : PySem.W.findIn K (.ref C) "__init__" = some (some (.ref f)))
    (lk : K.lookup f = some ⟨oc, od, .func (PySem.W.ksFn "__init__" qual (defArgs st) (defBody st) (defScope st) .none kV doc pm an (.ref cda) ct cc), osl⟩) (cd : PySem.W.codeIn K (.ref cda) qual = true)
    (tf : PySem.W.typeIn K (.ref f) = some (.type "function")) (lc : K.lookup cda = some ⟨ccl, cdd, .fields vs, ccs⟩) (hv : vs[2]? = some (.str file tk)) (hf : ((P.main.file : Str) == file) = true)
    (ll : K.lookup cc = some ⟨cl, cld, .cell (some (.ref C)), csl⟩) (sup : PySem.W.ks_superIn K C C "__init__" = some (some (.builtin "ValueError.__init__"))) :
    ClsF P K x qual st R C f cda cc (PySem.W.ksFn "__init__" qual (defArgs st) (defBody st) (defScope st) .none kV doc pm an (.ref cda) ct cc) fs :=
  ⟨aC, ⟨N, bs, sn, sub, ab, col, dd, k0, k1, k2, k3, k5, xL⟩, sa, ga, gg, ac, kC, no, ini, ⟨oc, od, kV, doc, pm, an, ct, osl, rfl, lk, cd⟩, tf, ⟨ccl, cdd, vs, ccs, file, tk, lc, hv, hf⟩, ⟨cl, cld, csl, ll⟩, sup⟩
section
variable {P : Program} {K : PySem.W.Frag} {x qual : Str} {st : Stmt} {R C f cda cc : Addr} {fd : FuncData} {fs : List Str}
theorem ClsF.oex (F : ClsF P K x qual st R C f cda cc fd fs) : OexC K C := by
  obtain ⟨N, bs, sn, sub, ab, col, dd, k0, k1, k2, k3, k5, h⟩ := F.at_
  obtain ⟨cd, h1, h2, h3, h4, h5⟩ := F.at_.cls
  exact ⟨⟨x, x, N, bs, _, sn, sub, ab, col, dd, k0, k1, k2, k3, k5, h, by show HandSPX.refsVE veT = true; decide +kernel⟩, F.sa, by show PySem.W.mroIn K C _ = _; rw [F.at_.mro]; rfl, h5, F.kC⟩
theorem ClsF.err (F : ClsF P K x qual st R C f cda cc fd fs) : ErrC K C := by
  obtain ⟨cd, h1, h2, h3, h4, h5⟩ := F.at_.cls
  exact ⟨by rw [h1]; rfl, F.ga, F.gg, by show PySem.W.mroIn K C _ = _; rw [F.at_.mro]; rfl, by unfold PySem.W.hasDictIn; rw [h1]; exact h3, F.ac, by rw [F.at_.mro]; rfl⟩
theorem ClsF.supC (F : ClsF P K x qual st R C f cda cc fd fs) (sp : PySem.W.nsIn K mainGlobals "super" = some none) (opq : PySem.W.nsIn K cStatics "thirdparty.any" = some none) (ht : (P.main.scope.names.lookup ("super" : Str)).isSome = false) : SupC P K C cda cc :=
  ⟨F.oex, F.code, F.cell, by rw [F.at_.mro]; simp, sp, opq, F.sup, by show PySem.W.mroIn K C _ = _; rw [F.at_.mro]; rfl, ht⟩
/-- all of it -/
theorem ClsF.errT {w : World} {mg : Str → Option Value} {base h : Heap} (F : ClsF P K x qual st R C f cda cc fd fs) (X : K.In h) (G : h.Ns mainGlobals mg) (ok : FnOk P w K mg base CX0 2 f fd ("self" :: fs) (spInit K C fs))
    (b1 : KBn K fd ("self" :: fs) (fs.length + 1) [] gB gB) (b2 : KBn K fd ("self" :: fs) 1 fs.reverse gB gB) : ErrT P w K mg base x C fs :=
  ⟨F.oex, F.err, PySem.W.mg_of X G F.aC, F.no, f, fd, F.ini, F.tf, ok, b1, b2⟩
end
/-- what is wanted of an error's class so that it can be raised and its fields read -/
structure RaiT (P : Program) (w : World) (K : PySem.W.Frag) (mg : Str → Option Value) (base : Heap) (x : Str) (C : Addr) (fs : List Str) : Prop where
  oex : OexC K C
  xf : XfC K C
  mgx : mg x = some (.ref C)
  no : ∀ f ∈ fs, PySem.W.findIn K (.ref C) f = some none
  self : PySem.W.exmOne K (.ref C) (.ref C) = some true
  ini : ∃ (f : Addr) (fd : FuncData), PySem.W.findIn K (.ref C) "__init__" = some (some (.ref f)) ∧ PySem.W.typeIn K (.ref f) = some (.type "function") ∧ FnOk P w K mg base CX0 2 f fd ("self" :: fs) (spInit K C fs) ∧ Binds K fd ("self" :: fs) []
theorem ClsF.exm {P : Program} {K : PySem.W.Frag} {x qual : Str} {st : Stmt} {R C f cda cc : Addr} {fd : FuncData} {fs : List Str} (F : ClsF P K x qual st R C f cda cc fd fs) : PySem.W.exmOne K (.ref C) (.ref C) = some true := by
  unfold PySem.W.exmOne
  rw [if_pos (by rw [F.err.hsb]; rfl)]
  obtain ⟨ce, g1, _, _, _, g2⟩ := F.at_.cls
  show (if ((PySem.W.clsIn K C).isSome && PySem.W.typeIn K (.ref C) == some (.type "type")) = true then PySem.W.subIn K (.ref C) (.ref C) else none) = _
  rw [if_pos (by rw [g1, g2]; rfl)]
  show PySem.W.mroIn K C _ = _
  rw [F.at_.mro]
  simp
theorem ClsF.raiT {P : Program} {w : World} {K : PySem.W.Frag} {mg : Str → Option Value} {base h : Heap} {x qual : Str} {st : Stmt} {R C f cda cc : Addr} {fd : FuncData} {fs : List Str} (F : ClsF P K x qual st R C f cda cc fd fs) (X : K.In h) (G : h.Ns mainGlobals mg) (ok : FnOk P w K mg base CX0 2 f fd ("self" :: fs) (spInit K C fs))
    (b : Binds K fd ("self" :: fs) []) : RaiT P w K mg base x C fs :=
  ⟨F.oex, ⟨F.ga, F.gg, F.err.hsb, F.err.hdc⟩, PySem.W.mg_of X G F.aC, F.no, F.exm, f, fd, F.ini, F.tf, ok, b⟩
theorem no1 {K : PySem.W.Frag} {C : Addr} {a : Str} (h : PySem.W.findIn K (.ref C) a = some none) : ∀ g ∈ [a], PySem.W.findIn K (.ref C) g = some none := fun g hg => by rw [List.mem_singleton.mp hg]; exact h
/-- kinds of errors, as isinstance sees them -/
theorem ClsF.kitR {P : Program} {K : PySem.W.Frag} {x qual : Str} {st : Stmt} {R C f cda cc : Addr} {fd : FuncData} {fs : List Str} (F : ClsF P K x qual st R C f cda cc fd fs) (hR : ClsAt K "RerunError" R veT) : PySem.W.kitOne K (.ref C) (.ref R) = some true := by
  rw [F.at_.kit hR]
  simp
theorem ClsF.kitV {P : Program} {K : PySem.W.Frag} {x qual : Str} {st : Stmt} {R C f cda cc : Addr} {fd : FuncData} {fs : List Str} (F : ClsF P K x qual st R C f cda cc fd fs) : PySem.W.kitOne K (.ref C) (.type "ValueError") = some true := by
  unfold PySem.W.kitOne
  rw [if_neg (by simp)]
  show (if PySem.W.kitMeta "ValueError" = true then PySem.W.subIn K (.ref C) (.type "ValueError") else none) = _
  rw [if_pos (by decide +kernel)]
  show PySem.W.mroIn K C _ = _
  rw [F.at_.mro]
  simp
theorem ClsF.kitN {P : Program} {K : PySem.W.Frag} {x qual y qual' : Str} {st st' : Stmt} {R C f cda cc D f' cda' cc' : Addr} {fd fd' : FuncData} {fs fs' : List Str} (F : ClsF P K x qual st R C f cda cc fd fs) (F' : ClsF P K y qual' st' R D f' cda' cc' fd' fs') (hR : ClsAt K "RerunError" R veT) (n : x ≠ y) (m : y ≠ "RerunError") : PySem.W.kitOne K (.ref C) (.ref D) = some false := by
  rw [F.at_.kit F'.at_]
  have n1 : C ≠ D := F.at_.ne F'.at_ n
  have n2 : D ≠ R := F'.at_.ne hR m
  simp [n1.symm, n2]
/-- the error is made: its one field holds what was passed -/
theorem mk_read {K : PySem.W.Frag} {C : Addr} {g : Str} {H : Hp} {v : V} {d : PyData} {Q : XK} (hd : Dp K H v d) (hz : sz d ≤ 1000)
    (k : ∀ (H' : Hp) (dx : Addr) (u : V), Same H H' → H dx = none → H' dx = some (.xd [(g, u)]) → Dp K H' u (fix d) → Q (.ref C) (some dx) H') :
    [v].length ≤ 1000 ∧ ∀ a, H a = none → spInit K C [g] (.ref a :: ([v] ++ [])) (upd H a (exo a C none))
      (fun x H2 => x = .non ∧ ∃ (dx : Addr) (fs : List (Str × V)), H2 a = some (exo a C (some dx)) ∧ H2 dx = some (exd dx fs) ∧ H dx = none ∧ Q (.ref C) (some dx) (upd (del H2 a) dx (.xd fs))) (fun _ _ _ => False) := by
  refine ⟨by simp, fun a ha => ?_⟩
  refine ⟨a, [v], [d], rfl, rfl, upd_same, .cons (dp_same (same_new ha) hd) .nil, (fun x hx => by rw [List.mem_singleton.mp hx]; exact hz), fun H' dx us h0 h1 h2 h3 h4 h5 => ⟨rfl, ?_⟩⟩
  match us, h3 with
  | [u], .cons hu .nil =>
    have hda : dx ≠ a := fun z => by rw [z, upd_same] at h0; cases h0
    have hdn : H dx = none := by rw [upd_ne hda] at h0; exact h0
    have sm : Same H (upd (del H' a) dx (.xd [(g, u)])) := fun b o e => by
      have ba := ne_of_none e ha
      rw [upd_ne (ne_of_none e hdn), del_ne ba]
      exact h4 b o (by rw [upd_ne ba]; exact e) ba
    refine ⟨dx, [(g, u)], h1, h2, hdn, k _ dx u sm hdn upd_same ?_⟩
    refine dp_keep (fun b xs e => ?_) (fun b ob w e => ?_) hu (fix_noList _)
    · have n1 : b ≠ a := fun z => by rw [z, h1] at e; cases e
      have n2 : b ≠ dx := fun z => by rw [z, h2] at e; cases e
      rw [upd_ne n2, del_ne n1]
      exact e
    · have n1 : b ≠ a := fun z => by rw [z, h1] at e; cases e
      have n2 : b ≠ dx := fun z => by rw [z, h2] at e; cases e
      rw [upd_ne n2, del_ne n1]
      exact e
end Rx

set_option Elab.async false
set_option linter.all false
set_option maxRecDepth 100000
set_option maxHeartbeats 1000000
/-! RxEnum: enumerate(t) and enumerate(t, start=k) of a tuple -/
namespace PyProof.Rows
open PySem PySem.Calls
section
variable {M : Model} {A : Around} {E : Value → Shared → Prop} {s : Shared} {env : Env}
theorem callWith_type_kwB {pos : Pos} {T : String} {first : List Value} {args : List (Bool × Sem Value)} {keywords : List (Option Str × Sem Value)} {Q : Value → Shared → Prop}
    (hplain : args.any (·.1) = false) (hkw : keywords.any (·.1.isNone) = false)
    (h : wpAny M A (evalArgs (.type T) true args keywords) (fun a s₁ => wpAny M A (call (.type T) (first ++ a.pos) a.kw) Q E s₁) E s) :
    wpAny M A (callWith pos (.type T) first args keywords) Q E s := by
  unfold callWith
  refine wpAny_bind (wpAny_holding (wpAny_mono h (fun a s₁ h₁ => wpAny_bind (wpAny_standAt ?_)) fun _ _ x => x))
  simp only [hplain, hkw, Bool.or_false]
  refine wpAny_bind (wpAny_pure ?_)
  exact wpAny_bind (wpAny_mono h₁ (fun r s₂ hr => wpAny_bind (wpAny_holding (wpAny_point (wpAny_pure hr)))) fun _ _ x => x)
theorem callWith_type_kw {pos : Pos} {T : String} {e : Expr} {rest : List Expr} {kws : List Keyword} {Q : Value → Shared → Prop}
    (h : wpAny M A (spliced (backTo pos (starEach (e :: rest) env))) (fun vs s₁ => wpAny M A (evalAll ((backToKw pos (keywordEach kws env)).map (·.2)))
      (fun kvs s₂ => wpAny M A (call (.type T) vs (((backToKw pos (keywordEach kws env)).filterMap (·.1)).zip kvs)) Q E s₂) E s₁) E s)
    (he : backTo pos (starEach (e :: rest) env) = (false, eval e env) :: backTo pos (starEach rest env) := by rfl)
    (hplain : (backTo pos (starEach (e :: rest) env)).any (·.1) = false := by rfl)
    (hall : (backToKw pos (keywordEach kws env)).all (·.1.isSome) = true := by rfl)
    (hkw : (backToKw pos (keywordEach kws env)).any (·.1.isNone) = false := by rfl) :
    wpAny M A (callWith pos (.type T) [] (backTo pos (starEach (e :: rest) env)) (backToKw pos (keywordEach kws env))) Q E s := by
  refine callWith_type_kwB hplain hkw ?_
  rw [he] at h ⊢
  exact evalArgs_kwB hall h
end
end PyProof.Rows
namespace PySem
set_option maxHeartbeats 1000000 in
theorem meets_enumerate_new0 {v : Value} {o : Obj} {H : Heap → Prop} (B : Begins v o H) :
    Meets (Builtin.«enumerate.__new__» ⟨[.type "enumerate", v], []⟩) (fun _ R s => H s.heap ∧
      R (.ok (.ret (.ref (s.heap.push o).objs.size))) { s with heap := (s.heap.push o).push { cls := .type "enumerate", data := .fields #[.none, .bool false, .ref s.heap.objs.size, rawInt 0, .none, .none] } }) :=
  .of_wp fun prog w A R s h => by
    obtain ⟨hp, g, d, tk, os⟩ := s; obtain ⟨h1, h⟩ := h
    have hsub := sub_enumerate
    have q1 : ∀ {A' : Around} {E : Value → Shared → Prop} {Q : Value → Shared → Prop}, Q (.ref hp.objs.size) ⟨hp.push o, g, d, tk, os⟩ → wpAny (model prog w) A' (pyIter v) Q E ⟨hp, g, d, tk, os⟩ :=
      fun q => B.iter prog w _ _ ⟨hp, g, d, tk, os⟩ _ h1 q
    wp_walk using q1
    refine wpAny_stack_any fun st => wpAny_pure ?_
    split
    · rename_i c _ _ _ _ _
      cases (c == Value.type "enumerate")
      · wp_walk using q1
        exact ⟨_, rfl, h⟩
      · wp_walk using q1
        exact ⟨_, rfl, h⟩
    · wp_walk using q1
      exact ⟨_, rfl, h⟩
section
variable {prog : Program} {w : World} {A : Around} {E : Value → Shared → Prop} {s : Shared}
theorem enum_begins0 {v : Value} {o : Obj} {H : Heap → Prop} {Q : Value → Shared → Prop} (B : Begins v o H) (h1 : H s.heap)
    (h : ∀ h', IsEnum h' (s.heap.objs.size + 1) s.heap.objs.size 0 .none → h'.get? s.heap.objs.size = some o → h'.objs.size = s.heap.objs.size + 2 →
      (∀ b o, s.heap.get? b = some o → h'.get? b = some o) → Q (.ref (s.heap.objs.size + 1)) { s with heap := h' }) :
    wpAny (model prog w) A (call (.type "enumerate") [v]) Q E s := by
  refine callType_new F.called_enumerate (by decide) (by kernel_rfl) (F.newCall_enumerate_1 _) (fun obj => by unfold argsOk; kernel_rfl) F.entry_enumerate_new
    (meets_enumerate_new0 B) ⟨h1, ?_⟩
  have hz : (s.heap.push o).objs.size = s.heap.objs.size + 1 := Heap.size_push ..
  show _ ∧ _
  rw [hz]
  have he : IsEnum ((s.heap.push o).push { cls := .type "enumerate", data := .fields #[.none, .bool false, .ref s.heap.objs.size, rawInt 0, .none, .none] }) (s.heap.objs.size + 1) s.heap.objs.size 0 .none := by
    have := Heap.get?_push_size (s.heap.push o) (o := { cls := .type "enumerate", data := .fields #[.none, .bool false, .ref s.heap.objs.size, rawInt 0, .none, .none] }) rfl
    rw [hz] at this; exact this
  refine ⟨⟨_, he, rfl⟩, h _ he (Heap.get?_push_of_some _ (Heap.get?_push_size _ B.free)) (by rw [Heap.size_push, hz]) fun b o x => Heap.get?_push_of_some _ (Heap.get?_push_of_some _ x)⟩
theorem enum_endT {e it t : Addr} {j : Nat} {items : Array Value} {i : Int} {old : Value} {Q : Option Value → Shared → Prop} (hh : A.in1.handled = none)
    (he : IsEnum s.heap e it i old) (hit : s.heap.IsTupleIter it t j) (ht : s.heap.IsTuple t items) (hx : items[j]? = none)
    (hQ : ∀ h', Heap.ExtBut it s.heap h' → Q none { s with heap := h' }) : wpAny (model prog w) A (pyNext (.ref e)) Q E s := by
  have hT : s.TypeIs (.ref e) "enumerate" := ⟨_, he, rfl⟩
  unfold pyNext
  refine wpAny_bind (wpAny_attempt (wpAny_callSpecial?_slot (name := Str.ofString "__next__") hT F.slot_enumerate_next
    (wpAny_call_entry F.slot_enumerate_next hT F.entry_enumerate_next ?_ (F.args_enumerate_next_1 _))))
  show wpAny _ _ (field (.ref e) 2 >>= _) _ _ _
  refine wpAny_bind (wpAny_field he rfl (x := .ref it) rfl ?_)
  refine wpAny_bind (wpAny_nextOf_tuple_end hh hit ht hx fun h' x he' hx' => ?_)
  obtain ⟨o, ho, hc⟩ := hx'
  refine wpAny_bind (wpAny_isInstance (T := "StopIteration") (b := true) ⟨o, ho, hc⟩ isSubtype_stop ?_)
  exact wpAny_pure (hQ _ he')
end
end PySem
namespace L2
open PySem PySem.Spec PyProof.Rows
/-- the tuple at a, each item in a new pair with its number, from k on -/
def Itet (K : PySem.W.Frag) (a : Addr) (k : Int) : It :=
  ⟨fun i H => ∃ (xs : List V) (x : V), SqT K H a xs ∧ xs[i]? = some x, fun i H v H' => ∃ T x, v = .ref T ∧ H T = none ∧ H' = upd H T (.tup [.int (k + (i : Nat)), x]) ∧ ∀ xs, SqT K H a xs → xs[i]? = some x, fun i H => ∃ xs : List V, SqT K H a xs ∧ xs.length ≤ i⟩
theorem turn_enumT {P : Program} {w : World} {K : PySem.W.Frag} {elts : List Expr} {kk : Nat} {tpos : Pos} {k : Int} (a e it : Addr) (hta : a ≠ it) (hea : e ≠ a) :
    Turn P w K (.Tuple elts kk tpos) (Itet K a k) [e, it] e (fun i h => (∃ old, IsEnum h e it (k + ((i : Nat) : Int)) old) ∧ h.IsTupleIter it a i ∧ e ≠ it) where
  mem := by simp
  obj := fun i h st b hb => by
    obtain ⟨⟨old, he⟩, ⟨o, ho, hc, hd⟩, _⟩ := st
    have e' : b = e ∨ b = it := by simpa using hb
    rcases e' with z | z
    · rw [z]; exact ⟨_, he, fun v q => nomatch q⟩
    · rw [z]; exact ⟨o, ho, fun v q => by rw [hd] at q; cases q⟩
  keep := fun i h h' st kp => let ⟨⟨old, he⟩, hi, hne⟩ := st; ⟨⟨old, kp e (by simp) _ he⟩, hi.at fun o q => kp it (by simp) o q, hne⟩
  item := by
    intro X hP hw hK hc i pins s σ H E I hf st hg
    subst hP hw hK
    obtain ⟨⟨old, he⟩, hit, hne⟩ := st
    obtain ⟨xs, x, hq, hx⟩ := hg
    obtain ⟨its, rv, p, hz⟩ := I.tuple hq
    obtain ⟨u, hu, ru⟩ := rv.get hx
    have p' : s.heap.IsTuple a its.toArray := p
    have hel : e < s.heap.objs.size := Heap.lt_size he
    have hil : it < s.heap.objs.size := by obtain ⟨_, q, _⟩ := hit; exact Heap.lt_size q
    have hlt : i < its.toArray.size := by
      have := (List.getElem?_eq_some_iff.mp hx).1
      rw [List.size_toArray, ← rv.length]; exact this
    have D := Draws.tuple (prog := X.prog) (w := X.w) (A := X.A.in1) (show X.A.in1.handled = none from I.ok.hd hc) it a hta its.toArray
    refine wpAny_pyNext_enum_itemC D he ⟨hit, p'⟩ hlt hne (by simp [hne, hea]) fun y h' tk hP ho hs' hT hsz hk => ?_
    have hy : y = u := by
      have h2 : its.toArray[i]? = some y := hP
      have h3 : its.toArray[i]? = some u := by simpa using hu
      rw [h3] at h2
      injection h2 with h2
      exact h2.symm
    subst hy
    refine ⟨_, rfl, wpAny_letOwnedTupleGo_enum (s := { s with heap := h', toks := tk + 1 }) ho fun h'' he' sb => ?_⟩
    have hT2 : h''.get? s.heap.objs.size = some { cls := .type "tuple", data := .seq #[.int (k + (i : Nat)) tk, y] } := (sb.2 _ (Nat.ne_of_gt hel)).trans hT
    have new : ObjOk X.prog X.w (upd H s.heap.objs.size (.tup [.int (k + (i : Nat)), x])) h'' s.heap.objs.size (.tup [.int (k + (i : Nat)), x]) :=
      ⟨by show 2 ≤ sizeLine; decide, [.int (k + (i : Nat)) tk, y], .cons ⟨_, rfl⟩ (.cons ru .nil), ⟨_, hT2, rfl, _, rfl⟩⟩
    have I1 : Inv X pins σ (upd H s.heap.objs.size (.tup [.int (k + (i : Nat)), x])) { s with heap := h'', toks := tk + 1 } :=
      I.turnedNew (ch := [e, it]) (fun b ob hb q => (sb.2 b (fun z => hb (by simp [z]))).trans (hk b ob (fun z => hb (by simp [z])) (fun z => hb (by simp [z])) q)) hf (Nat.le_refl _) new
    refine ⟨.ref s.heap.objs.size, _, I1, rfl, ⟨_, x, rfl, I.hok.fresh (Nat.le_refl _), rfl, fun ys hy => by rw [I.tuple_inj hy hq]; exact hx⟩, ⟨⟨y, ?_⟩, hs'.1.at fun o q => (sb.2 it (Ne.symm hne)).trans q, hne⟩, fun b hb => ?_⟩
    · have e1 : k + ((i + 1 : Nat) : Int) = k + (i : Int) + 1 := by omega
      rw [e1]; exact he'
    · have hb' : b < s.heap.objs.size := by
        have e' : b = e ∨ b = it := by simpa using hb
        rcases e' with z | z
        · rw [z]; exact hel
        · rw [z]; exact hil
      rw [upd_ne (Nat.ne_of_lt hb')]
      exact (hf b hb).1
  done := by
    intro X hP hw hK hc i pins s σ H E I hf st hg
    subst hP hw hK
    obtain ⟨⟨old, he⟩, hit, hne⟩ := st
    obtain ⟨xs, hq, hx⟩ := hg
    obtain ⟨its, rv, p, hz⟩ := I.tuple hq
    obtain ⟨f0, f1, f2, f3, f4, f5⟩ := hf it (by simp)
    have hl := rv.length
    exact enum_endT (show X.A.in1.handled = none from I.ok.hd hc) he hit (show s.heap.IsTuple a its.toArray from p) (by simp; omega) fun h' eb => ⟨rfl, I.turned (t' := s.toks) (fun b o hb q => eb b o hb q) f0 f1 f3 f4 f5⟩
  self := fun A i s Q E st h => let ⟨⟨_, he⟩, _⟩ := st; wpAny_pyIter_enum he h
def iEnumT (K : PySem.W.Frag) (k : Int) (ta : TA) : TI := fun σ H R => ta σ H fun vs H1 => ∃ a xs, vs = [.ref a] ∧ SqT K H1 a xs ∧ R (Itet K a k) H1
section
variable {X : Cx} {e : Expr} {ta : TA} {p pos tpos : Pos} {elts : List Expr} {kk : Nat}
theorem enumT_fin {pins : List (Addr × Obj)} {σ : L2.St} {H : Hp} {s : Shared} {a : Addr} {k : Int} {its : List Value} {R : It → Hp → Prop} (I : Inv X pins σ H s) (hlt : a < s.heap.objs.size) (h' : Heap) (he : IsEnum h' (s.heap.objs.size + 1) s.heap.objs.size k .none)
    (hit : h'.get? s.heap.objs.size = some { cls := .type "tuple_iterator", data := .fields #[.ref a, .int 0 0] }) (hk : ∀ b o, s.heap.get? b = some o → h'.get? b = some o) (q : R (Itet X.K a k) H) :
    PIE X pins σ (.Tuple elts kk tpos) R (.ref (s.heap.objs.size + 1)) { s with heap := h' } := by
  have I2 : Inv X pins σ H { s with heap := h' } := I.kept (t' := s.toks) hk
  have hne : s.heap.objs.size + 1 ≠ s.heap.objs.size := Nat.succ_ne_self _
  refine ⟨s.heap.objs.size + 1, [s.heap.objs.size + 1, s.heap.objs.size], _, _, H, rfl, I2, turn_enumT (k := k) a (s.heap.objs.size + 1) s.heap.objs.size (Nat.ne_of_lt hlt) (Nat.ne_of_gt (Nat.lt_succ_of_lt hlt)), ⟨⟨.none, ?_⟩, ⟨_, hit, rfl, rfl⟩, hne⟩, fun b hb => ?_, q⟩
  · rw [show k + ((0 : Nat) : Int) = k by omega]; exact he
  · have e' : b = s.heap.objs.size + 1 ∨ b = s.heap.objs.size := by simpa using hb
    have hle : s.heap.objs.size ≤ b := by
      rcases e' with z | z
      · rw [z]; exact Nat.le_add_right _ _
      · rw [z]; exact Nat.le_refl _
    exact I.fpOk hle (I.hok.fresh hle)
/-- enumerate(t), t a tuple -/
theorem pi_enumT (hg : Gl X "enumerate") (hm : X.mg "enumerate" = none) (ha : PA X [e] ta) (hs : starEach [e] X.env = [(false, eval e X.env)] := by rfl) :
    PI X (.Tuple elts kk tpos) (.Call (.Name "enumerate" p) [e] [] pos) (iEnumT X.K 0 ta) := by
  refine ⟨fun pins s σ H R I h => ?_⟩
  refine Call_ (ld_blt I hg hm boot_enumerate (PyProof.Rows.callWith_type1 (thn (ha.run pos pins s σ H _ I h) fun us s1 ⟨vs, H1, I1, r1, q1⟩ => ?_) hs rfl))
  obtain ⟨a, xs, ex, hq, q⟩ := q1
  subst ex
  cases r1 with
  | cons r rr =>
    cases rr
    cases r
    obtain ⟨its, rv, p', hz⟩ := I1.tuple hq
    have p2 : s1.heap.IsTuple a its.toArray := p'
    have hlt : a < s1.heap.objs.size := by obtain ⟨_, q, _⟩ := p2; exact Heap.lt_size q
    refine enum_begins0 (begins_tuple a its.toArray) p2 fun h' he hit hsz hk => wpAny_pyIter_enum he (enumT_fin (its := its) I1 hlt h' he hit hk q)
/-- enumerate(t, start=k), t a tuple -/
theorem pi_enumTS {kp vp : Pos} {k : Int} {jn : Nat} (hg : Gl X "enumerate") (hm : X.mg "enumerate" = none) (ha : PA X [e] ta) (hk0 : -(2 ^ 63) ≤ k := by decide) (hk1 : k < 2 ^ 63 := by decide) (hs : starEach [e] X.env = [(false, eval e X.env)] := by rfl) :
    PI X (.Tuple elts kk tpos) (.Call (.Name "enumerate" p) [e] [⟨some "start", .Constant (.int k) jn vp, kp⟩] pos) (iEnumT X.K k ta) := by
  refine ⟨fun pins s σ H R I h => ?_⟩
  refine wpAny_Call_Name_kw (ld_blt I hg hm boot_enumerate (PyProof.Rows.callWith_type_kw (thn (ha.run pos pins s σ H _ I h) fun us s1 ⟨vs, H1, I1, r1, q1⟩ => ?_) (by
    show backTo pos (starEach [e] X.env) = _
    rw [hs]; rfl) (by
    show (backTo pos (starEach [e] X.env)).any (·.1) = false
    rw [hs]; rfl)))
  obtain ⟨a, xs, ex, hq, q⟩ := q1
  subst ex
  cases r1 with
  | cons r rr =>
    cases rr
    cases r
    refine kws_cons (thn ((pe_int (X := X) (i := k) (j := jn) (pos := vp)).run pins s1 σ H1 (fun x H2 => x = .int k ∧ H2 = H1) I1 ⟨rfl, rfl⟩) fun v s2 ⟨x, H2, I2, r2, ex, e2⟩ => kws_nil ?_)
    subst ex e2
    obtain ⟨its, rv, p', hz⟩ := I2.tuple hq
    have p2 : s2.heap.IsTuple a its.toArray := p'
    have hlt : a < s2.heap.objs.size := by obtain ⟨_, q, _⟩ := p2; exact Heap.lt_size q
    obtain ⟨tk, rfl⟩ := (show ∃ t, v = Value.int k t from r2)
    show wpAny (model X.prog X.w) X.A (call (.type "enumerate") [Value.ref a] [(Str.ofString "start", .int k tk)]) _ _ _
    exact enum_begins_start (begins_tuple a its.toArray) p2 hk0 hk1 fun h' he hit hsz hk => wpAny_pyIter_enum he (enumT_fin (its := its) I2 hlt h' he hit hk q)
end
end L2

set_option Elab.async false
set_option linter.all false
set_option maxRecDepth 100000
set_option maxHeartbeats 1000000
/-! RxSetd: d.setdefault(t, x), t a tuple -/
namespace PySem
open Sem (wp)
section
variable {prog : Program} {w : World} {K : Type} [DecidableEq K] {knd : HeapKind prog w K} {A : Around} {E : Value → Shared → Prop} {s : Shared}
theorem wpAny_dictSetDefault_heap {d a : Addr} {xs : List (K × Addr × Value)} {k : K} {v : Value} {Q : Value → Shared → Prop} (hu : knd.room A) (hkey : knd.is s.heap k a) (hm : s.heap.DictOfH knd d xs)
    (h1 : ∀ p, atKey xs k = some p → Q p.2 { s with toks := s.toks + knd.draws k })
    (h2 : atKey xs k = none → ∀ h', h'.DictOfH knd d (storedH xs k a v) → Heap.SameBut d s.heap h' → Q v { s with heap := h', toks := s.toks + knd.draws k })
    (hsz : xs.length ≤ sizeLine) :
    wpAny (model prog w) A (dictSetDefault d (.ref a) v) Q E s := by
  obtain ⟨o, es, ep, ho, hc, hd, he, his, hn⟩ := hm
  unfold dictSetDefault
  try with_reducible refine wpAny_holding ?_
  refine wpAny_bind (knd.pyHash hu hkey ?_)
  refine wpAny_bind (wpAny_dictFind_heap (s := { s with toks := s.toks + knd.draws k }) hu hkey ho hd he his hn ?_ ?_)
  · intro hno
    have hnot : k ∉ xs.map (·.1) := not_mem_keys_of_get hno
    refine wpAny_bind (wpAny_rule (wpAny_bind (wpAny_updateDictKeys (hz := by have e := size_of_entries he; omega) (s := { s with toks := s.toks + knd.draws k }) ho hd (wpAny_pure (h2 (atKey_none_of_get hno) _ ⟨_, _, ep + 1, Heap.get?_update_self _ ho (Obj.isFreed_of_dict (Obj.data_mapDictKeys hd _)),
      hc.mapDictKeys _, Obj.data_mapDictKeys hd _, ?_, ?_, ?_⟩ (Heap.SameBut.update ..))))))
    · rw [storedH_new (atKey_none_of_get hno)]
      simp [he, entryOfKey]
    · rw [storedH_new (atKey_none_of_get hno)]
      intro x hx
      rcases List.mem_append.mp hx with hx | hx
      · exact knd.keeps (his x hx) ho hd (Heap.SameBut.update ..)
      · simp only [List.mem_singleton] at hx
        subst hx
        exact knd.keeps hkey ho hd (Heap.SameBut.update ..)
    · rw [storedH_new (atKey_none_of_get hno)]
      rw [List.map_append, List.nodup_append]
      refine ⟨hn, by simp, ?_⟩
      intro x hx y hy
      simp only [List.map_cons, List.map_nil, List.mem_singleton] at hy
      subst hy
      exact fun e => hnot (e ▸ hx)
  · intro j p hj
    refine wpAny_bind (wpAny_dictEntries (s := { s with toks := s.toks + knd.draws k }) ho hd ?_)
    rw [entry_at he j, hj]
    exact wpAny_bind (wpAny_rule (wpAny_pure (h1 p (atKey_of_get hn hj))))
theorem meetsH_setdefault (knd : HeapKind prog w K) {k : K} (d a : Addr) (hd : (d == sysModules) = false) (dflt : Value) :
    MeetsIn prog w (Builtin.«dict.setdefault» ⟨[.ref d, .ref a, dflt], []⟩) (fun A R s => knd.room A.in1 ∧ knd.is s.heap k a ∧ ∃ xs, s.heap.DictOfH knd d xs ∧ xs.length ≤ sizeLine ∧
      (∀ p, atKey xs k = some p → R (.ok (.ret p.2)) { s with toks := s.toks + knd.draws k }) ∧
      (atKey xs k = none → ∀ h', h'.DictOfH knd d (storedH xs k a dflt) → Heap.SameBut d s.heap h' → R (.ok (.ret dflt)) { s with heap := h', toks := s.toks + knd.draws k })) :=
  .of_wp fun A R s ⟨hu, hkey, xs, hm, hz, h1, h2⟩ => by
    unfold Builtin.«dict.setdefault»
    refine wpAny_bind ?_
    unfold Builtin.Dict.keyAndDefault
    refine wpAny_bind (wpAny_notOrdered_dict hm.typeIs ?_)
    show wpAny _ _ (pure (d, Value.ref a, some dflt)) _ _ s
    refine wpAny_pure ?_
    show wpAny _ _ (if (d == sysModules) = true then _ else (dictSetDefault d (.ref a) dflt >>= _)) _ _ s
    rw [if_neg (by rw [hd]; exact Bool.false_ne_true)]
    exact wpAny_bind (wpAny_dictSetDefault_heap (hsz := hz) hu hkey hm (fun p hp => wpAny_pure ⟨p.2, rfl, h1 p hp⟩) fun hn h' hm' hs' => wpAny_pure ⟨dflt, rfl, h2 hn h' hm' hs'⟩)
end
end PySem
namespace L2
open PySem PySem.Spec PyProof.Rows
section
variable {X : Cx} {pins : List (Addr × Obj)} {σ : St} {H : Hp} {s : Shared} {a b : Addr} {r : Value} {d : V} {k : List Key} {A : Around} {E : Value → Shared → Prop}
theorem d_setdT {kvs : List (List Key × V)} {Q : Value → Shared → Prop} (hu : A.units + 2 < cLine) (I : Inv X pins σ H s) (e : H a = some (.dT kvs)) (eb : H b = some (.tup (k.map kV))) (rd : RelV d r) (hl : kvs.length < sizeLine)
    (h1 : ∀ v, valV kvs k = some v → ∀ (w' : Value) (s' : Shared), Inv X pins σ H s' → RelV v w' → Q w' s') (h2 : valV kvs k = none → ∀ (w' : Value) (s' : Shared), Inv X pins σ (upd H a (.dT (putK kvs k d))) s' → RelV d w' → Q w' s') :
    wpAny (model X.prog X.w) A (call (.builtin "dict.setdefault") [.ref a, .ref b, r]) Q E s := by
  obtain ⟨z, hd, xs, rel, dd⟩ := dt_of I.hok e
  have hz : xs.length ≤ sizeLine := by rw [← Paired.length rel]; exact z
  refine call_meetsIn PySem.F.slot_dict_setdefault dd.typeIs PySem.F.entry_dict_setdefault (PySem.F.args_dict_setdefault_3 _ _ _) (meetsH_setdefault _ a b hd r (k := k)) ⟨?_, key_of I.hok eb, xs, dd, hz, fun p hp => ?_, fun hn h' dd' hs => ?_⟩
  · exact tupleKind_room_in1 (by omega)
  · obtain ⟨v0, q0, rv⟩ : ∃ v0, valV kvs k = some v0 ∧ RelV v0 p.2 := by
      have q := rel.val k
      rw [hp] at q
      cases q0 : valV kvs k with
      | none => rw [q0] at q; exact (show False from q).elim
      | some v0 => rw [q0] at q; exact ⟨v0, rfl, q⟩
    exact h1 v0 q0 _ _ (I.tok _) rv
  · have q0 : valV kvs k = none := by
      have q := rel.val k
      rw [hn] at q
      cases q0 : valV kvs k with
      | none => rfl
      | some v0 => rw [q0] at q; exact (show False from q).elim
    have hl2 : (putK kvs k d).length ≤ sizeLine := by have := length_putK kvs k d; omega
    obtain ⟨q, es, ep, hq, g2, g3, g4, _, g5⟩ := dd'
    refine h2 q0 _ _ (d_write (t' := _) I (by rw [e]; exact True.intro) hs ⟨q, hq⟩ ⟨hl2, hd, _, (rel.put k eb rd).keeps fun c ys ec => ?_, q, es, ep, hq, g2, g3, g4, g5⟩) rd
    rw [upd_ne (ne_of ec e (fun z => nomatch z))]
    exact ec
end
/-- d.setdefault(y, z), y a tuple of ints and texts -/
def tDSetdT (td ty tx : TE) : TE := fun σ H Q => td σ H fun x H1 => ∃ a kv1, x = .ref a ∧ H1 a = some (.dT kv1) ∧ ty σ H1 fun y H2 => tx σ H2 fun z H3 => ∃ (kvs : List (List Key × V)) (k : List Key) (b : Addr), H3 a = some (.dT kvs) ∧ y = .ref b ∧ H3 b = some (.tup (k.map kV)) ∧ kvs.length < sizeLine ∧
  (∀ v, valV kvs k = some v → Q v H3) ∧ (valV kvs k = none → Q z (upd H3 a (.dT (putK kvs k z))))
section
variable {X : Cx} {o e f : Expr} {td ty tx : TE} {apos cpos : Pos}
theorem pe_dsetdT (hu : X.A.units + 2 < cLine) (ho : PE X o td) (he : PE X e ty) (hf : PE X f tx) (m : M2 X o "setdefault" apos e f cpos) : PE X (.Call (.Attribute o "setdefault" apos) [e, f] [] cpos) (tDSetdT td ty tx) := by
  refine ⟨fun pins s σ H Q I h => ?_⟩
  refine wpAny_Call_method m.base m.few m.line PySem.F.plainAttrs_dict PySem.F.slot_dict_setdefault PySem.F.type_dict_setdefault (thn (ho.run pins s σ H _ I h) fun u s1 ⟨x, H1, I1, rx, a, kv1, ex, d, q1⟩ => ?_)
  subst ex
  obtain rfl : u = Value.ref a := rx
  obtain ⟨z1, hd1, xs1, rel1, dd1⟩ := dt_of I1.hok d
  refine ⟨dd1.typeIs, (fun b' q => by
    cases q
    obtain ⟨ob, _, _, g1, g2, _⟩ := dd1
    exact ⟨ob, g1, g2.2.1⟩), ?_⟩
  rw [m.trees]
  refine Calls.callWith_builtin rfl (Calls.evalArgs_plain (Calls.spliced_cons (thn (he.run pins s1 σ H1 _ I1 q1) fun iv s2 ⟨y, H2, I2, ry, q2⟩ =>
    Calls.spliced_cons (thn (hf.run pins s2 σ H2 _ I2 q2) fun fv s3 ⟨z, H3, I3, rz, kvs, k, b, ea, ey, eb, hl, q3, q4⟩ => Calls.spliced_nil ?_))))
  subst ey
  cases (show iv = Value.ref b from ry)
  exact d_setdT hu I3 ea eb rz hl (fun v hv w' s4 I4 rw' => ⟨v, _, I4, rw', q3 v hv⟩) fun hn w' s4 I4 rw' => ⟨z, _, I4, rw', q4 hn⟩
end
end L2

set_option Elab.async false
set_option linter.all false
set_option maxRecDepth 100000
set_option maxHeartbeats 1000000
/-! RxNil: xs != [] and xs == [], whatever is in xs -/
namespace L2
open PySem PySem.Spec PySem.SeqAt PyProof.Rows
section
variable {X : Cx}
def rNeNil (K : PySem.W.Frag) : R2 := fun x y H Q => ∃ a b xs, x = .ref a ∧ y = .ref b ∧ SqL K H a xs ∧ SqL K H b [] ∧ Q (.bl (!xs.isEmpty)) H
theorem op_neNil (hu : X.A.units < cLine) : OpR X (compareOp .NotEq) (rNeNil X.K) := by
  intro pins s σ H x y v u Q I rx ry h
  obtain ⟨a, b, xs, rfl, rfl, ha, hb, q⟩ := h
  cases rx
  cases ry
  obtain ⟨its, r, ht, hz⟩ := I.list ha
  obtain ⟨its2, r2, ht2, hz2⟩ := I.list hb
  cases r2
  show wpAny (model X.prog X.w) X.A (richCompare .NotEq (.ref a) (.ref b)) (EP X pins σ Q) X.xe s
  cases r with
  | nil => exact RcNeAt.lists (e := fun _ => true) ht.isList ht2.isList rfl hu (fun j j1 _ => absurd j1 (by simp)) X.prog X.w X.xe _ ⟨.bl false, H, I, rfl, q⟩
  | cons r1 r2 => exact RcNeAt.lists_lengths ht.isList ht2.isList (by simp) hu X.prog X.w X.xe _ ⟨.bl true, H, I, rfl, q⟩
end
end L2

set_option Elab.async false
set_option linter.all false
set_option maxRecDepth 100000
set_option maxHeartbeats 1000000
/-! RxRev: t[::-1] of a tuple -/
namespace HT
open PySem PySem.Spec PyProof.Rows L2
section
variable {prog : Program} {w : World} {A : Around} {E : Value → Shared → Prop} {s : Shared}
theorem adjust_rev (n : Nat) : Builtin.Slice.sliceAdjust none none (-1) (n : Int) = ((n : Int) - 1, -1) := by
  unfold Builtin.Slice.sliceAdjust
  simp
theorem places_rev (n : Nat) : Builtin.Slice.slicePlaces ((n : Int) - 1) (-1) (-1) = n := by
  unfold Builtin.Slice.slicePlaces
  have h1 : ¬ ((-1 : Int) > 0) := by decide
  simp only [h1, if_false]
  rw [show (- -1 : Int) = 1 by decide, Int.ediv_one]
  split <;> omega
theorem fm_congr {α β : Type} {f g : α → Option β} : ∀ {l : List α}, (∀ x ∈ l, f x = g x) → l.filterMap f = l.filterMap g
  | [], _ => rfl
  | x :: l, h => by
    rw [List.filterMap_cons, List.filterMap_cons, h x (List.mem_cons_self ..), fm_congr fun y hy => h y (List.mem_cons_of_mem _ hy)]
theorem pick_rev (xs : Array Value) : ((List.range xs.size).filterMap fun (k : Nat) => xs[(((xs.size : Int) - 1) + (k : Int) * (-1)).toNat]?).toArray = xs.toList.reverse.toArray := by
  have e : (List.range xs.size).filterMap (fun (k : Nat) => xs[(((xs.size : Int) - 1) + (k : Int) * (-1)).toNat]?) = ((List.range xs.size).map fun k => xs.size - 1 - k).filterMap (xs[·]?) := by
    rw [List.filterMap_map]
    refine fm_congr fun k hk => ?_
    have := List.mem_range.mp hk
    have : (((xs.size : Int) - 1) + (k : Int) * (-1)).toNat = xs.size - 1 - k := by omega
    simp only [Function.comp, this]
  rw [e, PySem.W.krv_range, List.filterMap_reverse, PySem.W.krv_all]
theorem getItem_tuple_rev {t sl : Addr} {items : Array Value} {vl vu vs : Value} {Q : Value → Shared → Prop} (ht : IsTup s.heap t items) (hs : s.heap.IsSliceOf sl vl vu vs) (pl : IsPart vl none) (pu : IsPart vu none) (ps : IsPart vs (some (-1)))
    (h : Q (.ref s.heap.objs.size) { s with heap := s.heap.push { cls := .type "tuple", data := .seq items.toList.reverse.toArray } })
    (hsz : items.size ≤ sizeLine) : wpAny (model prog w) A (getItem (.ref t) (.ref sl)) Q E s := by
  have htake : sizeOk (.seq items.toList.reverse.toArray) := by
    show items.toList.reverse.toArray.size ≤ sizeLine
    rw [List.size_toArray, List.length_reverse, Array.length_toList]
    exact hsz
  obtain ⟨os, hos, hcs, hds⟩ := id hs
  have hTs : s.TypeIs (.ref sl) "slice" := ⟨os, hos, hcs⟩
  unfold getItem
  try with_reducible refine wpAny_holding ?_
  first | refine wpAny_bind (wpAny_pure ?_) | skip
  refine wpAny_bind (wpAny_sequenceKey ht.typeIs (by decide) ?_)
  refine wpAny_bind (wpAny_callSpecial?_slot (name := Str.ofString "__getitem__") ht.typeIs PyProof.Rows.slot_tuple_getitem
    (wpAny_call_entry PyProof.Rows.slot_tuple_getitem ht.typeIs entry_tuple_getitem ?_ (args_tuple_getitem _ _)))
  show wpAny _ _ (Builtin.Tuple.tupleItemsOf (.ref t) >>= _) _ _ s
  refine wpAny_bind (tupleItemsOf_ ht ?_)
  refine wpAny_bind (wpAny_typeOf hTs ?_)
  rw [if_pos (by decide)]
  have app : ∀ {Q : Int × Int × Nat → Shared → Prop} {A : Around} {E : Value → Shared → Prop}, Q ((items.size : Int) - 1, -1, items.size) s → wpAny (model prog w) A (Builtin.Slice.sliceApplied (.ref sl) (pure (items.size : Int))) Q E s := fun {Q A E} q => by
    unfold Builtin.Slice.sliceApplied Builtin.Slice.sliceFields
    refine wpAny_bind (wpAny_bind (wpAny_field hos hds (x := vl) rfl (wpAny_bind (wpAny_field hos hds (x := vu) rfl (wpAny_bind (wpAny_field hos hds (x := vs) rfl (wpAny_pure ?_)))))))
    refine wpAny_bind (slicePart_ ps ?_)
    show wpAny _ _ (if ((-1 : Int) == 0) = true then _ else _) _ _ s
    rw [if_neg (by decide)]
    refine wpAny_bind (slicePart_ pl (wpAny_bind (slicePart_ pu (wpAny_bind (wpAny_pure ?_)))))
    show wpAny _ _ (match Builtin.Slice.sliceAdjust none none (-1) (items.size : Int) with | (lo, hi) => pure (lo, (-1 : Int), Builtin.Slice.slicePlaces lo hi (-1))) _ _ s
    rw [adjust_rev]
    show wpAny _ _ (pure ((items.size : Int) - 1, (-1 : Int), Builtin.Slice.slicePlaces ((items.size : Int) - 1) (-1) (-1))) _ _ s
    rw [places_rev]
    exact wpAny_pure q
  refine wpAny_bind (app ?_)
  have hno : ¬ ((((items.size : Int) - 1) == 0 && (-1 : Int) == 1 && items.size == items.size) = true) := by
    intro q
    rw [Bool.and_eq_true, Bool.and_eq_true] at q
    exact absurd q.1.2 (by decide)
  show wpAny _ _ (if (((items.size : Int) - 1) == 0 && (-1 : Int) == 1 && items.size == items.size) = true then _ else _) _ _ s
  rw [if_neg hno, pick_rev]
  first
    | exact wpAny_bind (m := Builtin.Tuple.tupleExact _) (wpAny_newObj_type (wpAny_pure ⟨_, rfl, wpAny_pure h⟩) htake)
    | exact wpAny_bind (m := Builtin.Tuple.tupleExact _) (wpAny_newObj_type (wpAny_bind (wpAny_pure (wpAny_pure ⟨_, rfl, wpAny_pure h⟩))) htake)
    | exact wpAny_bind (wpAny_bind (m := Builtin.Tuple.tupleExact _) (wpAny_newObj_type (wpAny_pure (wpAny_pure ⟨_, rfl, wpAny_pure h⟩)) htake))
    | exact wpAny_bind (wpAny_bind (m := Builtin.Tuple.tupleExact _) (wpAny_newObj_type (wpAny_pure ⟨_, rfl, wpAny_pure h⟩) htake))
end
end HT
namespace L2
open PySem PySem.Spec PyProof.Rows HT
section
variable {X : Cx}
/-- t[::-1] of a tuple: a new tuple -/
def tRevT (K : PySem.W.Frag) (te : TE) : TE := fun σ H Q => te σ H fun x H1 => ∃ a xs, x = .ref a ∧ SqT K H1 a xs ∧ ∀ p, H1 p = none → Q (.ref p) (upd H1 p (.tup xs.reverse))
theorem pe_revT {e : Expr} {te : TE} {k : Nat} {p1 p2 p3 pos : Pos} (he : PE X e te) : PE X (.Subscript e (.Slice none none (some (.UnaryOp .USub (.Constant (.int 1) k p1) p2)) p3) pos) (tRevT X.K te) := by
  refine ⟨fun pins s σ H Q I h => ?_⟩
  refine Subscript_ (thn (he.run pins s σ H _ I h) fun v s1 ⟨x, H1, I1, r1, q1⟩ => ?_)
  obtain ⟨a, xs, ex, hx, q⟩ := q1
  subst ex
  cases r1
  have hst : PO X (some (.UnaryOp .USub (.Constant (.int 1) k p1) p2)) (tPart (tUn (rU fun i => .int (-i)) (tC (.int 1)))) := po_some (pe_un un_neg pe_int)
  refine wpAny_Slice (thn (po_none.run pins s1 σ H1 (fun o H2 => o = none ∧ H2 = H1) I1 ⟨rfl, rfl⟩) fun vl s2 ⟨l, H2, I2, pl, el, e2⟩ => ?_)
  subst el e2
  refine thn (po_none.run pins s2 σ H2 (fun o H3 => o = none ∧ H3 = H2) I2 ⟨rfl, rfl⟩) fun vu s3 ⟨u, H3, I3, pu, eu, e3⟩ => ?_
  subst eu e3
  refine thn (hst.run pins s3 σ H3 (fun o H4 => o = some (-1) ∧ H4 = H3) I3 ⟨1, rfl, -1, rfl, rfl, rfl⟩) fun vs s4 ⟨o, H4, I4, ps, eo, e4⟩ => ?_
  subst eo e4
  have I5 : Inv X pins σ H4 { s4 with heap := s4.heap.push { cls := .type "slice", data := .fields #[vl, vu, vs] } } := I4.kept (t' := s4.toks) fun b ob q => Heap.get?_push_of_some _ q
  obtain ⟨its, r, ht, hz⟩ := I5.tuple hx
  have hlen := r.length
  show wpAny (model X.prog X.w) X.A (subscriptTail e (.Slice none none (some (.UnaryOp .USub (.Constant (.int 1) k p1) p2)) p3) (.ref a) (.ref s4.heap.objs.size)) (EP X pins σ Q) X.xe { s4 with heap := s4.heap.push { cls := .type "slice", data := .fields #[vl, vu, vs] } }
  refine tail_any (ops := [.ref a, .ref s4.heap.objs.size]) ht.typeIs (PyProof.Rows.slot_tuple_getitem.lookup) ?_ (by with_unfolding_all rfl)
  refine HT.getItem_tuple_rev ht (Heap.IsSliceOf.new _ vl vu vs) pl pu ps ?_ (by rw [List.size_toArray]; omega)
  rw [show its.toArray.toList = its by simp]
  refine ⟨.ref _, _, I5.laid (t' := s4.toks) (o := .tup xs.reverse) (fun b ob q => Heap.get?_push_of_some _ q) (Nat.le_refl _) ?_, rfl, q _ (I5.hok.fresh (Nat.le_refl _))⟩
  exact ⟨by rw [List.length_reverse]; omega, _, r.reverse, IsTup.new _ _⟩
end
end L2

set_option Elab.async false
set_option linter.all false
set_option maxRecDepth 100000
set_option maxHeartbeats 1000000
/-! RxRec: records, what rows and events are -/
namespace Rx
open PySem PySem.Spec PyProof.Rows L2
/-! ### the type of data -/
def tyN : PyData → String
  | .none => "NoneType" | .bool _ => "bool" | .int _ => "int" | .str _ => "str" | .list _ => "list" | .tuple _ => "tuple" | .dict _ => "dict"
theorem dp_tyX {K : PySem.W.Frag} {H : Hp} {v : V} {d : PyData} (h : Dp K H v d) : TyX K H v (.type (tyN d)) := by
  cases h with
  | non => exact .base .non
  | bl b => exact .base (.bl b)
  | int i => exact .base (.int i)
  | str x => exact .base (.str x)
  | lst h1 _ =>
    rcases h1 with (h | ⟨o, h⟩) | ⟨o, its, n, h, hc, _⟩
    · exact .base (.lst h)
    · exact .base (.frz h)
    · exact .kList h hc
  | tup h1 _ =>
    rcases h1 with (h | ⟨o, h⟩) | ⟨o, its, n, h, hc, _⟩
    · exact .base (.tup h)
    · exact .fTuple h
    · exact .kTuple h hc
def isStrD : PyData → Bool
  | .str _ => true | _ => false
def isIntD : PyData → Bool
  | .int _ => true | .bool _ => true | _ => false
def isBoolD : PyData → Bool
  | .bool _ => true | _ => false
def isTupD : PyData → Bool
  | .tuple _ => true | _ => false
def isListD : PyData → Bool
  | .list _ => true | _ => false
theorem kit_d {K : PySem.W.Frag} {H : Hp} {v : V} {d : PyData} (h : Dp K H v d) {T : String} {f : PyData → Bool} (h1 : kitB "NoneType" T = some (f .none)) (h2 : ∀ b, kitB "bool" T = some (f (.bool b))) (h3 : ∀ b, kitB "int" T = some (f (.int b))) (h4 : ∀ b, kitB "str" T = some (f (.str b))) (h5 : ∀ b, kitB "list" T = some (f (.list b))) (h6 : ∀ b, kitB "tuple" T = some (f (.tuple b))) :
    PySem.W.kitOne K (.type (tyN d)) (.type T) = some (f d) := by
  cases h with
  | non => exact kit_ty h1
  | bl b => exact kit_ty (h2 b)
  | int i => exact kit_ty (h3 i)
  | str x => exact kit_ty (h4 x)
  | lst _ _ => exact kit_ty (h5 _)
  | tup _ _ => exact kit_ty (h6 _)
section
variable {K : PySem.W.Frag} {H : Hp} {v : V} {d : PyData}
theorem kb (a T : String) (b : Bool) (h : kitB a T = some b) : kitB a T = some b := h
theorem kit_str (h : Dp K H v d) : PySem.W.kitOne K (.type (tyN d)) (.type "str") = some (isStrD d) := kit_d (f := isStrD) h (show _ = some false by decide +kernel) (fun _ => show _ = some false by decide +kernel) (fun _ => show _ = some false by decide +kernel) (fun _ => show _ = some true by decide +kernel) (fun _ => show _ = some false by decide +kernel) (fun _ => show _ = some false by decide +kernel)
theorem kit_int (h : Dp K H v d) : PySem.W.kitOne K (.type (tyN d)) (.type "int") = some (isIntD d) := kit_d (f := isIntD) h (show _ = some false by decide +kernel) (fun _ => show _ = some true by decide +kernel) (fun _ => show _ = some true by decide +kernel) (fun _ => show _ = some false by decide +kernel) (fun _ => show _ = some false by decide +kernel) (fun _ => show _ = some false by decide +kernel)
theorem kit_bool (h : Dp K H v d) : PySem.W.kitOne K (.type (tyN d)) (.type "bool") = some (isBoolD d) := kit_d (f := isBoolD) h (show _ = some false by decide +kernel) (fun _ => show _ = some true by decide +kernel) (fun _ => show _ = some false by decide +kernel) (fun _ => show _ = some false by decide +kernel) (fun _ => show _ = some false by decide +kernel) (fun _ => show _ = some false by decide +kernel)
theorem kit_tup (h : Dp K H v d) : PySem.W.kitOne K (.type (tyN d)) (.type "tuple") = some (isTupD d) := kit_d (f := isTupD) h (show _ = some false by decide +kernel) (fun _ => show _ = some false by decide +kernel) (fun _ => show _ = some false by decide +kernel) (fun _ => show _ = some false by decide +kernel) (fun _ => show _ = some false by decide +kernel) (fun _ => show _ = some true by decide +kernel)
theorem kit_list (h : Dp K H v d) : PySem.W.kitOne K (.type (tyN d)) (.type "list") = some (isListD d) := kit_d (f := isListD) h (show _ = some false by decide +kernel) (fun _ => show _ = some false by decide +kernel) (fun _ => show _ = some false by decide +kernel) (fun _ => show _ = some false by decide +kernel) (fun _ => show _ = some true by decide +kernel) (fun _ => show _ = some false by decide +kernel)
end
end Rx
namespace Rc
open PySem PySem.Spec PyProof.Rows L2 Rx SX
/-! ### events -/
inductive Ev where
  | set (x : Str) (v : Int) | inp (x : Str) (v : Int) | send (p : Str) (v : Int)
  | recv (p x : Str) (v : Int) | take (p x : Str) (v : Int) | chk
deriving DecidableEq
def Ev.word : Ev → Str
  | .set _ _ => "set" | .inp _ _ => "input" | .send _ _ => "send" | .recv _ _ _ => "receive" | .take _ _ _ => "take" | .chk => "checkpoint"
def Ev.rest : Ev → List PyData
  | .set x v => [.str x, .int v] | .inp x v => [.str x, .int v] | .send p v => [.str p, .int v] | .recv p x v => [.str p, .str x, .int v] | .take p x v => [.str p, .str x, .int v] | .chk => []
def Ev.data (e : Ev) : PyData := .tuple (.str e.word :: e.rest)
abbrev Rows := List (Str × List Ev)
def rowE (r : Str × List Ev) : PyData := .tuple [.str r.1, .tuple (r.2.map Ev.data)]
def bigZ : Int := 10 ^ 30
def nameB (x : Str) : Bool := isName x.cps.toList
def valB (v : Int) : Bool := decide ((v.natAbs : Int) < bigZ)
/-- a good event of a process whose others are these -/
def Ev.ok (os : List Str) : Ev → Bool
  | .set x v => nameB x && valB v
  | .inp x v => nameB x && valB v
  | .send p v => decide (p ∈ os) && valB v
  | .recv p x v => decide (p ∈ os) && nameB x && valB v
  | .take p x v => decide (p ∈ os) && nameB x && valB v
  | .chk => true
/-! ### what is checked -/
/-- a pair of a name and a tuple -/
def rowOf : PyData → Option (Str × List PyData)
  | .tuple [.str n, .tuple es] => if nameB n = true then some (n, es) else none
  | _ => none
/-- the first row that is none, from number i on -/
def rowBad : List Str → Nat → List PyData → Option Nat
  | _, _, [] => none
  | kn, i, d :: ds => match rowOf d with
    | none => some i
    | some (n, _) => if i = 40 ∨ n ∈ kn then some i else rowBad (kn ++ [n]) (i + 1) ds
/-- the rows of good data -/
def rowsOfD (ds : List PyData) : List (Str × List PyData) := ds.filterMap rowOf
def shapeL : List (Str × List Str) := [("set", ["variable", "value"]), ("send", ["process", "value"]), ("receive", ["process", "variable", "value"]), ("take", ["process", "variable", "value"]), ("input", ["variable", "value"]), ("checkpoint", [])]
def shapeOf (w : Str) : Option (List Str) := (shapeL.find? fun p => decide (p.1 = w)).map (·.2)
def fitsB (kind : Str) (d : PyData) (os : List Str) : Bool :=
  if kind = "process" then (match d with | .str p => decide (p ∈ os) | _ => false)
  else if kind = "variable" then (match d with | .str x => nameB x | _ => false)
  else (match d with | .int v => valB v | _ => false)
/-- the event that data tells -/
def evOf (os : List Str) : PyData → Option Ev
  | .tuple [.str w] => if w = "checkpoint" then some .chk else none
  | .tuple [.str w, .str p, .int v] => if w = "set" then (if nameB p && valB v then some (.set p v) else none) else if w = "input" then (if nameB p && valB v then some (.inp p v) else none) else if w = "send" then (if decide (p ∈ os) && valB v then some (.send p v) else none) else none
  | .tuple [.str w, .str p, .str x, .int v] => if w = "receive" then (if decide (p ∈ os) && nameB x && valB v then some (.recv p x v) else none) else if w = "take" then (if decide (p ∈ os) && nameB x && valB v then some (.take p x v) else none) else none
  | _ => none
theorem evOf_data {os : List Str} {d : PyData} {e : Ev} (h : evOf os d = some e) : d = e.data ∧ e.ok os = true := by
  unfold evOf at h
  split at h
  · split at h
    · rename_i hw
      injection h with h
      subst h hw
      exact ⟨rfl, rfl⟩
    · cases h
  · split at h
    · rename_i hw
      split at h
      · rename_i hc
        injection h with h
        subst h hw
        exact ⟨rfl, hc⟩
      · cases h
    · split at h
      · rename_i hw
        split at h
        · rename_i hc
          injection h with h
          subst h hw
          exact ⟨rfl, hc⟩
        · cases h
      · split at h
        · rename_i hw
          split at h
          · rename_i hc
            injection h with h
            subst h hw
            exact ⟨rfl, hc⟩
          · cases h
        · cases h
  · split at h
    · rename_i hw
      split at h
      · rename_i hc
        injection h with h
        subst h hw
        exact ⟨rfl, hc⟩
      · cases h
    · split at h
      · rename_i hw
        split at h
        · rename_i hc
          injection h with h
          subst h hw
          exact ⟨rfl, hc⟩
        · cases h
      · cases h
  · cases h
theorem evOf_ok {os : List Str} {e : Ev} (h : e.ok os = true) : evOf os e.data = some e := by
  have e1 : ("input" : Str) ≠ "set" := by decide +kernel
  have e2 : ("send" : Str) ≠ "set" := by decide +kernel
  have e3 : ("send" : Str) ≠ "input" := by decide +kernel
  have e4 : ("take" : Str) ≠ "receive" := by decide +kernel
  cases e <;> simp only [Ev.ok] at h <;> simp only [Ev.data, Ev.word, Ev.rest, evOf]
  · rw [if_pos trivial, if_pos h]
  · rw [if_neg e1, if_pos trivial, if_pos h]
  · rw [if_neg e2, if_neg e3, if_pos trivial, if_pos h]
  · rw [if_pos trivial, if_pos h]
  · rw [if_neg e4, if_pos trivial, if_pos h]
  · rw [if_pos trivial]
def othersL (names : List Str) (n : Str) : List Str := names.filter fun o => decide (o ≠ n)
/-- the first event without a form, counted from k -/
def evBad (os : List Str) : Nat → List PyData → Option Nat
  | _, [] => none
  | k, d :: ds => if (evOf os d).isSome then evBad os (k + 1) ds else some k
def evsBad (names : List Str) : List (Str × List PyData) → Option (Str × Nat)
  | [] => none
  | (n, es) :: rs => match evBad (othersL names n) 1 es with
    | some k => some (n, k)
    | none => evsBad names rs
def rowsTy (names : List Str) (rs : List (Str × List PyData)) : Rows := rs.map fun r => (r.1, r.2.filterMap (evOf (othersL names r.1)))
end Rc

set_option Elab.async false
set_option linter.all false
set_option maxRecDepth 100000
set_option maxHeartbeats 1000000
/-! RxRec2: data of a good shape, a table of the module, zip of tuples -/
namespace L2
open PySem PySem.Spec PyProof.Rows RZ
theorem walk_zipT {K : PySem.W.Frag} {a b : Addr} {xs ys : List V} {n : Nat} (hn : n = min xs.length ys.length) : Walk (ItzT K a b) n (fun H => SqT K H a xs ∧ SqT K H b ys) (YPair (fun i => xs[i]?) (fun i => ys[i]?)) := by
  subst hn
  refine ⟨fun i _ hi q => ?_, fun _ q => ⟨xs, ys, q.1, q.2, by omega⟩, fun i H v H' _ q y => ?_⟩
  · have h1 : i < xs.length := by omega
    have h2 : i < ys.length := by omega
    exact ⟨xs, ys, xs[i], ys[i], q.1, q.2, by simp [h1], by simp [h2]⟩
  · obtain ⟨T, x, z, h1, h2, h3, h4, h5⟩ := y
    exact ⟨T, x, z, h1, h2, h3, h4 xs q.1, h5 ys q.2⟩
end L2
namespace Rc
open PySem PySem.Spec PyProof.Rows L2 Rx SX
mutual
/-- no text is long -/
def smD : PyData → Bool
  | .str z => decide (z.length ≤ 100000)
  | .list xs | .tuple xs => smAll xs
  | _ => true
def smAll : List PyData → Bool
  | [] => true
  | x :: xs => smD x && smAll xs
end
theorem smAll_mem : ∀ {xs : List PyData} {x : PyData}, smAll xs = true → x ∈ xs → smD x = true
  | [], _, _, h => nomatch h
  | y :: ys, x, h, hm => by
    simp only [smAll, Bool.and_eq_true] at h
    rcases List.mem_cons.mp hm with rfl | hm
    · exact h.1
    · exact smAll_mem h.2 hm
structure Gd (d : PyData) : Prop where
  sh : SeqAt.shaped d = true
  sm : smD d = true
theorem depthAll_le : ∀ {xs : List PyData} {x : PyData}, x ∈ xs → x.depth ≤ PyData.depthAll xs
  | [], _, h => nomatch h
  | y :: ys, x, hm => by
    simp only [PyData.depthAll]
    rcases List.mem_cons.mp hm with rfl | hm
    · exact Nat.le_max_left _ _
    · exact Nat.le_trans (depthAll_le hm) (Nat.le_max_right _ _)
theorem shaped_mem {xs : List PyData} {x : PyData} (h : SeqAt.shaped (.tuple xs) = true) (hm : x ∈ xs) : SeqAt.shaped x = true := by
  unfold SeqAt.shaped at h ⊢
  rw [Bool.and_eq_true, decide_eq_true_eq] at h ⊢
  refine ⟨PyData.canLay0_of_mem xs x (by simpa [PyData.canLay0] using h.1) hm, ?_⟩
  have := depthAll_le hm
  have h2 := h.2
  simp only [PyData.depth] at h2
  omega
theorem Gd.mem {xs : List PyData} {x : PyData} (h : Gd (.tuple xs)) (hm : x ∈ xs) : Gd x := ⟨shaped_mem h.sh hm, smAll_mem (by have := h.sm; simpa [smD] using this) hm⟩
theorem Gd.str {z : Str} (h : Gd (.str z)) : z.length ≤ 100000 := by
  have := h.sm
  simpa [smD] using this
/-- a table of the module: texts and tuples of texts -/
def KTab (K : PySem.W.Frag) (w : World) (d : Addr) (kvs : List (Str × List Str)) : Prop :=
  ∃ es n, KDict K w d es n ∧ Paired (fun (p : Str × List Str) (e : DictEntry) => (∃ t, e.key = .str p.1 t) ∧ ∃ b, e.val = .ref b ∧ KTup K b (p.2.map V.str)) kvs es.toList
theorem isStr_str (x z : Str) (t : Tok) : (Value.str x t).isStr z = decide (x = z) := by
  by_cases h : x = z
  · subst h; simp [Value.isStr]
  · simp [Value.isStr, h]
theorem tab_find {K : PySem.W.Frag} {kvs : List (Str × List Str)} {es : List DictEntry} (h : Paired (fun (p : Str × List Str) (e : DictEntry) => (∃ t, e.key = .str p.1 t) ∧ ∃ b, e.val = .ref b ∧ KTup K b (p.2.map V.str)) kvs es) (z : Str) :
    (es.any (·.refKey) = false) ∧ ((kvs.find? (fun p => decide (p.1 = z)) = none ∧ es.find? (·.key.isStr z) = none) ∨
      ∃ p e b, kvs.find? (fun p => decide (p.1 = z)) = some p ∧ es.find? (·.key.isStr z) = some e ∧ e.val = .ref b ∧ KTup K b (p.2.map V.str)) := by
  induction h with
  | nil => exact ⟨rfl, .inl ⟨rfl, rfl⟩⟩
  | @cons p e r s hp _ ih =>
    obtain ⟨⟨t, hk⟩, b, hv, kt⟩ := hp
    obtain ⟨i1, i2⟩ := ih
    have hr : e.refKey = false := by simp [DictEntry.refKey, hk]
    refine ⟨by rw [List.any_cons, hr, i1]; rfl, ?_⟩
    have e1 : e.key.isStr z = decide (p.1 = z) := by rw [hk, isStr_str]
    rw [List.find?_cons, List.find?_cons, e1]
    cases hd : decide (p.1 = z) with
    | true => exact .inr ⟨p, e, b, rfl, rfl, hv, kt⟩
    | false => exact i2
theorem KTab.look {K : PySem.W.Frag} {w : World} {d : Addr} {kvs : List (Str × List Str)} (h : KTab K w d kvs) : ∃ es n, KDict K w d es n ∧ ∀ z : Str, (kvs.find? (fun p => decide (p.1 = z)) = none ∧ PySem.W.nsIn K d z = some none) ∨
    ∃ p b, kvs.find? (fun p => decide (p.1 = z)) = some p ∧ PySem.W.nsIn K d z = some (some (.ref b)) ∧ KTup K b (p.2.map V.str) := by
  obtain ⟨es, n, D, P⟩ := h
  refine ⟨es, n, D, fun z => ?_⟩
  obtain ⟨hr, h⟩ := tab_find P z
  have hl := D.at_
  rcases h with ⟨h1, h2⟩ | ⟨p, e, b, h1, h2, h3, h4⟩
  · refine .inl ⟨h1, ?_⟩
    unfold PySem.W.nsIn
    rw [hl]
    dsimp only
    rw [h2]
    dsimp only
    rw [if_neg (by rw [hr]; decide)]
  · refine .inr ⟨p, b, h1, ?_, h4⟩
    unfold PySem.W.nsIn
    rw [hl]
    dsimp only
    rw [h2]
    dsimp only
    rw [h3]
end Rc
namespace Rc
open PySem PySem.Spec PyProof.Rows L2 RZ Rx SX
theorem abs_lt (z B : Int) : decide ((z.natAbs : Int) < B) = decide ((if z < 0 then -z else z) < B) := by
  rw [show (z.natAbs : Int) = if z < 0 then -z else z by split <;> omega]
theorem dpAll_inv {K : PySem.W.Frag} {H : Hp} {v : V} {vs : List V} {ds : List PyData} (h : DpAll K H (v :: vs) ds) : ∃ d ds', ds = d :: ds' ∧ Dp K H v d ∧ DpAll K H vs ds' := by
  cases h with
  | cons a b => exact ⟨_, _, rfl, a, b⟩
theorem dpAll_inv0 {K : PySem.W.Frag} {H : Hp} {ds : List PyData} (h : DpAll K H [] ds) : ds = [] := by
  cases h
  rfl
theorem dpAll_at {K : PySem.W.Frag} {H : Hp} : ∀ {vs : List V} {ds : List PyData}, DpAll K H vs ds → ∀ {i : Nat} {v : V}, vs[i]? = some v → ∃ d, ds[i]? = some d ∧ Dp K H v d
  | [], _, _, _, _, hi => nomatch hi
  | v :: vs, _, .cons a r, 0, _, hi => by
    injection hi with hi
    subst hi
    exact ⟨_, rfl, a⟩
  | v :: vs, _, .cons a r, i + 1, _, hi => dpAll_at (vs := vs) r (i := i) hi
def isNameD : PyData → Bool
  | .str z => nameB z | _ => false
def isIntegerD : PyData → Bool
  | .int _ => true | _ => false
def isValueD : PyData → Bool
  | .int v => valB v | _ => false
def isRowD (d : PyData) : Bool := (rowOf d).isSome
theorem isRowD_two (d1 d2 : PyData) : isRowD (.tuple [d1, d2]) = (isNameD d1 && isTupD d2) := by
  unfold isRowD
  cases d1 with
  | str z =>
    cases d2 with
    | tuple es =>
      show (if nameB z = true then some (z, es) else none).isSome = (nameB z && true)
      cases nameB z <;> rfl
    | _ => exact (Bool.and_false _).symm
  | _ => cases d2 <;> rfl
end Rc
namespace Rc
open PySem
theorem isValueD_no {d : PyData} (h : isIntegerD d = false) : isValueD d = false := by
  cases d with
  | int z => exact absurd h (by intro q; cases q)
  | _ => rfl
end Rc
namespace Rc
open PySem
/-- an event's form, part by part -/
def partsB (os : List Str) (ps : List PyData) : Option (List Str) → Bool
  | none => false
  | some ks => decide (ps.length = ks.length) && (ks.zip ps).all fun q => fitsB q.1 q.2 os
def hasB (os : List Str) : PyData → Bool
  | .tuple (.str w :: ps) => partsB os ps (shapeOf w)
  | _ => false
theorem vS {d : PyData} {os : List Str} : fitsB "variable" d os = isNameD d := by
  unfold fitsB
  rw [if_neg (by decide +kernel), if_pos rfl]
  cases d <;> rfl
theorem vP {d : PyData} {os : List Str} : fitsB "process" d os = match d with | .str p => decide (p ∈ os) | _ => false := by
  unfold fitsB
  rw [if_pos rfl] <;> cases d <;> rfl
theorem vV {d : PyData} {os : List Str} : fitsB "value" d os = isValueD d := by
  unfold fitsB
  rw [if_neg (by decide +kernel), if_neg (by decide +kernel)]
  cases d <;> rfl
def inB (os : List Str) : PyData → Bool
  | .str p => decide (p ∈ os) | _ => false
theorem vP' {d : PyData} {os : List Str} : fitsB "process" d os = inB os d := by
  rw [vP]
  cases d <;> rfl
theorem shapeOf_eq (w : Str) : shapeOf w = (if w = "set" then some ["variable", "value"] else if w = "send" then some ["process", "value"] else if w = "receive" then some ["process", "variable", "value"] else if w = "take" then some ["process", "variable", "value"] else if w = "input" then some ["variable", "value"] else if w = "checkpoint" then some [] else none : Option (List Str)) := by
  unfold shapeOf shapeL
  by_cases h1 : w = "set"
  · rw [if_pos h1]; subst h1; decide +kernel
  rw [if_neg h1]
  by_cases h2 : w = "send"
  · rw [if_pos h2]; subst h2; decide +kernel
  rw [if_neg h2]
  by_cases h3 : w = "receive"
  · rw [if_pos h3]; subst h3; decide +kernel
  rw [if_neg h3]
  by_cases h4 : w = "take"
  · rw [if_pos h4]; subst h4; decide +kernel
  rw [if_neg h4]
  by_cases h5 : w = "input"
  · rw [if_pos h5]; subst h5; decide +kernel
  rw [if_neg h5]
  by_cases h6 : w = "checkpoint"
  · rw [if_pos h6]; subst h6; decide +kernel
  rw [if_neg h6]
  have d : ∀ x : Str, w ≠ x → decide (x = w) = false := fun x h => decide_eq_false fun z => h z.symm
  simp only [List.find?_cons, List.find?_nil, d _ h1, d _ h2, d _ h3, d _ h4, d _ h5, d _ h6, Option.map_none]
theorem ev2 (os : List Str) (w : Str) (p q : PyData) : (evOf os (.tuple [.str w, p, q])).isSome = if w = "set" then isNameD p && isValueD q else if w = "input" then isNameD p && isValueD q else if w = "send" then inB os p && isValueD q else false := by
  have z : ((if w = "set" then false else if w = "input" then false else if w = "send" then false else false) : Bool) = false := by split; rfl; split; rfl; split <;> rfl
  cases p with
  | str x =>
    cases q with
    | int v =>
      show (if w = "set" then (if nameB x && valB v then some (Ev.set x v) else none) else if w = "input" then (if nameB x && valB v then some (Ev.inp x v) else none) else if w = "send" then (if decide (x ∈ os) && valB v then some (Ev.send x v) else none) else none : Option Ev).isSome = if w = "set" then nameB x && valB v else if w = "input" then nameB x && valB v else if w = "send" then decide (x ∈ os) && valB v else false
      generalize (nameB x && valB v) = a
      generalize (decide (x ∈ os) && valB v) = b
      split
      · cases a <;> rfl
      · split
        · cases a <;> rfl
        · split
          · cases b <;> rfl
          · rfl
    | _ => simp only [evOf, isValueD, Bool.and_false, Option.isSome_none, z]
  | _ => simp only [evOf, isNameD, inB, Bool.false_and, Option.isSome_none, z]
theorem ev3 (os : List Str) (w : Str) (p q r : PyData) : (evOf os (.tuple [.str w, p, q, r])).isSome = if w = "receive" then inB os p && (isNameD q && isValueD r) else if w = "take" then inB os p && (isNameD q && isValueD r) else false := by
  have z : ((if w = "receive" then false else if w = "take" then false else false) : Bool) = false := by split; rfl; split <;> rfl
  cases p with
  | str x =>
    cases q with
    | str y =>
      cases r with
      | int v =>
        show (if w = "receive" then (if decide (x ∈ os) && nameB y && valB v then some (Ev.recv x y v) else none) else if w = "take" then (if decide (x ∈ os) && nameB y && valB v then some (Ev.take x y v) else none) else none : Option Ev).isSome = if w = "receive" then decide (x ∈ os) && (nameB y && valB v) else if w = "take" then decide (x ∈ os) && (nameB y && valB v) else false
        rw [Bool.and_assoc]
        generalize (decide (x ∈ os) && (nameB y && valB v)) = a
        split
        · cases a <;> rfl
        · split
          · cases a <;> rfl
          · rfl
      | _ => simp only [evOf, isValueD, Bool.and_false, Option.isSome_none, z]
    | _ => simp only [evOf, isNameD, Bool.false_and, Bool.and_false, Option.isSome_none, z]
  | _ => simp only [evOf, inB, Bool.false_and, Option.isSome_none, z]
theorem hasB_ev (os : List Str) (d : PyData) : hasB os d = (evOf os d).isSome := by
  have n1 : ("send" : Str) ≠ "set" := by decide +kernel
  have n2 : ("send" : Str) ≠ "input" := by decide +kernel
  have n3 : ("input" : Str) ≠ "set" := by decide +kernel
  have n4 : ("take" : Str) ≠ "receive" := by decide +kernel
  cases d with
  | tuple xs =>
    cases xs with
    | nil => rfl
    | cons x ps =>
      cases x with
      | str w =>
        show partsB os ps (shapeOf w) = _
        rw [shapeOf_eq]
        match ps with
        | [] =>
          show _ = (if w = "checkpoint" then some Ev.chk else none).isSome
          by_cases h6 : w = "checkpoint"
          · subst h6
            rw [if_neg (by decide +kernel), if_neg (by decide +kernel), if_neg (by decide +kernel), if_neg (by decide +kernel), if_neg (by decide +kernel), if_pos rfl, if_pos rfl]
            rfl
          rw [if_neg h6, if_neg h6]
          by_cases h1 : w = "set"
          · rw [if_pos h1]; rfl
          by_cases h2 : w = "send"
          · rw [if_neg h1, if_pos h2]; rfl
          by_cases h3 : w = "receive"
          · rw [if_neg h1, if_neg h2, if_pos h3]; rfl
          by_cases h4 : w = "take"
          · rw [if_neg h1, if_neg h2, if_neg h3, if_pos h4]; rfl
          by_cases h5 : w = "input"
          · rw [if_neg h1, if_neg h2, if_neg h3, if_neg h4, if_pos h5]; rfl
          rw [if_neg h1, if_neg h2, if_neg h3, if_neg h4, if_neg h5]
          rfl
        | [p] =>
          rw [show (evOf os (.tuple [.str w, p])).isSome = false by cases p <;> rfl]
          by_cases h1 : w = "set"
          · rw [if_pos h1]; rfl
          by_cases h2 : w = "send"
          · rw [if_neg h1, if_pos h2]; rfl
          by_cases h3 : w = "receive"
          · rw [if_neg h1, if_neg h2, if_pos h3]; rfl
          by_cases h4 : w = "take"
          · rw [if_neg h1, if_neg h2, if_neg h3, if_pos h4]; rfl
          by_cases h5 : w = "input"
          · rw [if_neg h1, if_neg h2, if_neg h3, if_neg h4, if_pos h5]; rfl
          by_cases h6 : w = "checkpoint"
          · rw [if_neg h1, if_neg h2, if_neg h3, if_neg h4, if_neg h5, if_pos h6]; rfl
          rw [if_neg h1, if_neg h2, if_neg h3, if_neg h4, if_neg h5, if_neg h6]
          rfl
        | [p, q] =>
          rw [ev2]
          by_cases h1 : w = "set"
          · rw [if_pos h1, if_pos h1]
            show (true && (fitsB "variable" p os && (fitsB "value" q os && true))) = _
            rw [vS, vV, Bool.true_and, Bool.and_true]
          by_cases h2 : w = "send"
          · subst h2
            rw [if_neg h1, if_pos rfl, if_neg n1, if_neg n2, if_pos rfl]
            show (true && (fitsB "process" p os && (fitsB "value" q os && true))) = _
            rw [vP', vV, Bool.true_and, Bool.and_true]
          by_cases h3 : w = "receive"
          · subst h3; rw [if_neg h1, if_neg h2, if_pos rfl, if_neg h1, if_neg (by decide +kernel), if_neg h2]; rfl
          by_cases h4 : w = "take"
          · subst h4; rw [if_neg h1, if_neg h2, if_neg h3, if_pos rfl, if_neg h1, if_neg (by decide +kernel), if_neg h2]; rfl
          by_cases h5 : w = "input"
          · subst h5
            rw [if_neg h1, if_neg h2, if_neg h3, if_neg h4, if_pos rfl, if_neg h1, if_pos rfl]
            show (true && (fitsB "variable" p os && (fitsB "value" q os && true))) = _
            rw [vS, vV, Bool.true_and, Bool.and_true]
          by_cases h6 : w = "checkpoint"
          · subst h6; rw [if_neg h1, if_neg h2, if_neg h3, if_neg h4, if_neg h5, if_pos rfl, if_neg h1, if_neg h5, if_neg h2]; rfl
          rw [if_neg h1, if_neg h2, if_neg h3, if_neg h4, if_neg h5, if_neg h6, if_neg h1, if_neg h5, if_neg h2]
          rfl
        | [p, q, r] =>
          rw [ev3]
          by_cases h1 : w = "set"
          · subst h1; rw [if_pos rfl, if_neg (by decide +kernel), if_neg (by decide +kernel)]; rfl
          by_cases h2 : w = "send"
          · subst h2; rw [if_neg h1, if_pos rfl, if_neg (by decide +kernel), if_neg (by decide +kernel)]; rfl
          by_cases h3 : w = "receive"
          · subst h3; rw [if_neg h1, if_neg h2, if_pos rfl, if_pos rfl]
            show (true && (fitsB "process" p os && (fitsB "variable" q os && (fitsB "value" r os && true)))) = _
            rw [vP', vS, vV, Bool.true_and, Bool.and_true]
          by_cases h4 : w = "take"
          · subst h4; rw [if_neg h1, if_neg h2, if_neg h3, if_pos rfl, if_neg n4, if_pos rfl]
            show (true && (fitsB "process" p os && (fitsB "variable" q os && (fitsB "value" r os && true)))) = _
            rw [vP', vS, vV, Bool.true_and, Bool.and_true]
          by_cases h5 : w = "input"
          · subst h5; rw [if_neg h1, if_neg h2, if_neg h3, if_neg h4, if_pos rfl, if_neg h3, if_neg h4]; rfl
          by_cases h6 : w = "checkpoint"
          · subst h6; rw [if_neg h1, if_neg h2, if_neg h3, if_neg h4, if_neg h5, if_pos rfl, if_neg h3, if_neg h4]; rfl
          rw [if_neg h1, if_neg h2, if_neg h3, if_neg h4, if_neg h5, if_neg h6, if_neg h3, if_neg h4]
          rfl
        | p :: q :: r :: u :: rest =>
          rw [show (evOf os (.tuple (.str w :: p :: q :: r :: u :: rest))).isSome = false by cases p <;> first | rfl | (cases q <;> first | rfl | (cases r <;> rfl))]
          by_cases h1 : w = "set"
          · rw [if_pos h1]; simp [partsB]
          by_cases h2 : w = "send"
          · rw [if_neg h1, if_pos h2]; simp [partsB]
          by_cases h3 : w = "receive"
          · rw [if_neg h1, if_neg h2, if_pos h3]; simp [partsB]
          by_cases h4 : w = "take"
          · rw [if_neg h1, if_neg h2, if_neg h3, if_pos h4]; simp [partsB]
          by_cases h5 : w = "input"
          · rw [if_neg h1, if_neg h2, if_neg h3, if_neg h4, if_pos h5]; simp [partsB]
          by_cases h6 : w = "checkpoint"
          · rw [if_neg h1, if_neg h2, if_neg h3, if_neg h4, if_neg h5, if_pos h6]; simp [partsB]
          rw [if_neg h1, if_neg h2, if_neg h3, if_neg h4, if_neg h5, if_neg h6]
          rfl
      | _ => rfl
  | _ => rfl
end Rc
namespace Rc
open PySem PySem.Spec PyProof.Rows L2
theorem partsB_ne {os : List Str} {ps : List PyData} {ks : List Str} (h : ps.length ≠ ks.length) : partsB os ps (some ks) = false := by
  show (decide (ps.length = ks.length) && _) = false
  rw [decide_eq_false h]
  rfl
theorem partsB_eq {os : List Str} {ps : List PyData} {ks : List Str} (h : ps.length = ks.length) : partsB os ps (some ks) = (ks.zip ps).all fun q => fitsB q.1 q.2 os := by
  show (decide (ps.length = ks.length) && _) = _
  rw [decide_eq_true h, Bool.true_and]
theorem int_ne1 {a b : Nat} : ((!decide (V.int (a : Int) = V.int ((b : Int) + 1))) = true) ↔ a ≠ b + 1 := by
  by_cases h : a = b + 1
  · subst h
    simp
  · have : V.int (a : Int) ≠ V.int ((b : Int) + 1) := fun z => h (by injection z with z; omega)
    simp [this, h]
end Rc
namespace Rc
open PySem PySem.Spec PyProof.Rows L2
theorem fitR {n : Nat} (h : n ≤ 3000000) : n < sizeLine := Nat.lt_of_le_of_lt h (by decide)
theorem mapS_get {ks : List Str} {i : Nat} {y : V} (h : (ks.map V.str)[i]? = some y) : ∃ k, ks[i]? = some k ∧ y = V.str k := by
  rw [List.getElem?_map] at h
  cases hp : ks[i]? with
  | none => rw [hp] at h; cases h
  | some z => rw [hp] at h; injection h with h; exact ⟨z, rfl, h.symm⟩
theorem zip_get {α β : Type} {xs : List α} {ys : List β} {i : Nat} {x : α} {y : β} (h : xs[i]? = some x) (h2 : ys[i]? = some y) : (xs.zip ys)[i]? = some (x, y) := List.getElem?_zip_eq_some.mpr ⟨h, h2⟩
end Rc

set_option Elab.async false
set_option linter.all false
set_option maxRecDepth 100000
set_option maxHeartbeats 4000000
namespace Rx
open PySem PySem.Spec PyProof.Rows L2 SX
/-! ### what the reader of tokens does -/
def arithL : List Str := ["+", "-", "*", "//", "mod"]
def compL : List Str := ["=", "!=", "<", "<=", ">", ">="]
def prefL : List Str := ["not", "negate"]
def bindL : List (Str × Int) := [("or", 1), ("and", 2), ("not", 3), ("=", 4), ("!=", 4), ("<", 4), ("<=", 4), (">", 4), (">=", 4), ("+", 5), ("-", 5), ("*", 6), ("//", 6), ("mod", 6), ("negate", 7), ("number", 8), ("variable", 8)]
/-- what may stand among the operators -/
def opsL : List Str := ["or", "and", "not", "=", "!=", "<", "<=", ">", ">=", "+", "-", "*", "//", "mod", "negate", "(", "["]
def bindO (s : Str) : Option Int := bindL.lookup s
def bindOf (s : Str) : Int := (bindO s).getD (-1)
/-- the lists stand here with their last item first -/
structure RS where
  cond : Bool
  stage : Str
  cmp : Bool
  nodes : List PyData
  ops : List Str
  brs : List Str
def joinOp (x : Str) (ns : List PyData) : Option (List PyData) := if prefL.contains x then (match ns with
    | r :: t => some (.tuple [.str x, r] :: t)
    | [] => none) else (match ns with
    | r :: l :: t => some (.tuple [.str x, l, r] :: t)
    | _ => none)
def joinDown (b : Int) : List Str → List PyData → Option (List Str × List PyData)
  | [], ns => some ([], ns)
  | o :: os, ns => if b ≤ bindOf o then (match joinOp o ns with
    | some ns' => joinDown b os ns'
    | none => none) else some (o :: os, ns)
def RS.down (r : RS) (b : Int) : Option RS := (joinDown b r.ops r.nodes).map fun x => { r with ops := x.1, nodes := x.2 }
def begL : List Str := ["number", "variable", "-", "("]
def notL : List Str := ["not", "["]
def RS.starts (r : RS) : Bool := r.stage = "condition" || r.stage = "factor"
def RS.mayBegin (r : RS) (s : Str) : Bool := begL.contains s || (decide (r.stage = "condition") && notL.contains s)
def RS.mayFollow (r : RS) (s : Str) : Bool :=
  if (decide (r.stage = "expression") && arithL.contains s) = true then true
  else if r.brs.head? = some ("(" : Str) then decide (s = ")")
  else if r.cond = false then decide (s = "end")
  else if (decide (r.stage = "expression") && !r.cmp) = true then compL.contains s
  else if r.brs.head? = some ("[" : Str) then (["and", "or", "]"] : List Str).contains s
  else (["and", "or", "end"] : List Str).contains s
def RS.fits (r : RS) (s : Str) : Bool := if r.starts = true then r.mayBegin s else r.mayFollow s
/-- what a flat value is as data -/
def dOf : V → PyData
  | .int i => .int i
  | .str x => .str x
  | _ => .none
def FlatW (v : V) : Prop := v = .non ∨ (∃ i, v = .int i) ∨ ∃ x, v = .str x
theorem FlatW.dp {K : PySem.W.Frag} {H : Hp} {v : V} (h : FlatW v) : Dp K H v (dOf v) := by
  rcases h with rfl | ⟨i, rfl⟩ | ⟨x, rfl⟩
  · exact .non
  · exact .int i
  · exact .str x
theorem dOf_noList (v : V) : noList (dOf v) = true := by cases v <;> rfl
def RS.begin_ (r : RS) (s : Str) (v : V) : RS :=
  if s = "number" ∨ s = "variable" then { r with nodes := .tuple [.str s, dOf v] :: r.nodes, stage := "expression" }
  else if s = "-" then { r with ops := "negate" :: r.ops, stage := "factor" }
  else if s = "(" then { r with ops := s :: r.ops, brs := s :: r.brs, stage := "factor" }
  else if s = "[" then { r with ops := s :: r.ops, brs := s :: r.brs }
  else { r with ops := s :: r.ops }
def RS.close_ (r : RS) (s : Str) : Option RS := (r.down 0).bind fun q => match q.ops, q.brs with
  | _ :: os, _ :: bs => some { q with ops := os, brs := bs, stage := if s = "]" then "bracket" else "expression" }
  | _, _ => none
def RS.between (r : RS) (s : Str) : Option RS := (r.down (bindOf s)).map fun q =>
  if s = "and" ∨ s = "or" then { q with ops := s :: q.ops, stage := "condition", cmp := false }
  else { q with ops := s :: q.ops, stage := "factor", cmp := q.cmp || compL.contains s }
def RS.takeIn (r : RS) (s : Str) (v : V) : Option RS :=
  if r.starts = true then some (r.begin_ s v)
  else if s = ")" ∨ s = "]" then r.close_ s
  else if s = "end" then r.down 0
  else r.between s
def RS.start (c : Bool) : RS := ⟨c, if c = true then "condition" else "factor", false, [], [], []⟩
def runR : RS → List (Str × V × Nat) → Option RS
  | r, [] => some r
  | r, t :: ts => if r.fits t.1 = true then (r.takeIn t.1 t.2.1).bind fun q => runR q ts else none
/-! lengths -/
theorem joinOp_len {x : Str} {ns ms : List PyData} (h : joinOp x ns = some ms) : ms.length ≤ ns.length := by
  unfold joinOp at h
  split at h
  · split at h
    · injection h with h; subst h; simp
    · cases h
  · split at h
    · injection h with h; subst h; simp
    · cases h
theorem joinOp_nl {x : Str} {ns ms : List PyData} (h : joinOp x ns = some ms) (k : noListAll ns = true) : noListAll ms = true := by
  unfold joinOp at h
  split at h
  · split at h
    · injection h with h; subst h; simpa [noListAll, noList] using k
    · cases h
  · split at h
    · injection h with h; subst h
      simp only [noListAll, noList, Bool.and_eq_true, Bool.and_true, Bool.true_and] at k ⊢
      exact ⟨⟨k.2.1, k.1⟩, k.2.2⟩
    · cases h
theorem joinDown_len {b : Int} : ∀ {os : List Str} {ns : List PyData} {x : List Str × List PyData}, joinDown b os ns = some x → x.1.length ≤ os.length ∧ x.2.length ≤ ns.length ∧ (∀ o ∈ x.1, o ∈ os)
  | [], ns, x, h => by
    simp only [joinDown, Option.some.injEq] at h
    subst h
    simp
  | o :: os, ns, x, h => by
    unfold joinDown at h
    split at h
    · split at h
      · rename_i ms hm
        obtain ⟨h1, h2, h3⟩ := joinDown_len h
        have := joinOp_len hm
        exact ⟨by simp; omega, by omega, fun y hy => List.mem_cons_of_mem _ (h3 y hy)⟩
      · cases h
    · injection h with h
      subst h
      simp
theorem down_len {r q : RS} {b : Int} (h : r.down b = some q) : q.ops.length ≤ r.ops.length ∧ q.nodes.length ≤ r.nodes.length ∧ q.brs = r.brs ∧ q.stage = r.stage ∧ q.cmp = r.cmp ∧ q.cond = r.cond ∧ (∀ o ∈ q.ops, o ∈ r.ops) := by
  unfold RS.down at h
  obtain ⟨x, hx, rfl⟩ := Option.map_eq_some_iff.mp h
  obtain ⟨h1, h2, h3⟩ := joinDown_len hx
  exact ⟨h1, h2, rfl, rfl, rfl, rfl, h3⟩
/-- none of its lists has more than n items -/
structure Few (n : Nat) (r : RS) : Prop where
  nd : r.nodes.length ≤ n
  op : r.ops.length ≤ n
  br : r.brs.length ≤ n
theorem Few.down {n : Nat} {r q : RS} {b : Int} (f : Few n r) (h : r.down b = some q) : Few n q := by
  obtain ⟨h1, h2, h3, _⟩ := down_len h
  exact ⟨Nat.le_trans h2 f.nd, Nat.le_trans h1 f.op, by rw [h3]; exact f.br⟩
theorem Few.take {n : Nat} {r q : RS} {s : Str} {v : V} (f : Few n r) (h : r.takeIn s v = some q) : Few (n + 1) q := by
  have f1 := f.nd
  have f2 := f.op
  have f3 := f.br
  unfold RS.takeIn at h
  split at h
  · injection h with h
    subst h
    unfold RS.begin_
    split
    · exact ⟨by simp; omega, by simp; omega, by simp; omega⟩
    split
    · exact ⟨by simp; omega, by simp; omega, by simp; omega⟩
    split
    · exact ⟨by simp; omega, by simp; omega, by simp; omega⟩
    split
    · exact ⟨by simp; omega, by simp; omega, by simp; omega⟩
    · exact ⟨by simp; omega, by simp; omega, by simp; omega⟩
  split at h
  · unfold RS.close_ at h
    obtain ⟨q', h1, h2⟩ := Option.bind_eq_some_iff.mp h
    have g := f.down h1
    have g1 := g.nd
    have g2 := g.op
    have g3 := g.br
    split at h2
    · rename_i e1 e2
      injection h2 with h2
      subst h2
      rw [e1] at g2
      rw [e2] at g3
      simp only [List.length_cons] at g2 g3
      exact ⟨by simp; omega, by simp; omega, by simp; omega⟩
    · cases h2
  split at h
  · have g := f.down h
    exact ⟨Nat.le_succ_of_le g.nd, Nat.le_succ_of_le g.op, Nat.le_succ_of_le g.br⟩
  · unfold RS.between at h
    obtain ⟨q', h1, h2⟩ := Option.map_eq_some_iff.mp h
    have g := f.down h1
    have g1 := g.nd
    have g2 := g.op
    have g3 := g.br
    subst h2
    split
    · exact ⟨by simp; omega, by simp; omega, by simp; omega⟩
    · exact ⟨by simp; omega, by simp; omega, by simp; omega⟩
/-! ### get of a written dict -/
def KGet (K : PySem.W.Frag) (w : World) (a : Addr) (x : Str) (o : Option V) : Prop := ∃ es n r, K.lookup a = some ⟨.type "dict", none, .dict es n, #[]⟩ ∧ PySem.W.KeysLit w.params es.toList ∧ (a == sysModules) = false ∧ PySem.W.nsIn K a x = some r ∧
  (match o, r with
  | none, none => True
  | some v, some u => RelV v u
  | _, _ => False)
def tKGet2 (K : PySem.W.Frag) (w : World) (a : Addr) (td ty tx : TE) : TE := fun σ H Q => td σ H fun x H1 => x = .ref a ∧ ty σ H1 fun y H2 => tx σ H2 fun z H3 => ∃ k o, y = .str k ∧ KGet K w a k o ∧ Q (o.getD z) H3
section
variable {X : Cx} {o e f : Expr} {td ty tx : TE} {apos cpos : Pos} {a : Addr}
theorem pe_kget2 (hex : ∃ es n, X.K.lookup a = some ⟨.type "dict", none, .dict es n, #[]⟩ ∧ PySem.W.KeysLit X.w.params es.toList) (ho : PE X o td) (he : PE X e ty) (hf : PE X f tx) (m : M2 X o "get" apos e f cpos) : PE X (.Call (.Attribute o "get" apos) [e, f] [] cpos) (tKGet2 X.K X.w a td ty tx) := by
  refine ⟨fun pins s σ H Q I h => ?_⟩
  refine wpAny_Call_method m.base m.few m.line PySem.F.plainAttrs_dict PySem.F.slot_dict_get PySem.F.type_dict_get (thn (ho.run pins s σ H _ I h) fun u s1 ⟨x, H1, I1, rx, ex, q1⟩ => ?_)
  subst ex
  obtain rfl : u = Value.ref a := rx
  obtain ⟨es, n, hl, hk⟩ := hex
  have dd := PySem.W.mapOf_K (prog := X.prog) (w := X.w) I1.kIn hl hk
  refine ⟨dd.typeIs, fun b q => ?_, ?_⟩
  · cases q
    exact ⟨_, I1.kIn _ _ hl, rfl⟩
  rw [m.trees]
  refine Calls.callWith_builtin rfl (Calls.evalArgs_plain (Calls.spliced_cons (thn (he.run pins s1 σ H1 _ I1 q1) fun iv s2 ⟨y, H2, I2, ry, q2⟩ =>
    Calls.spliced_cons (thn (hf.run pins s2 σ H2 _ I2 q2) fun fv s3 ⟨z, H3, I3, rz, k, ov, ey, g, q3⟩ => Calls.spliced_nil ?_))))
  subst ey
  obtain ⟨t, rfl⟩ := (show ∃ t, iv = Value.str k t from ry)
  obtain ⟨es', n', r, hl', hk', low, hn, rel⟩ := g
  have dd3 := PySem.W.mapOf_K (prog := X.prog) (w := X.w) I3.kIn hl' hk'
  refine call_meetsIn PySem.F.slot_dict_get dd3.typeIs PySem.F.entry_dict_get (PySem.F.args_dict_get_3 _ _ _) (meets_dict_get_default (strKind X.prog X.w) a (strKind_is X.prog X.w k t) low fv) ⟨_, dd3, ?_⟩
  rw [PySem.W.find_K hl' hn]
  refine ⟨ov.getD z, H3, I3.tok _, ?_, q3⟩
  cases ov with
  | none =>
    cases r with
    | none => exact rz
    | some u => exact rel.elim
  | some v =>
    cases r with
    | none => exact rel.elim
    | some u => exact rel
end
end Rx

set_option Elab.async false
set_option linter.all false
set_option maxRecDepth 100000
set_option maxHeartbeats 4000000
namespace Rx
open PySem PySem.Spec PyProof.Rows L2 SX
/-! ### a row of tokens of an expression is read as its tree -/
def runP : RS → List (Str × V) → Option RS
  | r, [] => some r
  | r, t :: ts => if r.fits t.1 = true then (r.takeIn t.1 t.2).bind fun q => runP q ts else none
theorem runR_P : ∀ (ts : List (Str × V × Nat)) (r : RS), runR r ts = runP r (ts.map fun t => (t.1, t.2.1))
  | [], _ => rfl
  | t :: ts, r => by
    show (if r.fits t.1 = true then (r.takeIn t.1 t.2.1).bind fun q => runR q ts else none) = if r.fits t.1 = true then (r.takeIn t.1 t.2.1).bind fun q => runP q (ts.map fun t => (t.1, t.2.1)) else none
    simp only [runR_P ts]
theorem runP_cons {r q : RS} {s : Str} {v : V} {ts : List (Str × V)} (hf : r.fits s = true) (ht : r.takeIn s v = some q) : runP r ((s, v) :: ts) = runP q ts := by
  show (if r.fits s = true then (r.takeIn s v).bind fun q => runP q ts else none) = _
  rw [if_pos hf, ht]
  rfl
/-- what a token's text is to the reader -/
def cls (s : Str) : Str × V := ((tokAt s.cps.toList).1, (tokAt s.cps.toList).2.1)
def addL : List Str := ["+", "-"]
def mulL : List Str := ["*", "//", "mod"]
def numL : List Int := [0, 1, 2, 7, 10, 999, 10 ^ 29, 10 ^ 30 - 1]
def numS (n : Int) : Str := Str.ofString (toString n)
def nNum (n : Int) : PyData := .tuple [.str "number", .int n]
def nVar (x : Str) : PyData := .tuple [.str "variable", .str x]
def nNeg (a : PyData) : PyData := .tuple [.str "negate", a]
def nBin (w : Str) (a b : PyData) : PyData := .tuple [.str w, a, b]
inductive ET : Nat → PyData → List Str → Prop where
  | num {l : Nat} {n : Int} (h : n ∈ numL) : ET l (nNum n) [numS n]
  | var {l : Nat} {x : Str} (h : isName x.cps.toList = true) : ET l (nVar x) [x]
  | neg {l : Nat} {a : PyData} {ta : List Str} : ET 3 a ta → ET l (nNeg a) ("-" :: ta)
  | add {l : Nat} {w : Str} {a b : PyData} {ta tb : List Str} : w ∈ addL → l ≤ 1 → ET 1 a ta → ET 2 b tb → ET l (nBin w a b) (ta ++ w :: tb)
  | mul {l : Nat} {w : Str} {a b : PyData} {ta tb : List Str} : w ∈ mulL → l ≤ 2 → ET 2 a ta → ET 3 b tb → ET l (nBin w a b) (ta ++ w :: tb)
  | par {l : Nat} {d : PyData} {ts : List Str} : ET 1 d ts → ET l d ("(" :: (ts ++ [(")" : Str)]))
/-! what tokens are -/
def isIntV (v : V) (n : Int) : Bool := match v with
  | .int m => m == n
  | _ => false
theorem isIntV_eq {v : V} {n : Int} (h : isIntV v n = true) : v = .int n := by
  cases v <;> simp [isIntV] at h
  rw [h]
theorem cls_num {n : Int} (h : n ∈ numL) : cls (numS n) = (("number" : Str), V.int n) := by
  have h1 : ∀ n ∈ numL, ((cls (numS n)).1 = ("number" : Str)) ∧ isIntV (cls (numS n)).2 n = true := by decide +kernel
  obtain ⟨a, b⟩ := h1 n h
  rw [← isIntV_eq b, ← a]
def isNonV (v : V) : Bool := match v with
  | .non => true
  | _ => false
theorem isNonV_eq {v : V} (h : isNonV v = true) : v = .non := by
  cases v <;> simp [isNonV] at h
  rfl
/-- the tokens that stand for themselves -/
def selfL : List Str := ["+", "-", "*", "//", "mod", "(", ")", "[", "]", "=", "!=", "<", "<=", ">", ">=", "and", "or", "not"]
theorem cls_self {s : Str} (h : s ∈ selfL) : cls s = (s, .non) := by
  have h1 : ∀ s ∈ selfL, (cls s).1 = s ∧ isNonV (cls s).2 = true := by decide +kernel
  obtain ⟨a, b⟩ := h1 s h
  show ((cls s).1, (cls s).2) = _
  rw [a, isNonV_eq b]
theorem takeWhile_all {p : Nat → Bool} {cs : List Nat} (h : cs.all p = true) : cs.takeWhile p = cs := by
  induction cs with
  | nil => rfl
  | cons c r ih =>
    simp only [List.all_cons, Bool.and_eq_true] at h
    rw [List.takeWhile_cons, if_pos h.1, ih h.2]
theorem name_parts {cs : List Nat} (h : isName cs = true) : reservedL.contains (S cs) = false ∧ cs ≠ [] ∧ cs.length ≤ 8 ∧ cs.all isLet = true := by
  unfold isName at h
  simp only [Bool.and_eq_true, Bool.not_eq_true', decide_eq_true_eq] at h
  exact h
theorem words_res {s : Str} (h : reservedL.contains s = false) : wordsL.contains s = false := by
  rw [← Bool.not_eq_true, List.contains_iff_mem] at h ⊢
  intro z
  have : ∀ x ∈ wordsL, x ∈ reservedL := by decide +kernel
  exact h (this s z)
theorem tokAt_name {cs : List Nat} (h : isName cs = true) : tokAt cs = (("variable" : Str), V.str (S cs), cs.length) := by
  obtain ⟨h1, h2, h3, h4⟩ := name_parts h
  obtain ⟨c, r, rfl⟩ := List.exists_cons_of_ne_nil h2
  have hc : isLet c = true := by simp only [List.all_cons, Bool.and_eq_true] at h4; exact h4.1
  unfold tokAt
  dsimp only
  rw [if_pos hc, takeWhile_all h4]
  unfold wordTok
  rw [words_res h1, if_neg (by decide), if_pos h]
theorem cls_name {x : Str} (h : isName x.cps.toList = true) : cls x = (("variable" : Str), V.str x) := by
  unfold cls
  rw [tokAt_name h, S_tl]
/-! the reading -/
theorem starts_no {r : RS} (h : r.stage = "expression") : r.starts = false := by
  unfold RS.starts
  rw [h]
  decide +kernel
theorem starts_fac {r : RS} (h : r.stage = "factor") : r.starts = true := by
  unfold RS.starts
  rw [h]
  decide +kernel
/-- the last operator binds less tightly -/
def Low (l : Nat) (os : List Str) : Prop := l ≤ 2 → ∀ s t, os = s :: t → bindOf s < (l : Int) + 4
theorem low_stop {l : Nat} {os : List Str} {ns : List PyData} {b : Int} (h : Low l os) (hl : l ≤ 2) (hb : (l : Int) + 4 ≤ b) : joinDown b os ns = some (os, ns) := by
  cases os with
  | nil => rfl
  | cons s t =>
    have := h hl s t rfl
    show (if b ≤ bindOf s then _ else _) = _
    rw [if_neg (by omega)]
theorem begin_fits {r : RS} {s : Str} (h : r.starts = true) (hs : s ∈ begL) : r.fits s = true := by
  unfold RS.fits RS.mayBegin
  rw [if_pos h, List.contains_iff_mem.mpr hs]
  rfl
theorem begin_take {r : RS} {s : Str} {v : V} (h : r.starts = true) : r.takeIn s v = some (r.begin_ s v) := by
  unfold RS.takeIn
  rw [if_pos h]
theorem down_eq {r : RS} {b : Int} {os : List Str} {ns : List PyData} (h : joinDown b r.ops r.nodes = some (os, ns)) : r.down b = some { r with ops := os, nodes := ns } := by
  unfold RS.down
  rw [h]
  rfl
theorem mid_take {r : RS} {w : Str} {os : List Str} {ns : List PyData} (hs : r.stage = "expression") (hw : w ∈ arithL) (h : joinDown (bindOf w) r.ops r.nodes = some (os, ns)) :
    r.fits w = true ∧ ∀ v, r.takeIn w v = some { r with ops := w :: os, nodes := ns, stage := "factor" } := by
  have h1 : ∀ x ∈ arithL, ¬ (x = ")" ∨ x = "]") ∧ ¬ x = "end" ∧ ¬ (x = "and" ∨ x = "or") ∧ compL.contains x = false := by decide +kernel
  obtain ⟨n1, n2, n3, n4⟩ := h1 w hw
  refine ⟨?_, fun v => ?_⟩
  · unfold RS.fits RS.mayFollow
    rw [starts_no hs, if_neg (by decide), List.contains_iff_mem.mpr hw, hs, if_pos (by decide +kernel)]
  · unfold RS.takeIn
    rw [starts_no hs, if_neg (by decide), if_neg n1, if_neg n2]
    unfold RS.between
    rw [down_eq h, Option.map_some, if_neg n3, n4, Bool.or_false]
/-- what an operand leaves -/
structure Left (b : Int) (r q : RS) (d : PyData) : Prop where
  st : q.stage = "expression"
  br : q.brs = r.brs
  cm : q.cmp = r.cmp
  co : q.cond = r.cond
  jn : ∀ c : Int, c ≤ b → joinDown c q.ops q.nodes = joinDown c r.ops (d :: r.nodes)
theorem bind_add : ∀ w ∈ addL, bindOf w = 5 ∧ w ∈ arithL ∧ prefL.contains w = false ∧ w ∈ selfL := by decide +kernel
theorem bind_mul : ∀ w ∈ mulL, bindOf w = 6 ∧ w ∈ arithL ∧ prefL.contains w = false ∧ w ∈ selfL := by decide +kernel
theorem run_bin {l m : Nat} {w : Str} {a b : PyData} {ta tb : List Str} (hl : l ≤ m) (hm : m ≤ 2) (hm1 : 1 ≤ m) (hb : bindOf w = (m : Int) + 4) (hw : w ∈ arithL) (hp : prefL.contains w = false) (hself : w ∈ selfL)
    (ia : ∀ (r : RS) rest, r.starts = true → Low m r.ops → ∃ q, runP r (ta.map cls ++ rest) = runP q rest ∧ Left ((m : Int) + 4) r q a)
    (ib : ∀ (r : RS) rest, r.starts = true → Low (m + 1) r.ops → ∃ q, runP r (tb.map cls ++ rest) = runP q rest ∧ Left (((m + 1 : Nat) : Int) + 4) r q b)
    (r : RS) (rest : List (Str × V)) (hs : r.starts = true) (low : Low l r.ops) (hl1 : 1 ≤ l) : ∃ q, runP r ((ta ++ w :: tb).map cls ++ rest) = runP q rest ∧ Left ((l : Int) + 4) r q (nBin w a b) := by
  have lowm : Low m r.ops := fun z s t e => by
    have := low (by omega) s t e
    omega
  obtain ⟨q1, e1, L1⟩ := ia r ((w, V.non) :: (tb.map cls ++ rest)) hs lowm
  have hj : joinDown (bindOf w) q1.ops q1.nodes = some (r.ops, a :: r.nodes) := by
    rw [L1.jn _ (by rw [hb]; exact Int.le_refl _)]
    exact low_stop lowm hm (by rw [hb]; exact Int.le_refl _)
  obtain ⟨hf, ht⟩ := mid_take L1.st hw hj
  obtain ⟨q2, e2, L2⟩ := ib { q1 with ops := w :: r.ops, nodes := a :: r.nodes, stage := "factor" } rest (starts_fac rfl) (fun z s t e => by
    injection e with e _
    subst e
    rw [hb]
    omega)
  refine ⟨q2, ?_, L2.st, L2.br.trans L1.br, L2.cm.trans L1.cm, L2.co.trans L1.co, fun c hc => ?_⟩
  · rw [List.map_append, List.append_assoc, List.map_cons, List.cons_append, cls_self hself, e1, runP_cons hf (ht _), e2]
  · rw [L2.jn c (by omega)]
    show joinDown c (w :: r.ops) (b :: a :: r.nodes) = _
    have : joinOp w (b :: a :: r.nodes) = some (nBin w a b :: r.nodes) := by
      unfold joinOp
      rw [hp, if_neg (by decide)]
      rfl
    rw [joinDown, if_pos (by omega), this]
theorem run_ET {l : Nat} {d : PyData} {ts : List Str} (h : ET l d ts) : 1 ≤ l → l ≤ 3 → ∀ (r : RS) (rest : List (Str × V)), r.starts = true → Low l r.ops → ∃ q, runP r (ts.map cls ++ rest) = runP q rest ∧ Left ((l : Int) + 4) r q d := by
  induction h with
  | @num l n hn =>
    intro _ _ r rest hs _
    refine ⟨r.begin_ "number" (.int n), ?_, ?_⟩
    · rw [List.map_cons, List.map_nil, cls_num hn, List.singleton_append]
      exact runP_cons (begin_fits hs (by decide +kernel)) (begin_take hs)
    · unfold RS.begin_
      rw [if_pos (.inl rfl)]
      exact ⟨rfl, rfl, rfl, rfl, fun _ _ => rfl⟩
  | @var l x hx =>
    intro _ _ r rest hs _
    refine ⟨r.begin_ "variable" (.str x), ?_, ?_⟩
    · rw [List.map_cons, List.map_nil, cls_name hx, List.singleton_append]
      exact runP_cons (begin_fits hs (by decide +kernel)) (begin_take hs)
    · unfold RS.begin_
      rw [if_pos (.inr rfl)]
      exact ⟨rfl, rfl, rfl, rfl, fun _ _ => rfl⟩
  | @neg l a ta ha ih =>
    intro h1 h3 r rest hs _
    have e : r.begin_ "-" .non = { r with ops := "negate" :: r.ops, stage := "factor" } := by
      unfold RS.begin_
      rw [if_neg (by decide +kernel), if_pos rfl]
    obtain ⟨q, e1, L1⟩ := ih (by decide) (by decide) { r with ops := "negate" :: r.ops, stage := "factor" } rest (starts_fac rfl) (fun z => absurd z (by decide))
    refine ⟨q, ?_, L1.st, L1.br, L1.cm, L1.co, fun c hc => ?_⟩
    · rw [List.map_cons, cls_self (by decide +kernel), List.cons_append, runP_cons (begin_fits hs (by decide +kernel)) (begin_take hs), e, e1]
    · rw [L1.jn c (by omega)]
      show joinDown c (("negate" : Str) :: r.ops) (a :: r.nodes) = _
      have hb : bindOf "negate" = 7 := by decide +kernel
      have : joinOp "negate" (a :: r.nodes) = some (nNeg a :: r.nodes) := by
        unfold joinOp
        rw [if_pos (by decide +kernel)]
        rfl
      rw [joinDown, if_pos (by rw [hb]; omega), this]
  | add hw hl ha hb iha ihb =>
    intro h1 h3 r rest hs low
    obtain ⟨b1, b2, b3, b4⟩ := bind_add _ hw
    exact run_bin (m := 1) hl (by decide) (by decide) b1 b2 b3 b4 (iha (by decide) (by decide)) (ihb (by decide) (by decide)) r rest hs low h1
  | mul hw hl ha hb iha ihb =>
    intro h1 h3 r rest hs low
    obtain ⟨b1, b2, b3, b4⟩ := bind_mul _ hw
    exact run_bin (m := 2) hl (by decide) (by decide) b1 b2 b3 b4 (iha (by decide) (by decide)) (ihb (by decide) (by decide)) r rest hs low h1
  | @par l d ts hd ih =>
    intro h1 h3 r rest hs _
    have e : r.begin_ "(" .non = { r with ops := "(" :: r.ops, brs := "(" :: r.brs, stage := "factor" } := by
      unfold RS.begin_
      rw [if_neg (by decide +kernel), if_neg (by decide +kernel), if_pos rfl]
    have hb : bindOf "(" = -1 := by decide +kernel
    obtain ⟨q, e1, L1⟩ := ih (by decide) (by decide) { r with ops := "(" :: r.ops, brs := "(" :: r.brs, stage := "factor" } (((")" : Str), V.non) :: rest) (starts_fac rfl) (fun z s t e => by
      injection e with e _
      subst e
      rw [hb]
      decide)
    have hj : joinDown 0 q.ops q.nodes = some ((("(" : Str) :: r.ops), (d :: r.nodes)) := by
      rw [L1.jn 0 (by decide)]
      show (if (0 : Int) ≤ bindOf "(" then _ else _) = _
      rw [hb, if_neg (by decide)]
    have hf : q.fits ")" = true := by
      unfold RS.fits RS.mayFollow
      rw [starts_no L1.st, if_neg (by decide), L1.st, if_neg (by decide +kernel), L1.br, if_pos (show (("(" : Str) :: r.brs).head? = some ("(" : Str) from rfl)]
      decide +kernel
    have ht : q.takeIn ")" .non = some { q with ops := r.ops, nodes := d :: r.nodes, brs := r.brs, stage := "expression" } := by
      unfold RS.takeIn
      rw [starts_no L1.st, if_neg (by decide), if_pos (.inl rfl)]
      unfold RS.close_
      rw [down_eq hj, Option.bind_some]
      dsimp only
      rw [L1.br]
      dsimp only
      rw [if_neg (by decide +kernel)]
    refine ⟨{ q with ops := r.ops, nodes := d :: r.nodes, brs := r.brs, stage := "expression" }, ?_, rfl, rfl, L1.cm, L1.co, fun _ _ => rfl⟩
    rw [List.map_cons, cls_self (by decide +kernel), List.cons_append, runP_cons (begin_fits hs (by decide +kernel)) (begin_take hs), e, List.map_append, List.append_assoc, List.map_cons, List.map_nil, cls_self (s := ")") (by decide +kernel), List.singleton_append, e1, runP_cons hf ht]
/-- a whole expression -/
theorem run_expr {d : PyData} {ts : List Str} (h : ET 1 d ts) : ∃ r, runP (RS.start false) (ts.map cls ++ [(("end" : Str), V.non)]) = some r ∧ r.nodes = [d] := by
  obtain ⟨q, e, L⟩ := run_ET h (by decide) (by decide) (RS.start false) [(("end" : Str), V.non)] (by decide +kernel) (fun _ s t z => by cases z)
  have hj : joinDown 0 q.ops q.nodes = some ([], [d]) := by rw [L.jn 0 (by decide)]; rfl
  have hf : q.fits "end" = true := by
    unfold RS.fits RS.mayFollow
    rw [starts_no L.st, if_neg (by decide), L.st, if_neg (by decide +kernel), L.br, if_neg (by decide +kernel), L.co, if_pos (show (RS.start false).cond = false from rfl)]
    decide +kernel
  have ht : q.takeIn "end" .non = some { q with ops := [], nodes := [d] } := by
    unfold RS.takeIn
    rw [starts_no L.st, if_neg (by decide), if_neg (by decide +kernel), if_pos rfl, down_eq hj]
  refine ⟨{ q with ops := [], nodes := [d] }, ?_, rfl⟩
  rw [e, runP_cons hf ht]
  rfl
end Rx

set_option Elab.async false
set_option linter.all false
set_option maxRecDepth 100000
set_option maxHeartbeats 4000000
namespace Rx
open PySem PySem.Spec PyProof.Rows L2 SX
/-! ### tokens laid out with spaces are found again -/
abbrev cod (s : Str) : List Nat := s.cps.toList
/-- such a sign behind the token would make another token of it -/
def glue (s : Str) (c : Nat) : Bool := (((cod s).getLast?.any isLet && isLet c) || ((cod s).getLast?.any isDig && isDig c)) || (((["<", ">", "!"] : List Str).contains s && decide (c = 61)) || (decide (s = "/") && decide (c = 47)))
def glueS (s t : Str) : Bool := (cod t).head?.any (glue s)
/-- the signs that are tokens by themselves -/
def singles : List Nat := [43, 45, 42, 40, 41, 91, 93, 61, 60, 62]
inductive GoodT (s : Str) : Prop where
  | let_ : (cod s).all isLet = true → cod s ≠ [] → GoodT s
  | dig : (cod s).all isDig = true → cod s ≠ [] → GoodT s
  | sign : s ∈ signsL → GoodT s
  | odd (c : Nat) : cod s = [c] → isLet c = false → isDig c = false → c ≠ 32 → c ∉ singles → c < 1000 → GoodT s
theorem tw_app {p : Nat → Bool} : ∀ {cs rest : List Nat}, cs.all p = true → (∀ c, rest.head? = some c → p c = false) → (cs ++ rest).takeWhile p = cs
  | [], [], _, _ => rfl
  | [], c :: r, _, h => by rw [List.nil_append, List.takeWhile_cons, h c rfl]; rfl
  | c :: cs, rest, h, k => by
    simp only [List.all_cons, Bool.and_eq_true] at h
    rw [List.cons_append, List.takeWhile_cons, if_pos h.1, tw_app h.2 k]
theorem let_dig {c : Nat} (h : isDig c = true) : isLet c = false := by
  simp only [isDig, isLet, Bool.and_eq_true, decide_eq_true_eq, Bool.and_eq_false_iff, decide_eq_false_iff_not] at h ⊢
  omega
theorem last_all {p : Nat → Bool} {cs : List Nat} (h : cs.all p = true) (k : cs ≠ []) : cs.getLast?.any p = true := by
  rw [List.getLast?_eq_some_getLast k]
  exact List.all_eq_true.mp h _ (List.getLast_mem k)
theorem sign_codes : signsL.map cod = [[47, 47], [33, 61], [60, 61], [62, 61], [43], [45], [42], [40], [41], [91], [93], [61], [60], [62]] := by decide +kernel
theorem sign_head : ∀ s ∈ signsL, ∃ c r, cod s = c :: r ∧ isLet c = false ∧ isDig c = false ∧ c ≠ 32 := by
  have h : ∀ s ∈ signsL, (match cod s with
    | c :: _ => !isLet c && !isDig c && decide (c ≠ 32)
    | [] => false) = true := by decide +kernel
  intro s hs
  have := h s hs
  split at this
  · rename_i c r e
    simp only [Bool.and_eq_true, Bool.not_eq_true', decide_eq_true_eq] at this
    exact ⟨c, r, e, this.1.1, this.1.2, this.2⟩
  · cases this
/-- the first sign that the text begins with -/
theorem find_codes (cs : List Nat) : ∀ l : List Str, (l.find? (fun s => (cod s).isPrefixOf cs)).map cod = (l.map cod).find? (fun x => x.isPrefixOf cs)
  | [] => rfl
  | s :: l => by
    simp only [List.map_cons, List.find?_cons]
    cases (cod s).isPrefixOf cs with
    | true => rfl
    | false => exact find_codes cs l
theorem cod_inj {s t : Str} (h : cod s = cod t) : s = t := by
  rw [← S_tl s, ← S_tl t]
  exact congrArg S h
theorem sign_app {s : Str} (h : s ∈ signsL) {rest : List Nat} (k : ∀ c, rest.head? = some c → glue s c = false) : signTok (cod s ++ rest) = (s, .non, s.length) := by
  have key : (signsL.map cod).find? (fun x => x.isPrefixOf (cod s ++ rest)) = some (cod s) := by
    rw [sign_codes]
    have hs : s ∈ signsL := h
    have hm : cod s ∈ signsL.map cod := List.mem_map.mpr ⟨s, h, rfl⟩
    rw [sign_codes] at hm
    simp only [List.mem_cons, List.not_mem_nil, or_false] at hm
    have g : ∀ c, rest.head? = some c → (cod s = [60] ∨ cod s = [62]) → c ≠ 61 := by
      intro c hc hx hz
      have := k c hc
      unfold glue at this
      simp only [Bool.or_eq_false_iff] at this
      have h2 := this.2.1
      have : (["<", ">", "!"] : List Str).contains s = true := by
        rw [List.contains_iff_mem]
        rcases hx with hx | hx
        · rw [cod_inj (s := s) (t := "<") (hx.trans (by decide +kernel))]; decide +kernel
        · rw [cod_inj (s := s) (t := ">") (hx.trans (by decide +kernel))]; decide +kernel
      rw [this, hz] at h2
      simp at h2
    rcases rest with _ | ⟨c, r⟩
    · rcases hm with hm | hm | hm | hm | hm | hm | hm | hm | hm | hm | hm | hm | hm | hm <;> rw [hm] <;> decide +kernel
    · have g' := g c rfl
      rcases hm with hm | hm | hm | hm | hm | hm | hm | hm | hm | hm | hm | hm | hm | hm
      all_goals
        rw [hm] at g' ⊢
        first
        | (have g2 := g' (.inl rfl); have g3 : (61 == c) = false := by simpa using (Ne.symm g2)
           simp [List.find?, List.isPrefixOf, g3]; done)
        | (have g2 := g' (.inr rfl); have g3 : (61 == c) = false := by simpa using (Ne.symm g2)
           simp [List.find?, List.isPrefixOf, g3]; done)
        | (simp [List.find?, List.isPrefixOf]; done)
  rw [← find_codes] at key
  obtain ⟨t, e1, e2⟩ := Option.map_eq_some_iff.mp key
  have : t = s := cod_inj e2
  subst this
  unfold signTok
  rw [e1]
theorem sign_bad {c : Nat} {r : List Nat} (hs : c ∉ singles) (h47 : c = 47 → r.head? ≠ some 47) (h33 : c = 33 → r.head? ≠ some 61) : signTok (c :: r) = (("bad" : Str), V.non, 1) := by
  have hf : (signsL.map cod).find? (fun x => x.isPrefixOf (c :: r)) = none := by
    rw [sign_codes]
    simp only [singles, List.mem_cons, List.not_mem_nil, or_false, not_or] at hs
    obtain ⟨s1, s2, s3, s4, s5, s6, s7, s8, s9, s10⟩ := hs
    rw [List.find?_eq_none]
    intro x hx
    have nb : ∀ a b : Nat, b ≠ a → (a == b) = false := fun a b h => by simpa using (Ne.symm h)
    simp only [List.mem_cons, List.not_mem_nil, or_false] at hx
    rcases hx with rfl | rfl | rfl | rfl | rfl | rfl | rfl | rfl | rfl | rfl | rfl | rfl | rfl | rfl
    · cases r with
      | nil => simp [List.isPrefixOf]
      | cons d r =>
        by_cases hc : c = 47
        · have hd : d ≠ 47 := fun z => h47 hc (by rw [z]; rfl)
          simp [List.isPrefixOf, nb _ _ hd]
        · simp [List.isPrefixOf, nb _ _ hc]
    · cases r with
      | nil => simp [List.isPrefixOf]
      | cons d r =>
        by_cases hc : c = 33
        · have hd : d ≠ 61 := fun z => h33 hc (by rw [z]; rfl)
          simp [List.isPrefixOf, nb _ _ hd]
        · simp [List.isPrefixOf, nb _ _ hc]
    all_goals simp [List.isPrefixOf, nb _ _ s1, nb _ _ s2, nb _ _ s3, nb _ _ s4, nb _ _ s5, nb _ _ s6, nb _ _ s7, nb _ _ s8, nb _ _ s9, nb _ _ s10]
  rw [← find_codes] at hf
  unfold signTok
  rw [Option.map_eq_none_iff.mp hf]
theorem tok_app {s : Str} (h : GoodT s) {rest : List Nat} (k : ∀ c, rest.head? = some c → glue s c = false) : tokAt (cod s ++ rest) = ((cls s).1, (cls s).2, s.length) ∧ ∃ c r, cod s = c :: r ∧ c ≠ 32 := by
  have e0 : tokAt (cod s) = ((cls s).1, (cls s).2, (tokAt (cod s)).2.2) := rfl
  have hl : (cod s).length = s.length := by simp [Str.length]
  cases h with
  | let_ ha hn =>
    obtain ⟨c, r, e⟩ := List.exists_cons_of_ne_nil hn
    have hc : isLet c = true := by rw [e] at ha; simp only [List.all_cons, Bool.and_eq_true] at ha; exact ha.1
    have w1 : ∀ x, (wordTok x).2.2 = x.length := fun x => by
      unfold wordTok
      split
      · rfl
      · split <;> rfl
    have t1 : ∀ rest : List Nat, (∀ c, rest.head? = some c → isLet c = false) → tokAt (cod s ++ rest) = wordTok (cod s) := fun rest hr => by
      have := tw_app ha hr
      rw [e] at this ⊢
      unfold tokAt
      rw [List.cons_append]
      dsimp only
      rw [if_pos hc, ← List.cons_append, this]
    have t2 := t1 [] (fun c h => by cases h)
    rw [List.append_nil] at t2
    rw [t2, w1, hl] at e0
    refine ⟨?_, c, r, e, ?_⟩
    · rw [t1 rest (fun c hc => ?_), e0]
      have := k c hc
      unfold glue at this
      simp only [Bool.or_eq_false_iff, Bool.and_eq_false_iff] at this
      rcases this.1.1 with q | q
      · rw [last_all ha hn] at q; cases q
      · exact q
    · rintro rfl
      exact absurd hc (by decide)
  | dig ha hn =>
    obtain ⟨c, r, e⟩ := List.exists_cons_of_ne_nil hn
    have hc : isDig c = true := by rw [e] at ha; simp only [List.all_cons, Bool.and_eq_true] at ha; exact ha.1
    have w1 : ∀ x, (numTok x).2.2 = x.length := fun x => by unfold numTok; split <;> rfl
    have t1 : ∀ rest : List Nat, (∀ c, rest.head? = some c → isDig c = false) → tokAt (cod s ++ rest) = numTok (cod s) := fun rest hr => by
      have := tw_app ha hr
      rw [e] at this ⊢
      unfold tokAt
      rw [List.cons_append]
      dsimp only
      rw [let_dig hc, if_neg (by decide), if_pos hc, ← List.cons_append, this]
    have t2 := t1 [] (fun c h => by cases h)
    rw [List.append_nil] at t2
    rw [t2, w1, hl] at e0
    refine ⟨?_, c, r, e, ?_⟩
    · rw [t1 rest (fun c hc => ?_), e0]
      have := k c hc
      unfold glue at this
      simp only [Bool.or_eq_false_iff, Bool.and_eq_false_iff] at this
      rcases this.1.2 with q | q
      · rw [last_all ha hn] at q; cases q
      · exact q
    · rintro rfl
      exact absurd hc (by decide)
  | sign hs =>
    obtain ⟨c, r, e, h1, h2, h3⟩ := sign_head s hs
    have t1 : ∀ rest : List Nat, tokAt (cod s ++ rest) = signTok (cod s ++ rest) := fun rest => by
      rw [e]
      unfold tokAt
      rw [List.cons_append]
      dsimp only
      rw [h1, if_neg (by decide), h2, if_neg (by decide)]
    have t2 := t1 []
    rw [sign_app hs (fun c h => by cases h), List.append_nil] at t2
    rw [t2] at e0
    refine ⟨?_, c, r, e, h3⟩
    rw [t1 rest, sign_app hs k]
    exact e0
  | odd c e h1 h2 h3 h4 _ =>
    have t1 : ∀ rest : List Nat, tokAt (cod s ++ rest) = signTok (c :: rest) := fun rest => by
      rw [e]
      unfold tokAt
      rw [List.singleton_append]
      dsimp only
      rw [h1, if_neg (by decide), h2, if_neg (by decide)]
    have t2 := t1 []
    rw [sign_bad h4 (fun _ z => by cases z) (fun _ z => by cases z), List.append_nil] at t2
    have hl1 : s.length = 1 := by rw [← hl, e]; rfl
    rw [t2] at e0
    refine ⟨?_, c, [], e, h3⟩
    rw [t1 rest, sign_bad h4 (fun hc z => ?_) (fun hc z => ?_), e0, hl1]
    · have := k 47 z
      have es : s = "/" := cod_inj (by rw [e, hc]; decide +kernel)
      rw [es] at this
      revert this
      decide +kernel
    · have := k 61 z
      have es : s = "!" := cod_inj (by rw [e, hc]; decide +kernel)
      rw [es] at this
      revert this
      decide +kernel
/-! the text, piece by piece -/
def flat (ps : List (Nat × Str)) : List Nat := ps.flatMap fun p => List.replicate p.1 32 ++ cod p.2
def sp (n : Nat) : List Nat := List.replicate n 32
structure LayI (ps : List (Nat × Str)) : Prop where
  good : ∀ p ∈ ps, GoodT p.2
  apart : ∀ (i : Nat) (p q : Nat × Str), ps[i]? = some p → ps[i + 1]? = some q → q.1 = 0 → glueS p.2 q.2 = false
theorem LayI.snoc {ps : List (Nat × Str)} (h : LayI ps) {p : Nat × Str} (g : GoodT p.2) (a : ∀ q, ps.getLast? = some q → p.1 = 0 → glueS q.2 p.2 = false) : LayI (ps ++ [p]) := by
  refine ⟨fun q hq => ?_, fun i x y hx hy hz => ?_⟩
  · rcases List.mem_append.mp hq with h1 | h1
    · exact h.good q h1
    · rw [List.mem_singleton.mp h1]; exact g
  · by_cases hi : i + 1 < ps.length
    · rw [List.getElem?_append_left hi] at hy
      rw [List.getElem?_append_left (by omega)] at hx
      exact h.apart i x y hx hy hz
    · have hi2 : i + 1 = ps.length := by
        have := (List.getElem?_eq_some_iff.mp hy).1
        rw [List.length_append, List.length_singleton] at this
        omega
      rw [hi2, List.getElem?_append_right (Nat.le_refl _), Nat.sub_self] at hy
      simp only [List.getElem?_cons_zero, Option.some.injEq] at hy
      subst hy
      rw [List.getElem?_append_left (by omega)] at hx
      refine a x ?_ hz
      rw [List.getLast?_eq_getElem?, show ps.length - 1 = i by omega]
      exact hx
theorem LayI.tail {p : Nat × Str} {ps : List (Nat × Str)} (h : LayI (p :: ps)) : LayI ps :=
  ⟨fun q hq => h.good q (List.mem_cons_of_mem _ hq), fun i x y hx hy hz => h.apart (i + 1) x y (by simpa using hx) (by simpa using hy) hz⟩
def toksG (a : Nat) (cs : List Nat) : List (Str × V × Nat) := toksF cs.length a cs
def pairT (t : Str × V × Nat) : Str × V := (t.1, t.2.1)
theorem toksG_sp (k : Nat) : ∀ (a : Nat) (cs : List Nat), toksG a (sp k ++ cs) = toksG (a + k) cs := by
  induction k with
  | zero => intro a cs; rfl
  | succ k ih =>
    intro a cs
    show toksF ((32 :: (sp k ++ cs)).length) a (32 :: (sp k ++ cs)) = _
    rw [List.length_cons, toksF, if_pos rfl]
    have := ih (a + 1) cs
    unfold toksG at this ⊢
    rw [this, show a + 1 + k = a + (k + 1) by omega]
theorem toksG_tok {s : Str} {rest : List Nat} (h : GoodT s) (k : ∀ c, rest.head? = some c → glue s c = false) (a : Nat) : toksG a (cod s ++ rest) = ((cls s).1, (cls s).2, a) :: toksG (a + s.length) rest := by
  obtain ⟨e, c, r, ec, hc⟩ := tok_app h k
  have hl : (cod s).length = s.length := by simp [Str.length]
  have e1 : cod s ++ rest = c :: (r ++ rest) := by rw [ec, List.cons_append]
  unfold toksG
  rw [e1] at e ⊢
  rw [List.length_cons, toksF, if_neg hc, e]
  dsimp only
  congr 1
  rw [← e1, ← hl, List.drop_left]
  refine toksF_fuel _ _ _ _ ?_ (Nat.le_refl _)
  rw [List.length_append]
  omega
theorem glue_sp (s : Str) : glue s 32 = false := by
  have h1 : isLet 32 = false := by decide
  have h2 : isDig 32 = false := by decide
  unfold glue
  rw [h1, h2]
  simp
theorem head_glue {k : Nat} {s : Str} {ps : List (Nat × Str)} (h : LayI ((k, s) :: ps)) (t : Nat) : ∀ c, (flat ps ++ sp t).head? = some c → glue s c = false := by
  intro c hc
  cases ps with
  | nil =>
    unfold flat sp at hc
    cases t with
    | zero => cases hc
    | succ t =>
      injection hc with hc
      subst hc
      exact glue_sp s
  | cons q ps =>
    obtain ⟨k2, s2⟩ := q
    cases k2 with
    | succ k2 =>
      injection hc with hc
      subst hc
      exact glue_sp s
    | zero =>
      have ap := h.apart 0 (k, s) (0, s2) rfl rfl rfl
      obtain ⟨_, c2, r2, ec, _⟩ := tok_app (h.good (0, s2) (by simp)) (rest := []) (fun c h => by cases h)
      have : flat ((0, s2) :: ps) = cod s2 ++ flat ps := by unfold flat; rw [List.flatMap_cons]; rfl
      dsimp only at ec ap
      rw [this, ec] at hc
      injection hc with hc
      subst hc
      unfold glueS at ap
      rw [ec] at ap
      exact ap
theorem toksG_flat : ∀ (ps : List (Nat × Str)) (a t : Nat), LayI ps → (toksG a (flat ps ++ sp t)).map pairT = (ps.map fun p => cls p.2) ++ [(("end" : Str), V.non)]
  | [], a, t, _ => by
    have := toksG_sp t a []
    rw [List.append_nil] at this
    show (toksG a (sp t)).map pairT = _
    rw [this]
    rfl
  | (k, s) :: ps, a, t, h => by
    have e : flat ((k, s) :: ps) ++ sp t = sp k ++ (cod s ++ (flat ps ++ sp t)) := by
      unfold flat sp
      rw [List.flatMap_cons, List.append_assoc, List.append_assoc]
    rw [e, toksG_sp, toksG_tok (h.good _ List.mem_cons_self) (head_glue h t), List.map_cons, toksG_flat ps _ t h.tail]
    rfl
theorem toks_lay {ps : List (Nat × Str)} (h : LayI ps) (a t : Nat) : (toks (sp a ++ (flat ps ++ sp t))).map pairT = (ps.map fun p => cls p.2) ++ [(("end" : Str), V.non)] := by
  have := toksG_sp a 0 (flat ps ++ sp t)
  show (toksG 0 _).map pairT = _
  rw [this]
  exact toksG_flat ps _ t h
/-- a laid out expression is read as its tree -/
theorem parse_lay {ps : List (Nat × Str)} (h : LayI ps) (a t : Nat) {d : PyData} (e : ET 1 d (ps.map (·.2))) : ∃ r, runR (RS.start false) (toks (sp a ++ (flat ps ++ sp t))) = some r ∧ r.nodes = [d] := by
  obtain ⟨r, h1, h2⟩ := run_expr e
  refine ⟨r, ?_, h2⟩
  rw [runR_P]
  have := toks_lay h a t
  show runP _ ((toks _).map pairT) = _
  rw [this, ← h1, List.map_map]
  rfl
end Rx

set_option Elab.async false
set_option linter.all false
set_option maxRecDepth 100000
set_option maxHeartbeats 4000000
namespace Rx
open PySem PySem.Spec PyProof.Rows L2 SX
/-! ### texts so many times; repr of data -/
theorem fold_arr : ∀ (l : List (Array Nat)) (acc : Array Nat), (l.foldl (· ++ ·) acc).toList = acc.toList ++ (l.map Array.toList).flatten
  | [], acc => by simp
  | a :: l, acc => by
    rw [List.foldl_cons, fold_arr l]
    simp
theorem mul_codes (x : Str) (n : Nat) : cod (Txt.mul x (n : Int)) = (List.replicate n (cod x)).flatten := by
  unfold Txt.mul
  split
  · rename_i h
    have : n = 0 := by omega
    subst this
    rfl
  · rename_i h
    split
    · rename_i h2
      simp only [Bool.or_eq_true, beq_iff_eq] at h2
      rcases h2 with h2 | h2
      · have : n = 1 := by omega
        subst this
        simp
      · have hx : cod x = [] := by
          have : (cod x).length = x.length := by simp [Str.length]
          rw [h2] at this
          exact List.length_eq_zero_iff.mp this
        rw [hx]
        simp
    · show ((List.replicate (n : Int).toNat x.cps).foldl (· ++ ·) #[]).toList = _
      rw [fold_arr]
      simp
theorem mul_one (x : Str) : Txt.mul x ((1 : Nat) : Int) = x := by
  apply cod_inj
  rw [mul_codes]
  simp
theorem mul_zero (x : Str) : Txt.mul x ((0 : Nat) : Int) = S [] := by
  apply cod_inj
  rw [mul_codes]
  simp
theorem mul_sp (n : Nat) : cod (Txt.mul " " (n : Int)) = sp n := by
  rw [mul_codes]
  have : cod " " = [32] := by decide +kernel
  rw [this]
  unfold sp
  induction n with
  | zero => rfl
  | succ n ih => rw [List.replicate_succ, List.flatten_cons, ih, List.replicate_succ]; rfl
section
variable {X : Cx}
def rMulS : R2 := fun x y H Q => ∃ (z : Str) (n : Nat), x = .str z ∧ y = .int (n : Int) ∧ z.length ≤ 1000 ∧ n ≤ 1000 ∧ Q (.str (Txt.mul z (n : Int))) H
theorem op_mulS : OpR X (binaryOp .Mult) rMulS := by
  intro pins s σ H x y v u Q I rx ry h
  obtain ⟨z, n, rfl, rfl, hz, hn, q⟩ := h
  obtain ⟨t, rfl⟩ := rx
  obtain ⟨t2, rfl⟩ := ry
  have hzn : z.length * n ≤ 1000 * 1000 := Nat.mul_le_mul hz hn
  refine SB.mul ⟨?_, fun h1 _ => ?_, fun _ _ => ?_⟩ fun t' k => ⟨.str _, H, I.tok _, ⟨t', rfl⟩, q⟩
  · simp only [Bool.or_eq_false_iff, decide_eq_false_iff_not]
    omega
  · have h3 : ((2 : Int) ^ 63 - 1) / (n : Int) ≥ ((2 : Int) ^ 63 - 1) / 1000 := by
      apply Int.le_ediv_of_mul_le (by omega)
      have : ((2 : Int) ^ 63 - 1) / 1000 = 9223372036854775 := by decide
      rw [this]
      have : (n : Int) ≤ 1000 := by omega
      omega
    have : ((2 : Int) ^ 63 - 1) / 1000 = 9223372036854775 := by decide
    omega
  · unfold PySem.Builtin.Str.tooLong
    have : 1000 * 1000 ≤ sizeLine := by decide
    simp
    omega
/-- repr(x), x a list or a tuple of data -/
theorem call_reprD (hg : X.A.guards = some []) (hu : X.A.units + 100 < cLine) : CallR X (.builtin "repr") (rStrD X.K) := by
  intro pins s σ H xs us Q I r h
  obtain ⟨a, d, rfl, hd, hs, hn, hz, hl, q⟩ := h
  obtain ⟨u1, rfl, r1⟩ := vals1 r
  cases (show u1 = Value.ref a from r1)
  obtain ⟨as, rr⟩ := Dp.reads I d _ _ hd r1
  exact repr_of_reads' rr hs (PyData.noDict_hsm hn) hg (by omega) (fun _ _ e => e) (fun h' u tk k => ⟨.str _, H, I.kept k, ⟨u, rfl⟩, q⟩) hl
/-- one of two -/
theorem call_or {f : Value} {r1 r2 : List V → Hp → VK → Prop} (h1 : CallR X f r1) (h2 : CallR X f r2) : CallR X f (fun xs H Q => r1 xs H Q ∨ r2 xs H Q) := by
  intro pins s σ H xs us Q I r h
  rcases h with h | h
  · exact h1 pins s σ H xs us Q I r h
  · exact h2 pins s σ H xs us Q I r h
end
end Rx

set_option Elab.async false
set_option linter.all false
set_option maxRecDepth 100000
set_option maxHeartbeats 4000000
namespace Rx
open PySem PySem.Spec PyProof.Rows L2 SX
/-! ### trees that are drawn, and rows of tokens for them -/
def nNot (a : PyData) : PyData := .tuple [.str "not", a]
def logL : List Str := ["or", "and"]
def condL : List Str := ["or", "and", "not", "=", "!=", "<", "<=", ">", ">="]
def leafL : List Str := ["number", "variable"]
def preL : List Str := ["negate", "not"]
def allW : List Str := ["number", "variable", "negate", "not", "=", "!=", "<", "<=", ">", ">=", "+", "-", "*", "//", "mod", "or", "and"]
def rankL : List (Str × Nat) := [("or", 1), ("and", 2), ("+", 1), ("-", 1), ("*", 2), ("//", 2), ("mod", 2)]
def rk (w : Str) : Nat := (rankL.lookup w).getD 3
/-- false: expressions; true: conditions; so deep at most -/
inductive TR : Bool → Nat → PyData → Prop where
  | num {k : Nat} {n : Int} (h : n ∈ numL) : TR false k (nNum n)
  | var {k : Nat} {x : Str} (h : isName (cod x) = true) : TR false k (nVar x)
  | neg {k : Nat} {a : PyData} : TR false k a → TR false (k + 1) (nNeg a)
  | bin {k : Nat} {w : Str} {a b : PyData} : w ∈ arithL → TR false k a → TR false k b → TR false (k + 1) (nBin w a b)
  | cmp {k : Nat} {w : Str} {a b : PyData} : w ∈ compL → TR false k a → TR false k b → TR true (k + 1) (nBin w a b)
  | not_ {k : Nat} {a : PyData} : TR true k a → TR true (k + 1) (nNot a)
  | log {k : Nat} {w : Str} {a b : PyData} : w ∈ logL → TR true k a → TR true k b → TR true (k + 1) (nBin w a b)
inductive CT : Nat → PyData → List Str → Prop where
  | cmp {l : Nat} {w : Str} {a b : PyData} {ta tb : List Str} : w ∈ compL → ET 1 a ta → ET 1 b tb → CT l (nBin w a b) (ta ++ w :: tb)
  | not_ {l : Nat} {a : PyData} {ta : List Str} : CT 3 a ta → CT l (nNot a) ("not" :: ta)
  | and_ {l : Nat} {a b : PyData} {ta tb : List Str} : l ≤ 2 → CT 2 a ta → CT 3 b tb → CT l (nBin "and" a b) (ta ++ ("and" : Str) :: tb)
  | or_ {l : Nat} {a b : PyData} {ta tb : List Str} : l ≤ 1 → CT 1 a ta → CT 2 b tb → CT l (nBin "or" a b) (ta ++ ("or" : Str) :: tb)
  | br {l : Nat} {d : PyData} {ts : List Str} : CT 1 d ts → CT l d ("[" :: (ts ++ [("]" : Str)]))
def TT : Bool → Nat → PyData → List Str → Prop
  | false => ET
  | true => CT
theorem TR.mono {b : Bool} {k m : Nat} {d : PyData} (h : TR b k d) : k ≤ m → TR b m d := by
  induction h generalizing m with
  | num h => intro _; exact .num h
  | var h => intro _; exact .var h
  | @neg k a _ ih => intro hm; cases m with | zero => omega | succ m => exact .neg (ih (by omega))
  | @bin k w a b hw _ _ ih1 ih2 => intro hm; cases m with | zero => omega | succ m => exact .bin hw (ih1 (by omega)) (ih2 (by omega))
  | @cmp k w a b hw _ _ ih1 ih2 => intro hm; cases m with | zero => omega | succ m => exact .cmp hw (ih1 (by omega)) (ih2 (by omega))
  | @not_ k a _ ih => intro hm; cases m with | zero => omega | succ m => exact .not_ (ih (by omega))
  | @log k w a b hw _ _ ih1 ih2 => intro hm; cases m with | zero => omega | succ m => exact .log hw (ih1 (by omega)) (ih2 (by omega))
theorem TR.noList {b : Bool} {k : Nat} {d : PyData} (h : TR b k d) : noList d = true := by
  induction h with
  | num _ => rfl
  | var _ => rfl
  | neg _ ih => simp [nNeg, Rx.noList, noListAll, ih]
  | bin _ _ _ ih1 ih2 => simp [nBin, Rx.noList, noListAll, ih1, ih2]
  | cmp _ _ _ ih1 ih2 => simp [nBin, Rx.noList, noListAll, ih1, ih2]
  | not_ _ ih => simp [nNot, Rx.noList, noListAll, ih]
  | log _ _ _ ih1 ih2 => simp [nBin, Rx.noList, noListAll, ih1, ih2]
/-! every token is a good one, of at most thirty signs -/
def Tok30 (s : Str) : Prop := GoodT s ∧ s.length ≤ 31
theorem num_good : ∀ n ∈ numL, (cod (numS n)).all isDig = true ∧ cod (numS n) ≠ [] ∧ (numS n).length ≤ 30 := by decide +kernel
theorem tok_num {n : Int} (h : n ∈ numL) : Tok30 (numS n) := by
  obtain ⟨h1, h2, h3⟩ := num_good n h
  exact ⟨.dig h1 h2, by omega⟩
theorem tok_name {x : Str} (h : isName (cod x) = true) : Tok30 x := by
  obtain ⟨_, h2, h3, h4⟩ := name_parts h
  refine ⟨.let_ h4 h2, ?_⟩
  have : (cod x).length = x.length := by simp [Str.length]
  omega
theorem tok_self {s : Str} (h : s ∈ selfL) : Tok30 s := by
  have h1 : ∀ s ∈ selfL, (s ∈ signsL ∨ ((cod s).all isLet = true ∧ cod s ≠ [])) ∧ s.length ≤ 30 := by decide +kernel
  obtain ⟨h2, h3⟩ := h1 s h
  refine ⟨?_, by omega⟩
  rcases h2 with h2 | ⟨h2, h4⟩
  · exact .sign h2
  · exact .let_ h2 h4
theorem ET.tok {l : Nat} {d : PyData} {ts : List Str} (h : ET l d ts) : ∀ t ∈ ts, Tok30 t := by
  induction h with
  | num h => intro t ht; rw [List.mem_singleton.mp ht]; exact tok_num h
  | var h => intro t ht; rw [List.mem_singleton.mp ht]; exact tok_name h
  | neg _ ih =>
    intro t ht
    rcases List.mem_cons.mp ht with h | h
    · rw [h]; exact tok_self (by decide +kernel)
    · exact ih t h
  | add hw _ _ _ ih1 ih2 =>
    intro t ht
    rcases List.mem_append.mp ht with h | h
    · exact ih1 t h
    · rcases List.mem_cons.mp h with h | h
      · rw [h]; exact tok_self (bind_add _ hw).2.2.2
      · exact ih2 t h
  | mul hw _ _ _ ih1 ih2 =>
    intro t ht
    rcases List.mem_append.mp ht with h | h
    · exact ih1 t h
    · rcases List.mem_cons.mp h with h | h
      · rw [h]; exact tok_self (bind_mul _ hw).2.2.2
      · exact ih2 t h
  | par _ ih =>
    intro t ht
    rcases List.mem_cons.mp ht with h | h
    · rw [h]; exact tok_self (by decide +kernel)
    · rcases List.mem_append.mp h with h | h
      · exact ih t h
      · rw [List.mem_singleton.mp h]; exact tok_self (by decide +kernel)
theorem comp_self : ∀ w ∈ compL, w ∈ selfL := by decide +kernel
theorem CT.tok {l : Nat} {d : PyData} {ts : List Str} (h : CT l d ts) : ∀ t ∈ ts, Tok30 t := by
  induction h with
  | cmp hw h1 h2 =>
    intro t ht
    rcases List.mem_append.mp ht with h | h
    · exact h1.tok t h
    · rcases List.mem_cons.mp h with h | h
      · rw [h]; exact tok_self (comp_self _ hw)
      · exact h2.tok t h
  | not_ _ ih =>
    intro t ht
    rcases List.mem_cons.mp ht with h | h
    · rw [h]; exact tok_self (by decide +kernel)
    · exact ih t h
  | and_ _ _ _ ih1 ih2 =>
    intro t ht
    rcases List.mem_append.mp ht with h | h
    · exact ih1 t h
    · rcases List.mem_cons.mp h with h | h
      · rw [h]; exact tok_self (by decide +kernel)
      · exact ih2 t h
  | or_ _ _ _ ih1 ih2 =>
    intro t ht
    rcases List.mem_append.mp ht with h | h
    · exact ih1 t h
    · rcases List.mem_cons.mp h with h | h
      · rw [h]; exact tok_self (by decide +kernel)
      · exact ih2 t h
  | br _ ih =>
    intro t ht
    rcases List.mem_cons.mp ht with h | h
    · rw [h]; exact tok_self (by decide +kernel)
    · rcases List.mem_append.mp h with h | h
      · exact ih t h
      · rw [List.mem_singleton.mp h]; exact tok_self (by decide +kernel)
theorem TT.tok : ∀ {b : Bool} {l : Nat} {d : PyData} {ts : List Str}, TT b l d ts → ∀ t ∈ ts, Tok30 t
  | false, _, _, _, h => ET.tok h
  | true, _, _, _, h => CT.tok h
/-! dicts as written -/
theorem putK_new' {kvs : List (Key × V)} {k : Key} {v : V} (h : k ∉ kvs.map (·.1)) : putK kvs k v = kvs ++ [(k, v)] := by
  unfold putK
  rw [if_neg]
  intro z
  simp only [List.any_eq_true, decide_eq_true_eq] at z
  obtain ⟨x, hx, e⟩ := z
  exact h (e ▸ List.mem_map_of_mem hx)
theorem mergeK_new : ∀ (more acc : List (Key × V)), ((acc ++ more).map (·.1)).Nodup → mergeK acc more = acc ++ more
  | [], acc, _ => by rw [List.append_nil]; rfl
  | kv :: more, acc, h => by
    show mergeK (putK acc kv.1 kv.2) more = _
    have hn : kv.1 ∉ acc.map (·.1) := by
      intro z
      rw [List.map_append, List.nodup_append] at h
      exact h.2.2 _ z _ (by simp) rfl
    rw [putK_new' hn, mergeK_new more _ (by rw [List.append_assoc]; exact h), List.append_assoc]
    rfl
theorem mergeK_nil {more : List (Key × V)} (h : (more.map (·.1)).Nodup) : mergeK [] more = more := mergeK_new more [] h
end Rx

set_option Elab.async false
set_option linter.all false
set_option maxRecDepth 100000
set_option maxHeartbeats 4000000
namespace Rx
open PySem PySem.Spec PyProof.Rows L2 SX
/-! ### where the tokens of a laid out text begin -/
def begs : Nat → List (Nat × Str) → List Nat
  | _, [] => []
  | a, (k, s) :: ps => (a + k) :: begs (a + k + s.length) ps
theorem flat_snoc (ps : List (Nat × Str)) (k : Nat) (s : Str) : flat (ps ++ [(k, s)]) = flat ps ++ (sp k ++ cod s) := by
  unfold flat sp
  rw [List.flatMap_append]
  simp
theorem cod_len (s : Str) : (cod s).length = s.length := by simp [Str.length]
theorem begs_snoc : ∀ (ps : List (Nat × Str)) (a k : Nat) (s : Str), begs a (ps ++ [(k, s)]) = begs a ps ++ [a + (flat ps).length + k]
  | [], a, k, s => by simp [begs, flat]
  | (j, t) :: ps, a, k, s => by
    have e : flat ((j, t) :: ps) = (sp j ++ cod t) ++ flat ps := by unfold flat sp; rw [List.flatMap_cons]
    rw [List.cons_append, begs, begs, begs_snoc ps, List.cons_append, e]
    congr 2
    rw [List.length_append, List.length_append, cod_len]
    unfold sp
    rw [List.length_replicate]
    simp
    omega
theorem toksG_pos : ∀ (ps : List (Nat × Str)) (a t : Nat), LayI ps → (toksG a (flat ps ++ sp t)).map (·.2.2) = begs a ps ++ [a + (flat ps).length + t]
  | [], a, t, _ => by
    have := toksG_sp t a []
    rw [List.append_nil] at this
    show (toksG a (sp t)).map (·.2.2) = _
    rw [this]
    simp [begs, flat, toksG, toksF]
  | (k, s) :: ps, a, t, h => by
    have e : flat ((k, s) :: ps) ++ sp t = sp k ++ (cod s ++ (flat ps ++ sp t)) := by
      unfold flat sp
      rw [List.flatMap_cons, List.append_assoc, List.append_assoc]
    have el : (flat ((k, s) :: ps)).length = k + s.length + (flat ps).length := by
      have : flat ((k, s) :: ps) = (sp k ++ cod s) ++ flat ps := by unfold flat sp; rw [List.flatMap_cons]
      rw [this, List.length_append, List.length_append, cod_len]
      unfold sp
      rw [List.length_replicate]
    rw [e, toksG_sp, toksG_tok (h.good _ List.mem_cons_self) (head_glue h t), List.map_cons, toksG_pos ps _ t h.tail, begs, el, List.cons_append, show a + (k + s.length + (flat ps).length) + t = a + k + s.length + (flat ps).length + t by omega]
end Rx

set_option Elab.async false
set_option linter.all false
set_option maxRecDepth 100000
set_option maxHeartbeats 4000000
namespace Rx
open PySem PySem.Spec PyProof.Rows L2 SX
/-! ### how long the texts of drawn data are -/
theorem textFrom_le : ∀ (ts : List Str) (k : Nat) (acc : Str), (textFrom k acc ts).length ≤ acc.length + piled ts
  | [], _, acc => by simp [textFrom, piled]
  | t :: r, k, acc => by
    have ih := textFrom_le r (k + 1) (acc ++ (if k > 0 then ", " else "" : String) ++ t)
    have e : (acc ++ (if k > 0 then ", " else "" : String) ++ t).length ≤ acc.length + 2 + t.length := by
      rw [strLen_append, strLen_append]
      split
      · exact Nat.le_refl _
      · show acc.length + 0 + t.length ≤ _
        omega
    rw [piled_cons]
    show (textFrom (k + 1) _ r).length ≤ _
    omega
theorem listText_le (ts : List Str) : (listText ts).length ≤ piled ts + 2 := by
  have h := textFrom_le ts 0 "["
  unfold listText
  rw [strLen_append]
  have e1 : ("[" : Str).length = 1 := rfl
  have e2 : ("]" : Str).length = 1 := rfl
  omega
theorem piled_le {b : Nat} : ∀ {xs : List PyData}, (∀ x ∈ xs, x.shown.length ≤ b) → piled (PyData.shownAll xs) ≤ xs.length * (b + 2)
  | [], _ => by simp [PyData.shownAll, piled]
  | x :: xs, h => by
    have h1 := h x (by simp)
    have h2 := piled_le (xs := xs) fun y hy => h y (by simp [hy])
    rw [PyData.shownAll, piled_cons, List.length_cons, Nat.add_mul]
    omega
theorem list_le {b : Nat} {xs : List PyData} (h : ∀ x ∈ xs, x.shown.length ≤ b) (hl : xs.length ≤ 3) : (PyData.list xs).shown.length ≤ 3 * (b + 2) + 2 ∧ (PyData.tuple xs).shown.length ≤ 3 * (b + 2) + 2 := by
  have h1 := piled_le h
  have h2 : xs.length * (b + 2) ≤ 3 * (b + 2) := Nat.mul_le_mul_right _ hl
  have h3 := listText_le (PyData.shownAll xs)
  have h4 := fmt_text (PyData.shownAll xs)
  simp only [PyData.shown]
  omega
theorem all_show : ∀ {xs : List PyData}, (∀ x ∈ xs, x.showable = true) → PyData.showableAll xs = true
  | [], _ => by simp [PyData.showableAll]
  | x :: xs, h => by simp [PyData.showableAll, h x (by simp), all_show (xs := xs) fun y hy => h y (by simp [hy])]
theorem all_dict : ∀ {xs : List PyData}, (∀ x ∈ xs, x.hasDict = false) → PyData.hasDictAll xs = false
  | [], _ => by simp [PyData.hasDictAll]
  | x :: xs, h => by simp [PyData.hasDictAll, h x (by simp), all_dict (xs := xs) fun y hy => h y (by simp [hy])]
theorem all_depth {n : Nat} : ∀ {xs : List PyData}, (∀ x ∈ xs, x.depth ≤ n) → PyData.depthAll xs ≤ n
  | [], _ => by simp [PyData.depthAll]
  | x :: xs, h => by
    have h1 := h x (by simp)
    have h2 := all_depth (xs := xs) fun y hy => h y (by simp [hy])
    simp only [PyData.depthAll]
    omega
/-- what may be shown: within b signs, n deep -/
structure Showy (n b : Nat) (d : PyData) : Prop where
  sh : d.showable = true
  nd : d.hasDict = false
  dp : d.depth ≤ n
  ln : d.shown.length ≤ b
theorem Showy.seq {n b : Nat} {xs : List PyData} (h : ∀ x ∈ xs, Showy n b x) (hl : xs.length ≤ 3) : Showy (n + 1) (3 * (b + 2) + 2) (.list xs) ∧ Showy (n + 1) (3 * (b + 2) + 2) (.tuple xs) := by
  have h1 := all_show fun x hx => (h x hx).sh
  have h2 := all_dict fun x hx => (h x hx).nd
  have h3 := all_depth fun x hx => (h x hx).dp
  have h4 := list_le (fun x hx => (h x hx).ln) hl
  exact ⟨⟨by simp [PyData.showable, h1], by simp [PyData.hasDict, h2], by simp only [PyData.depth]; omega, h4.1⟩, ⟨by simp [PyData.showable, h1], by simp [PyData.hasDict, h2], by simp only [PyData.depth]; omega, h4.2⟩⟩
def shB : Nat → Nat
  | 0 => 100
  | n + 1 => 3 * (shB n + 2) + 2
theorem shB_ge (n : Nat) : 100 ≤ shB n := by
  induction n with
  | zero => simp [shB]
  | succ n ih => simp only [shB]; omega
/-- a piece of a tree: short, and as good as any -/
structure Leafy (d : PyData) : Prop where
  sh : Showy 0 100 d
  ly : d.canLay0 = true
theorem leaf_words : ∀ x ∈ allW, (x.cps.toList.all (fun c => decide (c < 1000)) = true) ∧ x.length ≤ 9 := by decide +kernel
theorem leaf_str {x : Str} (h : (cod x).all (fun c => decide (c < 1000)) = true) (hl : x.length ≤ 9) : Leafy (.str x) := by
  have h1 : ∀ c ∈ cod x, c < 1000 := fun c hc => of_decide_eq_true (List.all_eq_true.mp h c hc)
  refine ⟨⟨rfl, rfl, Nat.le_refl _, ?_⟩, ?_⟩
  · have := StrLaws.reprText_len x (fun c hc => Nat.lt_of_lt_of_le (h1 c hc) (by decide))
    simp only [PyData.shown]
    omega
  · simp only [PyData.canLay0, PySem.PyData.strOk]
    rw [← Array.all_toList, List.all_eq_true]
    exact fun c hc => decide_eq_true (Nat.lt_of_lt_of_le (h1 c hc) (by decide))
theorem str_ok {x : Str} (h : ∀ c ∈ cod x, c < 1000) : PyData.strOk x = true := by
  unfold PySem.PyData.strOk
  rw [← Array.all_toList, List.all_eq_true]
  intro c hc
  have := h c hc
  exact decide_eq_true (by omega)
theorem tok_ok {s : Str} (h : GoodT s) : PyData.strOk s = true := by
  apply str_ok
  intro c hc
  cases h with
  | let_ ha _ =>
    have := List.all_eq_true.mp ha c hc
    simp only [isLet, Bool.and_eq_true, decide_eq_true_eq] at this
    omega
  | dig ha _ =>
    have := List.all_eq_true.mp ha c hc
    simp only [isDig, Bool.and_eq_true, decide_eq_true_eq] at this
    omega
  | sign hs =>
    have h1 : ∀ s ∈ signsL, ∀ c ∈ cod s, c < 1000 := by decide +kernel
    exact h1 s hs c hc
  | odd d e _ _ _ _ hd =>
    rw [e] at hc
    rw [List.mem_singleton.mp hc]
    exact hd
theorem leaf_name {x : Str} (h : isName (cod x) = true) : Leafy (.str x) := by
  obtain ⟨_, _, h3, h4⟩ := name_parts h
  refine leaf_str (List.all_eq_true.mpr fun c hc => ?_) (by rw [← cod_len]; omega)
  have := List.all_eq_true.mp h4 c hc
  simp only [isLet, Bool.and_eq_true, decide_eq_true_eq] at this
  exact decide_eq_true (by omega)
theorem leaf_word {x : Str} (h : x ∈ allW) : Leafy (.str x) := leaf_str (leaf_words x h).1 (leaf_words x h).2
theorem leaf_num {n : Int} (h : n ∈ numL) : Leafy (.int n) := by
  have h1 : ∀ n ∈ numL, (PyData.int n).showable = true ∧ (PyData.int n).shown.length ≤ 100 := by decide +kernel
  exact ⟨⟨(h1 n h).1, rfl, Nat.le_refl _, (h1 n h).2⟩, rfl⟩
/-- what a tree is -/
structure Good (n : Nat) (d : PyData) : Prop where
  sh : Showy n (shB n) d
  ly : d.canLay0 = true
theorem Leafy.good {d : PyData} (h : Leafy d) (n : Nat) : Good n d := by
  have := shB_ge n
  exact ⟨⟨h.sh.sh, h.sh.nd, Nat.le_trans h.sh.dp (Nat.zero_le _), Nat.le_trans h.sh.ln (by omega)⟩, h.ly⟩
theorem good_tup {n : Nat} {xs : List PyData} (h : ∀ x ∈ xs, Good n x) (hl : xs.length ≤ 3) : Good (n + 1) (.tuple xs) := by
  refine ⟨(Showy.seq (fun x hx => (h x hx).sh) hl).2, ?_⟩
  have : ∀ xs : List PyData, (∀ x ∈ xs, x.canLay0 = true) → PyData.canLayAll0 xs = true := fun xs => by
    induction xs with
    | nil => intro _; simp [PyData.canLayAll0]
    | cons x xs ih => intro h; simp only [PyData.canLayAll0, h x (by simp), ih fun y hy => h y (by simp [hy]), Bool.and_self]
  simp only [PyData.canLay0]
  exact this xs fun x hx => (h x hx).ly
theorem good2 {n : Nat} {a b : PyData} (h1 : Good n a) (h2 : Good n b) : Good (n + 1) (.tuple [a, b]) := good_tup (fun x hx => by
  simp only [List.mem_cons, List.not_mem_nil, or_false] at hx
  rcases hx with rfl | rfl
  · exact h1
  · exact h2) (by simp)
theorem good3 {n : Nat} {a b c : PyData} (h1 : Good n a) (h2 : Good n b) (h3 : Good n c) : Good (n + 1) (.tuple [a, b, c]) := good_tup (fun x hx => by
  simp only [List.mem_cons, List.not_mem_nil, or_false] at hx
  rcases hx with rfl | rfl | rfl
  · exact h1
  · exact h2
  · exact h3) (by simp)
theorem TR.good {b : Bool} {n : Nat} {d : PyData} (h : TR b n d) : Good (n + 1) d := by
  have hA : ∀ x ∈ arithL, x ∈ allW := by decide +kernel
  have hC : ∀ x ∈ compL, x ∈ allW := by decide +kernel
  have hL : ∀ x ∈ logL, x ∈ allW := by decide +kernel
  induction h with
  | @num k n h => exact good2 ((leaf_word (by decide +kernel)).good k) ((leaf_num h).good k)
  | @var k x h => exact good2 ((leaf_word (by decide +kernel)).good k) ((leaf_name h).good k)
  | neg _ ih => exact good2 ((leaf_word (by decide +kernel)).good _) ih
  | bin hw _ _ ih1 ih2 => exact good3 ((leaf_word (hA _ hw)).good _) ih1 ih2
  | cmp hw _ _ ih1 ih2 => exact good3 ((leaf_word (hC _ hw)).good _) ih1 ih2
  | not_ _ ih => exact good2 ((leaf_word (by decide +kernel)).good _) ih
  | log hw _ _ ih1 ih2 => exact good3 ((leaf_word (hL _ hw)).good _) ih1 ih2
theorem Good.shaped {n : Nat} {d : PyData} (h : Good n d) (hn : n ≤ 64) : SeqAt.shaped d = true := by
  unfold SeqAt.shaped
  rw [h.ly, decide_eq_true (Nat.le_trans h.sh.dp hn)]
  rfl
end Rx

set_option Elab.async false
set_option linter.all false
set_option maxRecDepth 100000
set_option maxHeartbeats 4000000
namespace Rx
open PySem PySem.Spec PyProof.Rows L2 SX
/-! ### written texts -/
def sameL (f : PyData → PyData → Bool) : List PyData → List PyData → Bool
  | [], [] => true
  | x :: xs, y :: ys => f x y && sameL f xs ys
  | _, _ => false
def sameF : Nat → PyData → PyData → Bool
  | 0, _, _ => false
  | n + 1, d, e => match d, e with
    | .str x, .str y => decide (x = y)
    | .int x, .int y => decide (x = y)
    | .none, .none => true
    | .tuple xs, .tuple ys => sameL (sameF n) xs ys
    | _, _ => false
theorem sameL_eq {f : PyData → PyData → Bool} (h : ∀ d e, f d e = true → d = e) : ∀ {xs ys : List PyData}, sameL f xs ys = true → xs = ys
  | [], [], _ => rfl
  | x :: xs, y :: ys, e => by
    simp only [sameL, Bool.and_eq_true] at e
    rw [h x y e.1, sameL_eq h e.2]
  | [], _ :: _, e => by simp [sameL] at e
  | _ :: _, [], e => by simp [sameL] at e
theorem sameF_eq : ∀ (n : Nat) {d e : PyData}, sameF n d e = true → d = e
  | 0, _, _, h => by simp [sameF] at h
  | n + 1, d, e, h => by
    unfold sameF at h
    split at h
    · rw [of_decide_eq_true h]
    · rw [of_decide_eq_true h]
    · rfl
    · rw [sameL_eq (fun d e => sameF_eq n) h]
    · cases h
def chkP (c : Bool) (z : Str) (due : PyData) : Bool := match runR (RS.start c) (toks (cod z)) with
  | some r => (match r.nodes with
    | [d] => sameF 20 d due
    | _ => false)
  | none => false
theorem chk_run {c : Bool} {z : Str} {due : PyData} (h : chkP c z due = true) : ∃ r, runR (RS.start c) (toks (cod z)) = some r ∧ r.nodes = [due] := by
  unfold chkP at h
  split at h
  · rename_i r e
    split at h
    · rename_i d ed
      exact ⟨r, e, by rw [ed, sameF_eq 20 h]⟩
    · cases h
  · cases h
theorem tup_new {K : PySem.W.Frag} {H : Hp} {t : Addr} {xs : List V} {ds : List PyData} (h : H t = none) (D : DpAll K H xs ds) : Dp K (upd H t (.tup xs)) (.ref t) (.tuple ds) := .tup (SqT.of upd_same) (dpAll_same (same_new h) D)
/-- the same def at several promises -/
theorem fn_union {P : Program} {w : World} {K : PySem.W.Frag} {mg : Str → Option Value} {base : Heap} {CX : CXT} {k : Nat} {f : Addr} {fd : FuncData} {ps : List Str} {sp : Nat → Sp} {m : Nat} (F : ∀ n, n ≤ m → FnOk P w K mg base CX k f fd ps (sp n)) : FnOk P w K mg base CX k f fd ps (fun vs H Q E => ∃ n, n ≤ m ∧ sp n vs H Q E) :=
  ⟨fun vs H Q E ⟨n, hn, h⟩ => (F n hn).len vs H Q E h, fun A outer s H args us vs Q E hr e0 hb r ⟨n, hn, h⟩ => (F n hn).run A outer s H args us vs Q E hr e0 hb r h⟩
end Rx

set_option Elab.async false
set_option linter.all false
set_option maxRecDepth 100000
set_option maxHeartbeats 4000000
namespace Rx
open PySem PySem.Spec PyProof.Rows L2 SX
/-! ### a row of tokens of a condition is read as its tree -/
def DoneC (q : RS) : Prop := q.stage = "bracket" ∨ (q.stage = "expression" ∧ q.cmp = true)
structure LeftC (b : Int) (r q : RS) (d : PyData) : Prop where
  dn : DoneC q
  br : q.brs = r.brs
  co : q.cond = true
  jn : ∀ c : Int, c ≤ b → joinDown c q.ops q.nodes = joinDown c r.ops (d :: r.nodes)
/-- a condition may begin -/
structure BegC (l : Nat) (r : RS) : Prop where
  st : r.stage = "condition"
  cm : r.cmp = false
  co : r.cond = true
  br : r.brs.head? ≠ some ("(" : Str)
  t3 : ∀ s t, r.ops = s :: t → bindOf s ≤ 3
  lo : l ≤ 2 → ∀ s t, r.ops = s :: t → bindOf s < (l : Int)
theorem BegC.starts {l : Nat} {r : RS} (h : BegC l r) : r.starts = true := by
  unfold RS.starts
  rw [h.st]
  decide +kernel
theorem beg_stop {os : List Str} {ns : List PyData} {b : Int} (h : ∀ s t, os = s :: t → bindOf s < b) : joinDown b os ns = some (os, ns) := by
  cases os with
  | nil => rfl
  | cons s t =>
    have := h s t rfl
    show (if b ≤ bindOf s then _ else _) = _
    rw [if_neg (by omega)]
theorem done_no {q : RS} (h : DoneC q) : q.starts = false ∧ (decide (q.stage = "expression") && !q.cmp) = false := by
  unfold RS.starts
  rcases h with h | ⟨h, h2⟩
  · rw [h]
    refine ⟨by decide +kernel, ?_⟩
    rw [show decide (Str.ofString "bracket" = Str.ofString "expression") = false by decide +kernel]
    rfl
  · rw [h, h2]
    exact ⟨by decide +kernel, by simp⟩
theorem done_fits {q : RS} {s : Str} (h : DoneC q) (hc : q.cond = true) (hb : q.brs.head? ≠ some ("(" : Str)) (ha : arithL.contains s = false)
    (hs : (if q.brs.head? = some ("[" : Str) then (["and", "or", "]"] : List Str).contains s else (["and", "or", "end"] : List Str).contains s) = true) : q.fits s = true := by
  obtain ⟨h1, h2⟩ := done_no h
  unfold RS.fits RS.mayFollow
  rw [h1, if_neg (by decide), ha, Bool.and_false, if_neg (by decide), if_neg hb, hc, if_neg (by decide), h2, if_neg (by decide)]
  split
  · rename_i e; rw [if_pos e] at hs; exact hs
  · rename_i e; rw [if_neg e] at hs; exact hs
theorem log_fits {q : RS} {s : Str} (h : DoneC q) (hc : q.cond = true) (hb : q.brs.head? ≠ some ("(" : Str)) (hs : s ∈ logL) : q.fits s = true := by
  have h1 : ∀ s ∈ logL, arithL.contains s = false ∧ (["and", "or", "]"] : List Str).contains s = true ∧ (["and", "or", "end"] : List Str).contains s = true := by decide +kernel
  obtain ⟨a, b, c⟩ := h1 s hs
  refine done_fits h hc hb a ?_
  split
  · exact b
  · exact c
theorem log_take {q : RS} {s : Str} {os : List Str} {ns : List PyData} (h : DoneC q) (hs : s ∈ logL) (hj : joinDown (bindOf s) q.ops q.nodes = some (os, ns)) (v : V) : q.takeIn s v = some { q with ops := s :: os, nodes := ns, stage := "condition", cmp := false } := by
  have h1 : ∀ s ∈ logL, ¬ (s = ")" ∨ s = "]") ∧ ¬ s = "end" ∧ (s = "and" ∨ s = "or") := by decide +kernel
  obtain ⟨a, b, c⟩ := h1 s hs
  unfold RS.takeIn
  rw [(done_no h).1, if_neg (by decide), if_neg a, if_neg b]
  unfold RS.between
  rw [down_eq hj, Option.map_some, if_pos c]
theorem cmp_step {q : RS} {w : Str} {os : List Str} {ns : List PyData} (hs : q.stage = "expression") (hm : q.cmp = false) (hc : q.cond = true) (hb : q.brs.head? ≠ some ("(" : Str)) (hw : w ∈ compL) (h : joinDown 4 q.ops q.nodes = some (os, ns)) :
    q.fits w = true ∧ ∀ v, q.takeIn w v = some { q with ops := w :: os, nodes := ns, stage := "factor", cmp := true } := by
  have h1 : ∀ x ∈ compL, ¬ (x = ")" ∨ x = "]") ∧ ¬ x = "end" ∧ ¬ (x = "and" ∨ x = "or") ∧ arithL.contains x = false ∧ bindOf x = 4 := by decide +kernel
  obtain ⟨n1, n2, n3, n4, n5⟩ := h1 w hw
  refine ⟨?_, fun v => ?_⟩
  · unfold RS.fits RS.mayFollow
    rw [starts_no hs, if_neg (by decide), n4, Bool.and_false, if_neg (by decide), if_neg hb, hc, if_neg (by decide), hs, hm, if_pos (by decide +kernel)]
    exact List.contains_iff_mem.mpr hw
  · unfold RS.takeIn
    rw [starts_no hs, if_neg (by decide), if_neg n1, if_neg n2]
    unfold RS.between
    rw [n5, down_eq h, Option.map_some, if_neg n3, List.contains_iff_mem.mpr hw, Bool.or_true]
theorem run_log {l m : Nat} {w : Str} {a b : PyData} {ta tb : List Str} (hl : l ≤ m) (hm : m ≤ 2) (hw : w ∈ logL) (hb : bindOf w = (m : Int))
    (ia : ∀ (r : RS) rest, BegC m r → ∃ q, runP r (ta.map cls ++ rest) = runP q rest ∧ LeftC (m : Int) r q a)
    (ib : ∀ (r : RS) rest, BegC (m + 1) r → ∃ q, runP r (tb.map cls ++ rest) = runP q rest ∧ LeftC (((m + 1 : Nat) : Int)) r q b)
    (r : RS) (rest : List (Str × V)) (B : BegC l r) : ∃ q, runP r ((ta ++ w :: tb).map cls ++ rest) = runP q rest ∧ LeftC (l : Int) r q (nBin w a b) := by
  have hsf : ∀ x ∈ logL, x ∈ selfL ∧ prefL.contains x = false := by decide +kernel
  have lo' : ∀ s t, r.ops = s :: t → bindOf s < (m : Int) := fun s t e => by
    have := B.lo (by omega) s t e
    omega
  obtain ⟨q1, e1, L1⟩ := ia r ((w, V.non) :: (tb.map cls ++ rest)) ⟨B.st, B.cm, B.co, B.br, B.t3, fun _ => lo'⟩
  have hj : joinDown (bindOf w) q1.ops q1.nodes = some (r.ops, a :: r.nodes) := by
    rw [L1.jn _ (by rw [hb]; exact Int.le_refl _), hb]
    exact beg_stop lo'
  have hb1 : q1.brs.head? ≠ some ("(" : Str) := by rw [L1.br]; exact B.br
  obtain ⟨q2, e2, L2⟩ := ib { q1 with ops := w :: r.ops, nodes := a :: r.nodes, stage := "condition", cmp := false } rest ⟨rfl, rfl, L1.co, hb1, (fun s t e => by
    injection e with e _
    subst e
    rw [hb]
    omega), fun _ s t e => by
    injection e with e _
    subst e
    rw [hb]
    omega⟩
  refine ⟨q2, ?_, L2.dn, L2.br.trans L1.br, L2.co, fun c hc => ?_⟩
  · rw [List.map_append, List.append_assoc, List.map_cons, List.cons_append, cls_self (hsf w hw).1, e1, runP_cons (log_fits L1.dn L1.co hb1 hw) (log_take L1.dn hw hj _), e2]
  · rw [L2.jn c (by omega)]
    show joinDown c (w :: r.ops) (b :: a :: r.nodes) = _
    have : joinOp w (b :: a :: r.nodes) = some (nBin w a b :: r.nodes) := by
      unfold joinOp
      rw [(hsf w hw).2, if_neg (by decide)]
      rfl
    rw [joinDown, if_pos (by omega), this]
theorem run_CT {l : Nat} {d : PyData} {ts : List Str} (h : CT l d ts) : 1 ≤ l → l ≤ 3 → ∀ (r : RS) (rest : List (Str × V)), BegC l r → ∃ q, runP r (ts.map cls ++ rest) = runP q rest ∧ LeftC (l : Int) r q d := by
  induction h with
  | @cmp l w a b ta tb hw ha hb =>
    intro h1 h3 r rest B
    have hcp : ∀ x ∈ compL, bindOf x = 4 ∧ prefL.contains x = false := by decide +kernel
    obtain ⟨hb4, hpf⟩ := hcp w hw
    obtain ⟨q1, e1, L1⟩ := run_ET ha (by decide) (by decide) r ((w, V.non) :: (tb.map cls ++ rest)) B.starts (fun _ s t e => by
      have := B.t3 s t e
      show bindOf s < 5
      omega)
    have hj : joinDown 4 q1.ops q1.nodes = some (r.ops, a :: r.nodes) := by
      rw [L1.jn 4 (by decide)]
      exact beg_stop fun s t e => by
        have := B.t3 s t e
        omega
    have hb1 : q1.brs.head? ≠ some ("(" : Str) := by rw [L1.br]; exact B.br
    obtain ⟨hf, ht⟩ := cmp_step L1.st (L1.cm.trans B.cm) (L1.co.trans B.co) hb1 hw hj
    obtain ⟨q2, e2, L2⟩ := run_ET hb (by decide) (by decide) { q1 with ops := w :: r.ops, nodes := a :: r.nodes, stage := "factor", cmp := true } rest (starts_fac rfl) (fun _ s t e => by
      injection e with e _
      subst e
      rw [hb4]
      decide)
    refine ⟨q2, ?_, .inr ⟨L2.st, L2.cm⟩, L2.br.trans L1.br, L2.co.trans (L1.co.trans B.co), fun c hc => ?_⟩
    · rw [List.map_append, List.append_assoc, List.map_cons, List.cons_append, cls_self (comp_self w hw), e1, runP_cons hf (ht _), e2]
    · rw [L2.jn c (by show c ≤ 5; omega)]
      show joinDown c (w :: r.ops) (b :: a :: r.nodes) = _
      have : joinOp w (b :: a :: r.nodes) = some (nBin w a b :: r.nodes) := by
        unfold joinOp
        rw [hpf, if_neg (by decide)]
        rfl
      rw [joinDown, if_pos (by omega), this]
  | @not_ l a ta ha ih =>
    intro h1 h3 r rest B
    have hb : bindOf "not" = 3 := by decide +kernel
    have e : r.begin_ "not" .non = { r with ops := "not" :: r.ops } := by
      unfold RS.begin_
      rw [if_neg (by decide +kernel), if_neg (by decide +kernel), if_neg (by decide +kernel), if_neg (by decide +kernel)]
    have hf : r.fits "not" = true := by
      unfold RS.fits RS.mayBegin
      rw [if_pos B.starts, B.st]
      decide +kernel
    obtain ⟨q, e1, L1⟩ := ih (by decide) (by decide) { r with ops := "not" :: r.ops } rest ⟨B.st, B.cm, B.co, B.br, (fun s t e => by
      injection e with e _
      subst e
      rw [hb]
      decide), fun z => absurd z (by decide)⟩
    refine ⟨q, ?_, L1.dn, L1.br, L1.co, fun c hc => ?_⟩
    · rw [List.map_cons, cls_self (by decide +kernel), List.cons_append, runP_cons hf (begin_take B.starts), e, e1]
    · rw [L1.jn c (by omega)]
      show joinDown c (("not" : Str) :: r.ops) (a :: r.nodes) = _
      have : joinOp "not" (a :: r.nodes) = some (nNot a :: r.nodes) := by
        unfold joinOp
        rw [if_pos (by decide +kernel)]
        rfl
      rw [joinDown, if_pos (by rw [hb]; omega), this]
  | @and_ l a b ta tb hl ha hb iha ihb =>
    intro h1 h3 r rest B
    exact run_log (m := 2) hl (by decide) (by decide +kernel) (by decide +kernel) (iha (by decide) (by decide)) (ihb (by decide) (by decide)) r rest B
  | @or_ l a b ta tb hl ha hb iha ihb =>
    intro h1 h3 r rest B
    exact run_log (m := 1) hl (by decide) (by decide +kernel) (by decide +kernel) (iha (by decide) (by decide)) (ihb (by decide) (by decide)) r rest B
  | @br l d ts hd ih =>
    intro h1 h3 r rest B
    have e : r.begin_ "[" .non = { r with ops := "[" :: r.ops, brs := "[" :: r.brs } := by
      unfold RS.begin_
      rw [if_neg (by decide +kernel), if_neg (by decide +kernel), if_neg (by decide +kernel), if_pos rfl]
    have hf : r.fits "[" = true := by
      unfold RS.fits RS.mayBegin
      rw [if_pos B.starts, B.st]
      decide +kernel
    have hb : bindOf "[" = -1 := by decide +kernel
    obtain ⟨q, e1, L1⟩ := ih (by decide) (by decide) { r with ops := "[" :: r.ops, brs := "[" :: r.brs } ((("]" : Str), V.non) :: rest) ⟨B.st, B.cm, B.co, (by show some ("[" : Str) ≠ _; decide +kernel), (fun s t e => by
      injection e with e _
      subst e
      rw [hb]
      decide), fun _ s t e => by
      injection e with e _
      subst e
      rw [hb]
      decide⟩
    have hj : joinDown 0 q.ops q.nodes = some ((("[" : Str) :: r.ops), (d :: r.nodes)) := by
      rw [L1.jn 0 (by decide)]
      show (if (0 : Int) ≤ bindOf "[" then _ else _) = _
      rw [hb, if_neg (by decide)]
    have hq : q.brs.head? = some ("[" : Str) := by rw [L1.br]; rfl
    have hf2 : q.fits "]" = true := by
      refine done_fits L1.dn L1.co (by rw [hq]; decide +kernel) (by decide +kernel) ?_
      rw [if_pos hq]
      decide +kernel
    have ht2 : q.takeIn "]" .non = some { q with ops := r.ops, nodes := d :: r.nodes, brs := r.brs, stage := "bracket" } := by
      unfold RS.takeIn
      rw [(done_no L1.dn).1, if_neg (by decide), if_pos (.inr rfl)]
      unfold RS.close_
      rw [down_eq hj, Option.bind_some]
      dsimp only
      rw [L1.br]
      dsimp only
      rw [if_pos rfl]
    refine ⟨{ q with ops := r.ops, nodes := d :: r.nodes, brs := r.brs, stage := "bracket" }, ?_, .inl rfl, rfl, L1.co, fun _ _ => rfl⟩
    rw [List.map_cons, cls_self (by decide +kernel), List.cons_append, runP_cons hf (begin_take B.starts), e, List.map_append, List.append_assoc, List.map_cons, List.map_nil, cls_self (s := "]") (by decide +kernel), List.singleton_append, e1, runP_cons hf2 ht2]
/-- a whole condition -/
theorem run_cond {d : PyData} {ts : List Str} (h : CT 1 d ts) : ∃ r, runP (RS.start true) (ts.map cls ++ [(("end" : Str), V.non)]) = some r ∧ r.nodes = [d] := by
  obtain ⟨q, e, L⟩ := run_CT h (by decide) (by decide) (RS.start true) [(("end" : Str), V.non)] ⟨rfl, rfl, rfl, by decide, (fun s t z => by cases z), fun _ s t z => by cases z⟩
  have hj : joinDown 0 q.ops q.nodes = some ([], [d]) := by rw [L.jn 0 (by decide)]; rfl
  have hq : q.brs = [] := L.br
  have hf : q.fits "end" = true := by
    refine done_fits L.dn L.co (by rw [hq]; decide) (by decide +kernel) ?_
    rw [hq]
    decide +kernel
  have ht : q.takeIn "end" .non = some { q with ops := [], nodes := [d] } := by
    unfold RS.takeIn
    rw [(done_no L.dn).1, if_neg (by decide), if_neg (by decide +kernel), if_pos rfl, down_eq hj]
  refine ⟨{ q with ops := [], nodes := [d] }, ?_, rfl⟩
  rw [e, runP_cons hf ht]
  rfl
/-- a laid out condition, or expression, is read as its tree -/
theorem parse_layT : ∀ {b : Bool} {ps : List (Nat × Str)} (h : LayI ps) (a t : Nat) {d : PyData} (e : TT b 1 d (ps.map (·.2))), ∃ r, runR (RS.start b) (toks (sp a ++ (flat ps ++ sp t))) = some r ∧ r.nodes = [d]
  | false, ps, h, a, t, d, e => parse_lay h a t e
  | true, ps, h, a, t, d, e => by
    obtain ⟨r, h1, h2⟩ := run_cond e
    refine ⟨r, ?_, h2⟩
    rw [runR_P]
    have := toks_lay h a t
    show runP _ ((toks _).map pairT) = _
    rw [this, ← h1, List.map_map]
    rfl
end Rx

set_option Elab.async false
set_option linter.all false
set_option maxRecDepth 100000
set_option maxHeartbeats 4000000
namespace Rx
open PySem PySem.Spec PyProof.Rows L2 SX
/-! ### where a row of tokens stops fitting: the reader, and a machine driven by a table -/
inductive Sy where
  | C | J | G | K | E | T | F | Cs | Js | Es | Fs
  | and_ | mod_ | not_ | or_ | plus | minus | star | slash | lp | rp | lb | rb | eq | ne | lt | le | gt | ge | integer | name | odd | end_
deriving DecidableEq
def Sy.all : List Sy := [.C, .J, .G, .K, .E, .T, .F, .Cs, .Js, .Es, .Fs, .and_, .mod_, .not_, .or_, .plus, .minus, .star, .slash, .lp, .rp, .lb, .rb, .eq, .ne, .lt, .le, .gt, .ge, .integer, .name, .odd, .end_]
def Sy.terms : List Sy := [.and_, .mod_, .not_, .or_, .plus, .minus, .star, .slash, .lp, .rp, .lb, .rb, .eq, .ne, .lt, .le, .gt, .ge, .integer, .name, .odd, .end_]
theorem Sy.mem_all (k : Sy) : k ∈ Sy.all := by cases k <;> decide
/-- its text to the machine -/
def Sy.str : Sy → Str
  | .C => "C" | .J => "J" | .G => "G" | .K => "K" | .E => "E" | .T => "T" | .F => "F" | .Cs => "Cs" | .Js => "Js" | .Es => "Es" | .Fs => "Fs"
  | .and_ => "and" | .mod_ => "mod" | .not_ => "not" | .or_ => "or" | .plus => "+" | .minus => "-" | .star => "*" | .slash => "//" | .lp => "(" | .rp => ")" | .lb => "[" | .rb => "]"
  | .eq => "=" | .ne => "!=" | .lt => "<" | .le => "<=" | .gt => ">" | .ge => ">=" | .integer => "integer" | .name => "name" | .odd => "odd" | .end_ => "end"
/-- its sign to the reader -/
def Sy.sign : Sy → Str
  | .integer => "number" | .name => "variable" | .odd => "bad" | k => k.str
def Sy.ofStr (s : Str) : Option Sy := Sy.all.find? fun k => decide (k.str = s)
theorem Sy.of_str (k : Sy) : Sy.ofStr k.str = some k := by
  have h : ∀ k ∈ Sy.all, Sy.ofStr k.str = some k := by decide +kernel
  exact h k k.mem_all
theorem Sy.str_inj {a b : Sy} (h : a.str = b.str) : a = b := by
  have h1 := Sy.of_str a
  rw [h, Sy.of_str b] at h1
  injection h1 with h1
  exact h1.symm
/-- what the table says -/
def more : Sy → Sy → List Sy
  | .G, .not_ => [.not_, .G] | .G, .lb => [.lb, .C, .rb] | .G, .integer => [.E, .K] | .G, .name => [.E, .K] | .G, .minus => [.E, .K] | .G, .lp => [.E, .K]
  | .K, .eq => [.eq, .E] | .K, .ne => [.ne, .E] | .K, .lt => [.lt, .E] | .K, .le => [.le, .E] | .K, .gt => [.gt, .E] | .K, .ge => [.ge, .E]
  | .Es, .plus => [.plus, .T, .Es] | .Es, .minus => [.minus, .T, .Es] | .Fs, .star => [.star, .F, .Fs] | .Fs, .slash => [.slash, .F, .Fs] | .Fs, .mod_ => [.mod_, .F, .Fs]
  | .F, .integer => [.integer] | .F, .name => [.name] | .F, .minus => [.minus, .F] | .F, .lp => [.lp, .E, .rp] | .Cs, .or_ => [.or_, .J, .Cs] | .Js, .and_ => [.and_, .G, .Js]
  | .C, _ => [.J, .Cs] | .J, _ => [.G, .Js] | .E, _ => [.T, .Es] | .T, _ => [.F, .Fs]
  | _, _ => []
def nul : Sy → Bool
  | .Cs => true | .Js => true | .Es => true | .Fs => true | _ => false
inductive DR where
  | out | bad | at_ (pl : List Sy)
/-- the pile, its top first, until its top is the key -/
def downL : Nat → List Sy → Sy → DR
  | 0, _, _ => .out
  | _ + 1, [], _ => .at_ []
  | n + 1, t :: pl, k => if t = k then .at_ (t :: pl) else if more t k = [] ∧ nul t = false then .bad else downL n (more t k ++ pl) k
def stopL : List Sy → List (Sy × Nat) → Option Nat
  | _, [] => none
  | pl, (k, p) :: ks => match downL 12 pl k with
    | .at_ [] => if k = .end_ then none else some p
    | .at_ (_ :: q) => stopL q ks
    | _ => some p
theorem downL_more : ∀ (n m : Nat) (pl : List Sy) (k : Sy), n ≤ m → downL n pl k ≠ .out → downL m pl k = downL n pl k
  | 0, _, _, _, _, h => absurd rfl h
  | n + 1, 0, _, _, h, _ => by omega
  | n + 1, m + 1, [], _, _, _ => rfl
  | n + 1, m + 1, t :: pl, k, h, ho => by
    unfold downL at ho ⊢
    split
    · rfl
    · rename_i h1
      rw [if_neg h1] at ho
      split
      · rfl
      · rename_i h2
        rw [if_neg h2] at ho
        exact downL_more n m _ _ (by omega) ho
/-- a pile that does as another one does -/
def Like (sp pl : List Sy) : Prop := ∀ k ∈ Sy.terms, downL 8 sp k ≠ .out → downL 12 pl k = downL 8 sp k
theorem like_self (sp : List Sy) : Like sp sp := fun k _ h => downL_more 8 12 sp k (by decide) h
theorem like_E (r : List Sy) : Like (.F :: .Fs :: .Es :: r) (.E :: r) := fun k hk h => by
  have e : downL 10 (.E :: r) k = downL 8 (.F :: .Fs :: .Es :: r) k := by
    simp only [Sy.terms, List.mem_cons, List.not_mem_nil, or_false] at hk
    rcases hk with rfl | rfl | rfl | rfl | rfl | rfl | rfl | rfl | rfl | rfl | rfl | rfl | rfl | rfl | rfl | rfl | rfl | rfl | rfl | rfl | rfl | rfl <;> rfl
  rw [downL_more 10 12 _ k (by decide) (by rw [e]; exact h), e]
theorem like_T (r : List Sy) : Like (.F :: .Fs :: r) (.T :: r) := fun k hk h => by
  have e : downL 9 (.T :: r) k = downL 8 (.F :: .Fs :: r) k := by
    simp only [Sy.terms, List.mem_cons, List.not_mem_nil, or_false] at hk
    rcases hk with rfl | rfl | rfl | rfl | rfl | rfl | rfl | rfl | rfl | rfl | rfl | rfl | rfl | rfl | rfl | rfl | rfl | rfl | rfl | rfl | rfl | rfl <;> rfl
  rw [downL_more 9 12 _ k (by decide) (by rw [e]; exact h), e]
theorem like_C (r : List Sy) : Like (.G :: .Js :: .Cs :: r) (.C :: r) := fun k hk h => by
  have e : downL 10 (.C :: r) k = downL 8 (.G :: .Js :: .Cs :: r) k := by
    simp only [Sy.terms, List.mem_cons, List.not_mem_nil, or_false] at hk
    rcases hk with rfl | rfl | rfl | rfl | rfl | rfl | rfl | rfl | rfl | rfl | rfl | rfl | rfl | rfl | rfl | rfl | rfl | rfl | rfl | rfl | rfl | rfl <;> rfl
  rw [downL_more 10 12 _ k (by decide) (by rw [e]; exact h), e]
theorem like_J (r : List Sy) : Like (.G :: .Js :: r) (.J :: r) := fun k hk h => by
  have e : downL 9 (.J :: r) k = downL 8 (.G :: .Js :: r) k := by
    simp only [Sy.terms, List.mem_cons, List.not_mem_nil, or_false] at hk
    rcases hk with rfl | rfl | rfl | rfl | rfl | rfl | rfl | rfl | rfl | rfl | rfl | rfl | rfl | rfl | rfl | rfl | rfl | rfl | rfl | rfl | rfl | rfl <;> rfl
  rw [downL_more 9 12 _ k (by decide) (by rw [e]; exact h), e]
/-! the reader's state as a pile -/
def restC : Nat → List Sy
  | 0 => []
  | m + 1 => .rb :: .Js :: .Cs :: restC m
def restE (c cmp : Bool) (m : Nat) : Nat → List Sy
  | 0 => if c = true then (if cmp = true then .Js :: .Cs :: restC m else .K :: .Js :: .Cs :: restC m) else []
  | n + 1 => .rp :: .Fs :: .Es :: restE c cmp m n
inductive Stg where
  | cond | fac | expr | brk
deriving DecidableEq
def Stg.str : Stg → Str
  | .cond => "condition" | .fac => "factor" | .expr => "expression" | .brk => "bracket"
def specP (g : Stg) (c cmp : Bool) (m n : Nat) : List Sy := match g with
  | .cond => .G :: .Js :: .Cs :: restC m
  | .brk => .Js :: .Cs :: restC m
  | .fac => .F :: .Fs :: .Es :: restE c cmp m n
  | .expr => .Fs :: .Es :: restE c cmp m n
def binL : List Str := ["or", "and", "=", "!=", "<", "<=", ">", ">=", "+", "-", "*", "//", "mod"]
def brkL : List Str := ["(", "["]
def bins (os : List Str) : Nat := os.countP fun o => binL.contains o
def brksOf (os : List Str) : List Str := os.filter fun o => brkL.contains o
def isTup : PyData → Bool
  | .tuple _ => true
  | _ => false
/-- what the reader's state keeps to -/
structure Sound (g : Stg) (m n : Nat) (r : RS) : Prop where
  st : r.stage = g.str
  br : r.brs = List.replicate n ("(" : Str) ++ List.replicate m ("[" : Str)
  bo : r.brs = brksOf r.ops
  nd : r.nodes.length = bins r.ops + (match g with | .cond => 0 | .fac => 0 | _ => 1)
  tp : ∀ d ∈ r.nodes, isTup d = true
  op : ∀ o ∈ r.ops, o ∈ opsL
  c0 : r.cond = false → m = 0 ∧ (g = .fac ∨ g = .expr)
  c1 : g = .cond → n = 0 ∧ r.cmp = false
  c2 : g = .brk → n = 0
/-- all that is joined can be joined -/
theorem joinDown_ok {b : Int} (hb : 0 ≤ b) : ∀ (os : List Str) (ns : List PyData), (∀ o ∈ os, o ∈ opsL) → ns.length = bins os + 1 → (∀ d ∈ ns, isTup d = true) →
    ∃ os' ns', joinDown b os ns = some (os', ns') ∧ ns'.length = bins os' + 1 ∧ brksOf os' = brksOf os ∧ (∀ o ∈ os', o ∈ opsL) ∧ (∀ d ∈ ns', isTup d = true) ∧ (∀ s t, os' = s :: t → bindOf s < b)
  | [], ns, ho, hl, ht => ⟨[], ns, rfl, hl, rfl, ho, ht, fun s t h => by cases h⟩
  | o :: os, ns, ho, hl, ht => by
    have ho1 : o ∈ opsL := ho o List.mem_cons_self
    have ho2 : ∀ x ∈ os, x ∈ opsL := fun x hx => ho x (List.mem_cons_of_mem _ hx)
    by_cases h : b ≤ bindOf o
    · have kind : ∀ o ∈ opsL, (0 : Int) ≤ bindOf o → brkL.contains o = false ∧ (prefL.contains o = true ∧ binL.contains o = false ∨ prefL.contains o = false ∧ binL.contains o = true) := by decide +kernel
      obtain ⟨hk, hk2⟩ := kind o ho1 (by omega)
      have eb : brksOf (o :: os) = brksOf os := by unfold brksOf; rw [List.filter_cons, hk]; rfl
      rcases hk2 with ⟨hp, hn⟩ | ⟨hp, hn⟩
      · have en : bins (o :: os) = bins os := by unfold bins; rw [List.countP_cons, hn]; rfl
        rw [en] at hl
        cases ns with
        | nil => simp at hl
        | cons d ns =>
          obtain ⟨os', ns', h1, h2, h3, h4, h5, h6⟩ := joinDown_ok hb os (.tuple [.str o, d] :: ns) ho2 hl (fun x hx => by
            rcases List.mem_cons.mp hx with e | hx
            · rw [e]; rfl
            · exact ht x (List.mem_cons_of_mem _ hx))
          refine ⟨os', ns', ?_, h2, h3.trans eb.symm, h4, h5, h6⟩
          rw [joinDown, if_pos h]
          unfold joinOp
          rw [hp, if_pos rfl]
          exact h1
      · have en : bins (o :: os) = bins os + 1 := by unfold bins; rw [List.countP_cons, hn]; rfl
        rw [en] at hl
        match ns, hl with
        | d :: e :: ns, hl =>
          obtain ⟨os', ns', h1, h2, h3, h4, h5, h6⟩ := joinDown_ok hb os (.tuple [.str o, e, d] :: ns) ho2 (by simp only [List.length_cons] at hl ⊢; omega) (fun x hx => by
            rcases List.mem_cons.mp hx with e | hx
            · rw [e]; rfl
            · exact ht x (List.mem_cons_of_mem _ (List.mem_cons_of_mem _ hx)))
          refine ⟨os', ns', ?_, h2, h3.trans eb.symm, h4, h5, h6⟩
          rw [joinDown, if_pos h]
          unfold joinOp
          rw [hp, if_neg (by decide)]
          exact h1
        | [d], hl => simp at hl
        | [], hl => simp at hl
    · refine ⟨o :: os, ns, ?_, hl, rfl, ho, ht, fun s t e => ?_⟩
      · rw [joinDown, if_neg h]
      · injection e with e _
        rw [← e]
        omega
end Rx

set_option Elab.async false
set_option linter.all false
set_option maxRecDepth 100000
set_option maxHeartbeats 4000000
namespace Rx
open PySem PySem.Spec PyProof.Rows L2 SX
def fitsB (st : Str) (c cmp : Bool) (hd : Option Str) (s : Str) : Bool :=
  if (decide (st = "condition") || decide (st = "factor")) = true then (begL.contains s || (decide (st = "condition") && notL.contains s))
  else if (decide (st = "expression") && arithL.contains s) = true then true
  else if hd = some ("(" : Str) then decide (s = ")")
  else if c = false then decide (s = "end")
  else if (decide (st = "expression") && !cmp) = true then compL.contains s
  else if hd = some ("[" : Str) then (["and", "or", "]"] : List Str).contains s
  else (["and", "or", "end"] : List Str).contains s
theorem fits_B (r : RS) (s : Str) : r.fits s = fitsB r.stage r.cond r.cmp r.brs.head? s := by
  unfold RS.fits RS.starts RS.mayBegin RS.mayFollow fitsB
  rfl
def hdB (mm nn : Bool) : Option Str := if nn = true then some "(" else if mm = true then some "[" else none
def okB (g : Stg) (c cmp mm nn : Bool) (k : Sy) : Bool := match g with
  | .cond => [Sy.integer, .name, .minus, .lp, .not_, .lb].contains k
  | .fac => [Sy.integer, .name, .minus, .lp].contains k
  | .expr => if [Sy.plus, .minus, .star, .slash, .mod_].contains k then true else if nn then decide (k = .rp) else if !c then decide (k = .end_) else if !cmp then [Sy.eq, .ne, .lt, .le, .gt, .ge].contains k
    else if mm then [Sy.and_, .or_, .rb].contains k else [Sy.and_, .or_, .end_].contains k
  | .brk => if mm then [Sy.and_, .or_, .rb].contains k else [Sy.and_, .or_, .end_].contains k
theorem fits_ok : ∀ k ∈ Sy.terms, ∀ c cmp mm nn : Bool, fitsB Stg.cond.str c cmp (hdB mm nn) k.sign = okB .cond c cmp mm nn k ∧ fitsB Stg.fac.str c cmp (hdB mm nn) k.sign = okB .fac c cmp mm nn k ∧
    fitsB Stg.expr.str c cmp (hdB mm nn) k.sign = okB .expr c cmp mm nn k ∧ fitsB Stg.brk.str true cmp (hdB mm false) k.sign = okB .brk true cmp mm false k := by decide +kernel
theorem hd_rep (n m : Nat) : (List.replicate n ("(" : Str) ++ List.replicate m ("[" : Str)).head? = hdB (decide (0 < m)) (decide (0 < n)) := by
  cases n with
  | zero => cases m <;> rfl
  | succ n => rfl
theorem Sound.fits {g : Stg} {m n : Nat} {r : RS} (S : Sound g m n r) {k : Sy} (hk : k ∈ Sy.terms) : r.fits k.sign = okB g r.cond r.cmp (decide (0 < m)) (decide (0 < n)) k := by
  have h := fits_ok k hk r.cond r.cmp (decide (0 < m)) (decide (0 < n))
  rw [fits_B, S.st, S.br, hd_rep]
  cases g with
  | cond => exact h.1
  | fac => exact h.2.1
  | expr => exact h.2.2.1
  | brk =>
    have hn := S.c2 rfl
    subst hn
    have hc : r.cond = true := by
      cases e : r.cond with
      | true => rfl
      | false => rcases (S.c0 e).2 with z | z <;> cases z
    have h2 := (fits_ok k hk true r.cmp (decide (0 < m)) false).2.2.2
    rw [hc]
    exact h2
theorem no_fit {g : Stg} {c cmp : Bool} {m n : Nat} {k : Sy} (hk : k ∈ Sy.terms) (h : okB g c cmp (decide (0 < m)) (decide (0 < n)) k = false) : downL 8 (specP g c cmp m n) k = .bad ∨ (downL 8 (specP g c cmp m n) k = .at_ [] ∧ k ≠ .end_) := by
  simp only [Sy.terms, List.mem_cons, List.not_mem_nil, or_false] at hk
  cases g with
  | cond => cases m <;> rcases hk with rfl | rfl | rfl | rfl | rfl | rfl | rfl | rfl | rfl | rfl | rfl | rfl | rfl | rfl | rfl | rfl | rfl | rfl | rfl | rfl | rfl | rfl <;> first | exact .inl rfl | exact .inr ⟨rfl, by decide⟩ | exact absurd h (by simp [okB])
  | fac => rcases hk with rfl | rfl | rfl | rfl | rfl | rfl | rfl | rfl | rfl | rfl | rfl | rfl | rfl | rfl | rfl | rfl | rfl | rfl | rfl | rfl | rfl | rfl <;> first | exact .inl rfl | exact .inr ⟨rfl, by decide⟩ | exact absurd h (by simp [okB])
  | brk => cases m <;> rcases hk with rfl | rfl | rfl | rfl | rfl | rfl | rfl | rfl | rfl | rfl | rfl | rfl | rfl | rfl | rfl | rfl | rfl | rfl | rfl | rfl | rfl | rfl <;> first | exact .inl rfl | exact .inr ⟨rfl, by decide⟩ | exact absurd h (by simp [okB])
  | expr =>
    cases n with
    | succ n => rcases hk with rfl | rfl | rfl | rfl | rfl | rfl | rfl | rfl | rfl | rfl | rfl | rfl | rfl | rfl | rfl | rfl | rfl | rfl | rfl | rfl | rfl | rfl <;> first | exact .inl rfl | exact .inr ⟨rfl, by decide⟩ | exact absurd h (by simp [okB])
    | zero =>
      cases c with
      | false => rcases hk with rfl | rfl | rfl | rfl | rfl | rfl | rfl | rfl | rfl | rfl | rfl | rfl | rfl | rfl | rfl | rfl | rfl | rfl | rfl | rfl | rfl | rfl <;> first | exact .inl rfl | exact .inr ⟨rfl, by decide⟩ | exact absurd h (by simp [okB])
      | true =>
        cases cmp with
        | false => rcases hk with rfl | rfl | rfl | rfl | rfl | rfl | rfl | rfl | rfl | rfl | rfl | rfl | rfl | rfl | rfl | rfl | rfl | rfl | rfl | rfl | rfl | rfl <;> first | exact .inl rfl | exact .inr ⟨rfl, by decide⟩ | exact absurd h (by simp [okB])
        | true => cases m <;> rcases hk with rfl | rfl | rfl | rfl | rfl | rfl | rfl | rfl | rfl | rfl | rfl | rfl | rfl | rfl | rfl | rfl | rfl | rfl | rfl | rfl | rfl | rfl <;> first | exact .inl rfl | exact .inr ⟨rfl, by decide⟩ | exact absurd h (by simp [okB])
/-! the reader goes on -/
theorem bins_skip {o : Str} {os : List Str} (h : binL.contains o = false) : bins (o :: os) = bins os := by unfold bins; rw [List.countP_cons, h]; rfl
theorem bins_one {o : Str} {os : List Str} (h : binL.contains o = true) : bins (o :: os) = bins os + 1 := by unfold bins; rw [List.countP_cons, h]; rfl
theorem brks_skip {o : Str} {os : List Str} (h : brkL.contains o = false) : brksOf (o :: os) = brksOf os := by unfold brksOf; rw [List.filter_cons, h]; rfl
theorem brks_one {o : Str} {os : List Str} (h : brkL.contains o = true) : brksOf (o :: os) = o :: brksOf os := by unfold brksOf; rw [List.filter_cons, h]; rfl
def Stg.beg : Stg → Bool
  | .cond => true | .fac => true | _ => false
theorem beg_str : ∀ g ∈ [Stg.cond, .fac, .expr, .brk], (decide (g.str = ("condition" : Str)) || decide (g.str = ("factor" : Str))) = g.beg := by decide +kernel
theorem Sound.starts {g : Stg} {m n : Nat} {r : RS} (S : Sound g m n r) : r.starts = g.beg := by
  unfold RS.starts
  rw [S.st]
  exact beg_str g (by cases g <;> decide)
/-- what one token does -/
structure Goes (g : Stg) (m n : Nat) (r : RS) (k : Sy) (v : V) (q : RS) : Prop where
  tk : r.takeIn k.sign v = some q
  to_ : ∃ g' m' n' pl', Sound g' m' n' q ∧ downL 8 (specP g r.cond r.cmp m n) k = .at_ (k :: pl') ∧ Like (specP g' q.cond q.cmp m' n') pl'
section
variable {g : Stg} {m n : Nat} {r : RS}
theorem opCons {o : Str} {os : List Str} (ho : o ∈ opsL) (h : ∀ x ∈ os, x ∈ opsL) : ∀ x ∈ o :: os, x ∈ opsL := fun x hx => by
  rcases List.mem_cons.mp hx with e | hx
  · rw [e]; exact ho
  · exact h x hx
theorem go_leaf (S : Sound g m n r) (hg : g = .cond ∨ g = .fac) {k : Sy} (hk : k = .integer ∨ k = .name) (v : V) : ∃ q, Goes g m n r k v q := by
  have hs : r.starts = true := by rw [S.starts]; rcases hg with rfl | rfl <;> rfl
  have hsg : k.sign = "number" ∨ k.sign = "variable" := by rcases hk with rfl | rfl; exact .inl rfl; exact .inr rfl
  have e : r.begin_ k.sign v = { r with nodes := .tuple [.str k.sign, dOf v] :: r.nodes, stage := "expression" } := by unfold RS.begin_; rw [if_pos hsg]
  refine ⟨_, by rw [begin_take hs, e], .expr, m, n, ?_⟩
  have S' : Sound .expr m n { r with nodes := .tuple [.str k.sign, dOf v] :: r.nodes, stage := "expression" } := by
    refine ⟨rfl, S.br, S.bo, ?_, ?_, S.op, fun z => ⟨(S.c0 z).1, .inr rfl⟩, (fun z => by cases z), fun z => by cases z⟩
    · have := S.nd
      rcases hg with rfl | rfl <;> simp only [List.length_cons] at this ⊢ <;> omega
    · intro d hd
      rcases List.mem_cons.mp hd with e | hd
      · rw [e]; rfl
      · exact S.tp d hd
  rcases hg with rfl | rfl
  · obtain ⟨hn, hc⟩ := S.c1 rfl
    subst hn
    have hcc : r.cond = true := by
      cases e : r.cond with
      | true => rfl
      | false => rcases (S.c0 e).2 with z | z <;> cases z
    refine ⟨.Fs :: .Es :: .K :: .Js :: .Cs :: restC m, S', ?_, ?_⟩
    · rcases hk with rfl | rfl <;> rfl
    · have := like_self (.Fs :: .Es :: .K :: .Js :: .Cs :: restC m)
      show Like (specP .expr r.cond r.cmp m 0) _
      rw [hc, hcc]
      exact this
  · refine ⟨.Fs :: .Es :: restE r.cond r.cmp m n, S', ?_, like_self _⟩
    rcases hk with rfl | rfl <;> rfl
theorem go_minus (S : Sound g m n r) (hg : g = .cond ∨ g = .fac) (v : V) : ∃ q, Goes g m n r .minus v q := by
  have hs : r.starts = true := by rw [S.starts]; rcases hg with rfl | rfl <;> rfl
  have e : r.begin_ "-" v = { r with ops := "negate" :: r.ops, stage := "factor" } := by unfold RS.begin_; rw [if_neg (by decide +kernel), if_pos rfl]
  refine ⟨_, (begin_take hs).trans (congrArg some e), .fac, m, n, ?_⟩
  have S' : Sound .fac m n { r with ops := "negate" :: r.ops, stage := "factor" } := by
    refine ⟨rfl, S.br, S.bo.trans (brks_skip (by decide +kernel)).symm, ?_, S.tp, opCons (by decide +kernel) S.op, fun z => ⟨(S.c0 z).1, .inl rfl⟩, (fun z => by cases z), fun z => by cases z⟩
    show r.nodes.length = bins (("negate" : Str) :: r.ops) + 0
    rw [bins_skip (by decide +kernel), S.nd]
    rcases hg with rfl | rfl <;> rfl
  rcases hg with rfl | rfl
  · obtain ⟨hn, hc⟩ := S.c1 rfl
    subst hn
    have hcc : r.cond = true := by
      cases e : r.cond with
      | true => rfl
      | false => rcases (S.c0 e).2 with z | z <;> cases z
    refine ⟨.F :: .Fs :: .Es :: .K :: .Js :: .Cs :: restC m, S', rfl, ?_⟩
    have := like_self (.F :: .Fs :: .Es :: .K :: .Js :: .Cs :: restC m)
    show Like (specP .fac r.cond r.cmp m 0) _
    rw [hc, hcc]
    exact this
  · exact ⟨.F :: .Fs :: .Es :: restE r.cond r.cmp m n, S', rfl, like_self _⟩
theorem go_lp (S : Sound g m n r) (hg : g = .cond ∨ g = .fac) (v : V) : ∃ q, Goes g m n r .lp v q := by
  have hs : r.starts = true := by rw [S.starts]; rcases hg with rfl | rfl <;> rfl
  have e : r.begin_ "(" v = { r with ops := "(" :: r.ops, brs := "(" :: r.brs, stage := "factor" } := by unfold RS.begin_; rw [if_neg (by decide +kernel), if_neg (by decide +kernel), if_pos rfl]
  refine ⟨_, (begin_take hs).trans (congrArg some e), .fac, m, n + 1, ?_⟩
  have S' : Sound .fac m (n + 1) { r with ops := "(" :: r.ops, brs := "(" :: r.brs, stage := "factor" } := by
    refine ⟨rfl, ?_, ?_, ?_, S.tp, opCons (by decide +kernel) S.op, fun z => ⟨(S.c0 z).1, .inl rfl⟩, (fun z => by cases z), fun z => by cases z⟩
    · show ("(" : Str) :: r.brs = _
      rw [S.br]; rfl
    · show ("(" : Str) :: r.brs = _
      rw [brks_one (by decide +kernel), S.bo]
    · show r.nodes.length = bins (("(" : Str) :: r.ops) + 0
      rw [bins_skip (by decide +kernel), S.nd]
      rcases hg with rfl | rfl <;> rfl
  rcases hg with rfl | rfl
  · obtain ⟨hn, hc⟩ := S.c1 rfl
    subst hn
    have hcc : r.cond = true := by
      cases e : r.cond with
      | true => rfl
      | false => rcases (S.c0 e).2 with z | z <;> cases z
    refine ⟨.E :: .rp :: .Fs :: .Es :: .K :: .Js :: .Cs :: restC m, S', rfl, ?_⟩
    have := like_E (.rp :: .Fs :: .Es :: .K :: .Js :: .Cs :: restC m)
    show Like (specP .fac r.cond r.cmp m 1) _
    rw [hc, hcc]
    exact this
  · exact ⟨.E :: .rp :: .Fs :: .Es :: restE r.cond r.cmp m n, S', rfl, like_E _⟩
theorem go_not (S : Sound .cond m n r) (v : V) : ∃ q, Goes .cond m n r .not_ v q := by
  have hs : r.starts = true := S.starts
  have e : r.begin_ "not" v = { r with ops := "not" :: r.ops } := by
    unfold RS.begin_
    rw [if_neg (by decide +kernel), if_neg (by decide +kernel), if_neg (by decide +kernel), if_neg (by decide +kernel)]
  refine ⟨_, (begin_take hs).trans (congrArg some e), .cond, m, n, .G :: .Js :: .Cs :: restC m, ?_, rfl, like_self _⟩
  refine ⟨S.st, S.br, S.bo.trans (brks_skip (by decide +kernel)).symm, ?_, S.tp, opCons (by decide +kernel) S.op, S.c0, S.c1, fun z => by cases z⟩
  show r.nodes.length = bins (("not" : Str) :: r.ops) + 0
  rw [bins_skip (by decide +kernel), S.nd]
theorem go_lb (S : Sound .cond m n r) (v : V) : ∃ q, Goes .cond m n r .lb v q := by
  have hs : r.starts = true := S.starts
  have e : r.begin_ "[" v = { r with ops := "[" :: r.ops, brs := "[" :: r.brs } := by
    unfold RS.begin_
    rw [if_neg (by decide +kernel), if_neg (by decide +kernel), if_neg (by decide +kernel), if_pos rfl]
  obtain ⟨hn, hc⟩ := S.c1 rfl
  subst hn
  refine ⟨_, (begin_take hs).trans (congrArg some e), .cond, m + 1, 0, .C :: .rb :: .Js :: .Cs :: restC m, ?_, rfl, like_C _⟩
  refine ⟨S.st, ?_, ?_, ?_, S.tp, opCons (by decide +kernel) S.op, (fun z => ?_), (fun _ => ⟨rfl, hc⟩), fun z => by cases z⟩
  · show ("[" : Str) :: r.brs = _
    rw [S.br]; rfl
  · show ("[" : Str) :: r.brs = _
    rw [brks_one (by decide +kernel), S.bo]
  · show r.nodes.length = bins (("[" : Str) :: r.ops) + 0
    rw [bins_skip (by decide +kernel), S.nd]
  · rcases (S.c0 z).2 with z | z <;> cases z
theorem go_arith (S : Sound .expr m n r) {k : Sy} (hk : k ∈ [Sy.plus, .minus, .star, .slash, .mod_]) (v : V) : ∃ q, Goes .expr m n r k v q := by
  have h0 : ∀ k ∈ [Sy.plus, .minus, .star, .slash, .mod_], k.sign ∈ arithL ∧ (0 : Int) ≤ bindOf k.sign ∧ binL.contains k.sign = true ∧ brkL.contains k.sign = false ∧ k.sign ∈ opsL := by decide +kernel
  obtain ⟨a1, a2, a3, a4, a5⟩ := h0 k hk
  obtain ⟨os', ns', h1, h2, h3, h4, h5, h6⟩ := joinDown_ok a2 r.ops r.nodes S.op S.nd S.tp
  obtain ⟨_, ht⟩ := mid_take S.st a1 h1
  refine ⟨_, ht v, .fac, m, n, ?_⟩
  have S' : Sound .fac m n { r with ops := k.sign :: os', nodes := ns', stage := "factor" } := by
    refine ⟨rfl, S.br, ?_, ?_, h5, opCons a5 h4, fun z => ⟨(S.c0 z).1, .inl rfl⟩, (fun z => by cases z), fun z => by cases z⟩
    · show r.brs = brksOf (k.sign :: os')
      rw [brks_skip a4, h3, S.bo]
    · show ns'.length = bins (k.sign :: os') + 0
      rw [bins_one a3, h2]
  simp only [List.mem_cons, List.not_mem_nil, or_false] at hk
  rcases hk with rfl | rfl | rfl | rfl | rfl
  · exact ⟨.T :: .Es :: restE r.cond r.cmp m n, S', rfl, like_T _⟩
  · exact ⟨.T :: .Es :: restE r.cond r.cmp m n, S', rfl, like_T _⟩
  · exact ⟨.F :: .Fs :: .Es :: restE r.cond r.cmp m n, S', rfl, like_self _⟩
  · exact ⟨.F :: .Fs :: .Es :: restE r.cond r.cmp m n, S', rfl, like_self _⟩
  · exact ⟨.F :: .Fs :: .Es :: restE r.cond r.cmp m n, S', rfl, like_self _⟩
theorem go_cmp (S : Sound .expr m 0 r) (hc : r.cond = true) (hm : r.cmp = false) {k : Sy} (hk : k ∈ [Sy.eq, .ne, .lt, .le, .gt, .ge]) (v : V) : ∃ q, Goes .expr m 0 r k v q := by
  have h0 : ∀ k ∈ [Sy.eq, .ne, .lt, .le, .gt, .ge], k.sign ∈ compL ∧ binL.contains k.sign = true ∧ brkL.contains k.sign = false ∧ k.sign ∈ opsL := by decide +kernel
  obtain ⟨a1, a3, a4, a5⟩ := h0 k hk
  obtain ⟨os', ns', h1, h2, h3, h4, h5, h6⟩ := joinDown_ok (b := 4) (by decide) r.ops r.nodes S.op S.nd S.tp
  have hb : r.brs.head? ≠ some ("(" : Str) := by
    rw [S.br, hd_rep]
    have h : ∀ b : Bool, hdB b false ≠ some ("(" : Str) := by decide +kernel
    exact h _
  obtain ⟨_, ht⟩ := cmp_step S.st hm hc hb a1 h1
  refine ⟨_, ht v, .fac, m, 0, .E :: .Js :: .Cs :: restC m, ?_, ?_, ?_⟩
  · refine ⟨rfl, S.br, ?_, ?_, h5, opCons a5 h4, fun z => ⟨(S.c0 z).1, .inl rfl⟩, (fun z => by cases z), fun z => by cases z⟩
    · show r.brs = brksOf (k.sign :: os')
      rw [brks_skip a4, h3, S.bo]
    · show ns'.length = bins (k.sign :: os') + 0
      rw [bins_one a3, h2]
  · rw [hc, hm]
    simp only [List.mem_cons, List.not_mem_nil, or_false] at hk
    rcases hk with rfl | rfl | rfl | rfl | rfl | rfl <;> rfl
  · show Like (specP .fac r.cond true m 0) _
    rw [hc]
    exact like_E _
theorem done_of (S : Sound g m 0 r) (hg : g = .brk ∨ (g = .expr ∧ r.cmp = true)) : DoneC r := by
  rcases hg with rfl | ⟨rfl, h⟩
  · exact .inl S.st
  · exact .inr ⟨S.st, h⟩
theorem nd_done (S : Sound g m n r) (hg : g = .brk ∨ g = .expr) : r.nodes.length = bins r.ops + 1 := by
  have := S.nd
  rcases hg with rfl | rfl <;> exact this
theorem go_log (S : Sound g m 0 r) (hc : r.cond = true) (hg : g = .brk ∨ (g = .expr ∧ r.cmp = true)) {k : Sy} (hk : k = .and_ ∨ k = .or_) (v : V) : ∃ q, Goes g m 0 r k v q := by
  have h0 : ∀ k ∈ [Sy.and_, .or_], k.sign ∈ logL ∧ (0 : Int) ≤ bindOf k.sign ∧ binL.contains k.sign = true ∧ brkL.contains k.sign = false ∧ k.sign ∈ opsL := by decide +kernel
  obtain ⟨a1, a2, a3, a4, a5⟩ := h0 k (by rcases hk with rfl | rfl <;> decide)
  obtain ⟨os', ns', h1, h2, h3, h4, h5, h6⟩ := joinDown_ok a2 r.ops r.nodes S.op (nd_done S (hg.imp id fun h => h.1)) S.tp
  refine ⟨_, log_take (done_of S hg) a1 h1 v, .cond, m, 0, ?_⟩
  have S' : Sound .cond m 0 { r with ops := k.sign :: os', nodes := ns', stage := "condition", cmp := false } := by
    refine ⟨rfl, S.br, ?_, ?_, h5, opCons a5 h4, (fun z => ?_), (fun _ => ⟨rfl, rfl⟩), fun z => by cases z⟩
    · show r.brs = brksOf (k.sign :: os')
      rw [brks_skip a4, h3, S.bo]
    · show ns'.length = bins (k.sign :: os') + 0
      rw [bins_one a3, h2]
    · have z' : r.cond = false := z
      rw [hc] at z'
      cases z'
  rcases hk with rfl | rfl
  · refine ⟨.G :: .Js :: .Cs :: restC m, S', ?_, like_self _⟩
    rcases hg with rfl | ⟨rfl, h⟩
    · rfl
    · rw [hc, h]; rfl
  · refine ⟨.J :: .Cs :: restC m, S', ?_, like_J _⟩
    rcases hg with rfl | ⟨rfl, h⟩
    · rfl
    · rw [hc, h]; rfl
/-- the innermost bracket is closed -/
theorem close_ok (S : Sound g m n r) (hg : g = .brk ∨ g = .expr) {b : Str} {bs : List Str} (hb : r.brs = b :: bs) {s : Str} (hs : s = ")" ∨ s = "]") (v : V) :
    ∃ os ns, r.takeIn s v = some { r with ops := os, nodes := ns, brs := bs, stage := if s = "]" then "bracket" else "expression" } ∧ ns.length = bins os + 1 ∧ bs = brksOf os ∧ (∀ o ∈ os, o ∈ opsL) ∧ (∀ d ∈ ns, isTup d = true) := by
  have hst : r.starts = false := by rw [S.starts]; rcases hg with rfl | rfl <;> rfl
  obtain ⟨os', ns', h1, h2, h3, h4, h5, h6⟩ := joinDown_ok (b := 0) (by decide) r.ops r.nodes S.op (nd_done S hg) S.tp
  have h7 : brksOf os' = b :: bs := by rw [h3, ← S.bo, hb]
  cases os' with
  | nil => cases h7
  | cons o t =>
    have kind : ∀ o ∈ opsL, bindOf o < 0 → brkL.contains o = true ∧ binL.contains o = false := by decide +kernel
    obtain ⟨k1, k2⟩ := kind o (h4 o List.mem_cons_self) (h6 o t rfl)
    rw [brks_one k1] at h7
    injection h7 with h7 h8
    refine ⟨t, ns', ?_, by rw [← bins_skip k2]; exact h2, h8.symm, fun x hx => h4 x (List.mem_cons_of_mem _ hx), h5⟩
    unfold RS.takeIn
    rw [hst, if_neg (by decide), if_pos hs]
    unfold RS.close_
    rw [down_eq h1, Option.bind_some]
    dsimp only
    rw [hb]
theorem go_rp (S : Sound .expr m (n + 1) r) (v : V) : ∃ q, Goes .expr m (n + 1) r .rp v q := by
  obtain ⟨os, ns, h1, h2, h3, h4, h5⟩ := close_ok S (.inr rfl) (b := "(") (bs := List.replicate n ("(" : Str) ++ List.replicate m ("[" : Str)) (by rw [S.br]; rfl) (.inl rfl) v
  rw [if_neg (by decide +kernel)] at h1
  exact ⟨_, h1, .expr, m, n, .Fs :: .Es :: restE r.cond r.cmp m n, ⟨rfl, rfl, h3, h2, h5, h4, (fun z => ⟨(S.c0 z).1, .inr rfl⟩), (fun z => by cases z), fun z => by cases z⟩, rfl, like_self _⟩
theorem go_rb (S : Sound g (m + 1) 0 r) (hc : r.cond = true) (hg : g = .brk ∨ (g = .expr ∧ r.cmp = true)) (v : V) : ∃ q, Goes g (m + 1) 0 r .rb v q := by
  obtain ⟨os, ns, h1, h2, h3, h4, h5⟩ := close_ok S (hg.imp id fun h => h.1) (b := "[") (bs := List.replicate m ("[" : Str)) (by rw [S.br]; rfl) (.inr rfl) v
  rw [if_pos rfl] at h1
  refine ⟨_, h1, .brk, m, 0, .Js :: .Cs :: restC m, ⟨rfl, rfl, h3, h2, h5, h4, (fun z => ?_), (fun z => by cases z), fun _ => rfl⟩, ?_, like_self _⟩
  · have z' : r.cond = false := z
    rw [hc] at z'
    cases z'
  · rcases hg with rfl | ⟨rfl, h⟩
    · rfl
    · rw [hc, h]; rfl
theorem go_end (S : Sound g 0 0 r) (hg : g = .brk ∨ (g = .expr ∧ (r.cond = false ∨ r.cmp = true))) (v : V) : ∃ q d, r.takeIn "end" v = some q ∧ q.nodes = [d] ∧ isTup d = true ∧ downL 8 (specP g r.cond r.cmp 0 0) .end_ = .at_ [] := by
  have hg' : g = .brk ∨ g = .expr := hg.imp id fun h => h.1
  have hst : r.starts = false := by rw [S.starts]; rcases hg' with rfl | rfl <;> rfl
  obtain ⟨os', ns', h1, h2, h3, h4, h5, h6⟩ := joinDown_ok (b := 0) (by decide) r.ops r.nodes S.op (nd_done S hg') S.tp
  have h7 : brksOf os' = [] := by rw [h3, ← S.bo, S.br]; rfl
  have h8 : os' = [] := by
    cases os' with
    | nil => rfl
    | cons o t =>
      have kind : ∀ o ∈ opsL, bindOf o < 0 → brkL.contains o = true := by decide +kernel
      rw [brks_one (kind o (h4 o List.mem_cons_self) (h6 o t rfl))] at h7
      cases h7
  subst h8
  match ns', h2, h5, h1 with
  | [d], _, h5, h1 =>
    refine ⟨{ r with ops := [], nodes := [d] }, d, ?_, rfl, h5 d (by simp), ?_⟩
    · unfold RS.takeIn
      rw [hst, if_neg (by decide), if_neg (by decide +kernel), if_pos rfl, down_eq h1]
    · rcases hg with rfl | ⟨rfl, h | h⟩
      · rfl
      · rw [h]; rfl
      · cases e : r.cond with
        | false => rfl
        | true => rw [h]; rfl
end
theorem Sound.cond {g : Stg} {m n : Nat} {r : RS} (S : Sound g m n r) (h : g = .cond ∨ g = .brk) : r.cond = true := by
  cases e : r.cond with
  | true => rfl
  | false => rcases (S.c0 e).2 with z | z <;> subst z <;> rcases h with h | h <;> cases h
/-- a token that fits is taken in; the machine takes it too -/
theorem fit_goes {g : Stg} {m n : Nat} {r : RS} (S : Sound g m n r) {k : Sy} (hk : k ∈ Sy.terms) (h : r.fits k.sign = true) (v : V) :
    (k ≠ .end_ ∧ ∃ q, Goes g m n r k v q) ∨ (k = .end_ ∧ ∃ q d, r.takeIn "end" v = some q ∧ q.nodes = [d] ∧ isTup d = true ∧ downL 8 (specP g r.cond r.cmp m n) .end_ = .at_ []) := by
  rw [S.fits hk] at h
  cases g with
  | cond =>
    simp only [okB, List.contains_eq_mem, List.mem_cons, List.not_mem_nil, or_false, decide_eq_true_eq] at h
    rcases h with rfl | rfl | rfl | rfl | rfl | rfl
    · exact .inl ⟨by decide, go_leaf S (.inl rfl) (.inl rfl) v⟩
    · exact .inl ⟨by decide, go_leaf S (.inl rfl) (.inr rfl) v⟩
    · exact .inl ⟨by decide, go_minus S (.inl rfl) v⟩
    · exact .inl ⟨by decide, go_lp S (.inl rfl) v⟩
    · exact .inl ⟨by decide, go_not S v⟩
    · exact .inl ⟨by decide, go_lb S v⟩
  | fac =>
    simp only [okB, List.contains_eq_mem, List.mem_cons, List.not_mem_nil, or_false, decide_eq_true_eq] at h
    rcases h with rfl | rfl | rfl | rfl
    · exact .inl ⟨by decide, go_leaf S (.inr rfl) (.inl rfl) v⟩
    · exact .inl ⟨by decide, go_leaf S (.inr rfl) (.inr rfl) v⟩
    · exact .inl ⟨by decide, go_minus S (.inr rfl) v⟩
    · exact .inl ⟨by decide, go_lp S (.inr rfl) v⟩
  | brk =>
    have hn := S.c2 rfl
    subst hn
    have hc := S.cond (.inr rfl)
    cases m with
    | zero =>
      have h' : [Sy.and_, .or_, .end_].contains k = true := h
      simp only [List.contains_eq_mem, List.mem_cons, List.not_mem_nil, or_false, decide_eq_true_eq] at h'
      rcases h' with rfl | rfl | rfl
      · exact .inl ⟨by decide, go_log S hc (.inl rfl) (.inl rfl) v⟩
      · exact .inl ⟨by decide, go_log S hc (.inl rfl) (.inr rfl) v⟩
      · exact .inr ⟨rfl, go_end S (.inl rfl) v⟩
    | succ m =>
      have h' : [Sy.and_, .or_, .rb].contains k = true := h
      simp only [List.contains_eq_mem, List.mem_cons, List.not_mem_nil, or_false, decide_eq_true_eq] at h'
      rcases h' with rfl | rfl | rfl
      · exact .inl ⟨by decide, go_log S hc (.inl rfl) (.inl rfl) v⟩
      · exact .inl ⟨by decide, go_log S hc (.inl rfl) (.inr rfl) v⟩
      · exact .inl ⟨by decide, go_rb S hc (.inl rfl) v⟩
  | expr =>
    unfold okB at h
    dsimp only at h
    split at h
    · rename_i ha
      have hm : k ∈ [Sy.plus, .minus, .star, .slash, .mod_] := List.contains_iff_mem.mp ha
      exact .inl ⟨(by rintro rfl; revert hm; decide), go_arith S hm v⟩
    · cases n with
      | succ n =>
        have h' : decide (k = Sy.rp) = true := h
        have e : k = .rp := of_decide_eq_true h'
        subst e
        exact .inl ⟨by decide, go_rp S v⟩
      | zero =>
        cases hc : r.cond with
        | false =>
          rw [hc] at h
          have h' : decide (k = Sy.end_) = true := h
          have e : k = .end_ := of_decide_eq_true h'
          subst e
          have hm := (S.c0 hc).1
          subst hm
          have := go_end S (.inr ⟨rfl, .inl hc⟩) v
          rw [hc] at this
          exact .inr ⟨rfl, this⟩
        | true =>
          cases hm : r.cmp with
          | false =>
            rw [hc, hm] at h
            have h' : [Sy.eq, .ne, .lt, .le, .gt, .ge].contains k = true := h
            have hmem := List.contains_iff_mem.mp h'
            exact .inl ⟨(by rintro rfl; revert hmem; decide), go_cmp S hc hm hmem v⟩
          | true =>
            rw [hc, hm] at h
            cases m with
            | zero =>
              have h' : [Sy.and_, .or_, .end_].contains k = true := h
              simp only [List.contains_eq_mem, List.mem_cons, List.not_mem_nil, or_false, decide_eq_true_eq] at h'
              rcases h' with rfl | rfl | rfl
              · exact .inl ⟨by decide, go_log S hc (.inr ⟨rfl, hm⟩) (.inl rfl) v⟩
              · exact .inl ⟨by decide, go_log S hc (.inr ⟨rfl, hm⟩) (.inr rfl) v⟩
              · have := go_end S (.inr ⟨rfl, .inr hm⟩) v
                rw [hc, hm] at this
                exact .inr ⟨rfl, this⟩
            | succ m =>
              have h' : [Sy.and_, .or_, .rb].contains k = true := h
              simp only [List.contains_eq_mem, List.mem_cons, List.not_mem_nil, or_false, decide_eq_true_eq] at h'
              rcases h' with rfl | rfl | rfl
              · exact .inl ⟨by decide, go_log S hc (.inr ⟨rfl, hm⟩) (.inl rfl) v⟩
              · exact .inl ⟨by decide, go_log S hc (.inr ⟨rfl, hm⟩) (.inr rfl) v⟩
              · exact .inl ⟨by decide, go_rb S hc (.inr ⟨rfl, hm⟩) v⟩
/-- where the reader stops -/
def stopR : RS → List (Str × V × Nat) → Option Nat
  | _, [] => none
  | r, t :: ts => if r.fits t.1 = true then (match r.takeIn t.1 t.2.1 with
    | some q => stopR q ts
    | none => none) else some t.2.2
/-- tokens and the machine's keys for them -/
inductive Keys : List (Str × V × Nat) → List (Sy × Nat) → Prop where
  | end_ {v : V} {p : Nat} : Keys [("end", v, p)] [(.end_, p)]
  | cons {k : Sy} {v : V} {p : Nat} {ts : List (Str × V × Nat)} {ks : List (Sy × Nat)} : k ∈ Sy.terms → k ≠ .end_ → Keys ts ks → Keys ((k.sign, v, p) :: ts) ((k, p) :: ks)
theorem stops {ts : List (Str × V × Nat)} {ks : List (Sy × Nat)} (h : Keys ts ks) : ∀ {g : Stg} {m n : Nat} {r : RS} {pl : List Sy}, Sound g m n r → Like (specP g r.cond r.cmp m n) pl →
    stopR r ts = stopL pl ks ∧ (stopR r ts = none → ∃ q d, runR r ts = some q ∧ q.nodes = [d] ∧ isTup d = true) := by
  have out : ∀ {l : List Sy} {x : List Sy} {k : Sy}, downL 8 l k = .at_ x → downL 8 l k ≠ .out := fun e z => by rw [e] at z; cases z
  have outb : ∀ {l : List Sy} {k : Sy}, downL 8 l k = .bad → downL 8 l k ≠ .out := fun e z => by rw [e] at z; cases z
  induction h with
  | @end_ v p =>
    intro g m n r pl S L
    have hk : Sy.end_ ∈ Sy.terms := by decide
    cases hf : r.fits "end" with
    | true =>
      rcases fit_goes S hk hf v with ⟨z, _⟩ | ⟨_, q, d, h1, h2, h3, h4⟩
      · exact absurd rfl z
      · refine ⟨?_, fun _ => ⟨q, d, ?_, h2, h3⟩⟩
        · unfold stopR stopL
          dsimp only
          rw [hf, if_pos rfl, h1, L _ hk (out h4), h4]
          rfl
        · unfold runR
          dsimp only
          rw [hf, if_pos rfl, h1]
          rfl
    | false =>
      refine ⟨?_, fun z => ?_⟩
      · unfold stopR stopL
        dsimp only
        rw [hf, if_neg (by decide)]
        rcases no_fit hk ((S.fits hk).symm.trans hf) with e | ⟨_, e⟩
        · rw [L _ hk (outb e), e]
        · exact absurd rfl e
      · unfold stopR at z
        dsimp only at z
        rw [hf, if_neg (by decide)] at z
        cases z
  | @cons k v p ts ks hk hne _ ih =>
    intro g m n r pl S L
    cases hf : r.fits k.sign with
    | true =>
      rcases fit_goes S hk hf v with ⟨_, q, hq, g', m', n', pl', S', e, L'⟩ | ⟨z, _⟩
      · obtain ⟨i1, i2⟩ := ih S' L'
        have es : stopR r ((k.sign, v, p) :: ts) = stopR q ts := by
          rw [stopR]
          dsimp only
          rw [hf, if_pos rfl, hq]
        refine ⟨?_, fun z => ?_⟩
        · rw [es, i1, stopL, L _ hk (out e), e]
        · obtain ⟨q', d, h1, h2⟩ := i2 (es.symm.trans z)
          refine ⟨q', d, ?_, h2⟩
          rw [runR]
          dsimp only
          rw [hf, if_pos rfl, hq]
          exact h1
      · exact absurd z hne
    | false =>
      have es : stopR r ((k.sign, v, p) :: ts) = some p := by
        rw [stopR]
        dsimp only
        rw [hf, if_neg (by decide)]
      refine ⟨?_, fun z => by rw [es] at z; cases z⟩
      rw [es, stopL]
      rcases no_fit hk ((S.fits hk).symm.trans hf) with e | ⟨e, _⟩
      · rw [L _ hk (outb e), e]
      · rw [L _ hk (out e), e, if_neg hne]
theorem stops_start {ts : List (Str × V × Nat)} {ks : List (Sy × Nat)} (h : Keys ts ks) (c : Bool) :
    stopR (RS.start c) ts = stopL [if c = true then .C else .E] ks ∧ (stopR (RS.start c) ts = none → ∃ q d, runR (RS.start c) ts = some q ∧ q.nodes = [d] ∧ isTup d = true) := by
  cases c with
  | true => exact stops h (g := .cond) (m := 0) (n := 0) ⟨rfl, rfl, rfl, rfl, (fun _ z => by cases z), (fun _ z => by cases z), (fun z => by cases z), (fun _ => ⟨rfl, rfl⟩), fun _ => rfl⟩ (like_C [])
  | false => exact stops h (g := .fac) (m := 0) (n := 0) ⟨rfl, rfl, rfl, rfl, (fun _ z => by cases z), (fun _ z => by cases z), (fun _ => ⟨rfl, .inl rfl⟩), (fun z => by cases z), fun _ => rfl⟩ (like_E [])
end Rx

set_option Elab.async false
set_option linter.all false
set_option maxRecDepth 100000
set_option maxHeartbeats 4000000
namespace Rx
open PySem PySem.Spec PyProof.Rows L2 SX
/-! ### words and their keys -/
def selfK : List Sy := [.and_, .mod_, .not_, .or_, .plus, .minus, .star, .slash, .lp, .rp, .lb, .rb, .eq, .ne, .lt, .le, .gt, .ge]
def key18 (s : Str) : Option Sy := selfK.find? fun k => decide (k.str = s)
def keyW (w : List Nat) : Sy := match key18 (S w) with
  | some k => k
  | none => if w.all isDig = true then (if w.length < 31 ∧ (w = [48] ∨ w.head? ≠ some 48) then .integer else .odd)
    else if w.all isLet = true ∧ w.length < 9 ∧ reservedL.contains (S w) = false then .name else .odd
theorem key18_some {s : Str} {k : Sy} (h : key18 s = some k) : k ∈ selfK ∧ k.str = s := by
  unfold key18 at h
  have h2 := List.find?_some h
  exact ⟨List.mem_of_find?_eq_some h, of_decide_eq_true h2⟩
theorem key18_none {s : Str} (h : key18 s = none) : ∀ k ∈ selfK, k.str ≠ s := fun k hk e => by
  unfold key18 at h
  have := List.find?_eq_none.mp h k hk
  exact this (decide_eq_true e)
theorem key18_of {k : Sy} (h : k ∈ selfK) : key18 k.str = some k := by
  cases e : key18 k.str with
  | none => exact absurd rfl (key18_none e k h)
  | some j => rw [Sy.str_inj (key18_some e).2]
theorem selfK_facts : ∀ k ∈ selfK, k ∈ Sy.terms ∧ k ≠ .end_ ∧ k.sign = k.str ∧ k.str ∈ selfL ∧ ((cod k.str).all isLet = true → wordsL.contains k.str = true) ∧ (cod k.str).all isDig = false ∧ (k.str ∈ signsL ∨ (cod k.str).all isLet = true) ∧ (wordsL.contains k.str = true → (cod k.str).all isLet = true) := by decide +kernel
theorem self_key : ∀ s ∈ selfL, (key18 s).isSome = true := by decide +kernel
theorem keyW_term (w : List Nat) : keyW w ∈ Sy.terms ∧ keyW w ≠ .end_ := by
  unfold keyW
  split
  · rename_i k e
    have := selfK_facts k (key18_some e).1
    exact ⟨this.1, this.2.1⟩
  · split
    · split <;> exact ⟨by decide, by decide⟩
    · split <;> exact ⟨by decide, by decide⟩
theorem dig_let {w : List Nat} (h : w.all isLet = true) (n : w ≠ []) : w.all isDig = false := by
  obtain ⟨c, r, rfl⟩ := List.exists_cons_of_ne_nil n
  simp only [List.all_cons, Bool.and_eq_true] at h
  have hd : isDig c = false := by
    cases e : isDig c with
    | false => rfl
    | true => rw [let_dig e] at h; cases h.1
  rw [List.all_cons, hd, Bool.false_and]
theorem keyW_let {w : List Nat} (h : w.all isLet = true) (n : w ≠ []) : (wordTok w).1 = (keyW w).sign := by
  have hc : cod (S w) = w := rfl
  unfold wordTok keyW
  cases e : key18 (S w) with
  | some k =>
    obtain ⟨h1, h2⟩ := key18_some e
    have f := selfK_facts k h1
    rw [h2] at f
    rw [if_pos (f.2.2.2.2.1 (by rw [hc]; exact h))]
    dsimp only
    rw [f.2.2.1]
  | none =>
    have hw : wordsL.contains (S w) = false := by
      cases e2 : wordsL.contains (S w) with
      | false => rfl
      | true =>
        have hm : S w ∈ selfL := by
          have : ∀ s ∈ wordsL, s ∈ selfL := by decide +kernel
          exact this _ (List.contains_iff_mem.mp e2)
        have := self_key _ hm
        rw [e] at this
        cases this
    rw [hw, if_neg (by decide)]
    dsimp only
    rw [dig_let h n, if_neg (show ¬ (false = true) from by decide)]
    cases hn : isName w with
    | true =>
      obtain ⟨h1, h2, h3, h4⟩ := name_parts hn
      rw [if_pos rfl, if_pos ⟨h, by omega, h1⟩]
      rfl
    | false =>
      rw [if_neg (by decide), if_neg]
      · rfl
      · rintro ⟨_, h2, h3⟩
        unfold isName at hn
        rw [h3, h, decide_eq_true n, decide_eq_true (by omega : w.length ≤ 8)] at hn
        cases hn
theorem keyW_dig {w : List Nat} (h : w.all isDig = true) (n : w ≠ []) : (numTok w).1 = (keyW w).sign := by
  have hc : cod (S w) = w := rfl
  unfold numTok keyW
  cases e : key18 (S w) with
  | some k =>
    obtain ⟨h1, h2⟩ := key18_some e
    have f := (selfK_facts k h1).2.2.2.2.2.1
    rw [h2, hc, h] at f
    cases f
  | none =>
    dsimp only
    rw [h, if_pos rfl]
    have e2 : isNum w = (decide (w.length ≤ 30) && !(decide (w.head? = some 48) && decide (w ≠ [48]))) := by
      unfold isNum
      rw [h, decide_eq_true n, Bool.and_true, Bool.true_and]
    cases hn : isNum w with
    | true =>
      rw [if_pos rfl, if_pos]
      · rfl
      · rw [hn] at e2
        have e3 := e2.symm
        simp only [Bool.and_eq_true, decide_eq_true_eq, Bool.not_eq_true', Bool.and_eq_false_iff, decide_eq_false_iff_not] at e3
        refine ⟨by omega, ?_⟩
        rcases e3.2 with q | q
        · exact .inr q
        · exact .inl (Classical.byContradiction q)
    | false =>
      rw [if_neg (by decide), if_neg]
      · rfl
      · rintro ⟨h2, h3⟩
        rw [hn, decide_eq_true (by omega : w.length ≤ 30), Bool.true_and] at e2
        have e3 := e2.symm
        simp only [Bool.not_eq_false', Bool.and_eq_true, decide_eq_true_eq] at e3
        rcases h3 with q | q
        · exact e3.2 q
        · exact q e3.1
theorem keyW_sign {s : Str} (h : s ∈ signsL) : (keyW (cod s)).sign = s := by
  have h1 : ∀ s ∈ signsL, (keyW (cod s)).sign = s := by decide +kernel
  exact h1 s h
theorem keyW_odd {c : Nat} (h1 : isLet c = false) (h2 : isDig c = false) (h3 : c ∉ singles) : keyW [c] = .odd := by
  unfold keyW
  cases e : key18 (S [c]) with
  | some k =>
    obtain ⟨k1, k2⟩ := key18_some e
    have f : ∀ k ∈ selfK, (cod k.str).length = 1 → ∀ x ∈ cod k.str, x ∈ singles := by decide +kernel
    have g := f k k1
    rw [k2] at g
    exact absurd (g rfl c (by show c ∈ [c]; simp)) h3
  | none =>
    dsimp only
    rw [show [c].all isDig = false by simp [h2], if_neg (by decide), if_neg]
    simp [h1]
/-! ### the other scanner -/
def twoL : List Str := ["<=", ">=", "!=", "//"]
def endL (cs : List Nat) : Nat := if twoL.contains (S (cs.take 2)) = true then 2 else match cs with
  | [] => 1
  | c :: _ => if isLet c = true then (cs.takeWhile isLet).length else if isDig c = true then (cs.takeWhile isDig).length else 1
theorem two_codes : twoL.map cod = [[60, 61], [62, 61], [33, 61], [47, 47]] := by decide +kernel
theorem two_mem {cs : List Nat} : twoL.contains (S cs) = true ↔ cs = [60, 61] ∨ cs = [62, 61] ∨ cs = [33, 61] ∨ cs = [47, 47] := by
  rw [List.contains_iff_mem]
  constructor
  · intro h
    have h2 : cod (S cs) ∈ twoL.map cod := List.mem_map.mpr ⟨_, h, rfl⟩
    rw [two_codes] at h2
    simpa using h2
  · intro h
    rcases h with rfl | rfl | rfl | rfl <;> decide +kernel
theorem two_head {c : Nat} {r : List Nat} (h : twoL.contains (S ((c :: r).take 2)) = true) : (c = 60 ∨ c = 62 ∨ c = 33 ∨ c = 47) := by
  have := two_mem.mp h
  cases r with
  | nil => simp at this
  | cons d r => simp at this; omega
theorem code_sign : ∀ s ∈ signsL, s.length = (cod s).length := fun s _ => (cod_len s).symm
theorem sign_find {cs x : List Nat} (h : (signsL.map cod).find? (fun x => x.isPrefixOf cs) = some x) : signTok cs = (S x, .non, x.length) ∧ (keyW x).sign = S x := by
  rw [← find_codes] at h
  obtain ⟨t, e1, e2⟩ := Option.map_eq_some_iff.mp h
  have ht : t = S x := by rw [← e2, S_tl]
  have hm : t ∈ signsL := List.mem_of_find?_eq_some e1
  have hk := keyW_sign hm
  rw [e2] at hk
  refine ⟨?_, by rw [hk, ht]⟩
  unfold signTok
  rw [e1]
  dsimp only
  rw [ht, S_len]
theorem sign_none {cs : List Nat} (h : (signsL.map cod).find? (fun x => x.isPrefixOf cs) = none) : signTok cs = (("bad" : Str), V.non, 1) := by
  rw [← find_codes] at h
  unfold signTok
  rw [Option.map_eq_none_iff.mp h]
theorem sign_key {c : Nat} {r : List Nat} (h1 : isLet c = false) (h2 : isDig c = false) : ∃ v, signTok (c :: r) = ((keyW ((c :: r).take (endL (c :: r)))).sign, v, endL (c :: r)) := by
  cases ht : twoL.contains (S ((c :: r).take 2)) with
  | true =>
    have he : endL (c :: r) = 2 := by unfold endL; rw [ht, if_pos rfl]
    rw [he]
    have hm := two_mem.mp ht
    cases r with
    | nil => simp at hm
    | cons d r =>
      have hm' : (c = 60 ∧ d = 61) ∨ (c = 62 ∧ d = 61) ∨ (c = 33 ∧ d = 61) ∨ (c = 47 ∧ d = 47) := by simpa using hm
      refine ⟨.non, ?_⟩
      have hf : (signsL.map cod).find? (fun x => x.isPrefixOf (c :: d :: r)) = some [c, d] := by
        rw [sign_codes]
        rcases hm' with ⟨rfl, rfl⟩ | ⟨rfl, rfl⟩ | ⟨rfl, rfl⟩ | ⟨rfl, rfl⟩ <;> simp [List.find?, List.isPrefixOf]
      obtain ⟨e1, e2⟩ := sign_find hf
      rw [e1, show (c :: d :: r).take 2 = [c, d] from rfl, e2]
      rfl
  | false =>
    have he : endL (c :: r) = 1 := by unfold endL; rw [ht, if_neg (by decide)]; dsimp only; rw [h1, h2]; rfl
    have ht' : ¬ ((c :: r).take 2 = [60, 61] ∨ (c :: r).take 2 = [62, 61] ∨ (c :: r).take 2 = [33, 61] ∨ (c :: r).take 2 = [47, 47]) := fun z => by rw [two_mem.mpr z] at ht; cases ht
    rw [he]
    refine ⟨.non, ?_⟩
    have e1' : (c :: r).take 1 = [c] := by simp
    rw [e1']
    by_cases hs : c ∈ singles
    · have hf : (signsL.map cod).find? (fun x => x.isPrefixOf (c :: r)) = some [c] := by
        rw [sign_codes]
        simp only [singles, List.mem_cons, List.not_mem_nil, or_false] at hs
        rcases hs with rfl | rfl | rfl | rfl | rfl | rfl | rfl | rfl | rfl | rfl
        all_goals
          cases r with
          | nil => simp [List.find?, List.isPrefixOf]
          | cons d r =>
            first
            | (simp [List.find?, List.isPrefixOf]; done)
            | (have hd : d ≠ 61 := fun z => by subst z; exact ht' (by simp)
               have g3 : (61 == d) = false := by simpa using (Ne.symm hd)
               simp [List.find?, List.isPrefixOf, g3]; done)
      obtain ⟨e1, e2⟩ := sign_find hf
      rw [e1, e2]
      rfl
    · have hf : (signsL.map cod).find? (fun x => x.isPrefixOf (c :: r)) = none := by
        rw [sign_codes]
        simp only [singles, List.mem_cons, List.not_mem_nil, or_false, not_or] at hs
        obtain ⟨s1, s2, s3, s4, s5, s6, s7, s8, s9, s10⟩ := hs
        rw [List.find?_eq_none]
        intro x hx
        have nb : ∀ a : Nat, c ≠ a → (a == c) = false := fun a h => by simpa using (Ne.symm h)
        simp only [List.mem_cons, List.not_mem_nil, or_false] at hx
        rcases hx with rfl | rfl | rfl | rfl | rfl | rfl | rfl | rfl | rfl | rfl | rfl | rfl | rfl | rfl
        · cases r with
          | nil => simp [List.isPrefixOf]
          | cons d r =>
            by_cases hc : c = 47
            · subst hc
              have hd : d ≠ 47 := fun z => by subst z; exact ht' (by simp)
              simp [List.isPrefixOf, nb' hd]
            · simp [List.isPrefixOf, nb _ hc]
        · cases r with
          | nil => simp [List.isPrefixOf]
          | cons d r =>
            by_cases hc : c = 33
            · subst hc
              have hd : d ≠ 61 := fun z => by subst z; exact ht' (by simp)
              simp [List.isPrefixOf, nb' hd]
            · simp [List.isPrefixOf, nb _ hc]
        all_goals simp [List.isPrefixOf, nb _ s1, nb _ s2, nb _ s3, nb _ s4, nb _ s5, nb _ s6, nb _ s7, nb _ s8, nb _ s9, nb _ s10]
      rw [sign_none hf, keyW_odd h1 h2 hs]
      rfl
where
  nb' {a d : Nat} (h : d ≠ a) : (a == d) = false := by simpa using (Ne.symm h)
theorem tok_key {c : Nat} {r : List Nat} : ∃ v, tokAt (c :: r) = ((keyW ((c :: r).take (endL (c :: r)))).sign, v, endL (c :: r)) := by
  have tk : ∀ (p : Nat → Bool), (c :: r).take ((c :: r).takeWhile p).length = (c :: r).takeWhile p := fun p => (List.prefix_iff_eq_take.mp (List.takeWhile_prefix p)).symm
  cases h1 : isLet c with
  | true =>
    have ht : twoL.contains (S ((c :: r).take 2)) = false := by
      cases e : twoL.contains (S ((c :: r).take 2)) with
      | false => rfl
      | true => rcases two_head e with rfl | rfl | rfl | rfl <;> exact absurd h1 (by decide)
    have he : endL (c :: r) = ((c :: r).takeWhile isLet).length := by unfold endL; rw [ht, if_neg (by decide)]; dsimp only; rw [h1, if_pos rfl]
    have hn : (c :: r).takeWhile isLet ≠ [] := by rw [List.takeWhile_cons, if_pos h1]; simp
    have hk := keyW_let (w := (c :: r).takeWhile isLet) List.all_takeWhile hn
    refine ⟨(wordTok ((c :: r).takeWhile isLet)).2.1, ?_⟩
    rw [he, tk, ← hk]
    have hs : (wordTok ((c :: r).takeWhile isLet)).2.2 = ((c :: r).takeWhile isLet).length := by
      unfold wordTok
      split
      · rfl
      · split <;> rfl
    have : tokAt (c :: r) = wordTok ((c :: r).takeWhile isLet) := by unfold tokAt; dsimp only; rw [if_pos h1]
    rw [this, ← hs]
  | false =>
    cases h2 : isDig c with
    | true =>
      have ht : twoL.contains (S ((c :: r).take 2)) = false := by
        cases e : twoL.contains (S ((c :: r).take 2)) with
        | false => rfl
        | true => rcases two_head e with rfl | rfl | rfl | rfl <;> exact absurd h2 (by decide)
      have he : endL (c :: r) = ((c :: r).takeWhile isDig).length := by unfold endL; rw [ht, if_neg (by decide)]; dsimp only; rw [h1, if_neg (by decide), h2, if_pos rfl]
      have hn : (c :: r).takeWhile isDig ≠ [] := by rw [List.takeWhile_cons, if_pos h2]; simp
      have hk := keyW_dig (w := (c :: r).takeWhile isDig) List.all_takeWhile hn
      refine ⟨(numTok ((c :: r).takeWhile isDig)).2.1, ?_⟩
      rw [he, tk, ← hk]
      have hs : (numTok ((c :: r).takeWhile isDig)).2.2 = ((c :: r).takeWhile isDig).length := by unfold numTok; split <;> rfl
      have : tokAt (c :: r) = numTok ((c :: r).takeWhile isDig) := by unfold tokAt; dsimp only; rw [h1, if_neg (by decide), if_pos h2]
      rw [this, ← hs]
    | false =>
      have : tokAt (c :: r) = signTok (c :: r) := by unfold tokAt; dsimp only; rw [h1, if_neg (by decide), h2, if_neg (by decide)]
      rw [this]
      exact sign_key h1 h2
/-- the keys of the rest of a text that stands from the place at on -/
def scanF : Nat → Nat → List Nat → List (Sy × Nat)
  | 0, at_, _ => [(.end_, at_)]
  | _ + 1, at_, [] => [(.end_, at_)]
  | n + 1, at_, c :: r => if c = 32 then scanF n (at_ + endL (c :: r)) ((c :: r).drop (endL (c :: r))) else (keyW ((c :: r).take (endL (c :: r))), at_) :: scanF n (at_ + endL (c :: r)) ((c :: r).drop (endL (c :: r)))
theorem endL_sp (r : List Nat) : endL (32 :: r) = 1 := by
  have ht : twoL.contains (S ((32 :: r).take 2)) = false := by
    cases e : twoL.contains (S ((32 :: r).take 2)) with
    | false => rfl
    | true => rcases two_head e with z | z | z | z <;> cases z
  unfold endL
  rw [ht, if_neg (by decide)]
  rfl
theorem scan_keys : ∀ (n at_ : Nat) (cs : List Nat), Keys (toksF n at_ cs) (scanF n at_ cs)
  | 0, _, _ => .end_
  | _ + 1, _, [] => .end_
  | n + 1, at_, c :: r => by
    unfold toksF scanF
    by_cases hc : c = 32
    · rw [if_pos hc, if_pos hc]
      subst hc
      rw [endL_sp]
      exact scan_keys n _ _
    · rw [if_neg hc, if_neg hc]
      obtain ⟨v, e⟩ := tok_key (c := c) (r := r)
      rw [e]
      have := keyW_term ((c :: r).take (endL (c :: r)))
      exact .cons this.1 this.2 (scan_keys n _ _)
theorem endL_pos (c : Nat) (r : List Nat) : 1 ≤ endL (c :: r) := by
  obtain ⟨v, e⟩ := tok_key (c := c) (r := r)
  have := tokAt_pos (c :: r)
  rw [e] at this
  exact this
end Rx

set_option Elab.async false
set_option linter.all false
set_option maxRecDepth 100000
set_option maxHeartbeats 4000000
namespace Rx
open PySem PySem.Spec PyProof.Rows L2 SX
/-- the place where the reader stops, or what it comes to -/
def runX : RS → List (Str × V × Nat) → Option (Nat ⊕ RS)
  | r, [] => some (.inr r)
  | r, t :: ts => if r.fits t.1 = true then (r.takeIn t.1 t.2.1).bind fun q => runX q ts else some (.inl t.2.2)
theorem runX_run : ∀ {ts : List (Str × V × Nat)} {r q : RS}, runR r ts = some q → runX r ts = some (.inr q)
  | [], r, q, h => by
    simp only [runR, Option.some.injEq] at h
    subst h
    rfl
  | t :: ts, r, q, h => by
    unfold runR at h
    unfold runX
    split at h
    · rename_i hf
      rw [if_pos hf]
      obtain ⟨x, h1, h2⟩ := Option.bind_eq_some_iff.mp h
      rw [h1]
      exact runX_run h2
    · cases h
theorem runX_stop : ∀ {ts : List (Str × V × Nat)} {r : RS} {p : Nat}, stopR r ts = some p → runX r ts = some (.inl p)
  | [], r, p, h => by cases h
  | t :: ts, r, p, h => by
    unfold stopR at h
    unfold runX
    split at h
    · rename_i hf
      rw [if_pos hf]
      split at h
      · rename_i x e
        rw [e]
        exact runX_stop h
      · cases h
    · rename_i hf
      rw [if_neg hf]
      injection h with h
      rw [h]
/-- what comes of a text: the place, or one tree -/
def Comes (c : Bool) (cs : List Nat) (due : Option Nat) : Prop := match due with
  | some p => runX (RS.start c) (toks cs) = some (.inl p)
  | none => ∃ q d, runX (RS.start c) (toks cs) = some (.inr q) ∧ q.nodes = [d] ∧ isTup d = true
theorem comes_keys {c : Bool} {cs : List Nat} {ks : List (Sy × Nat)} (h : Keys (toks cs) ks) : Comes c cs (stopL [if c = true then .C else .E] ks) := by
  obtain ⟨h1, h2⟩ := stops_start h c
  rw [← h1]
  cases e : stopR (RS.start c) (toks cs) with
  | some p => exact runX_stop e
  | none =>
    obtain ⟨q, d, h3, h4, h5⟩ := h2 e
    exact ⟨q, d, runX_run h3, h4, h5⟩
theorem comes_text (c : Bool) (cs : List Nat) : Comes c cs (stopL [if c = true then .C else .E] (scanF cs.length 0 cs)) := comes_keys (scan_keys _ _ _)
theorem comes_run {c : Bool} {cs : List Nat} {r : RS} {d : PyData} (h : runR (RS.start c) (toks cs) = some r) (k : r.nodes = [d]) (t : isTup d = true) : Comes c cs none := ⟨r, d, runX_run h, k, t⟩
end Rx

set_option Elab.async false
set_option linter.all false
set_option maxRecDepth 100000
set_option maxHeartbeats 4000000
namespace Rx
open PySem PySem.Spec PyProof.Rows L2 SX
theorem endL_le (c : Nat) (r : List Nat) : endL (c :: r) ≤ (c :: r).length := by
  unfold endL
  split
  · rename_i h
    have := two_mem.mp h
    cases r with
    | nil => simp at this
    | cons d r => simp
  · dsimp only
    split
    · exact (List.takeWhile_sublist isLet).length_le
    · split
      · exact (List.takeWhile_sublist isDig).length_le
      · simp
theorem scanF_fuel : ∀ (n m : Nat) (a : Nat) (cs : List Nat), cs.length ≤ n → cs.length ≤ m → scanF n a cs = scanF m a cs
  | 0, 0, _, _, _, _ => rfl
  | 0, m + 1, a, [], _, _ => rfl
  | 0, m + 1, a, c :: r, h, _ => by simp at h
  | n + 1, 0, a, [], _, _ => rfl
  | n + 1, 0, a, c :: r, _, h => by simp at h
  | n + 1, m + 1, a, [], _, _ => rfl
  | n + 1, m + 1, a, c :: r, h1, h2 => by
    simp only [List.length_cons] at h1 h2
    have hp := endL_pos c r
    unfold scanF
    rw [scanF_fuel n m _ ((c :: r).drop (endL (c :: r))) (by rw [List.length_drop, List.length_cons]; omega) (by rw [List.length_drop, List.length_cons]; omega)]
def scanG (a : Nat) (cs : List Nat) : List (Sy × Nat) := scanF cs.length a cs
theorem scanG_cons (a c : Nat) (r : List Nat) : scanG a (c :: r) = (if c = 32 then [] else [(keyW ((c :: r).take (endL (c :: r))), a)]) ++ scanG (a + endL (c :: r)) ((c :: r).drop (endL (c :: r))) := by
  have hp := endL_pos c r
  have e : scanF r.length (a + endL (c :: r)) ((c :: r).drop (endL (c :: r))) = scanG (a + endL (c :: r)) ((c :: r).drop (endL (c :: r))) :=
    scanF_fuel _ _ _ _ (by rw [List.length_drop, List.length_cons]; omega) (Nat.le_refl _)
  show scanF (r.length + 1) a (c :: r) = _
  rw [scanF, e]
  split <;> rfl
theorem cut_nat (z : Str) (a b : Nat) (h : a ≤ z.length) : cutS z (some (a : Int)) (some (b : Int)) = S (((cod z).drop a).take (b - a)) := by
  unfold cutS
  rw [HT.sIx_nat, HT.sIx_nat, Nat.min_eq_left h]
  have hl : (cod z).length = z.length := by simp [Str.length]
  by_cases hb : b ≤ z.length
  · rw [Nat.min_eq_left hb]
  · rw [Nat.min_eq_right (by omega), List.take_of_length_le (i := z.length - a) (by rw [List.length_drop, hl]; omega), List.take_of_length_le (i := b - a) (by rw [List.length_drop, hl]; omega)]
/-! the other machine's table, row by row -/
def tabL : List (Sy × Sy × List Sy) := [(.G, .not_, [.not_, .G]), (.G, .lb, [.lb, .C, .rb]), (.G, .integer, [.E, .K]), (.G, .name, [.E, .K]), (.G, .minus, [.E, .K]), (.G, .lp, [.E, .K]),
  (.K, .eq, [.eq, .E]), (.K, .ne, [.ne, .E]), (.K, .lt, [.lt, .E]), (.K, .le, [.le, .E]), (.K, .gt, [.gt, .E]), (.K, .ge, [.ge, .E]),
  (.Es, .plus, [.plus, .T, .Es]), (.Es, .minus, [.minus, .T, .Es]), (.Fs, .star, [.star, .F, .Fs]), (.Fs, .slash, [.slash, .F, .Fs]), (.Fs, .mod_, [.mod_, .F, .Fs]),
  (.F, .integer, [.integer]), (.F, .name, [.name]), (.F, .minus, [.minus, .F]), (.F, .lp, [.lp, .E, .rp]), (.Cs, .or_, [.or_, .J, .Cs]), (.Js, .and_, [.and_, .G, .Js])]
def alwL : List (Sy × List Sy) := [(.C, [.J, .Cs]), (.J, [.G, .Js]), (.E, [.T, .Es]), (.T, [.F, .Fs])]
def tabOf (t k : Sy) : Option (List Sy) := (tabL.find? fun r => decide (r.1 = t ∧ r.2.1 = k)).map (·.2.2)
def alwOf (t : Sy) : Option (List Sy) := (alwL.find? fun r => decide (r.1 = t)).map (·.2)
theorem more_tab (t k : Sy) : more t k = (tabOf t k).getD ((alwOf t).getD []) := by
  have h : ∀ t ∈ Sy.all, ∀ k ∈ Sy.all, more t k = (tabOf t k).getD ((alwOf t).getD []) := by decide +kernel
  exact h t t.mem_all k k.mem_all
/-- rows and where their lists stand -/
inductive TabAt (H : Hp) : List (Sy × Sy × List Sy) → List Addr → Prop where
  | nil : TabAt H [] []
  | cons {t k : Sy} {l : List Sy} {rs : List (Sy × Sy × List Sy)} {a : Addr} {as : List Addr} : H a = some (.lst ((l.map Sy.str).map V.str)) → TabAt H rs as → TabAt H ((t, k, l) :: rs) (a :: as)
def tKey (t k : Sy) : List Key := [Sum.inr t.str, Sum.inr k.str]
def tabK (rs : List (Sy × Sy × List Sy)) (as : List Addr) : List (List Key × V) := List.zipWith (fun r a => (tKey r.1 r.2.1, V.ref a)) rs as
theorem tKey_inj {t k t' k' : Sy} (h : tKey t k = tKey t' k') : t = t' ∧ k = k' := by
  unfold tKey at h
  injection h with h1 h2
  injection h2 with h2
  injection h1 with h1
  injection h2 with h2
  exact ⟨Sy.str_inj h1, Sy.str_inj h2⟩
theorem TabAt.keep {H H' : Hp} (k : ∀ a xs, H a = some (.lst xs) → a ∉ ([] : List Addr) → H' a = some (.lst xs)) {rs : List (Sy × Sy × List Sy)} {as : List Addr} (h : TabAt H rs as) : TabAt H' rs as := by
  induction h with
  | nil => exact .nil
  | cons h1 _ ih => exact .cons (k _ _ h1 (by simp)) ih
theorem TabAt.same {H H' : Hp} (e : Same H H') {rs : List (Sy × Sy × List Sy)} {as : List Addr} (h : TabAt H rs as) : TabAt H' rs as := h.keep fun a xs h _ => e a _ h
theorem TabAt.snoc {H : Hp} {t k : Sy} {l : List Sy} {a : Addr} (ha : H a = some (.lst ((l.map Sy.str).map V.str))) {rs : List (Sy × Sy × List Sy)} {as : List Addr} (h : TabAt H rs as) : TabAt H (rs ++ [(t, k, l)]) (as ++ [a]) := by
  induction h with
  | nil => exact .cons ha .nil
  | cons h1 _ ih => exact .cons h1 ih
theorem TabAt.len {H : Hp} {rs : List (Sy × Sy × List Sy)} {as : List Addr} (h : TabAt H rs as) : rs.length = as.length := by
  induction h with
  | nil => rfl
  | cons _ _ ih => simp [ih]
theorem tabK_snoc {t k : Sy} {l : List Sy} {a : Addr} : ∀ {rs : List (Sy × Sy × List Sy)} {as : List Addr}, rs.length = as.length → tabK (rs ++ [(t, k, l)]) (as ++ [a]) = tabK rs as ++ [(tKey t k, .ref a)]
  | [], [], _ => rfl
  | r :: rs, b :: as, h => by
    have := tabK_snoc (t := t) (k := k) (l := l) (a := a) (rs := rs) (as := as) (by simpa using h)
    unfold tabK at this ⊢
    simp only [List.cons_append, List.zipWith_cons_cons, this]
  | [], _ :: _, h => by simp at h
  | _ :: _, [], h => by simp at h
theorem tabK_val {H : Hp} {t k : Sy} {rs : List (Sy × Sy × List Sy)} {as : List Addr} (h : TabAt H rs as) :
    match (rs.find? fun r => decide (r.1 = t ∧ r.2.1 = k)).map (·.2.2) with
    | some l => ∃ a, valV (tabK rs as) (tKey t k) = some (.ref a) ∧ H a = some (.lst ((l.map Sy.str).map V.str))
    | none => valV (tabK rs as) (tKey t k) = none := by
  induction h with
  | nil => rfl
  | @cons t' k' l rs a as h1 h2 ih =>
    by_cases e : t' = t ∧ k' = k
    · obtain ⟨rfl, rfl⟩ := e
      rw [List.find?_cons, decide_eq_true (by exact ⟨rfl, rfl⟩)]
      refine ⟨a, ?_, h1⟩
      unfold valV tabK
      rw [List.zipWith_cons_cons, List.find?_cons, decide_eq_true (by rfl)]
      rfl
    · rw [List.find?_cons, decide_eq_false (by exact e)]
      have ev : valV (tabK ((t', k', l) :: rs) (a :: as)) (tKey t k) = valV (tabK rs as) (tKey t k) := by
        unfold valV tabK
        rw [List.zipWith_cons_cons, List.find?_cons, decide_eq_false (fun z => e (tKey_inj z))]
      rw [ev]
      exact ih
theorem tabK_keys : ∀ {rs : List (Sy × Sy × List Sy)} {as : List Addr}, rs.length = as.length → (tabK rs as).map (·.1) = rs.map fun r => tKey r.1 r.2.1
  | [], [], _ => rfl
  | r :: rs, b :: as, h => by
    have := tabK_keys (rs := rs) (as := as) (by simpa using h)
    unfold tabK at this ⊢
    simp only [List.zipWith_cons_cons, List.map_cons, this]
  | [], _ :: _, h => by simp at h
  | _ :: _, [], h => by simp at h
theorem putK_newT {kvs : List (List Key × V)} {k : List Key} {v : V} (h : k ∉ kvs.map (·.1)) : putK kvs k v = kvs ++ [(k, v)] := by
  unfold putK
  rw [if_neg]
  intro z
  simp only [List.any_eq_true, decide_eq_true_eq] at z
  obtain ⟨x, hx, e⟩ := z
  exact h (e ▸ List.mem_map_of_mem hx)
end Rx

set_option Elab.async false
set_option linter.all false
set_option maxRecDepth 100000
set_option maxHeartbeats 4000000
namespace Rx
open PySem PySem.Spec PyProof.Rows L2 SX
/-- the machine comes to an end at every key -/
def runsL : List Sy → List (Sy × Nat) → Prop
  | _, [] => True
  | pl, (k, _) :: ks => downL 12 pl k ≠ .out ∧ ∀ t q, downL 12 pl k = .at_ (t :: q) → runsL q ks
theorem stops_runs {ts : List (Str × V × Nat)} {ks : List (Sy × Nat)} (h : Keys ts ks) : ∀ {g : Stg} {m n : Nat} {r : RS} {pl : List Sy}, Sound g m n r → Like (specP g r.cond r.cmp m n) pl → runsL pl ks := by
  have out : ∀ {l : List Sy} {x : List Sy} {k : Sy}, downL 8 l k = .at_ x → downL 8 l k ≠ .out := fun e z => by rw [e] at z; cases z
  have outb : ∀ {l : List Sy} {k : Sy}, downL 8 l k = .bad → downL 8 l k ≠ .out := fun e z => by rw [e] at z; cases z
  induction h with
  | @end_ v p =>
    intro g m n r pl S L
    have hk : Sy.end_ ∈ Sy.terms := by decide
    refine ⟨?_, fun t q _ => trivial⟩
    cases hf : r.fits "end" with
    | true =>
      rcases fit_goes S hk hf v with ⟨z, _⟩ | ⟨_, q, d, h1, h2, h3, h4⟩
      · exact absurd rfl z
      · rw [L _ hk (out h4), h4]
        intro z; cases z
    | false =>
      rcases no_fit hk ((S.fits hk).symm.trans hf) with e | ⟨e, _⟩
      · rw [L _ hk (outb e), e]
        intro z; cases z
      · rw [L _ hk (out e), e]
        intro z; cases z
  | @cons k v p ts ks hk hne _ ih =>
    intro g m n r pl S L
    cases hf : r.fits k.sign with
    | true =>
      rcases fit_goes S hk hf v with ⟨_, q, hq, g', m', n', pl', S', e, L'⟩ | ⟨z, _⟩
      · refine ⟨(by rw [L _ hk (out e), e]; intro z; cases z), fun t x hx => ?_⟩
        rw [L _ hk (out e), e] at hx
        injection hx with hx
        injection hx with _ hx
        subst hx
        exact ih S' L'
      · exact absurd z hne
    | false =>
      rcases no_fit hk ((S.fits hk).symm.trans hf) with e | ⟨e, _⟩
      · rw [runsL, L _ hk (outb e), e]
        exact ⟨(fun z => by cases z), fun t q z => by cases z⟩
      · rw [runsL, L _ hk (out e), e]
        exact ⟨(fun z => by cases z), fun t q z => by cases z⟩
theorem runs_start {ts : List (Str × V × Nat)} {ks : List (Sy × Nat)} (h : Keys ts ks) (c : Bool) : runsL [if c = true then .C else .E] ks := by
  cases c with
  | true => exact stops_runs h (r := RS.start true) (g := .cond) (m := 0) (n := 0) ⟨rfl, rfl, rfl, rfl, (fun _ z => by cases z), (fun _ z => by cases z), (fun z => by cases z), (fun _ => ⟨rfl, rfl⟩), fun _ => rfl⟩ (like_C [])
  | false => exact stops_runs h (r := RS.start false) (g := .fac) (m := 0) (n := 0) ⟨rfl, rfl, rfl, rfl, (fun _ z => by cases z), (fun _ z => by cases z), (fun _ => ⟨rfl, .inl rfl⟩), (fun z => by cases z), fun _ => rfl⟩ (like_E [])
theorem Keys.terms {ts : List (Str × V × Nat)} {ks : List (Sy × Nat)} (h : Keys ts ks) : ∀ x ∈ ks, x.1 ∈ Sy.terms := by
  induction h with
  | end_ =>
    intro x hx
    rw [List.mem_singleton.mp hx]
    show Sy.end_ ∈ Sy.terms
    decide
  | cons hk _ _ ih =>
    intro x hx
    rcases List.mem_cons.mp hx with e | hx
    · rw [e]; exact hk
    · exact ih x hx
theorem more_len (t k : Sy) : (more t k).length ≤ 3 := by
  have h : ∀ t ∈ Sy.all, ∀ k ∈ Sy.all, (more t k).length ≤ 3 := by decide +kernel
  exact h t t.mem_all k k.mem_all
theorem sy_ok (k : Sy) : PyData.strOk k.str = true := by
  have h : ∀ k ∈ Sy.all, PyData.strOk k.str = true := by decide +kernel
  exact h k k.mem_all
def nulS : List Str := ["Cs", "Js", "Es", "Fs"]
theorem nul_in (t : Sy) : nulS.contains t.str = nul t := by
  have h : ∀ k ∈ Sy.all, nulS.contains k.str = nul k := by decide +kernel
  exact h t t.mem_all
/-- the pile as a list, its top last -/
def pileV (pl : List Sy) : List V := ((pl.map Sy.str).reverse).map V.str
theorem pileV_cons (t : Sy) (pl : List Sy) : pileV (t :: pl) = pileV pl ++ [.str t.str] := by unfold pileV; simp
theorem pileV_app (l pl : List Sy) : pileV (l ++ pl) = pileV pl ++ ((l.map Sy.str).map V.str).reverse := by unfold pileV; simp
theorem pileV_len (pl : List Sy) : (pileV pl).length = pl.length := by unfold pileV; simp
def alwK (a1 a2 a3 a4 : Addr) : List (Key × V) := [(Sum.inr "C", .ref a1), (Sum.inr "J", .ref a2), (Sum.inr "E", .ref a3), (Sum.inr "T", .ref a4)]
def symL (H : Hp) (a : Addr) (l : List Sy) : Prop := H a = some (.lst ((l.map Sy.str).map V.str))
structure AlwAt (H : Hp) (d a1 a2 a3 a4 : Addr) : Prop where
  at_ : H d = some (.dK (alwK a1 a2 a3 a4))
  h1 : symL H a1 [.J, .Cs]
  h2 : symL H a2 [.G, .Js]
  h3 : symL H a3 [.T, .Es]
  h4 : symL H a4 [.F, .Fs]
theorem AlwAt.same {H H' : Hp} {d a1 a2 a3 a4 : Addr} (h : AlwAt H d a1 a2 a3 a4) (e : Same H H') : AlwAt H' d a1 a2 a3 a4 := ⟨e _ _ h.at_, e _ _ h.h1, e _ _ h.h2, e _ _ h.h3, e _ _ h.h4⟩
theorem alw_val {H : Hp} {d a1 a2 a3 a4 : Addr} (h : AlwAt H d a1 a2 a3 a4) (t : Sy) : match alwOf t with
    | some l => ∃ a, valV (alwK a1 a2 a3 a4) (Sum.inr t.str) = some (.ref a) ∧ symL H a l
    | none => valV (alwK a1 a2 a3 a4) (Sum.inr t.str) = none := by
  have hc : ∀ t ∈ Sy.all, (t.str = Sy.C.str ↔ t = .C) ∧ (t.str = Sy.J.str ↔ t = .J) ∧ (t.str = Sy.E.str ↔ t = .E) ∧ (t.str = Sy.T.str ↔ t = .T) := fun t _ =>
    ⟨⟨Sy.str_inj, fun e => by rw [e]⟩, ⟨Sy.str_inj, fun e => by rw [e]⟩, ⟨Sy.str_inj, fun e => by rw [e]⟩, ⟨Sy.str_inj, fun e => by rw [e]⟩⟩
  have step : ∀ (s : Sy) (v : V) (kvs : List (Key × V)), valV ((Sum.inr s.str, v) :: kvs) (Sum.inr t.str) = if s = t then some v else valV kvs (Sum.inr t.str) := fun s v kvs => by
    unfold valV
    rw [List.find?_cons]
    by_cases e : s = t
    · subst e
      rw [decide_eq_true (by rfl), if_pos rfl]
      rfl
    · rw [decide_eq_false (fun z => e (by injection z with z; exact Sy.str_inj z)), if_neg e]
  have e1 : valV (alwK a1 a2 a3 a4) (Sum.inr t.str) = if Sy.C = t then some (.ref a1) else if Sy.J = t then some (.ref a2) else if Sy.E = t then some (.ref a3) else if Sy.T = t then some (.ref a4) else none := by
    have := step .C (.ref a1) [(Sum.inr Sy.J.str, .ref a2), (Sum.inr Sy.E.str, .ref a3), (Sum.inr Sy.T.str, .ref a4)]
    rw [step .J, step .E, step .T] at this
    exact this
  cases t <;> simp only [alwOf, alwL, List.find?] <;> simp [e1] <;> first | exact h.h1 | exact h.h2 | exact h.h3 | exact h.h4
/-- what the table and the other dict give -/
theorem more_at {H : Hp} {d a1 a2 a3 a4 e : Addr} {as : List Addr} (T : TabAt H tabL as) (A : AlwAt H d a1 a2 a3 a4) (he : H e = some (.lst [])) (t k : Sy) :
    ∃ x, (valV (tabK tabL as) (tKey t k)).getD ((valV (alwK a1 a2 a3 a4) (Sum.inr t.str)).getD (.ref e)) = .ref x ∧ symL H x (more t k) := by
  have h1 := tabK_val (t := t) (k := k) T
  have h2 := alw_val A t
  rw [more_tab]
  unfold tabOf
  cases e1 : (tabL.find? fun r => decide (r.1 = t ∧ r.2.1 = k)).map (·.2.2) with
  | some l =>
    rw [e1] at h1
    obtain ⟨a, h3, h4⟩ := h1
    exact ⟨a, by rw [h3]; rfl, h4⟩
  | none =>
    rw [e1] at h1
    rw [h1]
    cases e2 : alwOf t with
    | some l =>
      rw [e2] at h2
      obtain ⟨a, h3, h4⟩ := h2
      exact ⟨a, by rw [h3]; rfl, h4⟩
    | none =>
      rw [e2] at h2
      rw [h2]
      exact ⟨e, rfl, he⟩
end Rx

set_option Elab.async false
set_option linter.all false
set_option maxRecDepth 100000
set_option maxHeartbeats 4000000
namespace Rx
open PySem PySem.Spec PyProof.Rows L2 SX
/-! ### the keys of a laid out text -/
theorem cls_key {s : Str} (h : GoodT s) : (cls s).1 = (keyW (cod s)).sign := by
  obtain ⟨h1, c, r, e, _⟩ := tok_app h (rest := []) (fun c h => by cases h)
  rw [List.append_nil] at h1
  obtain ⟨v, h2⟩ := tok_key (c := c) (r := r)
  rw [← e] at h2
  rw [h1] at h2
  have h3 := congrArg (fun x => x.2.2) h2
  have h4 := congrArg (fun x => x.1) h2
  dsimp only at h3 h4
  rw [h4, ← h3, List.take_of_length_le (by rw [cod_len]; exact Nat.le_refl _)]
def keysOf : Nat → List (Nat × Str) → List (Sy × Nat)
  | _, [] => []
  | a, (k, s) :: ps => (keyW (cod s), a + k) :: keysOf (a + k + s.length) ps
theorem keys_lay : ∀ (ps : List (Nat × Str)) (a t : Nat), LayI ps → Keys (toksG a (flat ps ++ sp t)) (keysOf a ps ++ [(.end_, a + (flat ps).length + t)])
  | [], a, t, _ => by
    have := toksG_sp t a []
    rw [List.append_nil] at this
    show Keys (toksG a (sp t)) _
    rw [this]
    have e : a + (flat []).length + t = a + t := by simp [flat]
    rw [e]
    exact .end_
  | (k, s) :: ps, a, t, h => by
    have e : flat ((k, s) :: ps) ++ sp t = sp k ++ (cod s ++ (flat ps ++ sp t)) := by
      unfold flat sp
      rw [List.flatMap_cons, List.append_assoc, List.append_assoc]
    have el : (flat ((k, s) :: ps)).length = k + s.length + (flat ps).length := by
      have : flat ((k, s) :: ps) = (sp k ++ cod s) ++ flat ps := by unfold flat sp; rw [List.flatMap_cons]
      rw [this, List.length_append, List.length_append, cod_len]
      unfold sp
      rw [List.length_replicate]
    rw [e, toksG_sp, toksG_tok (h.good _ List.mem_cons_self) (head_glue h t), keysOf, List.cons_append, cls_key (h.good _ List.mem_cons_self), el, show a + (k + s.length + (flat ps).length) + t = a + k + s.length + (flat ps).length + t by omega]
    have kt := keyW_term (cod s)
    exact .cons kt.1 kt.2 (keys_lay ps _ t h.tail)
theorem keysOf_zip : ∀ (ps : List (Nat × Str)) (a : Nat), keysOf a ps = ((ps.map (·.2)).map fun s => keyW (cod s)).zip (begs a ps)
  | [], _ => rfl
  | (k, s) :: ps, a => by
    rw [keysOf, keysOf_zip ps, List.map_cons, List.map_cons, begs, List.zip_cons_cons]
theorem keys_text {ps : List (Nat × Str)} (h : LayI ps) (a t : Nat) {z : Str} (hz : cod z = sp a ++ (flat ps ++ sp t)) : Keys (toks (cod z)) (((ps.map (·.2)).map fun s => keyW (cod s)).zip (begs a ps) ++ [(.end_, z.length)]) := by
  have h1 := toksG_sp a 0 (flat ps ++ sp t)
  have hl : z.length = 0 + a + (flat ps).length + t := by
    rw [← cod_len, hz]
    simp [sp]
    omega
  rw [hz, ← keysOf_zip, hl]
  show Keys (toksG 0 _) _
  rw [h1]
  have := keys_lay ps (0 + a) t h
  rw [Nat.zero_add] at this ⊢
  exact this
theorem begs_len : ∀ (ps : List (Nat × Str)) (a : Nat), (begs a ps).length = ps.length
  | [], _ => rfl
  | (k, s) :: ps, a => by rw [begs, List.length_cons, List.length_cons, begs_len ps]
end Rx

set_option Elab.async false
set_option linter.all false
set_option maxRecDepth 100000
set_option maxHeartbeats 4000000
namespace Rx
open PySem PySem.Spec PyProof.Rows L2 SX
/-! ### trees, and their texts -/
inductive Tr where
  | num (n : Int) | var (x : Str) | pre (w : Str) (a : Tr) | bin (w : Str) (a b : Tr)
def Tr.word : Tr → Str
  | .num _ => "number" | .var _ => "variable" | .pre w _ => w | .bin w _ _ => w
def Tr.bnd (t : Tr) : Int := bindOf t.word
def Tr.data : Tr → PyData
  | .num n => nNum n | .var x => nVar x | .pre w a => .tuple [.str w, a.data] | .bin w a b => nBin w a.data b.data
def encl (b l : Int) (x : List Nat) : List Nat := if l ≤ b then x else if b < 5 then 91 :: (x ++ [93]) else 40 :: (x ++ [41])
def preC (w : Str) : List Nat := if w = "negate" then [45] else [110, 111, 116, 32]
def Tr.txt : Tr → List Nat
  | .num n => cod (numS n)
  | .var x => cod x
  | .pre w a => preC w ++ encl a.bnd (bindOf w) a.txt
  | .bin w a b => encl a.bnd (bindOf w) a.txt ++ ((32 :: cod w ++ [32]) ++ encl b.bnd (bindOf w + 1) b.txt)
inductive Ty : Bool → Nat → Tr → Prop where
  | num {k : Nat} {n : Int} (h : n ∈ numL) : Ty false k (.num n)
  | var {k : Nat} {x : Str} (h : isName (cod x) = true) : Ty false k (.var x)
  | neg {k : Nat} {a : Tr} : Ty false k a → Ty false (k + 1) (.pre "negate" a)
  | bin {k : Nat} {w : Str} {a b : Tr} : w ∈ arithL → Ty false k a → Ty false k b → Ty false (k + 1) (.bin w a b)
  | cmp {k : Nat} {w : Str} {a b : Tr} : w ∈ compL → Ty false k a → Ty false k b → Ty true (k + 1) (.bin w a b)
  | not_ {k : Nat} {a : Tr} : Ty true k a → Ty true (k + 1) (.pre "not" a)
  | log {k : Nat} {w : Str} {a b : Tr} : w ∈ logL → Ty true k a → Ty true k b → Ty true (k + 1) (.bin w a b)
theorem TR.tr {b : Bool} {n : Nat} {d : PyData} (h : TR b n d) : ∃ t, d = t.data ∧ Ty b n t := by
  induction h with
  | @num k n h => exact ⟨.num n, rfl, .num h⟩
  | @var k x h => exact ⟨.var x, rfl, .var h⟩
  | neg _ ih => obtain ⟨t, rfl, h⟩ := ih; exact ⟨.pre "negate" t, rfl, .neg h⟩
  | @bin k w _ _ hw _ _ i1 i2 => obtain ⟨t, rfl, h⟩ := i1; obtain ⟨u, rfl, g⟩ := i2; exact ⟨.bin w t u, rfl, .bin hw h g⟩
  | @cmp k w _ _ hw _ _ i1 i2 => obtain ⟨t, rfl, h⟩ := i1; obtain ⟨u, rfl, g⟩ := i2; exact ⟨.bin w t u, rfl, .cmp hw h g⟩
  | not_ _ ih => obtain ⟨t, rfl, h⟩ := ih; exact ⟨.pre "not" t, rfl, .not_ h⟩
  | @log k w _ _ hw _ _ i1 i2 => obtain ⟨t, rfl, h⟩ := i1; obtain ⟨u, rfl, g⟩ := i2; exact ⟨.bin w t u, rfl, .log hw h g⟩
theorem Ty.tr {b : Bool} {n : Nat} {t : Tr} (h : Ty b n t) : TR b n t.data := by
  induction h with
  | num h => exact .num h
  | var h => exact .var h
  | neg _ ih => exact .neg ih
  | bin hw _ _ i1 i2 => exact .bin hw i1 i2
  | cmp hw _ _ i1 i2 => exact .cmp hw i1 i2
  | not_ _ ih => exact .not_ ih
  | log hw _ _ i1 i2 => exact .log hw i1 i2
/-! the other writing -/
def Tr.rk (t : Tr) : Nat := Rx.rk t.word
def barL (w : Str) : Nat := if logL.contains w = true then 91 else 40
def barR (w : Str) : Nat := if logL.contains w = true then 93 else 41
def wrap (w : Str) (l : Nat) (x : List Nat) : List Nat := if Rx.rk w < l then barL w :: (x ++ [barR w]) else x
def Tr.can : Tr → Nat → List Nat
  | .num n, l => wrap "number" l (cod (numS n))
  | .var x, l => wrap "variable" l (cod x)
  | .pre w a, l => wrap w l (preC w ++ a.can 3)
  | .bin w a b, l => wrap w l (if compL.contains w = true then a.can 1 ++ ((32 :: cod w ++ [32]) ++ b.can 1) else a.can (Rx.rk w) ++ ((32 :: cod w ++ [32]) ++ b.can (Rx.rk w + 1)))
def lv (b : Bool) (l : Nat) : Int := if b = true then (l : Int) else (l : Int) + 4
theorem wordsF : bindOf "number" = 8 ∧ bindOf "variable" = 8 ∧ bindOf "negate" = 7 ∧ bindOf "not" = 3 ∧ Rx.rk "number" = 3 ∧ Rx.rk "variable" = 3 ∧ Rx.rk "negate" = 3 ∧ Rx.rk "not" = 3 := by decide +kernel
theorem arithF : ∀ w ∈ arithL, bindOf w = (Rx.rk w : Int) + 4 ∧ 1 ≤ Rx.rk w ∧ Rx.rk w ≤ 2 ∧ logL.contains w = false ∧ compL.contains w = false := by decide +kernel
theorem compF : ∀ w ∈ compL, bindOf w = 4 ∧ Rx.rk w = 3 ∧ logL.contains w = false := by decide +kernel
theorem logF : ∀ w ∈ logL, bindOf w = (Rx.rk w : Int) ∧ 1 ≤ Rx.rk w ∧ Rx.rk w ≤ 2 ∧ compL.contains w = false := by decide +kernel
theorem Ty.bnd {b : Bool} {n : Nat} {t : Tr} (h : Ty b n t) : (b = false → 5 ≤ t.bnd) ∧ (b = true → 1 ≤ t.bnd ∧ t.bnd < 5) := by
  obtain ⟨w1, w2, w3, w4, _⟩ := wordsF
  cases h with
  | num _ => exact ⟨(fun _ => by show 5 ≤ bindOf "number"; rw [w1]; decide), fun z => by cases z⟩
  | var _ => exact ⟨(fun _ => by show 5 ≤ bindOf "variable"; rw [w2]; decide), fun z => by cases z⟩
  | neg _ => exact ⟨(fun _ => by show 5 ≤ bindOf "negate"; rw [w3]; decide), fun z => by cases z⟩
  | @bin k w _ _ hw _ _ => obtain ⟨a1, a2, _⟩ := arithF w hw; exact ⟨(fun _ => by show 5 ≤ bindOf w; omega), fun z => by cases z⟩
  | @cmp k w _ _ hw _ _ => obtain ⟨a1, _⟩ := compF w hw; exact ⟨(fun z => by cases z), fun _ => by show 1 ≤ bindOf w ∧ bindOf w < 5; omega⟩
  | not_ _ => exact ⟨(fun z => by cases z), fun _ => by show 1 ≤ bindOf "not" ∧ bindOf "not" < 5; rw [w4]; decide⟩
  | @log k w _ _ hw _ _ => obtain ⟨a1, a2, a3, _⟩ := logF w hw; exact ⟨(fun z => by cases z), fun _ => by show 1 ≤ bindOf w ∧ bindOf w < 5; omega⟩
/-- both are the same -/
theorem can_eq {b : Bool} {n : Nat} {t : Tr} (h : Ty b n t) : ∀ l, 1 ≤ l → l ≤ 3 → t.can l = encl t.bnd (lv b l) t.txt := by
  obtain ⟨w1, w2, w3, w4, v1, v2, v3, v4⟩ := wordsF
  have noE : ∀ {bb l : Int} {x : List Nat}, l ≤ bb → encl bb l x = x := fun h => by unfold encl; rw [if_pos h]
  induction h with
  | @num k n h =>
    intro l h1 h3
    rw [noE (by show lv false l ≤ bindOf "number"; rw [w1]; unfold lv; simp; omega)]
    show wrap _ _ _ = _
    unfold wrap
    rw [if_neg (by omega)]
    rfl
  | @var k x h =>
    intro l h1 h3
    rw [noE (by show lv false l ≤ bindOf "variable"; rw [w2]; unfold lv; simp; omega)]
    show wrap _ _ _ = _
    unfold wrap
    rw [if_neg (by omega)]
    rfl
  | @neg k a ha ih =>
    intro l h1 h3
    rw [noE (by show lv false l ≤ bindOf "negate"; rw [w3]; unfold lv; simp; omega)]
    show wrap _ _ _ = preC "negate" ++ encl a.bnd (bindOf "negate") a.txt
    unfold wrap
    rw [if_neg (by omega), ih 3 (by decide) (by decide), w3]
    rfl
  | @bin k w a b hw ha hb i1 i2 =>
    intro l h1 h3
    obtain ⟨a1, a2, a3, a4, a5⟩ := arithF w hw
    have body : (if compL.contains w = true then a.can 1 ++ ((32 :: cod w ++ [32]) ++ b.can 1) else a.can (Rx.rk w) ++ ((32 :: cod w ++ [32]) ++ b.can (Rx.rk w + 1))) = (Tr.bin w a b).txt := by
      rw [a5, if_neg (by decide), i1 _ a2 (by omega), i2 _ (by omega) (by omega)]
      show _ = encl a.bnd (bindOf w) a.txt ++ ((32 :: cod w ++ [32]) ++ encl b.bnd (bindOf w + 1) b.txt)
      rw [a1, show lv false (Rx.rk w) = (Rx.rk w : Int) + 4 from rfl, show lv false (Rx.rk w + 1) = ((Rx.rk w + 1 : Nat) : Int) + 4 from rfl, show (((Rx.rk w + 1 : Nat) : Int) + 4) = (Rx.rk w : Int) + 4 + 1 by omega]
    show wrap w l _ = encl (bindOf w) (lv false l) _
    rw [body]
    unfold wrap encl
    rw [a1, show lv false l = (l : Int) + 4 from rfl]
    by_cases hl : Rx.rk w < l
    · rw [if_pos hl, if_neg (by omega), if_neg (by omega)]
      unfold barL barR
      rw [a4]
      rfl
    · rw [if_neg hl, if_pos (by omega)]
  | @cmp k w a b hw ha hb i1 i2 =>
    intro l h1 h3
    obtain ⟨a1, a2, a3⟩ := compF w hw
    have body : (if compL.contains w = true then a.can 1 ++ ((32 :: cod w ++ [32]) ++ b.can 1) else a.can (Rx.rk w) ++ ((32 :: cod w ++ [32]) ++ b.can (Rx.rk w + 1))) = (Tr.bin w a b).txt := by
      rw [List.contains_iff_mem.mpr hw, if_pos rfl, i1 1 (by decide) (by decide), i2 1 (by decide) (by decide)]
      show _ = encl a.bnd (bindOf w) a.txt ++ ((32 :: cod w ++ [32]) ++ encl b.bnd (bindOf w + 1) b.txt)
      have ba := ha.bnd.1 rfl
      have bb := hb.bnd.1 rfl
      rw [a1, noE (show lv false 1 ≤ a.bnd from ba), noE (show lv false 1 ≤ b.bnd from bb), noE (show (4 : Int) ≤ a.bnd by omega), noE (show (4 : Int) + 1 ≤ b.bnd by omega)]
    show wrap w l _ = encl (bindOf w) (lv true l) _
    rw [body]
    unfold wrap
    rw [if_neg (by omega), noE (by rw [a1]; show (l : Int) ≤ 4; omega)]
  | @not_ k a ha ih =>
    intro l h1 h3
    rw [noE (by show lv true l ≤ bindOf "not"; rw [w4]; show (l : Int) ≤ 3; omega)]
    show wrap _ _ _ = preC "not" ++ encl a.bnd (bindOf "not") a.txt
    unfold wrap
    rw [if_neg (by omega), ih 3 (by decide) (by decide), w4]
    rfl
  | @log k w a b hw ha hb i1 i2 =>
    intro l h1 h3
    obtain ⟨a1, a2, a3, a5⟩ := logF w hw
    have body : (if compL.contains w = true then a.can 1 ++ ((32 :: cod w ++ [32]) ++ b.can 1) else a.can (Rx.rk w) ++ ((32 :: cod w ++ [32]) ++ b.can (Rx.rk w + 1))) = (Tr.bin w a b).txt := by
      rw [a5, if_neg (by decide), i1 _ a2 (by omega), i2 _ (by omega) (by omega)]
      show _ = encl a.bnd (bindOf w) a.txt ++ ((32 :: cod w ++ [32]) ++ encl b.bnd (bindOf w + 1) b.txt)
      rw [a1, show lv true (Rx.rk w) = (Rx.rk w : Int) from rfl, show lv true (Rx.rk w + 1) = ((Rx.rk w + 1 : Nat) : Int) from rfl, show ((Rx.rk w + 1 : Nat) : Int) = (Rx.rk w : Int) + 1 by omega]
    show wrap w l _ = encl (bindOf w) (lv true l) _
    rw [body]
    unfold wrap encl
    rw [a1, show lv true l = (l : Int) from rfl]
    by_cases hl : Rx.rk w < l
    · rw [if_pos hl, if_neg (by omega), if_pos (by omega)]
      unfold barL barR
      rw [List.contains_iff_mem.mpr hw]
      rfl
    · rw [if_neg hl, if_pos (by omega)]
theorem can_one {b : Bool} {n : Nat} {t : Tr} (h : Ty b n t) : t.can 1 = t.txt := by
  rw [can_eq h 1 (by decide) (by decide)]
  unfold encl
  rw [if_pos]
  cases b with
  | false => exact h.bnd.1 rfl
  | true => exact (h.bnd.2 rfl).1
/-! the text, token by token -/
def layE (b l : Int) (k : Nat) (f : Nat → List (Nat × Str)) : List (Nat × Str) := if l ≤ b then f k else if b < 5 then (k, ("[" : Str)) :: (f 0 ++ [(0, ("]" : Str))]) else (k, ("(" : Str)) :: (f 0 ++ [(0, (")" : Str))])
def Tr.lay : Tr → Nat → List (Nat × Str)
  | .num n, k => [(k, numS n)]
  | .var x, k => [(k, x)]
  | .pre w a, k => if w = "negate" then (k, "-") :: layE a.bnd (bindOf w) 0 a.lay else (k, "not") :: layE a.bnd (bindOf w) 1 a.lay
  | .bin w a b, k => layE a.bnd (bindOf w) k a.lay ++ (1, w) :: layE b.bnd (bindOf w + 1) 1 b.lay
theorem flat_app (xs ys : List (Nat × Str)) : flat (xs ++ ys) = flat xs ++ flat ys := by unfold flat; rw [List.flatMap_append]
theorem flat_cons (k : Nat) (s : Str) (ys : List (Nat × Str)) : flat ((k, s) :: ys) = (sp k ++ cod s) ++ flat ys := by unfold flat sp; rw [List.flatMap_cons]
theorem flat_one (k : Nat) (s : Str) : flat [(k, s)] = sp k ++ cod s := by rw [flat_cons]; simp [flat]
theorem layE_flat {b l : Int} {k : Nat} {f : Nat → List (Nat × Str)} {x : List Nat} (h : ∀ k, flat (f k) = sp k ++ x) : flat (layE b l k f) = sp k ++ encl b l x := by
  have c1 : cod "[" = [91] := by decide +kernel
  have c2 : cod "]" = [93] := by decide +kernel
  have c3 : cod "(" = [40] := by decide +kernel
  have c4 : cod ")" = [41] := by decide +kernel
  unfold layE encl
  split
  · exact h k
  · split
    · rw [flat_cons, flat_app, h 0, flat_one, c1, c2]; simp [sp]
    · rw [flat_cons, flat_app, h 0, flat_one, c3, c4]; simp [sp]
theorem lay_flat : ∀ (t : Tr) (k : Nat), flat (t.lay k) = sp k ++ t.txt
  | .num n, k => flat_one _ _
  | .var x, k => flat_one _ _
  | .pre w a, k => by
    unfold Tr.lay Tr.txt preC
    have c1 : cod "-" = [45] := by decide +kernel
    have c2 : cod "not" = [110, 111, 116] := by decide +kernel
    split
    · rw [flat_cons, layE_flat (lay_flat a), c1]; simp [sp]
    · rw [flat_cons, layE_flat (lay_flat a), c2]; simp [sp]
  | .bin w a b, k => by
    unfold Tr.lay Tr.txt
    rw [flat_app, flat_cons, layE_flat (lay_flat a), layE_flat (lay_flat b)]
    simp [sp]
/-- what the tokens are the tokens of -/
theorem layE_toks {b : Bool} {n : Nat} {t : Tr} (h : Ty b n t) : (∀ l, 1 ≤ l → l ≤ 3 → lv b l ≤ t.bnd → ∀ k, TT b l t.data ((t.lay k).map (·.2))) ∧ ∀ l, 1 ≤ l → l ≤ 3 → ∀ k, TT b l t.data ((layE t.bnd (lv b l) k t.lay).map (·.2)) := by
  obtain ⟨w1, w2, w3, w4, _⟩ := wordsF
  have wr : ∀ {b : Bool} {n : Nat} {t : Tr}, Ty b n t → (∀ l, 1 ≤ l → l ≤ 3 → lv b l ≤ t.bnd → ∀ k, TT b l t.data ((t.lay k).map (·.2))) → ∀ l, 1 ≤ l → l ≤ 3 → ∀ k, TT b l t.data ((layE t.bnd (lv b l) k t.lay).map (·.2)) := by
    intro b n t h g l h1 h3 k
    unfold layE
    by_cases hl : lv b l ≤ t.bnd
    · rw [if_pos hl]; exact g l h1 h3 hl k
    · rw [if_neg hl]
      cases b with
      | true =>
        have hb := h.bnd.2 rfl
        rw [if_pos hb.2, List.map_cons, List.map_append]
        exact CT.br (g 1 (by decide) (by decide) hb.1 0)
      | false =>
        have hb := h.bnd.1 rfl
        rw [if_neg (by omega), List.map_cons, List.map_append]
        exact ET.par (g 1 (by decide) (by decide) hb 0)
  have fin : ∀ {b : Bool} {n : Nat} {t : Tr}, Ty b n t → (∀ l, 1 ≤ l → l ≤ 3 → lv b l ≤ t.bnd → ∀ k, TT b l t.data ((t.lay k).map (·.2))) → (∀ l, 1 ≤ l → l ≤ 3 → lv b l ≤ t.bnd → ∀ k, TT b l t.data ((t.lay k).map (·.2))) ∧ ∀ l, 1 ≤ l → l ≤ 3 → ∀ k, TT b l t.data ((layE t.bnd (lv b l) k t.lay).map (·.2)) := fun h g => ⟨g, wr h g⟩
  induction h with
  | @num k n h => exact fin (.num (k := k) h) fun l _ _ _ _ => ET.num h
  | @var k x h => exact fin (.var (k := k) h) fun l _ _ _ _ => ET.var h
  | @neg k a ha ih =>
    refine fin (.neg ha) fun l h1 h3 _ k => ?_
    have := ih.2 3 (by decide) (by decide) 0
    show ET l _ ((if ("negate" : Str) = "negate" then _ else _ : List (Nat × Str)).map (·.2))
    rw [if_pos rfl, w3, List.map_cons]
    exact ET.neg this
  | @bin k w a b hw ha hb i1 i2 =>
    refine fin (.bin hw ha hb) fun l h1 h3 hl k => ?_
    obtain ⟨a1, a2, a3, _⟩ := arithF w hw
    have hl' : (l : Int) + 4 ≤ bindOf w := hl
    have t1 := i1.2 (Rx.rk w) a2 (by omega) k
    have t2 := i2.2 (Rx.rk w + 1) (by omega) (by omega) 1
    rw [show lv false (Rx.rk w) = bindOf w from a1.symm] at t1
    rw [show lv false (Rx.rk w + 1) = bindOf w + 1 by unfold lv; simp; omega] at t2
    show ET l _ ((layE a.bnd (bindOf w) k a.lay ++ (1, w) :: layE b.bnd (bindOf w + 1) 1 b.lay).map (·.2))
    rw [List.map_append, List.map_cons]
    have cl : (w ∈ addL ∧ Rx.rk w = 1) ∨ (w ∈ mulL ∧ Rx.rk w = 2) := by
      have : ∀ w ∈ arithL, (w ∈ addL ∧ Rx.rk w = 1) ∨ (w ∈ mulL ∧ Rx.rk w = 2) := by decide +kernel
      exact this w hw
    rcases cl with ⟨c1, c2⟩ | ⟨c1, c2⟩
    · rw [c2] at t1 t2
      exact ET.add c1 (by omega) t1 t2
    · rw [c2] at t1 t2
      exact ET.mul c1 (by omega) t1 t2
  | @cmp k w a b hw ha hb i1 i2 =>
    refine fin (.cmp hw ha hb) fun l h1 h3 hl k => ?_
    obtain ⟨a1, a2, _⟩ := compF w hw
    have ba := ha.bnd.1 rfl
    have bb := hb.bnd.1 rfl
    have t1 := i1.1 1 (by decide) (by decide) ba k
    have t2 := i2.1 1 (by decide) (by decide) bb 1
    show CT l _ ((layE a.bnd (bindOf w) k a.lay ++ (1, w) :: layE b.bnd (bindOf w + 1) 1 b.lay).map (·.2))
    unfold layE
    rw [a1, if_pos (by omega), if_pos (by omega), List.map_append, List.map_cons]
    exact CT.cmp hw t1 t2
  | @not_ k a ha ih =>
    refine fin (.not_ ha) fun l h1 h3 _ k => ?_
    have := ih.2 3 (by decide) (by decide) 1
    show CT l _ ((if ("not" : Str) = "negate" then _ else _ : List (Nat × Str)).map (·.2))
    rw [if_neg (by decide +kernel), w4, List.map_cons]
    exact CT.not_ this
  | @log k w a b hw ha hb i1 i2 =>
    refine fin (.log hw ha hb) fun l h1 h3 hl k => ?_
    obtain ⟨a1, a2, a3, _⟩ := logF w hw
    have hl' : (l : Int) ≤ bindOf w := hl
    have t1 := i1.2 (Rx.rk w) a2 (by omega) k
    have t2 := i2.2 (Rx.rk w + 1) (by omega) (by omega) 1
    rw [show lv true (Rx.rk w) = bindOf w from a1.symm] at t1
    rw [show lv true (Rx.rk w + 1) = bindOf w + 1 by unfold lv; simp; omega] at t2
    show CT l _ ((layE a.bnd (bindOf w) k a.lay ++ (1, w) :: layE b.bnd (bindOf w + 1) 1 b.lay).map (·.2))
    rw [List.map_append, List.map_cons]
    have cl : (w = "or" ∧ Rx.rk w = 1) ∨ (w = "and" ∧ Rx.rk w = 2) := by
      have : ∀ w ∈ logL, (w = "or" ∧ Rx.rk w = 1) ∨ (w = "and" ∧ Rx.rk w = 2) := by decide +kernel
      exact this w hw
    rcases cl with ⟨c1, c2⟩ | ⟨c1, c2⟩
    · rw [c2] at t1 t2
      subst c1
      exact CT.or_ (by omega) t1 t2
    · rw [c2] at t1 t2
      subst c1
      exact CT.and_ (by omega) t1 t2
/-! no two tokens grow together -/
def openL : List Str := ["-", "(", "["]
def closeL : List Str := [")", "]"]
def Ch : Option Str → List (Nat × Str) → Prop
  | _, [] => True
  | p, (k, s) :: ps => (k = 0 → ∀ x, p = some x → x ∈ openL ∨ s ∈ closeL) ∧ Ch (some s) ps
theorem Ch.app {ys : List (Nat × Str)} (h : ∀ q, Ch q ys) : ∀ {xs : List (Nat × Str)} {p : Option Str}, Ch p xs → Ch p (xs ++ ys)
  | [], p, _ => h p
  | (k, s) :: xs, p, hx => ⟨hx.1, Ch.app h hx.2⟩
def Free (p : Option Str) (k : Nat) : Prop := k = 0 → ∀ x, p = some x → x ∈ openL
theorem layE_ch {b l : Int} {f : Nat → List (Nat × Str)} (h : ∀ p k, Free p k → Ch p (f k)) (p : Option Str) (k : Nat) (hp : Free p k) : Ch p (layE b l k f) := by
  unfold layE
  split
  · exact h p k hp
  · split
    · exact ⟨fun hk x e => .inl (hp hk x e), Ch.app (ys := [(0, ("]" : Str))]) (fun q => ⟨fun _ x _ => .inr (by decide +kernel), trivial⟩) (h _ 0 (fun _ x e => by injection e with e; rw [← e]; decide +kernel))⟩
    · exact ⟨fun hk x e => .inl (hp hk x e), Ch.app (ys := [(0, (")" : Str))]) (fun q => ⟨fun _ x _ => .inr (by decide +kernel), trivial⟩) (h _ 0 (fun _ x e => by injection e with e; rw [← e]; decide +kernel))⟩
theorem lay_ch : ∀ (t : Tr) (p : Option Str) (k : Nat), Free p k → Ch p (t.lay k)
  | .num n, p, k, h => ⟨fun hk x e => .inl (h hk x e), trivial⟩
  | .var x, p, k, h => ⟨fun hk x e => .inl (h hk x e), trivial⟩
  | .pre w a, p, k, h => by
    unfold Tr.lay
    split
    · exact ⟨fun hk x e => .inl (h hk x e), layE_ch (lay_ch a) _ 0 (fun _ x e => by injection e with e; rw [← e]; decide +kernel)⟩
    · exact ⟨fun hk x e => .inl (h hk x e), layE_ch (lay_ch a) _ 1 (fun z => by cases z)⟩
  | .bin w a b, p, k, h => by
    unfold Tr.lay
    exact Ch.app (ys := (1, w) :: layE b.bnd (bindOf w + 1) 1 b.lay) (fun q => ⟨(fun z => by cases z), layE_ch (lay_ch b) _ 1 (fun z => by cases z)⟩) (layE_ch (lay_ch a) p k h)
theorem glue_open : ∀ x ∈ openL, ∀ t : Str, glueS x t = false := by
  have h : ∀ x ∈ openL, (cod x).getLast?.any isLet = false ∧ (cod x).getLast?.any isDig = false ∧ (["<", ">", "!"] : List Str).contains x = false ∧ decide (x = ("/" : Str)) = false := by decide +kernel
  intro x hx t
  obtain ⟨a, b, c, d⟩ := h x hx
  unfold glueS
  cases (cod t).head? with
  | none => rfl
  | some e =>
    show glue x e = false
    unfold glue
    rw [a, b, c, d]
    rfl
theorem glue_close : ∀ t ∈ closeL, ∀ x : Str, glueS x t = false := by
  have h : ∀ t ∈ closeL, ∃ c, (cod t).head? = some c ∧ isLet c = false ∧ isDig c = false ∧ decide (c = 61) = false ∧ decide (c = 47) = false := by
    intro t ht
    simp only [closeL, List.mem_cons, List.not_mem_nil, or_false] at ht
    rcases ht with rfl | rfl
    · exact ⟨41, by decide +kernel, by decide, by decide, by decide, by decide⟩
    · exact ⟨93, by decide +kernel, by decide, by decide, by decide, by decide⟩
  intro t ht x
  obtain ⟨c, e, a, b, d, f⟩ := h t ht
  unfold glueS
  rw [e]
  show glue x c = false
  unfold glue
  rw [a, b, d, f]
  simp
theorem Ch.apart : ∀ {ps : List (Nat × Str)} {o : Option Str}, Ch o ps → ∀ (i : Nat) (p q : Nat × Str), ps[i]? = some p → ps[i + 1]? = some q → q.1 = 0 → glueS p.2 q.2 = false
  | [], _, _, _, _, _, h, _, _ => by simp at h
  | (k, s) :: ps, o, hc, 0, p, q, h1, h2, h3 => by
    simp at h1
    subst h1
    match ps, hc.2, h2 with
    | (k', s') :: ps', hc2, h2 =>
      simp at h2
      subst h2
      rcases hc2.1 h3 s rfl with h | h
      · exact glue_open s h s'
      · exact glue_close s' h s
    | [], _, h2 => simp at h2
  | (k, s) :: ps, o, hc, i + 1, p, q, h1, h2, h3 => by
    simp only [List.getElem?_cons_succ] at h1 h2
    exact Ch.apart hc.2 i p q h1 h2 h3
theorem lay_ok {b : Bool} {n : Nat} {t : Tr} (h : Ty b n t) : LayI (t.lay 0) := by
  refine ⟨fun p hp => ?_, (lay_ch t none 0 (fun _ x e => by cases e)).apart⟩
  have hb : lv b 1 ≤ t.bnd := by
    cases b with
    | false => exact h.bnd.1 rfl
    | true => exact (h.bnd.2 rfl).1
  exact (TT.tok ((layE_toks h).1 1 (by decide) (by decide) hb 0) p.2 (List.mem_map_of_mem hp)).1
/-- the canonical text is read as the tree -/
theorem txt_reads {b : Bool} {n : Nat} {t : Tr} (h : Ty b n t) : ∃ r, runR (RS.start b) (toks t.txt) = some r ∧ r.nodes = [t.data] := by
  have hb : lv b 1 ≤ t.bnd := by
    cases b with
    | false => exact h.bnd.1 rfl
    | true => exact (h.bnd.2 rfl).1
  have := parse_layT (lay_ok h) 0 0 ((layE_toks h).1 1 (by decide) (by decide) hb 0)
  rw [lay_flat] at this
  simpa [sp] using this
/-! how long -/
def txB : Nat → Nat
  | 0 => 40
  | n + 1 => 2 * txB n + 20
theorem txB_ge (n : Nat) : 40 ≤ txB n := by
  induction n with
  | zero => simp [txB]
  | succ n ih => simp only [txB]; omega
theorem encl_len (b l : Int) (x : List Nat) : (encl b l x).length ≤ x.length + 2 := by
  unfold encl
  split
  · omega
  · split <;> simp
theorem txt_len {b : Bool} {n : Nat} {t : Tr} (h : Ty b n t) : t.txt.length ≤ txB n := by
  have ws : ∀ w ∈ arithL ++ compL ++ logL, (cod w).length ≤ 3 := by decide +kernel
  induction h with
  | @num k n h =>
    have := txB_ge k
    have h2 := (num_good n h).2.2
    show (cod (numS n)).length ≤ _
    rw [cod_len]
    omega
  | @var k x h =>
    have := txB_ge k
    obtain ⟨_, _, h3, _⟩ := name_parts h
    show (cod x).length ≤ _
    omega
  | @neg k a _ ih =>
    have := encl_len a.bnd (bindOf "negate") a.txt
    have hp : (preC "negate").length ≤ 4 := by decide +kernel
    show (preC "negate" ++ encl a.bnd (bindOf "negate") a.txt).length ≤ _
    rw [List.length_append]
    simp only [txB]
    omega
  | @not_ k a _ ih =>
    have := encl_len a.bnd (bindOf "not") a.txt
    have hp : (preC "not").length ≤ 4 := by decide +kernel
    show (preC "not" ++ encl a.bnd (bindOf "not") a.txt).length ≤ _
    rw [List.length_append]
    simp only [txB]
    omega
  | @bin k w a b hw _ _ i1 i2 =>
    have e1 := encl_len a.bnd (bindOf w) a.txt
    have e2 := encl_len b.bnd (bindOf w + 1) b.txt
    have hp := ws w (by simp [hw])
    show (encl a.bnd (bindOf w) a.txt ++ ((32 :: cod w ++ [32]) ++ encl b.bnd (bindOf w + 1) b.txt)).length ≤ _
    simp only [List.length_append, List.length_cons, List.length_nil, txB]
    omega
  | @cmp k w a b hw _ _ i1 i2 =>
    have e1 := encl_len a.bnd (bindOf w) a.txt
    have e2 := encl_len b.bnd (bindOf w + 1) b.txt
    have hp := ws w (by simp [hw])
    show (encl a.bnd (bindOf w) a.txt ++ ((32 :: cod w ++ [32]) ++ encl b.bnd (bindOf w + 1) b.txt)).length ≤ _
    simp only [List.length_append, List.length_cons, List.length_nil, txB]
    omega
  | @log k w a b hw _ _ i1 i2 =>
    have e1 := encl_len a.bnd (bindOf w) a.txt
    have e2 := encl_len b.bnd (bindOf w + 1) b.txt
    have hp := ws w (by simp [hw])
    show (encl a.bnd (bindOf w) a.txt ++ ((32 :: cod w ++ [32]) ++ encl b.bnd (bindOf w + 1) b.txt)).length ≤ _
    simp only [List.length_append, List.length_cons, List.length_nil, txB]
    omega
end Rx

set_option Elab.async false
set_option linter.all false
set_option maxRecDepth 100000
set_option maxHeartbeats 1000000
namespace Rx
open PySem PySem.Spec PyProof.Rows L2 SX
/-! ### a text that is read as a tree has as many brackets as the tree needs -/
inductive Nd : PyData → Nat → Int → Prop where
  | leaf {s : Str} {v : V} : s ∈ leafL → Nd (.tuple [.str s, dOf v]) 0 8
  | pre {w : Str} {a : PyData} {n : Nat} {k : Int} : prefL.contains w = true → Nd a n k → Nd (.tuple [.str w, a]) (n + (if k < bindOf w then 1 else 0)) (bindOf w)
  | bin {w : Str} {a b : PyData} {n n' : Nat} {k k' : Int} : Nd a n k → Nd b n' k' → Nd (.tuple [.str w, a, b]) (n + (if k < bindOf w then 1 else 0) + (n' + (if k' < bindOf w + 1 then 1 else 0))) (bindOf w)
def lvO : List Str → Int
  | [] => 0
  | w :: _ => if prefL.contains w = true then bindOf w else bindOf w + 1
theorem lvO_p {w : Str} {os : List Str} (h : prefL.contains w = true) : lvO (w :: os) = bindOf w := if_pos h
theorem lvO_b {w : Str} {os : List Str} (h : prefL.contains w = false) : lvO (w :: os) = bindOf w + 1 := if_neg (by rw [h]; decide)
theorem lvO_le (w : Str) (os : List Str) : lvO (w :: os) ≤ bindOf w + 1 := by
  show (if prefL.contains w = true then bindOf w else bindOf w + 1) ≤ _
  split <;> omega
/-- the credit c pays for a node where l is wanted -/
def Gd (c n : Nat) (k l : Int) : Prop := n + (if k < l then 1 else 0) ≤ c
theorem Gd.mono {c n : Nat} {k l l' : Int} (h : Gd c n k l) (e : l' ≤ l) : Gd c n k l' := by
  unfold Gd at *
  split at h <;> split <;> omega
inductive Pile : List Str → List PyData → Nat → Prop where
  | nil : Pile [] [] 0
  | br {x : Str} {os : List Str} {ns : List PyData} {m : Nat} : x = "(" ∨ x = "[" → Pile os ns m → Pile (x :: os) ns (m + 1)
  | pre {x : Str} {os : List Str} {ns : List PyData} {m : Nat} : prefL.contains x = true → 0 ≤ bindOf x → bindOf x ≤ 7 → lvO os ≤ bindOf x → Pile os ns m → Pile (x :: os) ns m
  | bin {x : Str} {os : List Str} {ns : List PyData} {m n c : Nat} {a : PyData} {k : Int} : prefL.contains x = false → 0 ≤ bindOf x → bindOf x ≤ 6 → lvO os ≤ bindOf x → Pile os ns m → Nd a n k → Gd c n k (bindOf x) → Pile (x :: os) (a :: ns) (m + c)
theorem br_bind {x : Str} (h : x = "(" ∨ x = "[") : bindOf x = -1 ∧ prefL.contains x = false := by
  rcases h with rfl | rfl <;> decide +kernel
theorem Pile.lv {os : List Str} {ns : List PyData} {m : Nat} (h : Pile os ns m) : lvO os ≤ 7 := by
  cases h with
  | nil => exact (by decide : (0 : Int) ≤ 7)
  | br h _ => obtain ⟨h1, h2⟩ := br_bind h; rw [lvO_b h2, h1]; decide
  | pre h _ h2 _ _ => rw [lvO_p h]; exact h2
  | bin h _ h2 _ _ _ _ => rw [lvO_b h]; omega
/-- an operand stands on top, good where l is wanted -/
def Done (os : List Str) (ns : List PyData) (m : Nat) (l : Int) : Prop := ∃ (a : PyData) (ns' : List PyData) (m1 c n : Nat) (k : Int), ns = a :: ns' ∧ m = m1 + c ∧ Pile os ns' m1 ∧ Nd a n k ∧ Gd c n k l ∧ Gd c n k (lvO os)
def Full (os : List Str) (ns : List PyData) (m : Nat) : Prop := ∃ (a : PyData) (ns' : List PyData) (m1 c n : Nat) (k : Int), ns = a :: ns' ∧ m = m1 + c ∧ Pile os ns' m1 ∧ Nd a n k ∧ ∀ l, l ≤ 8 → Gd c n k l
theorem Full.done {os : List Str} {ns : List PyData} {m : Nat} {l : Int} (h : Full os ns m) (hl : l ≤ 8) : Done os ns m l := by
  obtain ⟨a, ns', m1, c, n, k, h1, h2, h3, h4, h5⟩ := h
  exact ⟨a, ns', m1, c, n, k, h1, h2, h3, h4, h5 l hl, h5 _ (by have := h3.lv; omega)⟩
theorem down_done {b : Int} (hb : 0 ≤ b) : ∀ {os : List Str} {ns : List PyData} {m : Nat} {x : List Str × List PyData}, Done os ns m b → joinDown b os ns = some x → Done x.1 x.2 m b ∧ (x.1 = [] ∨ ∃ o t, x.1 = o :: t ∧ bindOf o < b)
  | [], ns, m, x, h, e => by
    simp only [joinDown, Option.some.injEq] at e
    subst e
    exact ⟨h, .inl rfl⟩
  | o :: os, ns, m, x, h, e => by
    unfold joinDown at e
    split at e
    · rename_i hbo
      split at e
      · rename_i ns2 hj
        obtain ⟨a, ns', m1, c, n, k, rfl, rfl, hp, hn, g1, g2⟩ := h
        refine down_done hb ?_ e
        cases hp with
        | br hx _ => have := (br_bind hx).1; omega
        | pre hx h0 h7 hl hp =>
          unfold joinOp at hj
          rw [if_pos hx] at hj
          injection hj with hj
          subst hj
          rw [lvO_p hx] at g2
          refine ⟨_, ns', m1, c, _, _, rfl, rfl, hp, .pre hx hn, ?_, ?_⟩
          · unfold Gd at *; rw [if_neg (show ¬ bindOf o < b by omega)]; exact g2
          · unfold Gd at *; rw [if_neg (show ¬ bindOf o < lvO os by omega)]; exact g2
        | @bin _ _ ns3 m3 n3 c3 a3 k3 hx h0 h7 hl hp hn3 g3 =>
          unfold joinOp at hj
          rw [if_neg (by rw [hx]; decide)] at hj
          injection hj with hj
          subst hj
          rw [lvO_b hx] at g2
          refine ⟨_, ns3, m3, c3 + c, _, _, rfl, by omega, hp, .bin hn3 hn, ?_, ?_⟩
          · unfold Gd at *; rw [if_neg (show ¬ bindOf o < b by omega)]; omega
          · unfold Gd at *; rw [if_neg (show ¬ bindOf o < lvO os by omega)]; omega
      · cases e
    · rename_i hbo
      injection e with e
      subst e
      exact ⟨h, .inr ⟨o, os, rfl, by omega⟩⟩
def StI (r : RS) (m : Nat) : Prop := if r.starts = true then Pile r.ops r.nodes m ∧ (r.stage = "condition" → lvO r.ops ≤ 3) else Full r.ops r.nodes m
theorem st_start (c : Bool) : StI (RS.start c) 0 := by
  unfold StI
  rw [if_pos (by cases c <;> rfl)]
  exact ⟨.nil, fun _ => (by decide : (0 : Int) ≤ 3)⟩
def isBr (s : Str) : Nat := if s = "(" ∨ s = "[" then 1 else 0
theorem beg_in {r : RS} {s : Str} (h : r.mayBegin s = true) : s = "number" ∨ s = "variable" ∨ s = "-" ∨ s = "(" ∨ (r.stage = "condition" ∧ (s = "not" ∨ s = "[")) := by
  unfold RS.mayBegin at h
  rw [Bool.or_eq_true, Bool.and_eq_true, decide_eq_true_eq] at h
  rcases h with h | ⟨h1, h2⟩
  · have : s ∈ begL := List.contains_iff_mem.mp h
    simp only [begL, List.mem_cons, List.not_mem_nil, or_false] at this
    rcases this with h | h | h | h
    · exact .inl h
    · exact .inr (.inl h)
    · exact .inr (.inr (.inl h))
    · exact .inr (.inr (.inr (.inl h)))
  · have : s ∈ notL := List.contains_iff_mem.mp h2
    simp only [notL, List.mem_cons, List.not_mem_nil, or_false] at this
    exact .inr (.inr (.inr (.inr ⟨h1, this⟩)))
def midL : List Str := ["+", "-", "*", "//", "mod", "=", "!=", "<", "<=", ">", ">=", "and", "or"]
theorem follow_in {r : RS} {s : Str} (h : r.mayFollow s = true) : s ∈ midL ∨ s = ")" ∨ s = "]" ∨ s = "end" := by
  have ha : ∀ x ∈ arithL, x ∈ midL := by decide +kernel
  have hc : ∀ x ∈ compL, x ∈ midL := by decide +kernel
  have hb : ∀ x ∈ (["and", "or", "]"] : List Str), x ∈ midL ∨ x = ")" ∨ x = "]" ∨ x = "end" := by decide +kernel
  have he : ∀ x ∈ (["and", "or", "end"] : List Str), x ∈ midL ∨ x = ")" ∨ x = "]" ∨ x = "end" := by decide +kernel
  unfold RS.mayFollow at h
  split at h
  · rename_i h1
    rw [Bool.and_eq_true] at h1
    exact .inl (ha s (List.contains_iff_mem.mp h1.2))
  · split at h
    · exact .inr (.inl (of_decide_eq_true h))
    · split at h
      · exact .inr (.inr (.inr (of_decide_eq_true h)))
      · split at h
        · exact .inl (hc s (List.contains_iff_mem.mp h))
        · split at h
          · exact hb s (List.contains_iff_mem.mp h)
          · exact he s (List.contains_iff_mem.mp h)
theorem mid_bind : ∀ s ∈ midL, prefL.contains s = false ∧ 1 ≤ bindOf s ∧ bindOf s ≤ 6 ∧ isBr s = 0 ∧ s ≠ ")" ∧ s ≠ "]" ∧ s ≠ "end" ∧ (s = "and" ∨ s = "or" → bindOf s ≤ 2) := by decide +kernel
theorem full_of_pile {os : List Str} {ns : List PyData} {m : Nat} {s : Str} {v : V} (h : Pile os ns m) (hs : s ∈ leafL) : Full os (.tuple [.str s, dOf v] :: ns) m :=
  ⟨_, ns, m, 0, 0, 8, rfl, rfl, h, .leaf hs, fun l hl => by unfold Gd; rw [if_neg (by omega)]; exact Nat.le_refl _⟩
theorem step_min {r q : RS} {s : Str} {v : V} {m : Nat} (h : StI r m) (hf : r.fits s = true) (ht : r.takeIn s v = some q) (he : s ≠ "end") : StI q (m + isBr s) := by
  unfold StI at h
  unfold RS.fits at hf
  unfold RS.takeIn at ht
  split at h
  · rename_i hst
    rw [if_pos hst] at hf ht
    injection ht with ht
    subst ht
    obtain ⟨hp, hc⟩ := h
    have hlv := hp.lv
    rcases beg_in hf with rfl | rfl | rfl | rfl | ⟨h1, rfl | rfl⟩
    · exact full_of_pile hp (by decide +kernel)
    · exact full_of_pile hp (by decide +kernel)
    · refine ⟨.pre (by decide +kernel) (by decide +kernel) (by decide +kernel) (by rw [show bindOf "negate" = 7 by decide +kernel]; exact hlv) hp, fun e => ?_⟩
      exact absurd e (by show ¬ ("factor" : Str) = "condition"; decide +kernel)
    · refine ⟨.br (.inl rfl) hp, fun e => ?_⟩
      exact absurd e (by show ¬ ("factor" : Str) = "condition"; decide +kernel)
    · show StI { r with ops := "not" :: r.ops } m
      unfold StI
      rw [if_pos (show RS.starts { r with ops := "not" :: r.ops } = true from hst)]
      exact ⟨.pre (by decide +kernel) (by decide +kernel) (by decide +kernel) (by rw [show bindOf "not" = 3 by decide +kernel]; exact hc h1) hp, fun _ => by show lvO ("not" :: r.ops) ≤ 3; rw [lvO_p (by decide +kernel)]; decide +kernel⟩
    · show StI { r with ops := "[" :: r.ops, brs := "[" :: r.brs } (m + 1)
      unfold StI
      rw [if_pos (show RS.starts { r with ops := "[" :: r.ops, brs := "[" :: r.brs } = true from hst)]
      exact ⟨.br (.inr rfl) hp, fun _ => by show lvO ("[" :: r.ops) ≤ 3; rw [lvO_b (by decide +kernel)]; decide +kernel⟩
  · rename_i hst
    rw [if_neg hst] at hf ht
    split at ht
    · rename_i hs
      have h0 : isBr s = 0 := by rcases hs with rfl | rfl <;> decide +kernel
      rw [h0, Nat.add_zero]
      unfold RS.close_ at ht
      obtain ⟨x, hx, ht⟩ := Option.bind_eq_some_iff.mp ht
      unfold RS.down at hx
      obtain ⟨y, hy, rfl⟩ := Option.map_eq_some_iff.mp hx
      obtain ⟨hd, ho⟩ := down_done (by decide) (h.done (l := 0) (by decide)) hy
      dsimp only at ht
      split at ht
      · rename_i o os b bs e1 e2
        injection ht with ht
        subst ht
        rcases ho with ho | ⟨o2, t2, ho, hlt⟩
        · rw [ho] at e1; cases e1
        rw [ho] at e1
        injection e1 with e1 e3
        subst e1 e3
        obtain ⟨a, ns', m1, c, n, k, h1, rfl, hp, hn, g1, g2⟩ := hd
        rw [ho] at hp
        have full : Full t2 y.2 (m1 + c) := by
          rw [h1]
          cases hp with
          | @br _ _ _ m2 hx hp => exact ⟨a, ns', m2, c + 1, n, k, rfl, by omega, hp, hn, fun l _ => by unfold Gd at *; split at g1 <;> split <;> omega⟩
          | pre _ h0 _ _ _ => omega
          | bin _ h0 _ _ _ _ _ => omega
        unfold StI
        rw [if_neg (by
          show ¬ ((decide ((if s = "]" then ("bracket" : Str) else "expression") = "condition")) || decide ((if s = "]" then ("bracket" : Str) else "expression") = "factor")) = true
          split <;> decide +kernel)]
        exact full
      · cases ht
    · rename_i hs
      have hm : s ∈ midL := by
        rcases follow_in hf with h | h | h | h
        · exact h
        · exact absurd (.inl h) hs
        · exact absurd (.inr h) hs
        · exact absurd h he
      obtain ⟨b1, b2, b3, b4, _, _, _, b5⟩ := mid_bind s hm
      rw [b4, Nat.add_zero]
      unfold RS.between at ht
      obtain ⟨x, hx, ht⟩ := Option.map_eq_some_iff.mp ht
      unfold RS.down at hx
      obtain ⟨y, hy, rfl⟩ := Option.map_eq_some_iff.mp hx
      obtain ⟨hd, ho⟩ := down_done (by omega) (h.done (l := bindOf s) (by omega)) hy
      obtain ⟨a, ns', m1, c, n, k, h1, rfl, hp, hn, g1, g2⟩ := hd
      have hlo : lvO y.1 ≤ bindOf s := by
        rcases ho with ho | ⟨o2, t2, ho, hlt⟩
        · rw [ho]; show (0 : Int) ≤ _; omega
        · rw [ho]; have := lvO_le o2 t2; omega
      have pile : Pile (s :: y.1) y.2 (m1 + c) := by
        rw [h1]
        exact .bin b1 (by omega) b3 hlo hp hn g1
      have hlv : lvO (s :: y.1) = bindOf s + 1 := lvO_b b1
      subst ht
      unfold StI
      split
      · rename_i hao
        rw [if_pos (by rfl)]
        refine ⟨pile, fun _ => ?_⟩
        show lvO (s :: y.1) ≤ 3
        have := b5 hao
        omega
      · rw [if_pos (by rfl)]
        refine ⟨pile, fun e => ?_⟩
        exact absurd e (by show ¬ ("factor" : Str) = "condition"; decide +kernel)
end Rx

set_option Elab.async false
set_option linter.all false
set_option maxRecDepth 100000
set_option maxHeartbeats 1000000
namespace Rx
open PySem PySem.Spec PyProof.Rows L2 SX
def isOp (c : Nat) : Nat := if c = 40 ∨ c = 91 then 1 else 0
def opens : List Nat → Nat
  | [] => 0
  | c :: r => isOp c + opens r
theorem opens_app : ∀ (x y : List Nat), opens (x ++ y) = opens x + opens y
  | [], y => by simp [opens]
  | c :: r, y => by rw [List.cons_append, opens, opens, opens_app r y]; omega
theorem opens_let : ∀ {cs : List Nat}, cs.all isLet = true → opens cs = 0
  | [], _ => rfl
  | c :: r, h => by
    rw [List.all_cons, Bool.and_eq_true] at h
    have h1 : isOp c = 0 := by
      have := h.1
      unfold isLet at this
      rw [Bool.and_eq_true, decide_eq_true_eq, decide_eq_true_eq] at this
      unfold isOp
      rw [if_neg (by omega)]
    rw [opens, h1, opens_let h.2]
theorem sign_br : ∀ s ∈ signsL, isBr s = opens s.cps.toList ∧ s ≠ "end" ∧ s.cps.toList.length = s.length := by decide +kernel
theorem words_br : ∀ s ∈ wordsL, isBr s = 0 ∧ s ≠ "end" := by decide +kernel
theorem tok_br (c : Nat) (r : List Nat) : isBr (tokAt (c :: r)).1 ≤ opens ((c :: r).take (tokAt (c :: r)).2.2) ∧ (tokAt (c :: r)).1 ≠ "end" := by
  have hv : isBr "variable" = 0 ∧ ("variable" : Str) ≠ "end" := by decide +kernel
  have hb : isBr "bad" = 0 ∧ ("bad" : Str) ≠ "end" := by decide +kernel
  have hn : isBr "number" = 0 ∧ ("number" : Str) ≠ "end" := by decide +kernel
  unfold tokAt
  dsimp only
  split
  · unfold wordTok
    split
    · rename_i h
      obtain ⟨h1, h2⟩ := words_br _ (List.contains_iff_mem.mp h)
      exact ⟨by rw [h1]; exact Nat.zero_le _, h2⟩
    · split
      · exact ⟨by rw [hv.1]; exact Nat.zero_le _, hv.2⟩
      · exact ⟨by rw [hb.1]; exact Nat.zero_le _, hb.2⟩
  · split
    · unfold numTok
      split
      · exact ⟨by rw [hn.1]; exact Nat.zero_le _, hn.2⟩
      · exact ⟨by rw [hb.1]; exact Nat.zero_le _, hb.2⟩
    · unfold signTok
      split
      · rename_i s h
        have hm := List.mem_of_find?_eq_some h
        have hp := List.find?_some h
        obtain ⟨h1, h2, h3⟩ := sign_br s hm
        refine ⟨?_, h2⟩
        have h4 : s.cps.toList <+: (c :: r) := List.isPrefixOf_iff_prefix.mp hp
        have h5 : (c :: r).take s.length = s.cps.toList := by
          obtain ⟨t, ht⟩ := h4
          rw [← ht, ← h3, List.take_left]
        show isBr s ≤ opens ((c :: r).take s.length)
        rw [h5, h1]
        exact Nat.le_refl _
      · exact ⟨by rw [hb.1]; exact Nat.zero_le _, hb.2⟩
/-- a tree that was read has no more need of brackets than the text has -/
theorem run_min : ∀ (n at_ : Nat) (cs : List Nat) (r q : RS) (m : Nat), cs.length ≤ n → StI r m → runX r (toksF n at_ cs) = some (.inr q) → ∃ m', m' ≤ m + opens cs ∧ Done q.ops q.nodes m' 0 := by
  have fin : ∀ (at_ : Nat) (cs : List Nat) (r q : RS) (m : Nat), StI r m → runX r [("end", .non, at_)] = some (.inr q) → ∃ m', m' ≤ m + opens cs ∧ Done q.ops q.nodes m' 0 := by
    intro at_ cs r q m h e
    unfold runX at e
    split at e
    · rename_i hf
      obtain ⟨x, hx, e⟩ := Option.bind_eq_some_iff.mp e
      unfold runX at e
      injection e with e
      injection e with e
      subst e
      unfold StI at h
      unfold RS.fits at hf
      unfold RS.takeIn at hx
      split at h
      · rename_i hst
        rw [if_pos hst] at hf
        have hn : ¬ (("end" : Str) = "number" ∨ ("end" : Str) = "variable" ∨ ("end" : Str) = "-" ∨ ("end" : Str) = "(" ∨ ("end" : Str) = "not" ∨ ("end" : Str) = "[") := by decide +kernel
        rcases beg_in hf with h | h | h | h | ⟨_, h | h⟩
        · exact absurd (.inl h) hn
        · exact absurd (.inr (.inl h)) hn
        · exact absurd (.inr (.inr (.inl h))) hn
        · exact absurd (.inr (.inr (.inr (.inl h)))) hn
        · exact absurd (.inr (.inr (.inr (.inr (.inl h))))) hn
        · exact absurd (.inr (.inr (.inr (.inr (.inr h))))) hn
      · rename_i hst
        have hne : ¬ (("end" : Str) = ")" ∨ ("end" : Str) = "]") := by decide +kernel
        rw [if_neg hst, if_neg hne, if_pos rfl] at hx
        unfold RS.down at hx
        obtain ⟨y, hy, rfl⟩ := Option.map_eq_some_iff.mp hx
        obtain ⟨hd, _⟩ := down_done (by decide) (h.done (l := 0) (by decide)) hy
        exact ⟨m, by omega, hd⟩
    · cases e
  intro n
  induction n with
  | zero => intro at_ cs r q m _ h e; exact fin at_ cs r q m h e
  | succ n ih =>
    intro at_ cs r q m hl h e
    cases cs with
    | nil => exact fin at_ [] r q m h e
    | cons c cs =>
      unfold toksF at e
      rw [List.length_cons] at hl
      split at e
      · rename_i hc
        obtain ⟨m', h1, h2⟩ := ih _ _ _ _ _ (by omega) h e
        refine ⟨m', ?_, h2⟩
        rw [opens]
        omega
      · have hp := tokAt_pos (c :: cs)
        obtain ⟨t1, t2⟩ := tok_br c cs
        unfold runX at e
        split at e
        · rename_i hf
          obtain ⟨x, hx, e⟩ := Option.bind_eq_some_iff.mp e
          obtain ⟨m', h1, h2⟩ := ih _ _ _ _ _ (by rw [List.length_drop, List.length_cons]; omega) (show StI x (m + isBr (tokAt (c :: cs)).1) from step_min h hf hx t2) e
          refine ⟨m', ?_, h2⟩
          have h3 := opens_app ((c :: cs).take (tokAt (c :: cs)).2.2) ((c :: cs).drop (tokAt (c :: cs)).2.2)
          rw [List.take_append_drop] at h3
          omega
        · cases e
theorem read_min {c : Bool} {cs : List Nat} {q : RS} {d : PyData} (h : runX (RS.start c) (toks cs) = some (.inr q)) (hn : q.nodes = [d]) : ∃ n k, Nd d n k ∧ n ≤ opens cs := by
  obtain ⟨m', h1, a, ns', m1, c1, n, k, h2, h3, h4, h5, h6, h7⟩ := run_min _ _ _ _ _ 0 (Nat.le_refl _) (st_start c) h
  rw [hn] at h2
  injection h2 with h2 _
  subst h2
  refine ⟨n, k, h5, ?_⟩
  unfold Gd at h6
  omega
def nbT : Tr → Nat
  | .num _ => 0
  | .var _ => 0
  | .pre w a => nbT a + (if a.bnd < bindOf w then 1 else 0)
  | .bin w a b => nbT a + (if a.bnd < bindOf w then 1 else 0) + (nbT b + (if b.bnd < bindOf w + 1 then 1 else 0))
theorem opens_encl (b l : Int) (x : List Nat) : opens (encl b l x) = opens x + (if b < l then 1 else 0) := by
  have e1 : isOp 91 = 1 ∧ isOp 40 = 1 ∧ opens [93] = 0 ∧ opens [41] = 0 := by decide
  unfold encl
  by_cases h1 : l ≤ b
  · rw [if_pos h1, if_neg (by omega)]; rfl
  · rw [if_neg h1, if_pos (show b < l by omega)]
    split
    · rw [opens, opens_app, e1.1, e1.2.2.1]; omega
    · rw [opens, opens_app, e1.2.1, e1.2.2.2]; omega
theorem opens_num : ∀ n ∈ numL, opens (cod (numS n)) = 0 := by decide +kernel
theorem opens_mid : ∀ w ∈ arithL ++ compL ++ logL, opens (32 :: cod w ++ [32]) = 0 := by decide +kernel
theorem name_let {x : Str} (h : isName (cod x) = true) : (cod x).all isLet = true := (name_parts h).2.2.2
/-- the canonical text has as many as are needed -/
theorem txt_opens {b : Bool} {n : Nat} {t : Tr} (h : Ty b n t) : opens t.txt = nbT t := by
  have pn : opens (preC "negate") = 0 ∧ opens (preC "not") = 0 := by decide +kernel
  induction h with
  | num h => exact opens_num _ h
  | var h => exact opens_let (name_let h)
  | neg _ ih => show opens (preC "negate" ++ encl _ _ _) = _; rw [opens_app, pn.1, opens_encl, ih, Nat.zero_add]; rfl
  | not_ _ ih => show opens (preC "not" ++ encl _ _ _) = _; rw [opens_app, pn.2, opens_encl, ih, Nat.zero_add]; rfl
  | @bin k w _ _ hw _ _ i1 i2 => show opens (encl _ _ _ ++ ((32 :: cod w ++ [32]) ++ encl _ _ _)) = _; rw [opens_app, opens_app, opens_mid w (by simp [hw]), opens_encl, opens_encl, i1, i2, Nat.zero_add]; rfl
  | @cmp k w _ _ hw _ _ i1 i2 => show opens (encl _ _ _ ++ ((32 :: cod w ++ [32]) ++ encl _ _ _)) = _; rw [opens_app, opens_app, opens_mid w (by simp [hw]), opens_encl, opens_encl, i1, i2, Nat.zero_add]; rfl
  | @log k w _ _ hw _ _ i1 i2 => show opens (encl _ _ _ ++ ((32 :: cod w ++ [32]) ++ encl _ _ _)) = _; rw [opens_app, opens_app, opens_mid w (by simp [hw]), opens_encl, opens_encl, i1, i2, Nat.zero_add]; rfl
theorem nd_inv {d : PyData} {m : Nat} {k : Int} (g : Nd d m k) : (∃ s v, s ∈ leafL ∧ d = .tuple [.str s, dOf v] ∧ m = 0 ∧ k = 8) ∨
    (∃ w a n k', prefL.contains w = true ∧ Nd a n k' ∧ d = .tuple [.str w, a] ∧ m = n + (if k' < bindOf w then 1 else 0) ∧ k = bindOf w) ∨
    (∃ w a b n n' k1 k2, Nd a n k1 ∧ Nd b n' k2 ∧ d = .tuple [.str w, a, b] ∧ m = n + (if k1 < bindOf w then 1 else 0) + (n' + (if k2 < bindOf w + 1 then 1 else 0)) ∧ k = bindOf w) := by
  cases g with
  | leaf h => exact .inl ⟨_, _, h, rfl, rfl, rfl⟩
  | pre h1 h2 => exact .inr (.inl ⟨_, _, _, _, h1, h2, rfl, rfl, rfl⟩)
  | bin h1 h2 => exact .inr (.inr ⟨_, _, _, _, _, _, _, h1, h2, rfl, rfl, rfl⟩)
theorem eqv2 {s w : Str} {a b : PyData} (h : PyData.eqv (.tuple [.str s, a]) (.tuple [.str w, b]) = true) : s = w ∧ PyData.eqv a b = true := by
  simp only [PyData.eqv, PyData.eqvAll, Bool.and_eq_true, Bool.and_true, beq_iff_eq, decide_eq_true_eq] at h
  exact ⟨h.1, h.2⟩
theorem eqv3 {s w : Str} {a b a' b' : PyData} (h : PyData.eqv (.tuple [.str s, a, a']) (.tuple [.str w, b, b']) = true) : s = w ∧ PyData.eqv a b = true ∧ PyData.eqv a' b' = true := by
  simp only [PyData.eqv, PyData.eqvAll, Bool.and_eq_true, Bool.and_true, beq_iff_eq, decide_eq_true_eq] at h
  exact ⟨h.1, h.2.1, h.2.2⟩
theorem eqv23 {s w : Str} {a b b' : PyData} : PyData.eqv (.tuple [.str s, a]) (.tuple [.str w, b, b']) = false := by
  simp only [PyData.eqv, PyData.eqvAll, Bool.and_false]
theorem eqv32 {s w : Str} {a a' b : PyData} : PyData.eqv (.tuple [.str s, a, a']) (.tuple [.str w, b]) = false := by
  simp only [PyData.eqv, PyData.eqvAll, Bool.and_false]
theorem leaf_bind : ∀ w ∈ leafL, bindOf w = 8 ∧ prefL.contains w = false := by decide +kernel
/-- the need of what equals a tree -/
theorem nd_tr {b : Bool} {n : Nat} {t : Tr} (h : Ty b n t) : ∀ {d : PyData} {m : Nat} {k : Int}, Nd d m k → PyData.eqv d t.data = true → m = nbT t ∧ k = t.bnd := by
  have leafC : ∀ {w : Str} {e : PyData} {d : PyData} {m : Nat} {k : Int}, w ∈ leafL → Nd d m k → PyData.eqv d (.tuple [.str w, e]) = true → m = 0 ∧ k = bindOf w := by
    intro w e d m k hw g he
    obtain ⟨l1, l2⟩ := leaf_bind w hw
    rcases nd_inv g with ⟨s, v, hs, rfl, rfl, rfl⟩ | ⟨w', a, n1, k1, hp, hn, rfl, rfl, rfl⟩ | ⟨w', a, b', n1, n2, k1, k2, h1, h2, rfl, rfl, rfl⟩
    · exact ⟨rfl, l1.symm⟩
    · obtain ⟨rfl, _⟩ := eqv2 he
      rw [l2] at hp; cases hp
    · rw [eqv32] at he; cases he
  have preC : ∀ {w : Str} {a : Tr} {d : PyData} {m : Nat} {k : Int}, prefL.contains w = true → (∀ {d : PyData} {m : Nat} {k : Int}, Nd d m k → PyData.eqv d a.data = true → m = nbT a ∧ k = a.bnd) → Nd d m k → PyData.eqv d (.tuple [.str w, a.data]) = true → m = nbT (.pre w a) ∧ k = bindOf w := by
    intro w a d m k hw ih g he
    rcases nd_inv g with ⟨s, v, hs, rfl, rfl, rfl⟩ | ⟨w', a', n1, k1, hp, hn, rfl, rfl, rfl⟩ | ⟨w', a', b', n1, n2, k1, k2, h1, h2, rfl, rfl, rfl⟩
    · obtain ⟨rfl, _⟩ := eqv2 he
      rw [(leaf_bind s hs).2] at hw; cases hw
    · obtain ⟨rfl, h2⟩ := eqv2 he
      obtain ⟨rfl, rfl⟩ := ih hn h2
      exact ⟨rfl, rfl⟩
    · rw [eqv32] at he; cases he
  have binC : ∀ {w : Str} {a b : Tr} {d : PyData} {m : Nat} {k : Int}, (∀ {d : PyData} {m : Nat} {k : Int}, Nd d m k → PyData.eqv d a.data = true → m = nbT a ∧ k = a.bnd) → (∀ {d : PyData} {m : Nat} {k : Int}, Nd d m k → PyData.eqv d b.data = true → m = nbT b ∧ k = b.bnd) → Nd d m k → PyData.eqv d (.tuple [.str w, a.data, b.data]) = true → m = nbT (.bin w a b) ∧ k = bindOf w := by
    intro w a b d m k i1 i2 g he
    rcases nd_inv g with ⟨s, v, hs, rfl, rfl, rfl⟩ | ⟨w', a', n1, k1, hp, hn, rfl, rfl, rfl⟩ | ⟨w', a', b', n1, n2, k1, k2, h1, h2, rfl, rfl, rfl⟩
    · rw [eqv23] at he; cases he
    · rw [eqv23] at he; cases he
    · obtain ⟨rfl, e1, e2⟩ := eqv3 he
      obtain ⟨rfl, rfl⟩ := i1 h1 e1
      obtain ⟨rfl, rfl⟩ := i2 h2 e2
      exact ⟨rfl, rfl⟩
  induction h with
  | num h => intro d m k g he; exact leafC (w := "number") (by decide +kernel) g he
  | var h => intro d m k g he; exact leafC (w := "variable") (by decide +kernel) g he
  | neg _ ih => intro d m k g he; exact preC (by decide +kernel) ih g he
  | not_ _ ih => intro d m k g he; exact preC (by decide +kernel) ih g he
  | bin hw _ _ i1 i2 => intro d m k g he; exact binC i1 i2 g he
  | cmp hw _ _ i1 i2 => intro d m k g he; exact binC i1 i2 g he
  | log hw _ _ i1 i2 => intro d m k g he; exact binC i1 i2 g he
/-- with fewer brackets the text is not read as the tree -/
theorem bare_no {b c : Bool} {n : Nat} {t : Tr} (h : Ty b n t) {cs : List Nat} {q : RS} {d : PyData} (hr : runX (RS.start c) (toks cs) = some (.inr q)) (hn : q.nodes = [d]) (hl : opens cs < opens t.txt) : PyData.eqv d t.data = false := by
  cases e : PyData.eqv d t.data with
  | false => rfl
  | true =>
    obtain ⟨m, k, g, hm⟩ := read_min hr hn
    have := (nd_tr h g e).1
    rw [txt_opens h] at hl
    omega
end Rx

set_option Elab.async false
set_option linter.all false
set_option maxRecDepth 100000
set_option maxHeartbeats 1000000
namespace Rx
open PySem PySem.Spec PyProof.Rows L2 SX
def isCl (c : Nat) : Nat := if c = 41 ∨ c = 93 then 1 else 0
/-- how deep after a text that begins so deep -/
def bal : Nat → List Nat → Option Nat
  | d, [] => some d
  | d, c :: r => if isOp c = 1 then bal (d + 1) r else if isCl c = 1 then (match d with
    | 0 => none
    | d + 1 => bal d r) else bal d r
theorem bal_cons (d c : Nat) (r : List Nat) : bal d (c :: r) = if isOp c = 1 then bal (d + 1) r else if isCl c = 1 then (match d with
    | 0 => none
    | d + 1 => bal d r) else bal d r := rfl
theorem bal_app : ∀ (x : List Nat) (d e : Nat) (y : List Nat), bal d x = some e → bal d (x ++ y) = bal e y
  | [], d, e, y, h => by injection h with h; rw [h]; rfl
  | c :: r, d, e, y, h => by
    rw [List.cons_append]
    rw [bal_cons] at h ⊢
    split
    · rename_i h1
      rw [if_pos h1] at h
      exact bal_app r _ _ y h
    · rename_i h1
      rw [if_neg h1] at h
      split
      · rename_i h2
        rw [if_pos h2] at h
        cases d with
        | zero => cases h
        | succ d => exact bal_app r _ _ y h
      · rename_i h2
        rw [if_neg h2] at h
        exact bal_app r _ _ y h
def noBr (cs : List Nat) : Bool := cs.all fun c => isOp c == 0 && isCl c == 0
theorem bal_no : ∀ {cs : List Nat} (d : Nat), noBr cs = true → bal d cs = some d
  | [], d, _ => rfl
  | c :: r, d, h => by
    unfold noBr at h
    rw [List.all_cons, Bool.and_eq_true, Bool.and_eq_true, beq_iff_eq, beq_iff_eq] at h
    unfold bal
    rw [if_neg (by omega), if_neg (by omega)]
    exact bal_no d h.2
theorem noBr_num : ∀ n ∈ numL, noBr (cod (numS n)) = true := by decide +kernel
theorem noBr_mid : ∀ w ∈ arithL ++ compL ++ logL, noBr (32 :: cod w ++ [32]) = true := by decide +kernel
theorem noBr_let {cs : List Nat} (h : cs.all isLet = true) : noBr cs = true := by
  unfold noBr
  rw [List.all_eq_true] at h ⊢
  intro c hc
  have := h c hc
  unfold isLet at this
  rw [Bool.and_eq_true, decide_eq_true_eq, decide_eq_true_eq] at this
  rw [Bool.and_eq_true, beq_iff_eq, beq_iff_eq]
  unfold isOp isCl
  rw [if_neg (by omega), if_neg (by omega)]
  exact ⟨rfl, rfl⟩
theorem bal_encl {b l : Int} {x : List Nat} (h : ∀ d, bal d x = some d) (d : Nat) : bal d (encl b l x) = some d := by
  unfold encl
  split
  · exact h d
  · split
    · show bal d (91 :: (x ++ [93])) = _
      unfold bal
      rw [if_pos (by decide), bal_app x (d + 1) (d + 1) [93] (h _)]
      rfl
    · show bal d (40 :: (x ++ [41])) = _
      unfold bal
      rw [if_pos (by decide), bal_app x (d + 1) (d + 1) [41] (h _)]
      rfl
theorem txt_bal {b : Bool} {n : Nat} {t : Tr} (h : Ty b n t) : ∀ d, bal d t.txt = some d := by
  have pn : noBr (preC "negate") = true ∧ noBr (preC "not") = true := by decide +kernel
  induction h with
  | num h => intro d; exact bal_no d (noBr_num _ h)
  | var h => intro d; exact bal_no d (noBr_let (name_let h))
  | neg _ ih => intro d; show bal d (preC "negate" ++ encl _ _ _) = _; rw [bal_app _ d d _ (bal_no d pn.1)]; exact bal_encl ih d
  | not_ _ ih => intro d; show bal d (preC "not" ++ encl _ _ _) = _; rw [bal_app _ d d _ (bal_no d pn.2)]; exact bal_encl ih d
  | @bin k w _ _ hw _ _ i1 i2 => intro d; show bal d (encl _ _ _ ++ ((32 :: cod w ++ [32]) ++ encl _ _ _)) = _; rw [bal_app _ d d _ (bal_encl i1 d), bal_app _ d d _ (bal_no d (noBr_mid w (by simp [hw])))]; exact bal_encl i2 d
  | @cmp k w _ _ hw _ _ i1 i2 => intro d; show bal d (encl _ _ _ ++ ((32 :: cod w ++ [32]) ++ encl _ _ _)) = _; rw [bal_app _ d d _ (bal_encl i1 d), bal_app _ d d _ (bal_no d (noBr_mid w (by simp [hw])))]; exact bal_encl i2 d
  | @log k w _ _ hw _ _ i1 i2 => intro d; show bal d (encl _ _ _ ++ ((32 :: cod w ++ [32]) ++ encl _ _ _)) = _; rw [bal_app _ d d _ (bal_encl i1 d), bal_app _ d d _ (bal_no d (noBr_mid w (by simp [hw])))]; exact bal_encl i2 d
/-- a pair of brackets taken away -/
theorem opens_bare {cs : List Nat} {i j : Nat} {ci cj : Nat} (hi : cs[i]? = some ci) (hj : cs[j]? = some cj) (hij : i < j) (ho : isOp ci = 1) (hc : isCl cj = 1) : opens (cs.take i ++ (32 :: ((cs.drop (i + 1)).take (j - (i + 1)) ++ [32])) ++ cs.drop (j + 1)) < opens cs := by
  have hc0 : isOp cj = 0 := by
    unfold isCl at hc
    unfold isOp
    split at hc
    · rw [if_neg (by omega)]
    · cases hc
  have e1 : cs = cs.take i ++ cs.drop i := (List.take_append_drop i cs).symm
  have hi' := (List.getElem?_eq_some_iff.mp hi)
  have hj' := (List.getElem?_eq_some_iff.mp hj)
  have e2 : cs.drop i = ci :: cs.drop (i + 1) := by rw [List.drop_eq_getElem_cons hi'.1, hi'.2]
  have e3 : cs.drop (i + 1) = (cs.drop (i + 1)).take (j - (i + 1)) ++ (cs.drop (i + 1)).drop (j - (i + 1)) := (List.take_append_drop _ _).symm
  have e4 : (cs.drop (i + 1)).drop (j - (i + 1)) = cj :: cs.drop (j + 1) := by
    rw [List.drop_drop, show i + 1 + (j - (i + 1)) = j by omega, List.drop_eq_getElem_cons hj'.1, hj'.2]
  have h1 : opens cs = opens (cs.take i) + (isOp ci + (opens ((cs.drop (i + 1)).take (j - (i + 1))) + (isOp cj + opens (cs.drop (j + 1))))) := by
    have := congrArg opens e1
    rw [opens_app, e2, opens, e3, opens_app, e4, opens] at this
    exact this
  have h2 : isOp 32 = 0 := by decide
  rw [opens_app, opens_app, opens, opens_app, opens, h2, h1, ho, hc0]
  show _ + (0 + (_ + (0 + 0))) + _ < _
  omega
end Rx

set_option Elab.async false
set_option linter.all false
set_option maxRecDepth 100000
set_option maxHeartbeats 1000000
namespace L2
open PySem PySem.Spec PyProof.Rows
/-- == of data, the second side shallow -/
def rEqM (K : PySem.W.Frag) : R2 := fun x y H Q => ∃ d e, Dp K H x d ∧ Dp K H y e ∧ d.canLay0 = true ∧ SeqAt.shaped e = true ∧ Q (.bl (PyData.eqv d e)) H
theorem op_eqM {X : Cx} (hu : X.A.units + 64 < cLine) : OpR X (compareOp .Eq) (rEqM X.K) := by
  intro pins s σ H x y v u Q I rx ry h
  obtain ⟨d, e, hd, he, sd, se, q⟩ := h
  obtain ⟨as, r1⟩ := Dp.reads I d x v hd rx
  obtain ⟨bs, r2⟩ := Dp.reads I e y u he ry
  exact SeqAt.compareEq_reads r1 r2 sd (SeqAt.canLay_of_shaped se) (by have := SeqAt.depth_of_shaped se; have := Nat.min_le_right d.depth e.depth; omega) ⟨.bl _, H, I, rfl, q⟩
end L2
namespace Rx
open PySem PySem.Spec PyProof.Rows L2 SX
def NL (ns : List PyData) : Prop := ∀ d ∈ ns, d.canLay0 = true
def OL (os : List Str) : Prop := ∀ o ∈ os, PyData.strOk o = true
theorem lay2 {w : Str} {a : PyData} (h : PyData.strOk w = true) (ha : a.canLay0 = true) : (PyData.tuple [.str w, a]).canLay0 = true := by simp [PyData.canLay0, PyData.canLayAll0, h, ha]
theorem lay3 {w : Str} {a b : PyData} (h : PyData.strOk w = true) (ha : a.canLay0 = true) (hb : b.canLay0 = true) : (PyData.tuple [.str w, a, b]).canLay0 = true := by simp [PyData.canLay0, PyData.canLayAll0, h, ha, hb]
theorem join_lay {o : Str} {ns ms : List PyData} (ho : PyData.strOk o = true) (h : NL ns) (e : joinOp o ns = some ms) : NL ms := by
  unfold joinOp at e
  split at e
  · split at e
    · injection e with e
      subst e
      intro d hd
      rcases List.mem_cons.mp hd with rfl | hd
      · exact lay2 ho (h _ (by simp))
      · exact h d (List.mem_cons_of_mem _ hd)
    · cases e
  · split at e
    · injection e with e
      subst e
      intro d hd
      rcases List.mem_cons.mp hd with rfl | hd
      · exact lay3 ho (h _ (by simp)) (h _ (by simp))
      · exact h d (by simp [hd])
    · cases e
theorem down_lay {b : Int} : ∀ {os : List Str} {ns : List PyData} {x : List Str × List PyData}, OL os → NL ns → joinDown b os ns = some x → OL x.1 ∧ NL x.2
  | [], ns, x, ho, hn, e => by
    simp only [joinDown, Option.some.injEq] at e
    subst e
    exact ⟨ho, hn⟩
  | o :: os, ns, x, ho, hn, e => by
    unfold joinDown at e
    split at e
    · split at e
      · rename_i ms hm
        exact down_lay (fun y hy => ho y (List.mem_cons_of_mem _ hy)) (join_lay (ho o (by simp)) hn hm) e
      · cases e
    · injection e with e
      subst e
      exact ⟨ho, hn⟩
theorem mid_ok : ∀ s ∈ midL, PyData.strOk s = true := by decide +kernel
theorem beg_ok : PyData.strOk "number" = true ∧ PyData.strOk "variable" = true ∧ PyData.strOk "negate" = true ∧ PyData.strOk "not" = true ∧ PyData.strOk "(" = true ∧ PyData.strOk "[" = true := by decide +kernel
theorem OL.cons {s : Str} {os : List Str} (h : OL os) (hs : PyData.strOk s = true) : OL (s :: os) := fun o ho => by
  rcases List.mem_cons.mp ho with rfl | ho
  · exact hs
  · exact h o ho
theorem step_lay {r q : RS} {s : Str} {v : V} (ho : OL r.ops) (hn : NL r.nodes) (hv : (dOf v).canLay0 = true) (hf : r.fits s = true) (ht : r.takeIn s v = some q) : OL q.ops ∧ NL q.nodes := by
  unfold RS.fits at hf
  unfold RS.takeIn at ht
  split at ht
  · rename_i hst
    rw [if_pos hst] at hf
    injection ht with ht
    subst ht
    obtain ⟨b1, b2, b3, b4, b5, b6⟩ := beg_ok
    rcases beg_in hf with rfl | rfl | rfl | rfl | ⟨_, rfl | rfl⟩
    · exact ⟨ho, fun d hd => by
        rcases List.mem_cons.mp hd with rfl | hd
        · exact lay2 b1 hv
        · exact hn d hd⟩
    · exact ⟨ho, fun d hd => by
        rcases List.mem_cons.mp hd with rfl | hd
        · exact lay2 b2 hv
        · exact hn d hd⟩
    · exact ⟨ho.cons b3, hn⟩
    · exact ⟨ho.cons b5, hn⟩
    · exact ⟨ho.cons b4, hn⟩
    · exact ⟨ho.cons b6, hn⟩
  · rename_i hst
    rw [if_neg hst] at hf
    split at ht
    · unfold RS.close_ at ht
      obtain ⟨x, hx, ht⟩ := Option.bind_eq_some_iff.mp ht
      unfold RS.down at hx
      obtain ⟨y, hy, rfl⟩ := Option.map_eq_some_iff.mp hx
      obtain ⟨h1, h2⟩ := down_lay ho hn hy
      dsimp only at ht
      split at ht
      · rename_i o os b bs e1 e2
        injection ht with ht
        subst ht
        exact ⟨fun z hz => h1 z (by rw [e1]; exact List.mem_cons_of_mem _ hz), h2⟩
      · cases ht
    · split at ht
      · unfold RS.down at ht
        obtain ⟨y, hy, rfl⟩ := Option.map_eq_some_iff.mp ht
        exact down_lay ho hn hy
      · rename_i hs he
        have hm : s ∈ midL := by
          rcases follow_in hf with h | h | h | h
          · exact h
          · exact absurd (.inl h) hs
          · exact absurd (.inr h) hs
          · exact absurd h he
        unfold RS.between at ht
        obtain ⟨x, hx, ht⟩ := Option.map_eq_some_iff.mp ht
        unfold RS.down at hx
        obtain ⟨y, hy, rfl⟩ := Option.map_eq_some_iff.mp hx
        obtain ⟨h1, h2⟩ := down_lay ho hn hy
        subst ht
        split
        · exact ⟨h1.cons (mid_ok s hm), h2⟩
        · exact ⟨h1.cons (mid_ok s hm), h2⟩
theorem name_ok {w : List Nat} (h : isName w = true) : (dOf (.str (S w))).canLay0 = true := by
  show PyData.strOk (S w) = true
  refine str_ok fun c hc => ?_
  have e : cod (S w) = w := by simp [S]
  rw [e] at hc
  have h1 : w.all isLet = true := by
    have h2 := h
    rw [← e] at h2
    have := (name_parts h2).2.2.2
    rwa [e] at this
  have := (List.all_eq_true.mp h1) c hc
  unfold isLet at this
  rw [Bool.and_eq_true, decide_eq_true_eq, decide_eq_true_eq] at this
  omega
theorem tok_lay (c : Nat) (r : List Nat) : (dOf (tokAt (c :: r)).2.1).canLay0 = true := by
  unfold tokAt
  dsimp only
  split
  · unfold wordTok
    split
    · rfl
    · split
      · rename_i h
        exact name_ok h
      · rfl
  · split
    · unfold numTok
      split <;> rfl
    · unfold signTok
      split <;> rfl
theorem run_lay : ∀ (n at_ : Nat) (cs : List Nat) (r q : RS), OL r.ops → NL r.nodes → runX r (toksF n at_ cs) = some (.inr q) → NL q.nodes := by
  have fin : ∀ (at_ : Nat) (r q : RS), OL r.ops → NL r.nodes → runX r [("end", .non, at_)] = some (.inr q) → NL q.nodes := by
    intro at_ r q ho hn e
    unfold runX at e
    split at e
    · rename_i hf
      obtain ⟨x, hx, e⟩ := Option.bind_eq_some_iff.mp e
      unfold runX at e
      injection e with e
      injection e with e
      subst e
      exact (step_lay ho hn rfl hf hx).2
    · cases e
  intro n
  induction n with
  | zero => intro at_ cs r q ho hn e; exact fin at_ r q ho hn e
  | succ n ih =>
    intro at_ cs r q ho hn e
    cases cs with
    | nil => exact fin at_ r q ho hn e
    | cons c cs =>
      unfold toksF at e
      split at e
      · exact ih _ _ _ _ ho hn e
      · unfold runX at e
        split at e
        · rename_i hf
          obtain ⟨x, hx, e⟩ := Option.bind_eq_some_iff.mp e
          obtain ⟨h1, h2⟩ := step_lay ho hn (tok_lay c cs) hf hx
          exact ih _ _ _ _ h1 h2 e
        · cases e
theorem read_lay {c : Bool} {cs : List Nat} {q : RS} {d : PyData} (h : runX (RS.start c) (toks cs) = some (.inr q)) (hn : q.nodes = [d]) : d.canLay0 = true :=
  run_lay _ _ _ _ _ (fun _ h => by cases h) (fun _ h => by cases h) h d (by rw [hn]; simp)
end Rx

set_option Elab.async false
set_option linter.all false
set_option maxRecDepth 100000
set_option maxHeartbeats 400000
namespace Rx
open PySem PySem.Spec PyProof.Rows L2 SX
/-! ### trees in a heap, of tuples or lists -/
inductive Rep : PyData → Tr → Prop where
  | num {d : PyData} {n : Int} : kids d = some [.str "number", .int n] → Rep d (.num n)
  | var {d : PyData} {x : Str} : kids d = some [.str "variable", .str x] → Rep d (.var x)
  | pre {d da : PyData} {w : Str} {a : Tr} : kids d = some [.str w, da] → Rep da a → Rep d (.pre w a)
  | bin {d da db : PyData} {w : Str} {a b : Tr} : kids d = some [.str w, da, db] → Rep da a → Rep db b → Rep d (.bin w a b)
theorem rep_data : ∀ t : Tr, Rep t.data t
  | .num n => .num rfl
  | .var x => .var rfl
  | .pre w a => .pre rfl (rep_data a)
  | .bin w a b => .bin rfl (rep_data a) (rep_data b)
def Tr.ldata : Tr → PyData
  | .num n => .list [.str "number", .int n] | .var x => .list [.str "variable", .str x] | .pre w a => .list [.str w, a.ldata] | .bin w a b => .list [.str w, a.ldata, b.ldata]
theorem rep_ldata : ∀ t : Tr, Rep t.ldata t
  | .num n => .num rfl
  | .var x => .var rfl
  | .pre w a => .pre rfl (rep_ldata a)
  | .bin w a b => .bin rfl (rep_ldata a) (rep_ldata b)
def Tr.wf : Tr → Prop
  | .num n => n.natAbs.log2 < 1920
  | .var _ => True
  | .pre w a => w ∈ prefL ∧ a.wf
  | .bin w a b => w ∈ binL ∧ a.wf ∧ b.wf
def Tr.sz : Tr → Nat
  | .num _ => 3 | .var _ => 3 | .pre _ a => 6 + a.sz | .bin _ a b => 10 + (a.sz + b.sz)
theorem Ty.wf {b : Bool} {n : Nat} {t : Tr} (h : Ty b n t) : t.wf := by
  have hn : ∀ n ∈ numL, n.natAbs.log2 < 1920 := by decide +kernel
  have h1 : ∀ w ∈ arithL ++ compL ++ logL, w ∈ binL := by decide +kernel
  induction h with
  | num h => exact hn _ h
  | var _ => exact trivial
  | neg _ ih => exact ⟨by decide +kernel, ih⟩
  | not_ _ ih => exact ⟨by decide +kernel, ih⟩
  | bin hw _ _ i1 i2 => exact ⟨h1 _ (by simp [hw]), i1, i2⟩
  | cmp hw _ _ i1 i2 => exact ⟨h1 _ (by simp [hw]), i1, i2⟩
  | log hw _ _ i1 i2 => exact ⟨h1 _ (by simp [hw]), i1, i2⟩
def szB : Nat → Nat
  | 0 => 3
  | n + 1 => 2 * szB n + 10
theorem szB_ge (n : Nat) : 3 ≤ szB n := by
  induction n with
  | zero => simp [szB]
  | succ n ih => simp only [szB]; omega
theorem Ty.size {b : Bool} {n : Nat} {t : Tr} (h : Ty b n t) : t.sz ≤ szB n := by
  induction h with
  | @num k n h => exact szB_ge k
  | @var k x h => exact szB_ge k
  | neg _ ih => simp only [Tr.sz, szB]; omega
  | not_ _ ih => simp only [Tr.sz, szB]; omega
  | bin hw _ _ i1 i2 => simp only [Tr.sz, szB]; omega
  | cmp hw _ _ i1 i2 => simp only [Tr.sz, szB]; omega
  | log hw _ _ i1 i2 => simp only [Tr.sz, szB]; omega
/-! parts of a text -/
abbrev Part := Str ⊕ Tr
def enclT (t : Tr) (l : Int) : List Part := if l ≤ t.bnd then [.inr t] else if t.bnd < 5 then [.inl "[", .inr t, .inl "]"] else [.inl "(", .inr t, .inl ")"]
def midS (w : Str) : Str := ((Str.empty ++ (" " : Str)) ++ w) ++ (" " : Str)
def partsT : Tr → List Part
  | .num n => [.inl (numS n)]
  | .var x => [.inl x]
  | .pre w a => .inl (if w = "negate" then "-" else "not ") :: enclT a (bindOf w)
  | .bin w a b => (enclT a (bindOf w) ++ [.inl (midS w)]) ++ enclT b (bindOf w + 1)
def txtP : Part → List Nat
  | .inl s => cod s
  | .inr t => t.txt
theorem enclT_txt (t : Tr) (l : Int) : (enclT t l).flatMap txtP = encl t.bnd l t.txt := by
  have c1 : cod "[" = [91] := by decide +kernel
  have c2 : cod "]" = [93] := by decide +kernel
  have c3 : cod "(" = [40] := by decide +kernel
  have c4 : cod ")" = [41] := by decide +kernel
  unfold enclT encl
  split
  · simp [txtP]
  · split
    · simp [txtP, c1, c2]
    · simp [txtP, c3, c4]
theorem enclT_len (t : Tr) (l : Int) : (enclT t l).length ≤ 3 := by
  unfold enclT
  split
  · exact (by decide : (1 : Nat) ≤ 3)
  · split
    · exact Nat.le_refl 3
    · exact Nat.le_refl 3
theorem cat_cod (x y : Str) : cod (x ++ y) = cod x ++ cod y := by
  rw [← S_tl x, ← S_tl y, S_cat]
theorem partsT_txt (t : Tr) : (partsT t).flatMap txtP = t.txt := by
  have c1 : cod "-" = [45] := by decide +kernel
  have c2 : cod "not " = [110, 111, 116, 32] := by decide +kernel
  have c3 : cod " " = [32] := by decide +kernel
  have c4 : cod Str.empty = [] := by decide +kernel
  cases t with
  | num n => simp [partsT, txtP, Tr.txt]
  | var x => simp [partsT, txtP, Tr.txt]
  | pre w a =>
    unfold partsT Tr.txt preC
    rw [List.flatMap_cons, enclT_txt]
    congr 1
    show cod (if w = "negate" then "-" else "not ") = _
    split
    · exact c1
    · exact c2
  | bin w a b =>
    unfold partsT Tr.txt
    rw [List.flatMap_append, List.flatMap_append, enclT_txt, enclT_txt, List.append_assoc]
    congr 1
    congr 1
    simp only [List.flatMap_cons, List.flatMap_nil, List.append_nil, txtP, midS]
    rw [cat_cod, cat_cod, cat_cod, c3, c4]
    simp
def msP : Part → Nat
  | .inl _ => 1
  | .inr t => t.sz
def msL (ps : List Part) : Nat := (ps.map msP).sum
theorem msL_app (xs ys : List Part) : msL (xs ++ ys) = msL xs + msL ys := by unfold msL; rw [List.map_append, List.sum_append]
theorem msL_cons (x : Part) (ys : List Part) : msL (x :: ys) = msP x + msL ys := by unfold msL; rw [List.map_cons, List.sum_cons]
theorem enclT_ms (t : Tr) (l : Int) : msL (enclT t l) ≤ t.sz + 2 := by
  unfold enclT
  split
  · simp [msL, msP]
  · split <;> simp [msL, msP] <;> omega
theorem partsT_ms (t : Tr) : msL (partsT t) < t.sz := by
  cases t with
  | num n => simp [partsT, msL, msP, Tr.sz]
  | var x => simp [partsT, msL, msP, Tr.sz]
  | pre w a =>
    have := enclT_ms a (bindOf w)
    unfold partsT
    rw [msL_cons]
    simp only [msP, Tr.sz]
    omega
  | bin w a b =>
    have h1 := enclT_ms a (bindOf w)
    have h2 := enclT_ms b (bindOf w + 1)
    unfold partsT
    rw [msL_app, msL_app, msL_cons]
    simp only [msP, Tr.sz, msL, List.map_nil, List.sum_nil] at *
    omega
theorem ms_len (ps : List Part) : ps.length ≤ msL ps := by
  induction ps with
  | nil => simp
  | cons p ps ih =>
    rw [msL_cons, List.length_cons]
    have : 1 ≤ msP p := by
      cases p with
      | inl s => simp [msP]
      | inr t => cases t <;> simp [msP, Tr.sz] <;> omega
    omega
def wfP : Part → Prop
  | .inl _ => True
  | .inr t => t.wf
theorem enclT_wf {t : Tr} (h : t.wf) (l : Int) : ∀ p ∈ enclT t l, wfP p := by
  intro p hp
  unfold enclT at hp
  split at hp
  · rw [List.mem_singleton.mp hp]; exact h
  · split at hp
    · simp at hp
      rcases hp with rfl | rfl | rfl
      · trivial
      · exact h
      · trivial
    · simp at hp
      rcases hp with rfl | rfl | rfl
      · trivial
      · exact h
      · trivial
theorem partsT_wf {t : Tr} (h : t.wf) : ∀ p ∈ partsT t, wfP p := by
  intro p hp
  cases t with
  | num n => rw [List.mem_singleton.mp hp]; trivial
  | var x => rw [List.mem_singleton.mp hp]; trivial
  | pre w a =>
    rcases List.mem_cons.mp hp with e | hp
    · rw [e]; trivial
    · exact enclT_wf h.2 _ p hp
  | bin w a b =>
    rcases List.mem_append.mp hp with hp | hp
    · rcases List.mem_append.mp hp with hp | hp
      · exact enclT_wf h.2.1 _ p hp
      · rw [List.mem_singleton.mp hp]; trivial
    · exact enclT_wf h.2.2 _ p hp
section
variable {K : PySem.W.Frag} {H : Hp}
/-- what stands at a node -/
def Below (K : PySem.W.Frag) (H : Hp) (xs : List V) : Tr → Prop
  | .num n => xs = [.str "number", .int n]
  | .var x => xs = [.str "variable", .str x]
  | .pre w a => ∃ v d, xs = [.str w, v] ∧ Dp K H v d ∧ Rep d a
  | .bin w a b => ∃ v d u e, xs = [.str w, v, u] ∧ Dp K H v d ∧ Rep d a ∧ Dp K H u e ∧ Rep e b
theorem dpS {v : V} {x : Str} (h : Dp K H v (.str x)) : v = .str x := by cases h; rfl
theorem dpI {v : V} {i : Int} (h : Dp K H v (.int i)) : v = .int i := by cases h; rfl
theorem dpAll2 {xs : List V} {d1 d2 : PyData} (h : DpAll K H xs [d1, d2]) : ∃ v1 v2, xs = [v1, v2] ∧ Dp K H v1 d1 ∧ Dp K H v2 d2 := by
  cases h with
  | cons h1 h => cases h with
    | cons h2 h => cases h; exact ⟨_, _, rfl, h1, h2⟩
theorem dpAll3 {xs : List V} {d1 d2 d3 : PyData} (h : DpAll K H xs [d1, d2, d3]) : ∃ v1 v2 v3, xs = [v1, v2, v3] ∧ Dp K H v1 d1 ∧ Dp K H v2 d2 ∧ Dp K H v3 d3 := by
  cases h with
  | cons h1 h => cases h with
    | cons h2 h => cases h with
      | cons h3 h => cases h; exact ⟨_, _, _, rfl, h1, h2, h3⟩
theorem node_at {v : V} {d : PyData} {t : Tr} (h : Dp K H v d) (r : Rep d t) : ∃ a xs, v = .ref a ∧ (SqL K H a xs ∨ SqT K H a xs) ∧ Below K H xs t := by
  cases r with
  | num k =>
    obtain ⟨a, xs, e, hs, hx⟩ := src_of h k
    obtain ⟨v1, v2, rfl, h1, h2⟩ := dpAll2 hx
    rw [dpS h1, dpI h2] at hs
    exact ⟨a, _, e, hs, rfl⟩
  | var k =>
    obtain ⟨a, xs, e, hs, hx⟩ := src_of h k
    obtain ⟨v1, v2, rfl, h1, h2⟩ := dpAll2 hx
    rw [dpS h1, dpS h2] at hs
    exact ⟨a, _, e, hs, rfl⟩
  | pre k ra =>
    obtain ⟨a, xs, e, hs, hx⟩ := src_of h k
    obtain ⟨v1, v2, rfl, h1, h2⟩ := dpAll2 hx
    rw [dpS h1] at hs
    exact ⟨a, _, e, hs, v2, _, rfl, h2, ra⟩
  | bin k ra rb =>
    obtain ⟨a, xs, e, hs, hx⟩ := src_of h k
    obtain ⟨v1, v2, v3, rfl, h1, h2, h3⟩ := dpAll3 hx
    rw [dpS h1] at hs
    exact ⟨a, _, e, hs, v2, _, v3, _, rfl, h2, ra, h3, rb⟩
theorem below_head {xs : List V} {t : Tr} (h : Below K H xs t) : xs[0]? = some (.str t.word) := by
  cases t with
  | num n => rw [h]; rfl
  | var x => rw [h]; rfl
  | pre w a => obtain ⟨v, d, rfl, _⟩ := h; rfl
  | bin w a b => obtain ⟨v, d, u, e, rfl, _⟩ := h; rfl
def PartAt (K : PySem.W.Frag) (H : Hp) (v : V) : Part → Prop
  | .inl s => v = .str s
  | .inr t => ∃ d, Dp K H v d ∧ Rep d t
inductive PartsAt (K : PySem.W.Frag) (H : Hp) : List V → List Part → Prop where
  | nil : PartsAt K H [] []
  | cons {v : V} {p : Part} {vs : List V} {ps : List Part} : PartAt K H v p → PartsAt K H vs ps → PartsAt K H (v :: vs) (p :: ps)
theorem PartsAt.app {vs us : List V} {ps qs : List Part} (h : PartsAt K H vs ps) (g : PartsAt K H us qs) : PartsAt K H (vs ++ us) (ps ++ qs) := by
  induction h with
  | nil => exact g
  | cons h1 _ ih => exact .cons h1 ih
theorem PartsAt.len {vs : List V} {ps : List Part} (h : PartsAt K H vs ps) : vs.length = ps.length := by
  induction h with
  | nil => rfl
  | cons _ _ ih => simp [ih]
/-- it is no text -/
theorem no_str {v : V} {d : PyData} {t : Tr} (h : Dp K H v d) (r : Rep d t) : ∃ u, TyX K H v u ∧ PySem.W.kitOne K u (.type "str") = some false := by
  have hk : ∃ its, kids d = some its := by cases r <;> exact ⟨_, by assumption⟩
  obtain ⟨its, hk⟩ := hk
  cases h with
  | tup h1 _ =>
    refine ⟨.type "tuple", ?_, kit_ty (by decide +kernel)⟩
    rcases h1 with (h | ⟨o, h⟩) | ⟨o, its, n, h, hc, _⟩
    · exact .base (.tup h)
    · exact .fTuple h
    · exact .kTuple h hc
  | lst h1 _ =>
    refine ⟨.type "list", ?_, kit_ty (by decide +kernel)⟩
    rcases h1 with (h | ⟨o, h⟩) | ⟨o, its, n, h, hc, _⟩
    · exact .base (.lst h)
    · exact .base (.frz h)
    · exact .kList h hc
  | _ => simp [kids] at hk
end
theorem joinL_nil : ∀ l : List (List Nat), TL.joinL [] l = l.flatten
  | [] => rfl
  | [x] => by simp [TL.joinL]
  | x :: y :: l => by
    show x ++ ([] ++ TL.joinL [] (y :: l)) = _
    rw [joinL_nil (y :: l)]
    simp
theorem join_nil (ss : List Str) : Txt.join "" ss = S (ss.flatMap cod) := by
  have h := join_S [] (ss.map cod)
  rw [joinL_nil] at h
  have e : ("" : Str) = S [] := by decide +kernel
  rw [e]
  have e2 : (ss.map cod).map S = ss := by
    rw [List.map_map]
    exact (List.map_congr_left (fun s _ => S_tl s)).trans (List.map_id ss)
  rw [e2] at h
  rw [h, ← List.flatMap_def]
end Rx

set_option Elab.async false
set_option linter.all false
set_option maxRecDepth 100000
set_option maxHeartbeats 1000000
namespace Rx
open PySem PySem.Spec PyProof.Rows L2 SX
/-! ### whatever is read is a good tree, not larger than its text -/
def Tr.gt : Tr → Prop
  | .num n => 0 ≤ n ∧ n.natAbs < 10 ^ 30
  | .var x => isName (cod x) = true
  | .pre w a => w ∈ prefL ∧ a.gt
  | .bin w a b => w ∈ binL ∧ a.gt ∧ b.gt
theorem Tr.gt.wf : ∀ {t : Tr}, t.gt → t.wf
  | .num n, h => by
    have h1 : n.natAbs < 2 ^ 100 := Nat.lt_of_lt_of_le h.2 (by decide)
    show n.natAbs.log2 < 1920
    by_cases h0 : n.natAbs = 0
    · rw [h0]; decide
    · exact Nat.lt_of_lt_of_le ((Nat.log2_lt h0).mpr h1) (by decide)
  | .var _, _ => trivial
  | .pre _ _, h => ⟨h.1, Tr.gt.wf h.2⟩
  | .bin _ _ _, h => ⟨h.1, Tr.gt.wf h.2.1, Tr.gt.wf h.2.2⟩
def GN (ns : List PyData) (ts : List Tr) : Prop := ns = ts.map Tr.data ∧ ∀ t ∈ ts, t.gt
def opsB : List Str := prefL ++ (binL ++ (["(", "["] : List Str))
def GO (os : List Str) : Prop := ∀ o ∈ os, o ∈ opsB
def szs (ts : List Tr) : Nat := (ts.map Tr.sz).sum
theorem bind_ops : ∀ o ∈ opsB, 0 ≤ bindOf o → o ∈ prefL ∨ (prefL.contains o = false ∧ o ∈ binL) := by decide +kernel
theorem pref_con : ∀ o ∈ prefL, prefL.contains o = true := by decide +kernel
theorem mid_bnd : ∀ s ∈ midL, 0 ≤ bindOf s ∧ s ∈ opsB := by decide +kernel
theorem join_gd {o : Str} {ns ms : List PyData} {ts : List Tr} (ho : o ∈ opsB) (hb : 0 ≤ bindOf o) (h : GN ns ts) (e : joinOp o ns = some ms) : ∃ us, GN ms us ∧ szs us ≤ szs ts + 10 := by
  obtain ⟨rfl, hg⟩ := h
  unfold joinOp at e
  rcases bind_ops o ho hb with hp | ⟨hp, hm⟩
  · rw [if_pos (pref_con o hp)] at e
    cases ts with
    | nil => cases e
    | cons t ts =>
      simp only [List.map_cons, Option.some.injEq] at e
      subst e
      refine ⟨.pre o t :: ts, ⟨rfl, fun u hu => ?_⟩, by simp only [szs, List.map_cons, List.sum_cons, Tr.sz]; omega⟩
      rcases List.mem_cons.mp hu with rfl | hu
      · exact ⟨hp, hg _ (by simp)⟩
      · exact hg u (List.mem_cons_of_mem _ hu)
  · rw [if_neg (by rw [hp]; decide)] at e
    match ts, e with
    | [], e => cases e
    | [_], e => cases e
    | t :: l :: ts, e =>
      simp only [List.map_cons, Option.some.injEq] at e
      subst e
      refine ⟨.bin o l t :: ts, ⟨rfl, fun u hu => ?_⟩, by simp only [szs, List.map_cons, List.sum_cons, Tr.sz]; omega⟩
      rcases List.mem_cons.mp hu with rfl | hu
      · exact ⟨hm, hg _ (by simp), hg _ (by simp)⟩
      · exact hg u (by simp [hu])
theorem down_gd {b : Int} (hb : 0 ≤ b) : ∀ {os : List Str} {ns : List PyData} {ts : List Tr} {x : List Str × List PyData}, GO os → GN ns ts → joinDown b os ns = some x → GO x.1 ∧ ∃ us, GN x.2 us ∧ szs us + 10 * x.1.length ≤ szs ts + 10 * os.length
  | [], ns, ts, x, ho, hn, e => by
    simp only [joinDown, Option.some.injEq] at e
    subst e
    exact ⟨ho, ts, hn, Nat.le_refl _⟩
  | o :: os, ns, ts, x, ho, hn, e => by
    unfold joinDown at e
    split at e
    · rename_i hle
      split at e
      · rename_i ms hm
        obtain ⟨us, h1, h2⟩ := join_gd (ho o (by simp)) (by omega) hn hm
        obtain ⟨h3, vs, h4, h5⟩ := down_gd hb (fun y hy => ho y (List.mem_cons_of_mem _ hy)) h1 e
        exact ⟨h3, vs, h4, by simp only [List.length_cons]; omega⟩
      · cases e
    · injection e with e
      subst e
      exact ⟨ho, ts, hn, Nat.le_refl _⟩
theorem GO.cons {s : Str} {os : List Str} (h : GO os) (hs : s ∈ opsB) : GO (s :: os) := fun o ho => by
  rcases List.mem_cons.mp ho with rfl | ho
  · exact hs
  · exact h o ho
def TokG (s : Str) (v : V) : Prop := (s = "number" → ∃ n : Int, v = .int n ∧ 0 ≤ n ∧ n.natAbs < 10 ^ 30) ∧ (s = "variable" → ∃ x : Str, v = .str x ∧ isName (cod x) = true)
theorem beg_ops : ("negate" : Str) ∈ opsB ∧ ("not" : Str) ∈ opsB ∧ ("(" : Str) ∈ opsB ∧ ("[" : Str) ∈ opsB := by decide +kernel
theorem step_gd {r q : RS} {s : Str} {v : V} {ts : List Tr} (ho : GO r.ops) (hn : GN r.nodes ts) (hv : TokG s v) (hf : r.fits s = true) (ht : r.takeIn s v = some q) : GO q.ops ∧ ∃ us, GN q.nodes us ∧ szs us + 10 * q.ops.length ≤ szs ts + 10 * r.ops.length + 10 := by
  unfold RS.fits at hf
  unfold RS.takeIn at ht
  split at ht
  · rename_i hst
    rw [if_pos hst] at hf
    injection ht with ht
    subst ht
    obtain ⟨b3, b4, b5, b6⟩ := beg_ops
    rcases beg_in hf with rfl | rfl | rfl | rfl | ⟨_, rfl | rfl⟩
    · obtain ⟨n, rfl, hl⟩ := hv.1 rfl
      refine ⟨ho, .num n :: ts, ⟨by show PyData.tuple [_, _] :: r.nodes = _; rw [hn.1]; rfl, fun u hu => ?_⟩, ?_⟩
      · rcases List.mem_cons.mp hu with rfl | hu
        · exact hl
        · exact hn.2 u hu
      · show szs (.num n :: ts) + 10 * r.ops.length ≤ _
        simp only [szs, List.map_cons, List.sum_cons, Tr.sz]; omega
    · obtain ⟨x, rfl, hl⟩ := hv.2 rfl
      refine ⟨ho, .var x :: ts, ⟨by show PyData.tuple [_, _] :: r.nodes = _; rw [hn.1]; rfl, fun u hu => ?_⟩, ?_⟩
      · rcases List.mem_cons.mp hu with rfl | hu
        · exact hl
        · exact hn.2 u hu
      · show szs (.var x :: ts) + 10 * r.ops.length ≤ _
        simp only [szs, List.map_cons, List.sum_cons, Tr.sz]; omega
    · exact ⟨ho.cons b3, ts, hn, Nat.le_of_eq (by show szs ts + 10 * (r.ops.length + 1) = _; omega)⟩
    · exact ⟨ho.cons b5, ts, hn, Nat.le_of_eq (by show szs ts + 10 * (r.ops.length + 1) = _; omega)⟩
    · exact ⟨ho.cons b4, ts, hn, Nat.le_of_eq (by show szs ts + 10 * (r.ops.length + 1) = _; omega)⟩
    · exact ⟨ho.cons b6, ts, hn, Nat.le_of_eq (by show szs ts + 10 * (r.ops.length + 1) = _; omega)⟩
  · rename_i hst
    rw [if_neg hst] at hf
    split at ht
    · unfold RS.close_ at ht
      obtain ⟨x, hx, ht⟩ := Option.bind_eq_some_iff.mp ht
      unfold RS.down at hx
      obtain ⟨y, hy, rfl⟩ := Option.map_eq_some_iff.mp hx
      obtain ⟨h1, us, h2, h3⟩ := down_gd (Int.le_refl 0) ho hn hy
      dsimp only at ht
      split at ht
      · rename_i o os b bs e1 e2
        injection ht with ht
        subst ht
        exact ⟨fun z hz => h1 z (by rw [e1]; exact List.mem_cons_of_mem _ hz), us, h2, by rw [e1] at h3; simp only [List.length_cons] at h3; show szs us + 10 * os.length ≤ _; omega⟩
      · cases ht
    · split at ht
      · unfold RS.down at ht
        obtain ⟨y, hy, rfl⟩ := Option.map_eq_some_iff.mp ht
        obtain ⟨h1, us, h2, h3⟩ := down_gd (Int.le_refl 0) ho hn hy
        exact ⟨h1, us, h2, by show szs us + 10 * y.1.length ≤ _; omega⟩
      · rename_i hs he
        have hm : s ∈ midL := by
          rcases follow_in hf with h | h | h | h
          · exact h
          · exact absurd (.inl h) hs
          · exact absurd (.inr h) hs
          · exact absurd h he
        unfold RS.between at ht
        obtain ⟨x, hx, ht⟩ := Option.map_eq_some_iff.mp ht
        unfold RS.down at hx
        obtain ⟨y, hy, rfl⟩ := Option.map_eq_some_iff.mp hx
        obtain ⟨h1, us, h2, h3⟩ := down_gd (mid_bnd s hm).1 ho hn hy
        subst ht
        split
        · exact ⟨h1.cons (mid_bnd s hm).2, us, h2, by show szs us + 10 * (y.1.length + 1) ≤ _; omega⟩
        · exact ⟨h1.cons (mid_bnd s hm).2, us, h2, by show szs us + 10 * (y.1.length + 1) ≤ _; omega⟩
theorem words_no : ∀ w ∈ wordsL, w ≠ "number" ∧ w ≠ "variable" := by decide +kernel
theorem signs_no : ∀ w ∈ signsL, w ≠ "number" ∧ w ≠ "variable" := by decide +kernel
theorem digits_lt {w : List Nat} (h1 : w.length ≤ 30) (h2 : w.all isDig = true) : NumText.digitsVal w < 10 ^ 30 := by
  have : ∀ (l : List Nat) (a : Nat), l.all isDig = true → l.foldl (fun x c => x * 10 + (c - 48)) a < (a + 1) * 10 ^ l.length := by
    intro l
    induction l with
    | nil => intro a _; simp
    | cons c r ih =>
      intro a h
      rw [List.all_cons, Bool.and_eq_true] at h
      have hc : c - 48 ≤ 9 := by
        have := h.1
        unfold isDig at this
        rw [Bool.and_eq_true, decide_eq_true_eq, decide_eq_true_eq] at this
        omega
      refine Nat.lt_of_lt_of_le (ih _ h.2) ?_
      rw [List.length_cons, Nat.pow_succ, ← Nat.mul_assoc, Nat.mul_right_comm]
      refine Nat.mul_le_mul_right _ ?_
      show a * 10 + (c - 48) + 1 ≤ (a + 1) * 10
      omega
  have h := this w 0 h2
  have e : (0 + 1) * 10 ^ w.length ≤ 10 ^ 30 := by
    rw [Nat.zero_add, Nat.one_mul]
    exact Nat.pow_le_pow_right (by decide) h1
  exact Nat.lt_of_lt_of_le h e
theorem tokAt_gd (c : Nat) (r : List Nat) : TokG (tokAt (c :: r)).1 (tokAt (c :: r)).2.1 := by
  unfold tokAt
  dsimp only
  split
  · unfold wordTok
    split
    · rename_i h
      have := words_no _ (List.contains_iff_mem.mp h)
      exact ⟨fun e => absurd e this.1, fun e => absurd e this.2⟩
    · split
      · rename_i h
        refine ⟨fun e => absurd e (by show ("variable" : Str) ≠ "number"; decide +kernel), fun _ => ⟨_, rfl, ?_⟩⟩
        rw [show cod (S ((c :: r).takeWhile isLet)) = (c :: r).takeWhile isLet by simp [S]]
        exact h
      · exact ⟨fun e => absurd e (by show ("bad" : Str) ≠ "number"; decide +kernel), fun e => absurd e (by show ("bad" : Str) ≠ "variable"; decide +kernel)⟩
  · split
    · unfold numTok
      split
      · rename_i h
        unfold isNum at h
        simp only [Bool.and_eq_true, decide_eq_true_eq] at h
        refine ⟨fun _ => ⟨_, rfl, Int.natCast_nonneg _, ?_⟩, fun e => absurd e (by show ("number" : Str) ≠ "variable"; decide +kernel)⟩
        rw [Int.natAbs_natCast]
        exact digits_lt h.2.1 h.2.2.2
      · exact ⟨fun e => absurd e (by show ("bad" : Str) ≠ "number"; decide +kernel), fun e => absurd e (by show ("bad" : Str) ≠ "variable"; decide +kernel)⟩
    · unfold signTok
      split
      · rename_i s h
        have := signs_no _ (List.mem_of_find?_eq_some h)
        exact ⟨fun e => absurd e this.1, fun e => absurd e this.2⟩
      · exact ⟨fun e => absurd e (by show ("bad" : Str) ≠ "number"; decide +kernel), fun e => absurd e (by show ("bad" : Str) ≠ "variable"; decide +kernel)⟩
theorem end_gd : TokG "end" .non := ⟨fun e => absurd e (by decide +kernel), fun e => absurd e (by decide +kernel)⟩
theorem run_gd : ∀ (n at_ : Nat) (cs : List Nat) (r q : RS) (ts : List Tr), GO r.ops → GN r.nodes ts → runX r (toksF n at_ cs) = some (.inr q) → ∃ us, GN q.nodes us ∧ szs us ≤ szs ts + 10 * r.ops.length + 10 * (n + 1) := by
  have fin : ∀ (at_ : Nat) (r q : RS) (ts : List Tr), GO r.ops → GN r.nodes ts → runX r [("end", .non, at_)] = some (.inr q) → ∃ us, GN q.nodes us ∧ szs us ≤ szs ts + 10 * r.ops.length + 10 := by
    intro at_ r q ts ho hn e
    unfold runX at e
    split at e
    · rename_i hf
      obtain ⟨x, hx, e⟩ := Option.bind_eq_some_iff.mp e
      unfold runX at e
      injection e with e
      injection e with e
      subst e
      obtain ⟨_, us, h1, h2⟩ := step_gd ho hn end_gd hf hx
      exact ⟨us, h1, by omega⟩
    · cases e
  intro n
  induction n with
  | zero => intro at_ cs r q ts ho hn e; obtain ⟨us, h1, h2⟩ := fin at_ r q ts ho hn e; exact ⟨us, h1, by omega⟩
  | succ n ih =>
    intro at_ cs r q ts ho hn e
    cases cs with
    | nil => obtain ⟨us, h1, h2⟩ := fin at_ r q ts ho hn e; exact ⟨us, h1, by omega⟩
    | cons c cs =>
      unfold toksF at e
      split at e
      · obtain ⟨us, h1, h2⟩ := ih _ _ _ _ ts ho hn e; exact ⟨us, h1, by omega⟩
      · unfold runX at e
        split at e
        · rename_i hf
          obtain ⟨x, hx, e⟩ := Option.bind_eq_some_iff.mp e
          obtain ⟨h1, us, h2, h3⟩ := step_gd ho hn (tokAt_gd c cs) hf hx
          obtain ⟨vs, h4, h5⟩ := ih _ _ _ _ us h1 h2 e
          exact ⟨vs, h4, by omega⟩
        · cases e
theorem read_gd {c : Bool} {cs : List Nat} {q : RS} {d : PyData} (h : runX (RS.start c) (toks cs) = some (.inr q)) (hn : q.nodes = [d]) : ∃ t : Tr, d = t.data ∧ t.gt ∧ t.sz ≤ 10 * (cs.length + 1) := by
  obtain ⟨us, ⟨h1, h2⟩, h3⟩ := run_gd _ _ _ _ _ [] (fun _ h => by cases h) ⟨rfl, fun _ h => by cases h⟩ h
  rw [hn] at h1
  match us, h1 with
  | [t], h1 =>
    simp only [List.map_cons, List.map_nil, List.cons.injEq, and_true] at h1
    refine ⟨t, h1, h2 t (by simp), ?_⟩
    simpa [szs, RS.start] using h3
theorem gt_len : ∀ {t : Tr}, t.gt → t.txt.length ≤ 11 * t.sz
  | .num n, h => by
    have : (cod (numS n)).length ≤ 30 := by
      obtain ⟨m, rfl⟩ := Int.eq_ofNat_of_zero_le h.1
      have e : toString ((m : Nat) : Int) = Nat.repr m := rfl
      show (numS ((m : Nat) : Int)).cps.toList.length ≤ 30
      unfold numS
      rw [e, PySem.Str.ofString_eq_toList]
      have := (Nat.length_repr_le_iff (n := m) (k := 30) (by decide)).mpr (by simpa using h.2)
      simpa [Nat.repr_eq_ofList_toDigits] using this
    show (cod (numS n)).length ≤ 33
    omega
  | .var x, h => by
    obtain ⟨_, _, h3, _⟩ := name_parts h
    show (cod x).length ≤ 33
    omega
  | .pre w a, h => by
    have h1 := gt_len h.2
    have h2 : (preC w).length ≤ 4 := by unfold preC; split <;> decide
    have h3 := encl_len a.bnd (bindOf w) a.txt
    show (preC w ++ encl a.bnd (bindOf w) a.txt).length ≤ 11 * (6 + a.sz)
    rw [List.length_append]
    omega
  | .bin w a b, h => by
    have h1 := gt_len h.2.1
    have h2 := gt_len h.2.2
    have h3 := encl_len a.bnd (bindOf w) a.txt
    have h4 := encl_len b.bnd (bindOf w + 1) b.txt
    have h5 : ∀ w ∈ binL, (cod w).length ≤ 3 := by decide +kernel
    have h6 := h5 w h.1
    have e : (Tr.bin w a b).txt = encl a.bnd (bindOf w) a.txt ++ ((32 :: cod w ++ [32]) ++ encl b.bnd (bindOf w + 1) b.txt) := rfl
    rw [e]
    simp only [List.length_append, List.length_cons, List.length_nil, Tr.sz]
    omega
end Rx

set_option Elab.async false
set_option linter.all false
set_option maxRecDepth 100000
set_option maxHeartbeats 1000000
namespace Rx
open PySem PySem.Spec PyProof.Rows L2 SX
/-! ### programs: their lines, what stands in them, and what is wrong with them -/
inductive Stp where
  | proc (n : Str) | take (x : Str) | inp (x : Str) | recv (x s : Str) | set (x : Str) (t : Tr) | send (p : Str) (t : Tr) | iff (t : Tr) | whil (t : Tr) | els | fin | chk
def Stp.word : Stp → Str
  | .proc _ => "process" | .take _ => "take" | .inp _ => "input" | .recv _ _ => "receive" | .set _ _ => "set" | .send _ _ => "send" | .iff _ => "if" | .whil _ => "while" | .els => "else" | .fin => "end" | .chk => "checkpoint"
def Stp.rest : Stp → List PyData
  | .proc n => [.str n] | .take x => [.str x] | .inp x => [.str x] | .recv x s => [.str x, .str s] | .set x t => [.str x, t.data] | .send p t => [.str p, t.data] | .iff t => [t.data] | .whil t => [t.data] | _ => []
def Stp.data (s : Stp) : PyData := .tuple (.str s.word :: s.rest)
def Stp.good : Stp → Prop
  | .proc n => isName (cod n) = true | .take x => isName (cod x) = true | .inp x => isName (cod x) = true | .recv x s => isName (cod x) = true ∧ isName (cod s) = true
  | .set x t => isName (cod x) = true ∧ t.gt ∧ t.sz ≤ 9010 | .send x t => isName (cod x) = true ∧ t.gt ∧ t.sz ≤ 9010 | .iff t => t.gt ∧ t.sz ≤ 9010 | .whil t => t.gt ∧ t.sz ≤ 9010 | _ => True
theorem tr_noList : ∀ t : Tr, noList t.data = true
  | .num _ => rfl
  | .var _ => rfl
  | .pre w a => by simp [Tr.data, noList, noListAll, tr_noList a]
  | .bin w a b => by simp [Tr.data, nBin, noList, noListAll, tr_noList a, tr_noList b]
theorem Stp.noList (s : Stp) : noList s.data = true := by
  cases s <;> simp [Stp.data, Stp.rest, Rx.noList, noListAll, tr_noList]
/-! one line -/
def Rd (c : Bool) (z : Str) : Option Tr → Prop
  | some t => ∃ r, runX (RS.start c) (toks (cod z)) = some (.inr r) ∧ r.nodes = [t.data] ∧ t.gt ∧ t.sz ≤ 9010
  | none => ∃ p, runX (RS.start c) (toks (cod z)) = some (.inl p)
abbrev par (z : Str) : Str × Str × Str := Txt.partition z " "
def soloL : List Str := ["checkpoint", "else", "end"]
def soloS (z : Str) : Stp := if z = "checkpoint" then .chk else if z = "else" then .els else .fin
def oneL : List Str := ["process", "take", "input"]
def oneS (w x : Str) : Stp := if w = "process" then .proc x else if w = "take" then .take x else .inp x
/-- what is parsed of a line: is it a condition, and which text -/
def argC (z : Str) : Bool := (par z).1 = "if" || (par z).1 = "while"
def argT (z : Str) : Str := if argC z = true then (par z).2.2 else (par (par z).2.2).2.2
def lineF (z : Str) (T : Option Tr) : Option Stp :=
  if soloL.contains z = true then some (soloS z)
  else if oneL.contains (par z).1 = true then (if isName (cod (par z).2.2) = true then some (oneS (par z).1 (par z).2.2) else none)
  else if (par z).1 = "receive" then (if isName (cod (par (par z).2.2).1) = true ∧ isName (cod (par (par z).2.2).2.2) = true then some (.recv (par (par z).2.2).1 (par (par z).2.2).2.2) else none)
  else if (par z).1 = "set" then (if isName (cod (par (par z).2.2).1) = true then T.map (.set (par (par z).2.2).1) else none)
  else if (par z).1 = "send" then (if isName (cod (par (par z).2.2).1) = true then T.map (.send (par (par z).2.2).1) else none)
  else if (par z).1 = "if" then T.map .iff
  else if (par z).1 = "while" then T.map .whil
  else none
def LineR (z : Str) (o : Option Stp) : Prop := ∃ T, Rd (argC z) (argT z) T ∧ o = lineF z T
theorem rd_ex (c : Bool) (z : Str) (h : z.length ≤ 900) : ∃ T, Rd c z T := by
  have h1 := comes_text c (cod z)
  unfold Comes at h1
  split at h1
  · exact ⟨none, _, h1⟩
  · obtain ⟨q, d, h2, h3, _⟩ := h1
    obtain ⟨t, rfl, h4, h5⟩ := read_gd h2 h3
    have : (cod z).length = z.length := by simp [Str.length]
    exact ⟨some t, q, h2, h3, h4, by omega⟩
theorem occ_sub {x y : Str} {i : Nat} {tl : List Nat} (h : Builtin.Str.occurrences x y 0 x.length 1 = i :: tl) : True := trivial
/-! the blocks of a program -/
def fitsW (w : Str) (bs : List Str) : Bool :=
  if w = "process" then bs.isEmpty else if w = "if" ∨ w = "while" then decide (bs.length < 20) else if w = "else" then decide (bs.head? = some ("if" : Str)) else (decide (w ≠ "end") || decide (0 < bs.length))
def pushB (w : Str) (bs : List Str) : List Str := if w = "if" ∨ w = "while" then w :: bs else if w = "else" then w :: bs.tail else if w = "end" then bs.tail else bs
def blkF : Nat → List Str → List Stp → Option Nat
  | n, bs, [] => if bs.isEmpty = true then none else some n
  | n, bs, s :: r => if (n = 0 ∧ s.word ≠ "process") ∨ fitsW s.word bs = false then some n else blkF (n + 1) (pushB s.word bs) r
def procs : List Stp → List Str
  | [] => []
  | .proc n :: r => n :: procs r
  | _ :: r => procs r
def nmG (names : List Str) : Nat → Nat → List Stp → Option Nat
  | _, _, [] => none
  | n, b, .proc x :: r => if b = 40 ∨ x ∈ names.take b then some n else nmG names (n + 1) (b + 1) r
  | n, b, .send p _ :: r => if p ∉ names ∨ names[b - 1]? = some p then some n else nmG names (n + 1) b r
  | n, b, .recv _ p :: r => if p ∉ names ∨ names[b - 1]? = some p then some n else nmG names (n + 1) b r
  | n, b, _ :: r => nmG names (n + 1) b r
def nmF (ss : List Stp) : Option Nat := if ss.isEmpty = true then some 0 else nmG (procs ss) 0 0 ss
def steps : Nat → List (Option Stp) → Except Nat (List Stp)
  | _, [] => .ok []
  | n, none :: _ => .error n
  | n, some s :: r => (steps (n + 1) r).map (s :: ·)
theorem steps_err : ∀ {ss : List Stp} {os : List (Option Stp)} {n i : Nat}, os.take i = ss.map some → os[i]? = some none → steps n os = .error (n + i)
  | [], os, n, 0, _, h2 => by
    cases os with
    | nil => simp at h2
    | cons o os =>
      simp at h2
      subst h2
      rfl
  | _ :: _, os, n, 0, h1, _ => by simp at h1
  | ss, [], n, i + 1, _, h2 => by simp at h2
  | [], o :: os, n, i + 1, h1, _ => by simp at h1
  | s :: ss, o :: os, n, i + 1, h1, h2 => by
    simp only [List.take_succ_cons, List.map_cons, List.cons.injEq] at h1
    obtain ⟨rfl, h1⟩ := h1
    have := steps_err (n := n + 1) h1 (by simpa using h2)
    unfold steps
    rw [this, show n + 1 + i = n + (i + 1) by omega]
    rfl
theorem steps_ok : ∀ {ss : List Stp} {n : Nat}, steps n (ss.map some) = .ok ss
  | [], _ => rfl
  | s :: ss, n => by
    show (steps (n + 1) (ss.map some)).map (s :: ·) = _
    rw [steps_ok]
    rfl
theorem steps_inv : ∀ {os : List (Option Stp)} {n : Nat} {ss : List Stp}, steps n os = .ok ss → os = ss.map some
  | [], _, ss, h => by
    simp only [steps, Except.ok.injEq] at h
    subst h
    rfl
  | none :: _, _, _, h => by cases h
  | some s :: r, n, ss, h => by
    unfold steps at h
    cases e : steps (n + 1) r with
    | error k => rw [e] at h; cases h
    | ok us =>
      rw [e] at h
      injection h with h
      subst h
      rw [steps_inv e]
      rfl
/-- the outcome for the lines -/
def progR (many : Nat) (os : List (Option Stp)) : Except (Nat × Str) (List Stp) :=
  if 400 < many then .error (400, "limit") else match steps 0 os with
    | .error n => .error (n, "line")
    | .ok ss => match blkF 0 [] ss with
      | some n => .error (n, "block")
      | none => match nmF ss with
        | some n => .error (n, "name")
        | none => .ok ss
/-! ### statements -/
inductive Smt where
  | lf (s : Stp)
  | wh (t : Tr) (b : List Smt)
  | ife (t : Tr) (a b : List Smt)
mutual
def Smt.data : Smt → PyData
  | .lf s => s.data
  | .wh t b => .tuple [.str "while", t.data, .tuple (sdata b)]
  | .ife t a b => .tuple [.str "if", t.data, .tuple (sdata a), .tuple (sdata b)]
def sdata : List Smt → List PyData
  | [] => []
  | s :: r => s.data :: sdata r
end
theorem sdata_map : ∀ l : List Smt, sdata l = l.map Smt.data
  | [] => by simp [sdata]
  | s :: r => by simp [sdata, sdata_map r]
def headT (w : Str) (t : Tr) : Str := S (cod w ++ 32 :: t.txt)
def namT (w x : Str) (y : List Nat) : Str := S (cod w ++ 32 :: (cod x ++ 32 :: y))
def Stp.text : Stp → Str
  | .proc n => S (cod "process" ++ 32 :: cod n) | .take x => S (cod "take" ++ 32 :: cod x) | .inp x => S (cod "input" ++ 32 :: cod x) | .recv x s => namT "receive" x (cod s) | .set x t => namT "set" x t.txt | .send x t => namT "send" x t.txt
  | .iff t => headT "if" t | .whil t => headT "while" t | .els => "else" | .fin => "end" | .chk => "checkpoint"
mutual
def Smt.lines : Smt → List Str
  | .lf s => [s.text]
  | .wh t b => headT "while" t :: (slines b ++ [("end" : Str)])
  | .ife t a b => headT "if" t :: ((slines a ++ (if b.isEmpty = true then [] else ("else" : Str) :: slines b)) ++ [("end" : Str)])
def slines : List Smt → List Str
  | [] => []
  | s :: r => s.lines ++ slines r
end
mutual
def Smt.dep : Smt → Nat
  | .lf _ => 0
  | .wh _ b => sdep b + 1
  | .ife _ a b => max (sdep a) (sdep b) + 1
def sdep : List Smt → Nat
  | [] => 0
  | s :: r => max s.dep (sdep r)
end
def leafS : Stp → Bool
  | .take _ => true | .inp _ => true | .recv _ _ => true | .set _ _ => true | .send _ _ => true | .chk => true | _ => false
mutual
def Smt.ok : Smt → Prop
  | .lf s => leafS s = true ∧ s.good
  | .wh t b => t.gt ∧ t.sz ≤ 9010 ∧ sok b
  | .ife t a b => t.gt ∧ t.sz ≤ 9010 ∧ sok a ∧ sok b
def sok : List Smt → Prop
  | [] => True
  | s :: r => s.ok ∧ sok r
end
theorem sok_iff : ∀ {l : List Smt}, sok l ↔ ∀ s ∈ l, s.ok
  | [] => by simp [sok]
  | s :: r => by simp [sok, sok_iff (l := r)]
theorem sdep_le {n : Nat} : ∀ {l : List Smt}, sdep l ≤ n ↔ ∀ s ∈ l, s.dep ≤ n
  | [] => by simp [sdep]
  | s :: r => by simp [sdep, sdep_le (l := r), Nat.max_le]
theorem slines_app : ∀ (a b : List Smt), slines (a ++ b) = slines a ++ slines b
  | [], b => by simp [slines]
  | s :: r, b => by simp [slines, slines_app r b]
mutual
theorem st_noList : ∀ s : Smt, noList s.data = true
  | .lf s => by simp only [Smt.data]; exact s.noList
  | .wh t b => by simp [Smt.data, noList, noListAll, tr_noList, sts_noList b]
  | .ife t a b => by simp [Smt.data, noList, noListAll, tr_noList, sts_noList a, sts_noList b]
theorem sts_noList : ∀ l : List Smt, noListAll (sdata l) = true
  | [] => by simp [sdata, noListAll]
  | s :: r => by simp [sdata, noListAll, st_noList s, sts_noList r]
end
/-! ### how the rows are built; last come first in heads and parts -/
structure BSt where
  rows : List (Str × List Smt)
  cur : Str
  parts : List (List Smt)
  heads : List Stp
def BSt.add (b : BSt) (x : Smt) : BSt := match b.parts with
  | [] => b
  | p :: ps => { b with parts := (p ++ [x]) :: ps }
def BSt.fin (b : BSt) : List (Str × List Smt) := match b.parts with
  | [p] => b.rows ++ [(b.cur, p)]
  | _ => b.rows
def BSt.close (b : BSt) : BSt := match b.heads, b.parts with
  | .whil t :: hs, p :: ps => BSt.add ⟨b.rows, b.cur, ps, hs⟩ (.wh t p)
  | .iff t :: hs, p :: ps => BSt.add ⟨b.rows, b.cur, ps, hs⟩ (.ife t p [])
  | .els :: .iff t :: hs, q :: p :: ps => BSt.add ⟨b.rows, b.cur, ps, hs⟩ (.ife t p q)
  | _, _ => b
def BSt.step (b : BSt) (s : Stp) : BSt := match s with
  | .proc n => ⟨b.fin, n, [[]], []⟩
  | .iff t => ⟨b.rows, b.cur, [] :: b.parts, .iff t :: b.heads⟩
  | .whil t => ⟨b.rows, b.cur, [] :: b.parts, .whil t :: b.heads⟩
  | .els => ⟨b.rows, b.cur, [] :: b.parts, .els :: b.heads⟩
  | .fin => b.close
  | s => b.add (.lf s)
def BSt.run (b : BSt) (ss : List Stp) : BSt := ss.foldl BSt.step b
def bst0 : BSt := ⟨[], Str.empty, [], []⟩
def rowsOf (ss : List Stp) : List (Str × List Smt) := (BSt.run bst0 ss).fin
def rowD (r : Str × List Smt) : PyData := .tuple [.str r.1, .tuple (sdata r.2)]
def rlines : List (Str × List Smt) → List Str
  | [] => []
  | r :: rs => (Stp.proc r.1).text :: (slines r.2 ++ rlines rs)
end Rx

set_option Elab.async false
set_option linter.all false
set_option maxRecDepth 100000
set_option maxHeartbeats 1000000
namespace Rx
open PySem PySem.Spec PyProof.Rows L2 SX
theorem tl_sp : TL.tl " " = [32] := by decide +kernel
theorem codS (l : List Nat) : cod (S l) = l := by simp [S]
theorem sp_split (z : Str) : (32 ∉ cod z ∧ (cod z).takeWhile (fun c => decide (c ≠ 32)) = cod z) ∨ ∃ a b, cod z = a ++ 32 :: b ∧ 32 ∉ a ∧ (cod z).takeWhile (fun c => decide (c ≠ 32)) = a := by
  by_cases h : 32 ∈ cod z
  · refine .inr ?_
    have : ∀ l : List Nat, 32 ∈ l → ∃ a b, l = a ++ 32 :: b ∧ 32 ∉ a ∧ l.takeWhile (fun c => decide (c ≠ 32)) = a := by
      intro l
      induction l with
      | nil => intro h; cases h
      | cons c r ih =>
        intro h
        by_cases e : c = 32
        · subst e
          exact ⟨[], r, rfl, by simp, by simp⟩
        · rcases List.mem_cons.mp h with h | h
          · exact absurd h.symm e
          · obtain ⟨a, b, h1, h2, h3⟩ := ih h
            refine ⟨c :: a, b, by rw [h1]; rfl, ?_, ?_⟩
            · intro h4
              rcases List.mem_cons.mp h4 with h4 | h4
              · exact e h4.symm
              · exact h2 h4
            · rw [List.takeWhile_cons, if_pos (by simpa using e), h3]
    exact this _ h
  · refine .inl ⟨h, ?_⟩
    have : ∀ l : List Nat, 32 ∉ l → l.takeWhile (fun c => decide (c ≠ 32)) = l := by
      intro l
      induction l with
      | nil => intro _; rfl
      | cons c r ih =>
        intro h
        rw [List.takeWhile_cons, if_pos (by simpa using fun e => h (by simp [e])), ih (fun x => h (by simp [x]))]
    exact this _ h
theorem sp_inj {a b a' b' : List Nat} (h : a ++ 32 :: b = a' ++ 32 :: b') (h1 : 32 ∉ a) (h2 : 32 ∉ a') : a = a' ∧ b = b' := by
  induction a generalizing a' with
  | nil =>
    cases a' with
    | nil => simpa using h
    | cons c r => simp only [List.nil_append, List.cons_append, List.cons.injEq] at h; exact absurd (by rw [← h.1]; simp) h2
  | cons c r ih =>
    cases a' with
    | nil => simp only [List.nil_append, List.cons_append, List.cons.injEq] at h; exact absurd (by rw [h.1]; simp) h1
    | cons c' r' =>
      simp only [List.cons_append, List.cons.injEq] at h
      obtain ⟨h3, h4⟩ := ih h.2 (fun h => h1 (by simp [h])) (fun h => h2 (by simp [h]))
      exact ⟨by rw [h.1, h3], h4⟩
theorem par_none {z : Str} (h : 32 ∉ cod z) : par z = (z, Str.empty, Str.empty) := TL.partition_none tl_sp h
theorem str_cod (z : Str) : S (cod z) = z := by simp [S]
theorem par_some {z : Str} {a b : List Nat} (h : cod z = a ++ 32 :: b) (ha : 32 ∉ a) : par z = (S a, (" " : Str), S b) := by
  have e : z = S a ++ " " ++ S b := by
    refine cod_inj ?_
    show cod z = cod (S a ++ " " ++ S b)
    rw [cat_cod, cat_cod, codS, codS, show cod " " = [32] by decide +kernel]
    exact h.trans (by simp)
  rw [e]
  exact TL.partition_app tl_sp (by show 32 ∉ cod (S a); rw [codS]; exact ha)
theorem par_cut {w : Str} {b : List Nat} (hw : 32 ∉ cod w) : par (S (cod w ++ 32 :: b)) = (w, (" " : Str), S b) := by
  rw [par_some (codS _) hw, str_cod]
theorem par_len (z : Str) : (par z).1.length ≤ z.length ∧ (par z).2.2.length ≤ z.length := by
  have l : ∀ x : Str, x.length = (cod x).length := fun x => by simp [Str.length]
  rcases sp_split z with ⟨h, _⟩ | ⟨a, b, h, ha, _⟩
  · rw [par_none h]
    exact ⟨Nat.le_refl _, by show Str.empty.length ≤ _; exact Nat.zero_le _⟩
  · rw [par_some h ha, l z, h, l, l, codS, codS]
    simp
    omega
end Rx

set_option Elab.async false
set_option linter.all false
set_option maxRecDepth 100000
set_option maxHeartbeats 1000000
namespace Rx
open PySem PySem.Spec PyProof.Rows L2 SX
theorem mk_readN {K : PySem.W.Frag} {C : Addr} {fs : List Str} {H : Hp} {vs : List V} {ps : List PyData} {Q : XK} (hd : DpAll K H vs ps) (hl : vs.length = fs.length) (hz : ∀ d ∈ ps, sz d ≤ 1000) (h1000 : fs.length ≤ 1000)
    (k : ∀ (H' : Hp) (dx : Addr) (us : List V), Same H H' → H dx = none → H' dx = some (.xd (fs.zip us).reverse) → DpAll K H' us (fixAll ps) → us.length = fs.length → Q (.ref C) (some dx) H') :
    vs.length ≤ 1000 ∧ ∀ a, H a = none → spInit K C fs (.ref a :: (vs ++ [])) (upd H a (exo a C none))
      (fun x H2 => x = .non ∧ ∃ (dx : Addr) (fs : List (Str × V)), H2 a = some (exo a C (some dx)) ∧ H2 dx = some (exd dx fs) ∧ H dx = none ∧ Q (.ref C) (some dx) (upd (del H2 a) dx (.xd fs))) (fun _ _ _ => False) := by
  refine ⟨by rw [hl]; exact h1000, fun a ha => ?_⟩
  rw [List.append_nil]
  refine ⟨a, vs, ps, rfl, hl, upd_same, dpAll_same (same_new ha) hd, hz, fun H' dx us h0 h1 h2 h3 h4 h5 => ⟨rfl, ?_⟩⟩
  have hda : dx ≠ a := fun z => by rw [z, upd_same] at h0; cases h0
  have hdn : H dx = none := by rw [upd_ne hda] at h0; exact h0
  have sm : Same H (upd (del H' a) dx (.xd (fs.zip us).reverse)) := fun b o e => by
    have ba := ne_of_none e ha
    rw [upd_ne (ne_of_none e hdn), del_ne ba]
    exact h4 b o (by rw [upd_ne ba]; exact e) ba
  refine ⟨dx, (fs.zip us).reverse, h1, h2, hdn, k _ dx us sm hdn upd_same ?_ h5⟩
  refine dpAll_keep (fun b xs e => ?_) (fun b ob w e => ?_) h3 (fixAll_noList _)
  · have n1 : b ≠ a := fun z => by rw [z, h1] at e; cases e
    have n2 : b ≠ dx := fun z => by rw [z, h2] at e; cases e
    rw [upd_ne n2, del_ne n1]
    exact e
  · have n1 : b ≠ a := fun z => by rw [z, h1] at e; cases e
    have n2 : b ≠ dx := fun z => by rw [z, h2] at e; cases e
    rw [upd_ne n2, del_ne n1]
    exact e

/-! ### the error for a program's line -/
def BadAt (CP : Addr) (H : Hp) (n : Nat) (r : Str) (E : XK) : Prop := ∀ (H' : Hp) (dx : Addr), Same H H' → H dx = none → H' dx = some (.xd [("reason", .str r), ("line", .int (n : Nat))]) → E (.ref CP) (some dx) H'
theorem BadAt.same {CP : Addr} {H H1 : Hp} {n : Nat} {r : Str} {E : XK} (h : BadAt CP H n r E) (s : Same H H1) : BadAt CP H1 n r E := fun H' dx sm hd hx => h H' dx (s.trans sm) (s.free hd) hx
theorem mk_bad {K : PySem.W.Frag} {CP : Addr} {H H0 : Hp} {n : Nat} {r : Str} {E : XK} (h : BadAt CP H0 n r E) (s0 : Same H0 H) :
    [V.int (n : Nat), V.str r].length ≤ 1000 ∧ ∀ a, H a = none → spInit K CP ["line", "reason"] (.ref a :: ([V.int (n : Nat), V.str r] ++ [])) (upd H a (exo a CP none))
      (fun x H2 => x = .non ∧ ∃ (dx : Addr) (fs : List (Str × V)), H2 a = some (exo a CP (some dx)) ∧ H2 dx = some (exd dx fs) ∧ H dx = none ∧ E (.ref CP) (some dx) (upd (del H2 a) dx (.xd fs))) (fun _ _ _ => False) := by
  refine mk_readN (ps := [.int (n : Nat), .str r]) (.cons (.int _) (.cons (.str _) .nil)) rfl (fun d hd => ?_) (by decide) (fun H' dx us sm hdx hx hu hl => ?_)
  · simp only [List.mem_cons, List.not_mem_nil, or_false] at hd
    rcases hd with rfl | rfl <;> simp [sz]
  · match us, hu with
    | [u0, u1], .cons h0 (.cons h1 .nil) =>
      have e0 := dpI h0
      have e1 := dpS h1
      subst e0 e1
      exact h H' dx (s0.trans sm) (s0.free hdx) hx
/-- for i, x in enumerate(xs) -/
theorem for_enum {K : PySem.W.Frag} {a : Addr} {xs : List V} {g : TG} {tb : TS} {D : Ends} {σ : L2.St} {H : Hp} (Pv : Nat → L2.St → Hp → Prop) (h0 : Pv 0 σ H) (hl : ∀ i σ H, i ≤ xs.length → Pv i σ H → SqL K H a xs)
    (hs : ∀ i x σ H, xs[i]? = some x → Pv i σ H → ∀ T, H T = none → g (.ref T) σ (upd H T (.tup [.int (i : Nat), x])) fun σ2 H2 => tb { D with nx := Pv (i + 1), ct := Pv (i + 1), bk := D.nx } σ2 H2) (hd : ∀ σ H, Pv xs.length σ H → D.nx σ H) :
    ∃ W : Nat → Nat → L2.St → Hp → Prop, (∃ m, W 0 m σ H) ∧ ∀ (i m : Nat) (σ : L2.St) (H : Hp), W i m σ H → (Ite K a).stop i H ∧ D.nx σ H ∨ (Ite K a).go i H ∧ ∃ N : L2.St → Hp → Prop, (∀ σ' H', N σ' H' → ∃ m', m' < m ∧ W (i + 1) m' σ' H') ∧ ∀ x H', (Ite K a).yld i H x H' → g x σ H' fun σ2 H2 => tb { nx := N, rt := D.rt, bk := D.nx, ct := N } σ2 H2 := by
  refine for_it walk_enum Pv h0 hl (fun i x σ H H' hi hp hy => ?_) hd
  obtain ⟨T, u, v, rfl, hT, rfl, h1, h2⟩ := hy
  injection h1 with h1
  subst h1
  exact hs i v σ H h2 hp T hT
end Rx

set_option Elab.async false
set_option linter.all false
set_option maxRecDepth 100000
set_option maxHeartbeats 1000000
namespace Rx
open PySem PySem.Spec PyProof.Rows L2 SX
theorem shStrs3 (ns : List Str) (h : ∀ n ∈ ns, PyData.strOk n = true) : SeqAt.shaped (.list (ns.map PyData.str)) = true := by
  have h1 : ∀ ns : List Str, (∀ n ∈ ns, PyData.strOk n = true) → PyData.canLayAll0 (ns.map PyData.str) = true ∧ PyData.depthAll (ns.map PyData.str) = 0 := by
    intro ns
    induction ns with
    | nil => intro _; simp [PyData.canLayAll0, PyData.depthAll]
    | cons n ns ih =>
      intro h
      obtain ⟨i1, i2⟩ := ih fun x hx => h x (by simp [hx])
      simp [PyData.canLayAll0, PyData.depthAll, PyData.canLay0, PyData.depth, i1, i2, h n (by simp)]
  simp [SeqAt.shaped, PyData.canLay0, PyData.depth, (h1 ns h).1, (h1 ns h).2]
theorem dpStrs3 {K : PySem.W.Frag} (H : Hp) : ∀ ns : List Str, DpAll K H (ns.map V.str) (ns.map PyData.str)
  | [] => .nil
  | x :: r => .cons (.str x) (dpStrs3 H r)
theorem name_strOk {x : Str} (h : isName (cod x) = true) : PyData.strOk x = true := by
  have := name_ok h
  rw [str_cod] at this
  exact this
theorem eqv_nil3 : PyData.eqv (.list []) (.list []) = true := by decide +kernel
/-- data of so many floors -/
def Lay (n : Nat) (d : PyData) : Prop := d.canLay0 = true ∧ d.depth ≤ n
theorem lay_all {n : Nat} : ∀ {xs : List PyData}, (∀ x ∈ xs, Lay n x) → PyData.canLayAll0 xs = true ∧ PyData.depthAll xs ≤ n
  | [], _ => by simp [PyData.canLayAll0, PyData.depthAll]
  | x :: r, h => by
    obtain ⟨a, b⟩ := lay_all fun y hy => h y (List.mem_cons_of_mem _ hy)
    obtain ⟨c, e⟩ := h x (by simp)
    simp only [PyData.canLayAll0, PyData.depthAll, a, c, Bool.and_self, true_and]
    omega
theorem lay_tup {n : Nat} {xs : List PyData} (h : ∀ x ∈ xs, Lay n x) : Lay (n + 1) (.tuple xs) := by
  obtain ⟨a, b⟩ := lay_all h
  refine ⟨by simpa [PyData.canLay0] using a, ?_⟩
  simp only [PyData.depth]
  omega
theorem lay_lst {n : Nat} {xs : List PyData} (h : ∀ x ∈ xs, Lay n x) : Lay (n + 1) (.list xs) := by
  obtain ⟨a, b⟩ := lay_all h
  refine ⟨by simpa [PyData.canLay0] using a, ?_⟩
  simp only [PyData.depth]
  omega
theorem Lay.shaped {n : Nat} {d : PyData} (h : Lay n d) (hn : n ≤ 64) : SeqAt.shaped d = true := by
  simp only [SeqAt.shaped, h.1, Bool.true_and, decide_eq_true_eq]
  exact Nat.le_trans h.2 hn
theorem Lay.mono {n m : Nat} {d : PyData} (h : Lay n d) (hn : n ≤ m) : Lay m d := ⟨h.1, Nat.le_trans h.2 hn⟩
theorem lay_str {n : Nat} {x : Str} (h : PyData.strOk x = true) : Lay n (.str x) := ⟨by simpa [PyData.canLay0] using h, by simp [PyData.depth]⟩
theorem Good.lay {n : Nat} {d : PyData} (h : Good n d) : Lay n d := ⟨h.ly, h.sh.dp⟩
end Rx

set_option Elab.async false
set_option linter.all false
set_option maxRecDepth 100000
set_option maxHeartbeats 1000000
/-! XRa: what rows and events are checked by -/
namespace XE
open PySem PySem.Spec PyProof.Rows L2 RZ Rx SX Rc
abbrev sIsName : Stmt := topS 8
abbrev sIsInteger : Stmt := topS 9
abbrev sIsValue : Stmt := topS 10
abbrev sIsRow : Stmt := topS 22
abbrev sFitsIn : Stmt := topS 25
structure TxtN (K : PySem.W.Frag) (mg : Str → Option Value) : Prop where
  letters : ∃ t, mg "LETTERS" = some (.str lettersS t)
  nlen : ∃ t, mg "NAME_LENGTH" = some (.int 8 t)
  res : ∃ a, mg "RESERVED" = some (.ref a) ∧ KTup K a (reservedL.map V.str)
  large : ∃ t, mg "TOO_LARGE" = some (.int bigZ t)
  len : mg "len" = none
  isi : mg "isinstance" = none
  all_ : mg "all" = none
  int_ : mg "int" = none
  str_ : mg "str" = none
  bool_ : mg "bool" = none
  tup : mg "tuple" = none
  abs_ : mg "abs" = none
def SmallD (d : PyData) : Prop := ∀ z, d = .str z → z.length ≤ 100000
/-- data goes in, a truth comes out -/
def spTestD (K : PySem.W.Frag) (p : PyData → Bool) : Sp := fun vs H Q _ => ∃ (v : V) (d : PyData), vs = [v] ∧ Dp K H v d ∧ SmallD d ∧ ∀ H', Same H H' → Q (.bl (p d)) H'
section
variable {P : Program} {w : World} {K : PySem.W.Frag} {mg : Str → Option Value} {base : Heap}
abbrev inN : List Str := ["thing", "letter"]
theorem scIN : FnScope inN ["thing"] (defScope sIsName) := ⟨rfl, rfl, rfl, by decide +kernel, rfl, by decide +kernel, by decide +kernel⟩
theorem ok_isNameD {f : Addr} {fd : FuncData} (F : Fun K "is_name" "is_name" sIsName f fd) (T : TxtN K mg) : FnOk P w K mg base CX0 1 f fd ["thing"] (spTestD K isNameD) := by
  obtain ⟨tL, mL⟩ := T.letters
  obtain ⟨tN, mN⟩ := T.nlen
  obtain ⟨aR, mR, kR⟩ := T.res
  refine F.ok scIN (fun vs H Q E h => ?_) (fun cdv A outer s H vs Q E hr h => ?_)
  · obtain ⟨z, d, rfl, _⟩ := h
    rfl
  · obtain ⟨v, d, rfl, hv, hz, k⟩ := h
    refine ⟨_, (pss_cons (ps_if (PW.pt (pw_or (pt_not (pt_val (pe_callB call_isi (by rfl) T.isi (by decide +kernel) (pa_cons (pv 0) (pa_cons (pe_bltn (v := .ty "str") (by rfl) T.str_ (by decide +kernel) rfl) pa_nil))))) (pw_or1 (pt_cmpR op_in_seq (pv 0) (pe_glob (v := .ref aR) rfl mR rfl) rfl)))) (pss_one (ps_ret pe_bl)) pss_nil) (pss_cons (ps_if (PW.pt (pw_or (pt_cmpR op_eq (pv 0) pe_str (nomark _)) (pw_or1 (pt_cmpR op_gt (pe_callB call_len_str (by rfl) T.len PySem.boot_len (pa_cons (pv 0) pa_nil)) (pe_glob (v := .int 8) rfl mN ⟨_, rfl⟩) (nomark _))))) (pss_one (ps_ret pe_bl)) pss_nil) (pss_one (ps_ret (pe_callB (cr_all rfl) (by rfl) T.all_ (by decide +kernel) (pa_cons (pe_lc (own := [("letter", 1)]) (g := gName 1) (tt := tYes) rfl scIN.nd (pi_str (pv 0)) (blkOk_by (own := [("letter", 1)]) (N := inN) (sc := defScope sIsName) (by decide +kernel)) (fun _ _ _ _ _ => (pg_name (i := 1) scIN.nd rfl (Or.inl rfl))) (fun _ _ _ _ _ => pts_nil) (fun _ _ _ _ _ => (pe_cmpR op_in_sign (pv 1) (pe_glob (v := .str lettersS) rfl mL ⟨_, rfl⟩) rfl))) pa_nil)))))), ?_⟩
    refine ⟨_, rfl, _, _, _, _, _, rfl, .ty "str", dp_tyX hv, kit_str hv, _, rfl, ?_⟩
    have no : isStrD d = false → isNameD d = false := fun e => by cases d <;> first | rfl | cases e
    cases hs : isStrD d with
    | false =>
      refine iteTc rfl ?_
      have := k H (Same.refl H)
      rw [no hs] at this
      exact this
    | true =>
    obtain ⟨z, rfl⟩ : ∃ z, d = .str z := by cases d <;> first | exact ⟨_, rfl⟩ | cases hs
    cases hv
    refine iteFc rfl ?_
    have hz' := hz z rfl
    refine ⟨_, rfl, aR, _, rfl, .inr (kR.sq H), rfl, flat_strs _, _, rfl, ?_⟩
    have nm : isNameD (.str z) = (!(reservedL.contains z) && (decide (z.cps.toList ≠ []) && (decide (z.cps.toList.length ≤ 8) && z.cps.toList.all isLet))) := by
      show isName z.cps.toList = _
      unfold isName
      rw [S_tl]
    show if inV (.str z) (reservedL.map V.str) = true then _ else _
    rw [inV_strs]
    cases hres : reservedL.contains z with
    | true =>
      refine iteTc rfl ?_
      have := k H (Same.refl H)
      rw [nm, hres] at this
      exact this
    | false =>
      refine iteFc rfl ?_
      rw [hres] at nm
      refine ⟨_, rfl, rfl, _, rfl, ite2 (fun e => ?_) (fun e => ?_)⟩
      · have e' : z = ("" : Str) := by
          have := of_decide_eq_true e
          injection this
        have := k H (Same.refl H)
        rw [nm, (nil_tl z).mp e'] at this
        exact this
      · have e' : z.cps.toList ≠ [] := fun q => e (decide_eq_true (by rw [(nil_tl z).mpr q]))
        refine ⟨_, rfl, z, rfl, Nat.le_trans hz' (by decide), _, _, rfl, rfl, _, rfl, ite2 (fun e2 => ?_) (fun e2 => ?_)⟩
        · have e2' : ¬ z.cps.toList.length ≤ 8 := by
            have := of_decide_eq_true e2
            rw [len_tl]
            omega
          have := k H (Same.refl H)
          rw [nm, decide_eq_false e2', Bool.false_and, Bool.and_false] at this
          exact this
        · have e2' : z.cps.toList.length ≤ 8 := by
            have : ¬ ((8 : Int) < (z.length : Int)) := fun q => e2 (decide_eq_true q)
            rw [len_tl]
            omega
          refine ⟨_, rfl, z, rfl, fun D hD => ?_⟩
          refine lc_it walk_str (fun i Hx => Hx D = some (.lst (((z.cps.toList.take i).map isLet).map V.bl)) ∧ Same H Hx) ⟨upd_same, same_new hD⟩ (fun _ _ _ _ => trivial) ?_ ?_
          · rintro i x Hx H' hi ⟨h1, h2⟩ ⟨rfl, c, hc, rfl⟩
            refine ⟨rfl, ?_⟩
            dsimp only [tYes]
            rw [if_pos rfl]
            refine ⟨_, rfl, c, lettersS, rfl, rfl, _, h1, ?_, ?_, same_upd h2 hD⟩
            · rw [List.length_map, List.length_map, List.length_take]
              exact Nat.lt_of_le_of_lt (Nat.min_le_right _ _) (Nat.lt_of_le_of_lt (by rw [len_tl]; exact hz') (by decide))
            · rw [upd_same, let_mem]
              have hc' : z.cps.toList[i]? = some c := by rw [Array.getElem?_toList]; exact hc
              rw [List.take_add_one, hc', List.map_append, List.map_append]
              rfl
          · rintro Hx ⟨h1, h2⟩
            refine all_read (K := K) (p := isLet) (z := z) ⟨_, h1, ?_⟩ ?_
            · rw [List.take_of_length_le (by simp)]
            · have := k Hx h2
              rw [nm, decide_eq_true e', decide_eq_true e2'] at this
              simpa using this
abbrev iiN : List Str := ["thing"]
theorem scII : FnScope iiN ["thing"] (defScope sIsInteger) := ⟨rfl, rfl, rfl, by decide +kernel, rfl, by decide +kernel, by decide +kernel⟩
theorem ok_isInteger {f : Addr} {fd : FuncData} (F : Fun K "is_integer" "is_integer" sIsInteger f fd) (T : TxtN K mg) : FnOk P w K mg base CX0 1 f fd ["thing"] (spTestD K isIntegerD) := by
  refine F.ok scII (fun vs H Q E h => ?_) (fun cdv A outer s H vs Q E hr h => ?_)
  · obtain ⟨z, d, rfl, _⟩ := h
    rfl
  · obtain ⟨v, d, rfl, hv, hz, k⟩ := h
    refine ⟨_, (pss_one (ps_ret (pe_and (pe_callB call_isi (by rfl) T.isi (by decide +kernel) (pa_cons (pv 0) (pa_cons (pe_bltn (v := .ty "int") (by rfl) T.int_ (by decide +kernel) rfl) pa_nil))) (pe_one (pe_not (pe_callB call_isi (by rfl) T.isi (by decide +kernel) (pa_cons (pv 0) (pa_cons (pe_bltn (v := .ty "bool") (by rfl) T.bool_ (by decide +kernel) rfl) pa_nil)))))))), ?_⟩
    refine ⟨_, rfl, _, _, _, _, _, rfl, .ty "int", dp_tyX hv, kit_int hv, _, rfl, ?_⟩
    have k' := k H (Same.refl H)
    cases hi : isIntD d with
    | false =>
      refine iteFc rfl ?_
      rw [show isIntegerD d = false by cases d <;> first | rfl | cases hi] at k'
      exact k'
    | true =>
      refine iteTc rfl ⟨_, rfl, _, _, _, _, _, rfl, .ty "bool", dp_tyX hv, kit_bool hv, _, rfl, ?_⟩
      rw [show isIntegerD d = !isBoolD d by cases d <;> first | rfl | cases hi] at k'
      exact k'
abbrev ivN : List Str := ["thing"]
theorem scIV : FnScope ivN ["thing"] (defScope sIsValue) := ⟨rfl, rfl, rfl, by decide +kernel, rfl, by decide +kernel, by decide +kernel⟩
theorem ok_isValue {f fI : Addr} {fd fdI : FuncData} (F : Fun K "is_value" "is_value" sIsValue f fd) (T : TxtN K mg) (CI : Cal P w K mg base 1 "is_integer" fI fdI ["thing"] (spTestD K isIntegerD)) : FnOk P w K mg base CX0 2 f fd ["thing"] (spTestD K isValueD) := by
  obtain ⟨tB, mB⟩ := T.large
  refine F.ok scIV (fun vs H Q E h => ?_) (fun cdv A outer s H vs Q E hr h => ?_)
  · obtain ⟨z, d, rfl, _⟩ := h
    rfl
  · obtain ⟨v, d, rfl, hv, hz, k⟩ := h
    have hr1 : Room 1 _ := hr.mono (by omega)
    refine ⟨_, (pss_one (ps_ret (pe_and (pe_call CI.ok hr1 rfl CI.mg CI.kp CI.bi .nil pass0 (pa_cons (pv 0) pa_nil)) (pe_one (pe_cmpR op_lt (pe_callB call_abs (by rfl) T.abs_ (by decide +kernel) (pa_cons (pv 0) pa_nil)) (pe_glob (v := .int bigZ) rfl mB ⟨_, rfl⟩) (nomark _)))))), ?_⟩
    refine ⟨_, rfl, v, d, rfl, hv, hz, fun H1 s1 => ⟨_, rfl, ?_⟩⟩
    cases hi : isIntegerD d with
    | false =>
      refine iteFc rfl ?_
      have k' := k H1 s1
      rw [isValueD_no hi] at k'
      exact k'
    | true =>
      obtain ⟨z, rfl⟩ : ∃ z, d = .int z := by cases d <;> first | exact ⟨_, rfl⟩ | cases hi
      cases hv
      refine iteTc rfl ⟨_, rfl, z, rfl, _, _, rfl, rfl, ?_⟩
      have k' := k H1 s1
      rw [show isValueD (.int z) = decide ((if z < 0 then -z else z) < bigZ) from ?_] at k'
      · exact k'
      exact abs_lt z bigZ
def spTestG (K : PySem.W.Frag) (p : PyData → Bool) : Sp := fun vs H Q _ => ∃ (v : V) (d : PyData), vs = [v] ∧ Dp K H v d ∧ Gd d ∧ ∀ H', Same H H' → Q (.bl (p d)) H'
abbrev irN : List Str := ["row"]
theorem scIR : FnScope irN ["row"] (defScope sIsRow) := ⟨rfl, rfl, rfl, by decide +kernel, rfl, by decide +kernel, by decide +kernel⟩
theorem ok_isRow {f fN : Addr} {fd fdN : FuncData} (F : Fun K "is_row" "is_row" sIsRow f fd) (T : TxtN K mg) (CN : Cal P w K mg base 1 "is_name" fN fdN ["thing"] (spTestD K isNameD)) : FnOk P w K mg base CX0 2 f fd ["row"] (spTestG K isRowD) := by
  refine F.ok scIR (fun vs H Q E h => ?_) (fun cdv A outer s H vs Q E hr h => ?_)
  · obtain ⟨z, d, rfl, _⟩ := h
    rfl
  · obtain ⟨v, d, rfl, hv, hz, k⟩ := h
    have hr1 : Room 1 _ := hr.mono (by omega)
    refine ⟨_, (pss_one (ps_ret (pe_and (pe_callB call_isi (by rfl) T.isi (by decide +kernel) (pa_cons (pv 0) (pa_cons (pe_bltn (v := .ty "tuple") (by rfl) T.tup (by decide +kernel) rfl) pa_nil))) (pe_and (pe_cmpR op_eq (pe_callB call_len_seq (by rfl) T.len PySem.boot_len (pa_cons (pv 0) pa_nil)) pe_int (nomark _)) (pe_and (pe_call CN.ok hr1 rfl CN.mg CN.kp CN.bi .nil pass0 (pa_cons (pe_ix ix_tup (pv 0) pe_int (fun _ _ => rfl)) pa_nil)) (pe_one (pe_callB call_isi (by rfl) T.isi (by decide +kernel) (pa_cons (pe_ix ix_tup (pv 0) pe_int (fun _ _ => rfl)) (pa_cons (pe_bltn (v := .ty "tuple") (by rfl) T.tup (by decide +kernel) rfl) pa_nil))))))))), ?_⟩
    refine ⟨_, rfl, _, _, _, _, _, rfl, .ty "tuple", dp_tyX hv, kit_tup hv, _, rfl, ?_⟩
    have k0 := k H (Same.refl H)
    cases ht : isTupD d with
    | false =>
      refine iteFc rfl ?_
      rw [show isRowD d = false by cases d <;> first | rfl | cases ht] at k0
      exact k0
    | true =>
    obtain ⟨xs, rfl⟩ : ∃ xs, d = .tuple xs := by cases d <;> first | exact ⟨_, rfl⟩ | cases ht
    obtain ⟨q, vs, rfl, hq, ha⟩ : ∃ q vs, v = .ref q ∧ SqT K H q vs ∧ DpAll K H vs xs := by
      cases hv with
      | tup h1 h2 => exact ⟨_, _, rfl, h1, h2⟩
    have hl := dpAll_len ha
    refine iteTc rfl ⟨_, rfl, q, vs, rfl, .inr hq, rfl, _, rfl, ?_⟩
    by_cases h2 : vs.length = 2
    · refine iteTc (decide_eq_true (by rw [h2]; rfl)) ?_
      obtain ⟨v1, v2, rfl⟩ : ∃ v1 v2, vs = [v1, v2] := by
        match vs, h2 with
        | [a, b], _ => exact ⟨a, b, rfl⟩
      obtain ⟨d1, ds1, rfl, h1, ha⟩ := dpAll_inv ha
      obtain ⟨d2, ds2, rfl, h2', ha⟩ := dpAll_inv ha
      have := dpAll_inv0 ha
      subst this
      have g1 : Gd d1 := hz.mem (by simp)
      have hv1 : SmallD d1 := fun z e => by subst e; exact g1.str
      refine ⟨_, rfl, q, _, 0, _, rfl, rfl, hq, atI_nat (j := 0) rfl, v1, d1, rfl, h1, hv1, fun H1 s1 => ⟨_, rfl, ?_⟩⟩
      have k1 := k H1 s1
      rw [isRowD_two] at k1
      cases hn : isNameD d1 with
      | false =>
        rw [hn] at k1
        exact iteFc rfl k1
      | true =>
        rw [hn] at k1
        refine iteTc rfl ⟨_, rfl, q, _, 1, _, rfl, rfl, sqT_same s1 hq, atI_nat (j := 1) rfl, _, _, _, _, _, rfl, .ty "tuple", dp_tyX (dp_same s1 h2'), kit_tup h2', ?_⟩
        exact k1
    · refine iteFc (decide_eq_false fun z => h2 (by injection z with z; omega)) ?_
      rw [show isRowD (.tuple xs) = false from ?_] at k0
      · exact k0
      have hx : xs.length ≠ 2 := by omega
      unfold isRowD rowOf
      split
      · rename_i e
        injection e with e
        subst e
        exact absurd rfl hx
      · rfl
theorem any_str (os : List Str) (d : PyData) : ((os.map PyData.str).any fun z => PyData.eqv z d) = match d with | .str p => decide (p ∈ os) | _ => false := by
  induction os with
  | nil => cases d <;> simp
  | cons o os ih =>
    rw [List.map_cons, List.any_cons, ih]
    cases d with
    | str p =>
      by_cases h : o = p
      · subst h; simp [PyData.eqv]
      · have h' : p ≠ o := fun z => h z.symm
        simp [PyData.eqv, h, h']
    | _ => simp [PyData.eqv]
def spFits (K : PySem.W.Frag) : Sp := fun vs H Q _ => ∃ (v : V) (d : PyData) (kind : Str) (O : Addr) (os : List Str), vs = [.str kind, v, .ref O] ∧ Dp K H v d ∧ Gd d ∧ H O = some (.lst (os.map V.str)) ∧ os.length ≤ 50 ∧ Gd (.list (os.map PyData.str)) ∧ ∀ H', Same H H' → Q (.bl (fitsB kind d os)) H'
abbrev fiN : List Str := ["kind", "part", "others"]
theorem scFI : FnScope fiN ["kind", "part", "others"] (defScope sFitsIn) := ⟨rfl, rfl, rfl, by decide +kernel, rfl, by decide +kernel, by decide +kernel⟩
theorem ok_fitsIn {f fN fW : Addr} {fd fdN fdW : FuncData} (F : Fun K "fits_in" "fits_in" sFitsIn f fd) (T : TxtN K mg) (CN : Cal P w K mg base 1 "is_name" fN fdN ["thing"] (spTestD K isNameD)) (CW : Cal P w K mg base 2 "is_value" fW fdW ["thing"] (spTestD K isValueD)) : FnOk P w K mg base CX0 3 f fd ["kind", "part", "others"] (spFits K) := by
  refine F.ok scFI (fun vs H Q E h => ?_) (fun cdv A outer s H vs Q E hr h => ?_)
  · obtain ⟨z, d, _, _, _, rfl, _⟩ := h
    rfl
  · obtain ⟨v, d, kind, O, os, rfl, hv, hz, hO, hol, hog, k⟩ := h
    have hr1 : Room 1 _ := hr.mono (by omega)
    have hr2 : Room 2 _ := hr.mono (by omega)
    have hu65 : (A.deeper (envOfC "fits_in" (defScope sFitsIn) s.heap.objs.size f cdv)).units + 65 < cLine := by have := hr.un; omega
    refine ⟨_, (pss_cons (ps_if (pt_cmpR op_eq (pv 0) pe_str (nomark _)) (pss_one (ps_ret (pe_cmpR (op_inD hu65) (pv 1) (pv 2) rfl))) pss_nil) (pss_cons (ps_if (pt_cmpR op_eq (pv 0) pe_str (nomark _)) (pss_one (ps_ret (pe_call CN.ok hr1 rfl CN.mg CN.kp CN.bi .nil pass0 (pa_cons (pv 1) pa_nil)))) pss_nil) (pss_one (ps_ret (pe_call CW.ok hr2 rfl CW.mg CW.kp CW.bi .nil pass0 (pa_cons (pv 1) pa_nil)))))), ?_⟩
    have k0 := k H (Same.refl H)
    refine ⟨_, rfl, rfl, _, rfl, ite2 (fun e => ?_) (fun e => ?_)⟩
    · have e' : kind = "process" := by
        have := of_decide_eq_true e
        injection this
      refine ⟨_, rfl, _, rfl, d, os.map .str, hv, .lst (.inl (.inl hO)) (dpStrs3 H os), hz.sh, hog.sh, ?_⟩
      rw [any_str]
      unfold Rc.fitsB at k0
      rw [if_pos e'] at k0
      exact k0
    have e' : kind ≠ "process" := fun q => e (decide_eq_true (by rw [q]))
    refine ⟨_, rfl, rfl, _, rfl, ite2 (fun e2 => ?_) (fun e2 => ?_)⟩
    · have e2' : kind = "variable" := by
        have := of_decide_eq_true e2
        injection this
      refine ⟨_, rfl, v, d, rfl, hv, fun z e => by subst e; exact hz.str, fun H1 s1 => ?_⟩
      have k1 := k H1 s1
      unfold Rc.fitsB at k1
      rw [if_neg e', if_pos e2'] at k1
      exact k1
    · have e2' : kind ≠ "variable" := fun q => e2 (decide_eq_true (by rw [q]))
      refine ⟨_, rfl, v, d, rfl, hv, fun z e => by subst e; exact hz.str, fun H1 s1 => ?_⟩
      have k1 := k H1 s1
      unfold Rc.fitsB at k1
      rw [if_neg e', if_neg e2'] at k1
      exact k1
end
end XE

set_option Elab.async false
set_option linter.all false
set_option maxRecDepth 100000
set_option maxHeartbeats 1000000
/-! XRb: the form of an event -/
namespace XE
open PySem PySem.Spec PyProof.Rows L2 RZ Rx SX Rc
abbrev sHasShape : Stmt := topS 24
def spHas (K : PySem.W.Frag) : Sp := fun vs H Q _ => ∃ (v : V) (d : PyData) (O : Addr) (os : List Str), vs = [v, .ref O] ∧ Dp K H v d ∧ Gd d ∧ H O = some (.lst (os.map V.str)) ∧ os.length ≤ 50 ∧ Gd (.list (os.map PyData.str)) ∧ ∀ H', Same H H' → Q (.bl (hasB os d)) H'
theorem cut_one (x : V) (xs : List V) : cutV (x :: xs) (some 1) none = xs := by
  unfold cutV HT.sIx
  simp
theorem sIx_one {n : Nat} (h : 0 < n) : ¬ (HT.sIx n 0 (some 1) = 0 ∧ HT.sIx n n none = n) := by
  unfold HT.sIx
  simp
  omega
section
variable {P : Program} {w : World} {K : PySem.W.Frag} {mg : Str → Option Value} {base : Heap}
abbrev hsN : List Str := ["event", "others", "kind", "part"]
theorem scHS : FnScope hsN ["event", "others"] (defScope sHasShape) := ⟨rfl, rfl, rfl, by decide +kernel, rfl, by decide +kernel, by decide +kernel⟩
theorem ok_hasShape {f fF : Addr} {fd fdF : FuncData} (F : Fun K "has_shape" "has_shape" sHasShape f fd) (T : TxtN K mg) (mz : mg "zip" = none) (S : ∃ a, mg "SHAPES" = some (.ref a) ∧ KTab K w a shapeL) (CF : Cal P w K mg base 3 "fits_in" fF fdF ["kind", "part", "others"] (spFits K)) : FnOk P w K mg base CX0 4 f fd ["event", "others"] (spHas K) := by
  obtain ⟨aS, mS, tab⟩ := S
  obtain ⟨es, nn, DS, look⟩ := tab.look
  refine F.ok scHS (fun vs H Q E h => ?_) (fun cdv A outer s H vs Q E hr h => ?_)
  · obtain ⟨z, d, _, _, rfl, _⟩ := h
    rfl
  · obtain ⟨v, d, O, os, rfl, hv, hz, hO, hol, hog, k⟩ := h
    have hr3 : Room 3 _ := hr.mono (by omega)
    refine ⟨_, (pss_cons (ps_if (PW.pt (pw_or (pt_not (pt_val (pe_callB call_isi (by rfl) T.isi (by decide +kernel) (pa_cons (pv 0) (pa_cons (pe_bltn (v := .ty "tuple") (by rfl) T.tup (by decide +kernel) rfl) pa_nil))))) (pw_or (pt_not (pt_truth (pv 0) (by intro _; rfl))) (pw_or1 (pt_not (pt_val (pe_callB call_isi (by rfl) T.isi (by decide +kernel) (pa_cons (pe_ix ix_tup (pv 0) pe_int (fun _ _ => rfl)) (pa_cons (pe_bltn (v := .ty "str") (by rfl) T.str_ (by decide +kernel) rfl) pa_nil))))))))) (pss_one (ps_ret pe_bl)) pss_nil) (pss_cons (ps_if (PW.pt (pw_or (pt_cmpR (op_notIn_kd DS) (pe_ix ix_tup (pv 0) pe_int (fun _ _ => rfl)) (pe_glob (v := .ref aS) rfl mS rfl) rfl) (pw_or1 (pt_cmpR op_ne (pe_callB call_len_seq (by rfl) T.len PySem.boot_len (pa_cons (pv 0) pa_nil)) (pe_op op_add (pe_callB call_len_seq (by rfl) T.len PySem.boot_len (pa_cons (pe_ix ix_kdict (pe_glob (v := .ref aS) rfl mS rfl) (pe_ix ix_tup (pv 0) pe_int (fun _ _ => rfl)) (fun _ _ => rfl)) pa_nil)) pe_int) (nomark _))))) (pss_one (ps_ret pe_bl)) pss_nil) (pss_one (ps_ret (pe_callB (cr_all rfl) (by rfl) T.all_ (by decide +kernel) (pa_cons (pe_lc (own := [("kind", 2), ("part", 3)]) (g := gTup K 2 (gCons (gName 2) (gCons (gName 3) gNil))) (tt := tYes) (te := tCall (spFits K) [] E0 (tCons (tVar 2) (tCons (tVar 3) (tCons (tVar 1) tNil)))) rfl scHS.nd (pi_zipA (by rfl) mz (pa_cons (pe_ix ix_kdict (pe_glob (v := .ref aS) rfl mS rfl) (pe_ix ix_tup (pv 0) pe_int (fun _ _ => rfl)) (fun _ _ => rfl)) (pa_cons (pe_slice sl_tupA (pv 0) (po_some pe_int) po_none) pa_nil))) (blkOk_by (own := [("kind", 2), ("part", 3)]) (N := hsN) (sc := defScope sHasShape) (by decide +kernel)) (fun _ _ _ _ _ => (pg_tup rfl (pgs_cons (pg_name (i := 2) scHS.nd rfl (Or.inl rfl)) (pgs_cons (pg_name (i := 3) scHS.nd rfl (Or.inl rfl)) pgs_nil)))) (fun _ _ _ _ _ => pts_nil) (fun _ _ _ _ _ => (pe_call CF.ok hr3 rfl CF.mg CF.kp CF.bi .nil pass0 (pa_cons (pv 2) (pa_cons (pv 3) (pa_cons (pv 1) pa_nil)))))) pa_nil)))))), ?_⟩
    have k0 := k H (Same.refl H)
    refine ⟨_, rfl, _, _, _, _, _, rfl, .ty "tuple", dp_tyX hv, kit_tup hv, _, rfl, ?_⟩
    cases ht : isTupD d with
    | false =>
      refine iteTc rfl ?_
      rw [show hasB os d = false by cases d <;> first | rfl | cases ht] at k0
      exact k0
    | true =>
    obtain ⟨ds, rfl⟩ : ∃ xs, d = .tuple xs := by cases d <;> first | exact ⟨_, rfl⟩ | cases ht
    obtain ⟨q, vs, rfl, hq, ha⟩ : ∃ q vs, v = .ref q ∧ SqT K H q vs ∧ DpAll K H vs ds := by
      cases hv with
      | tup h1 h2 => exact ⟨_, _, rfl, h1, h2⟩
    refine iteFc rfl ⟨_, rfl, _, .inr (.inl ⟨vs, hq, rfl⟩), ?_⟩
    cases vs with
    | nil =>
      have := dpAll_inv0 ha
      subst this
      exact iteTc rfl k0
    | cons v0 vs =>
    obtain ⟨d0, ds, rfl, h0, hb⟩ := dpAll_inv ha
    have g0 : Gd d0 := hz.mem (by simp)
    refine iteFc rfl ⟨_, rfl, q, _, 0, _, rfl, rfl, hq, atI_nat (j := 0) rfl, _, _, _, _, _, rfl, .ty "str", dp_tyX h0, kit_str h0, _, rfl, ?_⟩
    cases hs : isStrD d0 with
    | false =>
      refine iteTc rfl ?_
      rw [show hasB os (.tuple (d0 :: ds)) = false by cases d0 <;> first | rfl | cases hs] at k0
      exact k0
    | true =>
    obtain ⟨w0, rfl⟩ : ∃ z, d0 = .str z := by cases d0 <;> first | exact ⟨_, rfl⟩ | cases hs
    cases h0
    refine iteFc rfl ?_
    have hl := dpAll_len hb
    have e0 : hasB os (.tuple (.str w0 :: ds)) = partsB os ds (shapeOf w0) := rfl
    rcases look w0 with ⟨hf, hn⟩ | ⟨p, b, hf, hn, hk⟩
    · refine ⟨_, rfl, q, _, 0, _, rfl, rfl, hq, atI_nat (j := 0) rfl, w0, none, rfl, rfl, hn, _, rfl, iteTc rfl ?_⟩
      rw [e0, show shapeOf w0 = none by unfold shapeOf; rw [hf]; rfl] at k0
      exact k0
    · have es' : shapeOf w0 = some p.2 := by unfold shapeOf; rw [hf]; rfl
      have kd : KDct K w aS w0 (.ref b) := ⟨_, _, _, DS.at_, DS.lit, hn, rfl⟩
      refine ⟨_, rfl, q, _, 0, _, rfl, rfl, hq, atI_nat (j := 0) rfl, w0, _, rfl, rfl, hn, _, rfl, iteFc rfl ?_⟩
      refine ⟨_, rfl, q, _, rfl, .inr hq, _, rfl, q, _, 0, _, rfl, rfl, hq, atI_nat (j := 0) rfl, _, _, _, rfl, rfl, kd, b, _, rfl, .inr (hk.sq H), _, _, rfl, rfl, rfl, _, rfl, ?_⟩
      have hkl : (p.2.map V.str).length = p.2.length := List.length_map ..
      refine ite2 (fun e => ?_) (fun e => ?_)
      · have hne : ds.length ≠ p.2.length := by
          have := int_ne1.mp e
          simp only [List.length_cons, hkl] at this
          omega
        rw [e0, es', partsB_ne hne] at k0
        exact k0
      · have heq : ds.length = p.2.length := by
          refine Classical.byContradiction fun z => e (int_ne1.mpr ?_)
          simp only [List.length_cons, hkl]
          omega
        rw [e0, es', partsB_eq heq] at k
        refine ⟨_, rfl, q, _, 0, _, rfl, rfl, hq, atI_nat (j := 0) rfl, _, _, _, rfl, rfl, kd, _, rfl, _, rfl, q, _, rfl, hq, fun z => absurd z (sIx_one (Nat.succ_pos _)), fun _ T nT => ?_⟩
        rw [cut_one]
        have sT := same_new (o := .tup vs) nT
        have hT := SqT.of (K := K) (upd_same (H := H) (a := T) (o := .tup vs))
        generalize upd H T (.tup vs) = H1 at sT hT ⊢
        refine ⟨b, T, _, vs, rfl, .inr ⟨hk.sq H1, hT, ?_⟩⟩
        have hb1 := dpAll_same sT hb
        have hO1 := sT _ _ hO
        have hp3 : p.2.length ≤ 3 := by
          have := List.mem_of_find?_eq_some hf
          exact (show ∀ p ∈ shapeL, p.2.length ≤ 3 by decide +kernel) _ this
        have hmin : p.2.length = min (p.2.map V.str).length vs.length := by rw [hkl]; omega
        intro D nD
        refine lc_it (walk_zipT hmin) (fun i Hy => Same H1 Hy ∧ Hy D = some (.lst ((((p.2.zip ds).map fun u => Rc.fitsB u.1 u.2 os).take i).map V.bl))) ⟨same_new nD, upd_same⟩ (fun i Hy _ h => ⟨hk.sq Hy, sqT_same h.1 hT⟩) ?_ ?_
        · rintro i x Hx H' hi ⟨sm, hD⟩ ⟨T2, y1, y2, rfl, n2, rfl, hy1, hy2⟩
          obtain ⟨ki, hki, rfl⟩ := mapS_get hy1
          obtain ⟨di, hdi, hdp⟩ := dpAll_at hb1 hy2
          have s2 : Same H1 (upd Hx T2 (.tup [.str ki, y2])) := sm.trans (same_new n2)
          have hD2 : (upd Hx T2 (.tup [.str ki, y2])) D = _ := same_new n2 _ _ hD
          have hT2 := SqT.of (K := K) (upd_same (H := Hx) (a := T2) (o := .tup [.str ki, y2]))
          generalize upd Hx T2 (.tup [.str ki, y2]) = Hz at s2 hD2 hT2 ⊢
          have gi : Gd di := hz.mem (List.mem_cons_of_mem _ (List.mem_of_getElem? hdi))
          refine ⟨T2, _, rfl, hT2, rfl, _, _, rfl, _, _, rfl, rfl, rfl, ?_⟩
          dsimp only [tYes]
          rw [if_pos rfl]
          refine ⟨_, rfl, _, rfl, _, rfl, y2, di, ki, O, os, rfl, dp_same s2 hdp, gi, s2 _ _ hO1, hol, hog, fun H3 s3 => ⟨_, s3 _ _ hD2, ?_, same_upd (s2.trans s3) nD, ?_⟩⟩
          · rw [List.length_map, List.length_take]
            exact fitR (by omega)
          · rw [upd_same]
            have hz' : ((p.2.zip ds).map fun u => Rc.fitsB u.1 u.2 os)[i]? = some (Rc.fitsB ki di os) := by
              rw [List.getElem?_map, Rc.zip_get hki hdi]
              rfl
            rw [List.take_add_one, hz', List.map_append]
            rfl
        · rintro Hx ⟨sm, hD⟩
          rw [List.take_of_length_le (by rw [List.length_map, List.length_zip]; omega)] at hD
          refine ⟨D, _, rfl, SqL.of hD, ?_⟩
          have k1 := k Hx (sT.trans sm)
          rw [List.all_map]
          exact k1
end
end XE

set_option Elab.async false
set_option linter.all false
set_option maxRecDepth 100000
set_option maxHeartbeats 4000000
namespace XE
open PySem PySem.Spec PyProof.Rows L2 Rx SX
section
variable {P : Program} {w : World} {K : PySem.W.Frag} {mg : Str → Option Value} {base : Heap}
abbrev cBadRecord : Stmt := topS 16
abbrev sBadRecord : Stmt := inClass cBadRecord 0
theorem scBadRecord : ScopeS ["self", "reason", "name", "number"] ["self", "reason", "name", "number"] (defScope sBadRecord) := ⟨rfl, rfl, rfl, by decide +kernel, rfl, by decide +kernel, by decide +kernel, by decide +kernel, rfl, rfl⟩
theorem okBadRecord {f C cda cc fF : Addr} {fd fdF : FuncData} (F : SupFn K "BadRecord.__init__" sBadRecord f cda cc fd) (T : SupC P K C cda cc) (CF : Cal P w K mg base 1 "frozen" fF fdF ["thing"] (spFrozen K)) (no : ∀ g ∈ (["reason", "name", "number"] : List Str), PySem.W.findIn K (.ref C) g = some none) :
    FnOk P w K mg base CX0 2 f fd ["self", "reason", "name", "number"] (spInit K C ["reason", "name", "number"]) := by
  refine F.ok scBadRecord T rfl rfl rfl spInit_len spInit_self (fun _ => rfl) (fun _ => rfl) (fun _ => ⟨_, rfl⟩) (fun A outer s H vs Q E hr h => ?_)
  obtain ⟨a, ws, ds, rfl, hl, ha, hd, hz, k⟩ := h
  refine ⟨_, pss_cons (ps_ost (pv 0) (pe_call CF.ok hr rfl CF.mg CF.kp CF.bi .nil pass0 (pa_cons (pv 1) pa_nil))) (pss_cons (ps_ost (pv 0) (pe_call CF.ok hr rfl CF.mg CF.kp CF.bi .nil pass0 (pa_cons (pv 2) pa_nil))) (pss_one (ps_ost (pv 0) (pe_call CF.ok hr rfl CF.mg CF.kp CF.bi .nil pass0 (pa_cons (pv 3) pa_nil))))), ?_⟩
  match ws, ds, hl, hd with
  | [v0, v1, v2], _, _, @DpAll.cons _ _ _ _ d0 _ h0 (@DpAll.cons _ _ _ _ d1 _ h1 (@DpAll.cons _ _ _ _ d2 _ h2 (.nil))) =>
    have z0 : sz d0 ≤ 1000 := hz _ (by simp)
    have z1 : sz d1 ≤ 1000 := hz _ (by simp)
    have z2 : sz d2 ≤ 1000 := hz _ (by simp)
    refine ⟨_, rfl, v0, d0, rfl, h0, z0, fun G0 u0 s0 r0 => ⟨_, rfl, a, C, rfl, T.oex, no _ (by simp), .inl ⟨s0 _ _ ha, fun dx hdx nda => ?_⟩⟩⟩
    have e0 : ∀ b o, H b = some o → b ≠ a → upd (upd G0 dx (exd dx [("reason", u0)])) a (exo a C (some dx)) b = some o := fun b o e nb => by rw [upd_ne nb, upd_ne (ne_of_none (s0 _ _ e) hdx)]; exact s0 _ _ e
    have k0 : Keeps G0 (upd (upd G0 dx (exd dx [("reason", u0)])) a (exo a C (some dx))) := (keeps_new hdx).trans (keeps_ext (φ := _) (by rw [upd_ne nda.symm]; exact s0 _ _ ha))
    have r0' := dp_keep k0.1 k0.2 r0 (fix_noList _)
    have ax : upd (upd G0 dx (exd dx [("reason", u0)])) a (exo a C (some dx)) a = some (exo a C (some dx)) := upd_same
    have dxx : upd (upd G0 dx (exd dx [("reason", u0)])) a (exo a C (some dx)) dx = some (exd dx [("reason", u0)]) := by rw [upd_ne nda, upd_same]
    have hdn : H dx = none := s0.free hdx
    generalize upd (upd G0 dx (exd dx [("reason", u0)])) a (exo a C (some dx)) = L0 at e0 r0' ax dxx ⊢
    have h1L := dp_but (a := a) (φ := _) ha e0 h1
    refine ⟨_, rfl, v1, d1, rfl, h1L, z1, fun G1 u1 s1 r1 => ⟨_, rfl, a, C, rfl, T.oex, no _ (by simp), .inr ⟨dx, _, s1 _ _ ax, s1 _ _ dxx, (by show 1 ≤ 900; decide), ?_⟩⟩⟩
    have e1 : ∀ b o, H b = some o → b ≠ a → upd G1 dx (exd dx (("name", u1) :: [("reason", u0)])) b = some o := fun b o e nb => by rw [upd_ne (ne_of_none e hdn)]; exact s1 _ _ (e0 b o e nb)
    have k1 : Keeps G1 (upd G1 dx (exd dx (("name", u1) :: [("reason", u0)]))) := keeps_ext (φ := _) (s1 _ _ dxx)
    have r1' := dp_keep k1.1 k1.2 r1 (fix_noList _)
    have r0' := dp_keep k1.1 k1.2 (dp_same s1 r0') (fix_noList _)
    have ax : upd G1 dx (exd dx (("name", u1) :: [("reason", u0)])) a = some (exo a C (some dx)) := by rw [upd_ne (fun z => nda z.symm)]; exact s1 _ _ ax
    have dxx : upd G1 dx (exd dx (("name", u1) :: [("reason", u0)])) dx = some (exd dx (("name", u1) :: [("reason", u0)])) := upd_same
    generalize upd G1 dx (exd dx (("name", u1) :: [("reason", u0)])) = L1 at e1 r0' r1' ax dxx ⊢
    have h2L := dp_but (a := a) (φ := _) ha e1 h2
    refine ⟨_, rfl, v2, d2, rfl, h2L, z2, fun G2 u2 s2 r2 => ⟨_, rfl, a, C, rfl, T.oex, no _ (by simp), .inr ⟨dx, _, s2 _ _ ax, s2 _ _ dxx, (by show 2 ≤ 900; decide), ?_⟩⟩⟩
    have e2 : ∀ b o, H b = some o → b ≠ a → upd G2 dx (exd dx (("number", u2) :: (("name", u1) :: [("reason", u0)]))) b = some o := fun b o e nb => by rw [upd_ne (ne_of_none e hdn)]; exact s2 _ _ (e1 b o e nb)
    have k2 : Keeps G2 (upd G2 dx (exd dx (("number", u2) :: (("name", u1) :: [("reason", u0)])))) := keeps_ext (φ := _) (s2 _ _ dxx)
    have r2' := dp_keep k2.1 k2.2 r2 (fix_noList _)
    have r0' := dp_keep k2.1 k2.2 (dp_same s2 r0') (fix_noList _)
    have r1' := dp_keep k2.1 k2.2 (dp_same s2 r1') (fix_noList _)
    have ax : upd G2 dx (exd dx (("number", u2) :: (("name", u1) :: [("reason", u0)]))) a = some (exo a C (some dx)) := by rw [upd_ne (fun z => nda z.symm)]; exact s2 _ _ ax
    have dxx : upd G2 dx (exd dx (("number", u2) :: (("name", u1) :: [("reason", u0)]))) dx = some (exd dx (("number", u2) :: (("name", u1) :: [("reason", u0)]))) := upd_same
    generalize upd G2 dx (exd dx (("number", u2) :: (("name", u1) :: [("reason", u0)]))) = L2 at e2 r0' r1' r2' ax dxx ⊢
    exact k L2 dx [u0, u1, u2] hdn ax dxx (.cons r0' (.cons r1' (.cons r2' (.nil)))) e2 rfl
theorem biBadRecord {f cda cc : Addr} {fd : FuncData} (F : SupFn K "BadRecord.__init__" sBadRecord f cda cc fd) : Binds K fd ["self", "reason", "name", "number"] [] := by
  obtain ⟨oc, od, kV, doc, pm, an, ct, osl, rfl, _, _⟩ := F.ex
  exact .all (fun us hl => match us, hl with | [_, _, _, _], _ => rfl)
theorem bpBadRecord {f cda cc : Addr} {fd : FuncData} (F : SupFn K "BadRecord.__init__" sBadRecord f cda cc fd) : KBn K fd ("self" :: ["reason", "name", "number"]) ((["reason", "name", "number"] : List Str).length + 1) [] gB gB := by
  obtain ⟨oc, od, kV, doc, pm, an, ct, osl, rfl, _, _⟩ := F.ex
  exact ⟨fun s us ws _ l1 l2 => match us, ws, l1, l2 with | [_, _, _, _], [], _, _ => .of_eq rfl, gB_rel⟩
theorem bkBadRecord {f cda cc : Addr} {fd : FuncData} (F : SupFn K "BadRecord.__init__" sBadRecord f cda cc fd) : KBn K fd ("self" :: ["reason", "name", "number"]) 1 (["reason", "name", "number"] : List Str).reverse gB gB := by
  obtain ⟨oc, od, kV, doc, pm, an, ct, osl, rfl, _, _⟩ := F.ex
  exact ⟨fun s us ws _ l1 l2 => match us, ws, l1, l2 with | [_], [_, _, _], _, _ => .of_eq rfl, gB_rel⟩
end
end XE

set_option Elab.async false
set_option linter.all false
set_option maxRecDepth 100000
set_option maxHeartbeats 1000000
/-! RxRec3: the error BadRecord, loops over enumerate of a tuple -/
namespace Rc
open PySem PySem.Spec PyProof.Rows L2 RZ Rx SX
/-- a name or None -/
inductive NmV : V → PyData → Prop where
  | non : NmV .non .none
  | str (x : Str) : NmV (.str x) (.str x)
theorem NmV.dp {K : PySem.W.Frag} {H : Hp} {v : V} {d : PyData} (h : NmV v d) : Dp K H v d := by
  cases h with
  | non => exact .non
  | str x => exact .str x
def RecAt (CR : Addr) (H : Hp) (r : Str) (v : V) (n : Nat) (E : XK) : Prop := ∀ (H' : Hp) (dx : Addr), Same H H' → H dx = none → H' dx = some (.xd [("number", .int (n : Nat)), ("name", v), ("reason", .str r)]) → E (.ref CR) (some dx) H'
theorem RecAt.same {CR : Addr} {H H1 : Hp} {n : Nat} {v : V} {r : Str} {E : XK} (h : RecAt CR H r v n E) (s : Same H H1) : RecAt CR H1 r v n E := fun H' dx sm hd hx => h H' dx (s.trans sm) (s.free hd) hx
theorem mk_rec {K : PySem.W.Frag} {CR : Addr} {H H0 : Hp} {n : Nat} {v : V} {d : PyData} {r : Str} {E : XK} (h : RecAt CR H0 r v n E) (s0 : Same H0 H) (hv : NmV v d) :
    [V.str r, v, V.int (n : Nat)].length ≤ 1000 ∧ ∀ a, H a = none → spInit K CR ["reason", "name", "number"] (.ref a :: ([V.str r, v, V.int (n : Nat)] ++ [])) (upd H a (exo a CR none))
      (fun x H2 => x = .non ∧ ∃ (dx : Addr) (fs : List (Str × V)), H2 a = some (exo a CR (some dx)) ∧ H2 dx = some (exd dx fs) ∧ H dx = none ∧ E (.ref CR) (some dx) (upd (del H2 a) dx (.xd fs))) (fun _ _ _ => False) := by
  refine mk_readN (ps := [.str r, d, .int (n : Nat)]) (.cons (.str _) (.cons hv.dp (.cons (.int _) .nil))) rfl (fun d' hd => ?_) (by decide) (fun H' dx us sm hdx hx hu hl => ?_)
  · simp only [List.mem_cons, List.not_mem_nil, or_false] at hd
    rcases hd with rfl | rfl | rfl
    · simp [sz]
    · cases hv <;> simp [sz]
    · simp [sz]
  · have e1 : ∀ {u}, Dp K H' u (fix d) → u = v := fun {u} hh => by
      cases hv with
      | non => cases (show Dp K H' u .none from hh); rfl
      | str x => exact dpS (show Dp K H' u (.str x) from hh)
    match us, hu with
    | [u0, u1, u2], .cons h0 (.cons h1 (.cons h2 .nil)) =>
      have e0 := dpS h0
      have e2 := dpI h2
      have e1 := e1 h1
      subst e0 e1 e2
      exact h H' dx (s0.trans sm) (s0.free hdx) hx
theorem walk_enumT {K : PySem.W.Frag} {a : Addr} {k : Int} {xs : List V} : Walk (Itet K a k) xs.length (fun H => SqT K H a xs) (YPair (fun i => some (.int (k + (i : Nat)))) (fun i => xs[i]?)) := by
  refine ⟨fun i _ hi q => ⟨xs, xs[i], q, by simp [hi]⟩, fun _ q => ⟨xs, q, Nat.le_refl _⟩, fun i H v H' _ q y => ?_⟩
  obtain ⟨T, x, h1, h2, h3, h4⟩ := y
  exact ⟨T, .int (k + (i : Nat)), x, h1, h2, h3, rfl, h4 xs q⟩
/-- for i, x in enumerate(t, start=k) -/
theorem for_enumT {K : PySem.W.Frag} {a : Addr} {k : Int} {xs : List V} {g : TG} {tb : TS} {D : Ends} {σ : L2.St} {H : Hp} (Pv : Nat → L2.St → Hp → Prop) (h0 : Pv 0 σ H) (hl : ∀ i σ H, i ≤ xs.length → Pv i σ H → SqT K H a xs)
    (hs : ∀ i x σ H, xs[i]? = some x → Pv i σ H → ∀ T, H T = none → g (.ref T) σ (upd H T (.tup [.int (k + (i : Nat)), x])) fun σ2 H2 => tb { D with nx := Pv (i + 1), ct := Pv (i + 1), bk := D.nx } σ2 H2) (hd : ∀ σ H, Pv xs.length σ H → D.nx σ H) :
    ∃ W : Nat → Nat → L2.St → Hp → Prop, (∃ m, W 0 m σ H) ∧ ∀ (i m : Nat) (σ : L2.St) (H : Hp), W i m σ H → (Itet K a k).stop i H ∧ D.nx σ H ∨ (Itet K a k).go i H ∧ ∃ N : L2.St → Hp → Prop, (∀ σ' H', N σ' H' → ∃ m', m' < m ∧ W (i + 1) m' σ' H') ∧ ∀ x H', (Itet K a k).yld i H x H' → g x σ H' fun σ2 H2 => tb { nx := N, rt := D.rt, bk := D.nx, ct := N } σ2 H2 := by
  refine for_it walk_enumT Pv h0 hl (fun i x σ H H' hi hp hy => ?_) hd
  obtain ⟨T, u, v, rfl, hT, rfl, h1, h2⟩ := hy
  injection h1 with h1
  subst h1
  exact hs i v σ H h2 hp T hT
/-! ### good rows -/
theorem rowOf_two {d : PyData} {n : Str} {es : List PyData} (h : rowOf d = some (n, es)) : d = .tuple [.str n, .tuple es] ∧ nameB n = true := by
  unfold rowOf at h
  split at h
  · split at h
    · rename_i hc
      injection h with h
      injection h with h1 h2
      subst h1 h2
      exact ⟨rfl, hc⟩
    · cases h
  · cases h
end Rc
namespace Rc
open PySem PySem.Spec PyProof.Rows L2 RZ Rx SX
theorem dpT_inv {K : PySem.W.Frag} {H : Hp} {x : V} {ds : List PyData} (h : Dp K H x (.tuple ds)) : ∃ q vs, x = .ref q ∧ SqT K H q vs ∧ DpAll K H vs ds := by
  cases h with
  | tup h1 h2 => exact ⟨_, _, rfl, h1, h2⟩
theorem dpAll_d {K : PySem.W.Frag} {H : Hp} {vs : List V} {d : PyData} {ds : List PyData} (h : DpAll K H vs (d :: ds)) : ∃ v vs', vs = v :: vs' ∧ Dp K H v d ∧ DpAll K H vs' ds := by
  cases h with
  | cons a b => exact ⟨_, _, rfl, a, b⟩
theorem dpAll_d0 {K : PySem.W.Frag} {H : Hp} {vs : List V} (h : DpAll K H vs []) : vs = [] := by
  cases h
  rfl
theorem row_dp {K : PySem.W.Frag} {H : Hp} {x : V} {n : Str} {es : List PyData} (h : Dp K H x (.tuple [.str n, .tuple es])) : ∃ q b vs, x = .ref q ∧ SqT K H q [.str n, .ref b] ∧ SqT K H b vs ∧ DpAll K H vs es := by
  obtain ⟨q, vs, rfl, hq, ha⟩ := dpT_inv h
  obtain ⟨v1, vs1, rfl, h1, ha⟩ := dpAll_d ha
  obtain ⟨v2, vs2, rfl, h2, ha⟩ := dpAll_d ha
  have := dpAll_d0 ha
  subst this
  have := dpS h1
  subst this
  obtain ⟨b, us, rfl, hb, hu⟩ := dpT_inv h2
  exact ⟨q, b, us, rfl, hq, hb, hu⟩
end Rc
namespace Rc
open PySem PySem.Spec PyProof.Rows L2 RZ Rx SX
def rowP (r : Str × List PyData) : PyData := .tuple [.str r.1, .tuple r.2]
theorem rows_of_bad : ∀ {ds : List PyData} {kn : List Str} {i : Nat}, rowBad kn i ds = none → ∃ rs : List (Str × List PyData), ds = rs.map rowP ∧ (∀ r ∈ rs, nameB r.1 = true) ∧ rowsOfD ds = rs
  | [], _, _, _ => ⟨[], rfl, fun _ h => (nomatch h), rfl⟩
  | d :: ds, kn, i, h => by
    cases hr : rowOf d with
    | none =>
      simp only [rowBad, hr] at h
      cases h
    | some r =>
      obtain ⟨n, es⟩ := r
      obtain ⟨hd, hn⟩ := rowOf_two hr
      simp only [rowBad, hr] at h
      split at h
      · cases h
      · obtain ⟨rs, h1, h2, h3⟩ := rows_of_bad h
        refine ⟨(n, es) :: rs, by rw [List.map_cons, ← h1, hd]; rfl, fun r hm => ?_, ?_⟩
        · rcases List.mem_cons.mp hm with rfl | hm
          · exact hn
          · exact h2 r hm
        · unfold rowsOfD
          rw [List.filterMap_cons, hr]
          exact congrArg _ h3
theorem evBad_off (os : List Str) : ∀ (ds : List PyData) (k : Nat), evBad os k ds = none → ∀ d ∈ ds, (evOf os d).isSome = true
  | [], _, _, _, h => nomatch h
  | d :: ds, k, h, e, hm => by
    unfold evBad at h
    split at h
    · rename_i hs
      rcases List.mem_cons.mp hm with rfl | hm
      · exact hs
      · exact evBad_off os ds (k + 1) h e hm
    · cases h
end Rc

set_option Elab.async false
set_option linter.all false
set_option maxRecDepth 100000
set_option maxHeartbeats 1000000
/-! XRc: check_rows, check_events -/
namespace XE
open PySem PySem.Spec PyProof.Rows L2 RZ Rx SX Rc
abbrev sCheckRows : Stmt := topS 21
abbrev sCheckEvents : Stmt := topS 23
def rowDue (ds : List PyData) : Option Nat := if ds = [] then some 0 else rowBad [] 0 ds
def spCheckR (K : PySem.W.Frag) (CR : Addr) : Sp := fun vs H Q E => ∃ (t : Addr) (xs : List V) (ds : List PyData), vs = [.ref t] ∧ SqT K H t xs ∧ DpAll K H xs ds ∧ (∀ d ∈ ds, Gd d) ∧ ds.length ≤ 1000 ∧
  (rowDue ds = none → ∀ H', Same H H' → Q .non H') ∧ (∀ i, rowDue ds = some i → RecAt CR H "row" .non i E)
theorem bad_stop {kn : List Str} {d : PyData} {ds : List PyData} : rowBad kn 40 (d :: ds) = some 40 := by
  unfold rowBad
  cases h : rowOf d with
  | none => rfl
  | some r => exact if_pos (.inl rfl)
theorem bad_none {kn : List Str} {i : Nat} {d : PyData} {ds : List PyData} (h : rowOf d = none) : rowBad kn i (d :: ds) = some i := by
  unfold rowBad
  rw [h]
theorem bad_some {kn : List Str} {i : Nat} {d : PyData} {ds : List PyData} {n : Str} {es : List PyData} (h : rowOf d = some (n, es)) : rowBad kn i (d :: ds) = if i = 40 ∨ n ∈ kn then some i else rowBad (kn ++ [n]) (i + 1) ds := by
  simp only [rowBad, h]
section
variable {P : Program} {w : World} {K : PySem.W.Frag} {mg : Str → Option Value} {base : Heap} {CR : Addr}
abbrev krN : List Str := ["rows", "names", "index", "row"]
theorem scKR : FnScope krN ["rows"] (defScope sCheckRows) := ⟨rfl, rfl, rfl, by decide +kernel, rfl, by decide +kernel, by decide +kernel⟩
theorem ok_checkRows {f fW : Addr} {fd fdW : FuncData} {tM : Tok} (F : Fun K "check_rows" "check_rows" sCheckRows f fd) (menum : mg "enumerate" = none) (mproc : mg "MOST_PROCESSES" = some (.int 40 tM)) (TR : RaiT P w K mg base "BadRecord" CR ["reason", "name", "number"])
    (CW : Cal P w K mg base 2 "is_row" fW fdW ["row"] (spTestG K isRowD)) :
    FnOk P w K mg base (L2.CX P w) 4 f fd ["rows"] (spCheckR K CR) := by
  obtain ⟨fR, fdR, iR, tR, FR, bR⟩ := TR.ini
  refine F.okX scKR (fun vs H Q E h => ?_) (fun cdv A outer s H vs Q E hr h => ?_)
  · obtain ⟨_, _, _, rfl, _⟩ := h
    rfl
  · obtain ⟨t, xs, ds, rfl, ht, hd, hg, hl, kQ, kE⟩ := h
    have hr2 : Room 2 _ := hr.mono (by decide)
    have hrR : Room 3 _ := hr.mono (by decide)
    refine ⟨_, (pss_cons (ps_set (i := 1) scKR.nd rfl (.inl rfl) (pe_lst pa_nil)) (pss_cons (ps_for (passes_of rfl) rfl (pi_enumT (by rfl) menum (pa_cons (pv 0) pa_nil)) (pg_tup rfl (pgs_cons (pg_name (i := 2) scKR.nd rfl (.inl rfl)) (pgs_cons (pg_name (i := 3) scKR.nd rfl (.inl rfl)) pgs_nil))) (pss_cons (ps_if (PW.pt (pw_or (pt_cmpR op_eq (pv 2) (pe_glob (v := .int 40) rfl mproc ⟨_, rfl⟩) (nomark _)) (pw_or (pt_not (pt_val (pe_call CW.ok hr2 rfl CW.mg CW.kp CW.bi .nil pass0 (pa_cons (pv 3) pa_nil)))) (pw_or1 (pt_cmpR op_in_seq (pe_ix ix_tup (pv 3) pe_int (fun _ _ => rfl)) (pv 1) rfl))))) (pss_one (ps_raise rfl (takes_of rfl rfl rfl rfl) (pmk_oex TR.oex iR tR FR hrR bR .nil pass0 rfl TR.mgx (pa_cons pe_str (pa_cons pe_non (pa_cons (pv 2) pa_nil)))))) pss_nil) (pss_one (ps_expr (pe_bm PySem.F.plainAttrs_list PySem.F.slot_list_append PySem.F.type_list_append mt_append (pv 1) (pa_cons (pe_ix ix_tup (pv 3) pe_int (fun _ _ => rfl)) pa_nil)))))) (pss_one (ps_if (pt_not (pt_truth (pv 0) (by intro _; rfl))) (pss_one (ps_raise rfl (takes_of rfl rfl rfl rfl) (pmk_oex TR.oex iR tR FR hrR bR .nil pass0 rfl TR.mgx (pa_cons pe_str (pa_cons pe_non (pa_cons pe_int pa_nil)))))) pss_nil)))), ?_⟩
    have hlen := dpAll_len hd
    refine ⟨by show 0 ≤ sizeLine; exact Nat.zero_le _, fun N nN => ?_⟩
    have s0 := same_new (o := .lst []) nN
    have hN0 := upd_same (H := H) (a := N) (o := .lst [])
    refine ⟨_, rfl, t, xs, rfl, sqT_same s0 ht, for_enumT (fun i σ Hx => ∃ (x2 x3 : Option V) (kn : List Str), σ = [some (.ref t), some (.ref N), x2, x3] ∧ Hx N = some (.lst (kn.map V.str)) ∧ Same H Hx ∧ kn.length = i ∧ rowBad [] 0 ds = rowBad kn i (ds.drop i)) ⟨_, _, [], rfl, hN0, s0, rfl, rfl⟩ (fun i σ Hx _ ⟨_, _, _, _, _, sm, _⟩ => sqT_same sm ht) ?_ ?_⟩
    · rintro i x σ Hx hx ⟨x2, x3, kn, rfl, hN, sm, hkl, hb⟩ T nT
      obtain ⟨d, hdi, hdp⟩ := dpAll_at hd hx
      have hi : i < ds.length := (List.getElem?_eq_some_iff.mp hdi).1
      have hdr : ds.drop i = d :: ds.drop (i + 1) := by
        obtain ⟨h1, h2⟩ := List.getElem?_eq_some_iff.mp hdi
        rw [← h2, List.getElem_cons_drop]
      rw [hdr] at hb
      have hne : ds ≠ [] := fun z => by rw [z] at hi; cases hi
      have hdue : rowDue ds = rowBad [] 0 ds := by unfold rowDue; rw [if_neg hne]
      have s1 : Same H (upd Hx T (.tup [.int (0 + (i : Nat)), x])) := sm.trans (same_new nT)
      have hN1 : upd Hx T (.tup [.int (0 + (i : Nat)), x]) N = _ := same_new nT _ _ hN
      have hT := SqT.of (K := K) (upd_same (H := Hx) (a := T) (o := .tup [.int (0 + (i : Nat)), x]))
      generalize upd Hx T (.tup [.int (0 + (i : Nat)), x]) = H1 at s1 hN1 hT ⊢
      rw [show (0 + (i : Int)) = (i : Int) by omega] at hT
      have hdp1 := dp_same s1 hdp
      refine ⟨T, _, rfl, hT, rfl, _, _, rfl, _, _, rfl, rfl, _, rfl, rfl, _, rfl, ?_⟩
      have d40 : decide (V.int (i : Nat) = V.int 40) = decide (i = 40) := by
        rw [decide_eq_decide]
        exact ⟨fun h => by injection h with h; omega, fun h => by rw [h]; rfl⟩
      rw [d40]
      by_cases h40 : i = 40
      · refine iteTc (decide_eq_true h40) (iteTc rfl ⟨_, rfl, mk_rec (K := K) (n := i) (kE i ?_) s1 .non⟩)
        rw [hdue, hb]
        subst h40
        exact bad_stop
      refine iteFc (decide_eq_false h40) ⟨_, rfl, x, d, rfl, hdp1, hg _ (List.mem_of_getElem? hdi), fun H2 s2 => ⟨_, rfl, ?_⟩⟩
      have s12 := s1.trans s2
      cases hro : rowOf d with
      | none =>
        refine iteTc (by unfold isRowD; rw [hro]; rfl) (iteTc rfl ⟨_, rfl, mk_rec (K := K) (n := i) (kE i ?_) s12 .non⟩)
        rw [hdue, hb]
        exact bad_none hro
      | some r =>
        obtain ⟨n, es⟩ := r
        refine iteFc (by unfold isRowD; rw [hro]; rfl) ?_
        obtain ⟨rfl, hnm⟩ := rowOf_two hro
        rw [bad_some hro] at hb
        obtain ⟨q, b, us, rfl, hq, hbb, hus⟩ := row_dp (dp_same s2 hdp1)
        have hN2 := s2 _ _ hN1
        refine ⟨_, rfl, q, _, 0, _, rfl, rfl, hq, atI_nat (j := 0) rfl, _, rfl, N, _, rfl, .inl (SqL.of hN2), rfl, flat_strs _, _, rfl, ?_⟩
        show if inV (.str n) (kn.map V.str) = true then _ else _
        rw [inV_strs]
        by_cases hin : n ∈ kn
        · refine iteTc (List.contains_iff_mem.mpr hin) ⟨_, rfl, mk_rec (K := K) (n := i) (kE i ?_) s12 .non⟩
          rw [hdue, hb, if_pos (.inr hin)]
        · refine iteFc (by rw [Bool.eq_false_iff]; exact fun z => hin (List.contains_iff_mem.mp z)) ?_
          rw [if_neg (fun z => z.elim h40 hin)] at hb
          refine ⟨_, rfl, (.inl ⟨rfl, _, SqL.of hN2⟩), _, rfl, q, _, 0, _, rfl, rfl, hq, atI_nat (j := 0) rfl, N, _, _, rfl, rfl, hN2, ?_, ?_⟩
          · rw [List.length_map]
            exact fitR (by omega)
          · refine ⟨_, _, kn ++ [n], rfl, ?_, same_upd s12 nN, ?_, hb⟩
            · rw [upd_same, List.map_append]
              rfl
            · rw [List.length_append, hkl]
              rfl
    · rintro σ Hx ⟨x2, x3, kn, rfl, hN, sm, hkl, hb⟩
      refine ⟨_, rfl, _, .inr (.inl ⟨_, sqT_same sm ht, rfl⟩), ?_⟩
      by_cases he : ds = []
      · refine iteTc ?_ (mk_rec (K := K) (n := 0) (kE 0 ?_) sm .non)
        · subst he
          cases hd
          rfl
        · unfold rowDue
          rw [if_pos he]
      · refine iteFc ?_ (kQ ?_ Hx sm)
        · cases xs with
          | nil =>
            have := dpAll_inv0 hd
            exact absurd this he
          | cons _ _ => rfl
        · unfold rowDue
          rw [if_neg he, hb, hlen, List.drop_length]
          rfl
end
end XE

set_option Elab.async false
set_option linter.all false
set_option maxRecDepth 100000
set_option maxHeartbeats 1000000
/-! XRd: check_events -/
namespace XE
open PySem PySem.Spec PyProof.Rows L2 RZ Rx SX Rc
theorem gd_names {os : List Str} (h : ∀ o ∈ os, nameB o = true) : Gd (.list (os.map PyData.str)) := by
  refine ⟨shStrs3 os fun n hn => name_strOk (h n hn), ?_⟩
  have : ∀ os : List Str, (∀ o ∈ os, nameB o = true) → smAll (os.map PyData.str) = true := by
    intro os h
    induction os with
    | nil => rfl
    | cons o os ih =>
      rw [List.map_cons]
      simp only [smAll, smD, Bool.and_eq_true, decide_eq_true_eq]
      refine ⟨?_, ih fun x hx => h x (List.mem_cons_of_mem _ hx)⟩
      have := h o (List.mem_cons_self ..)
      unfold nameB isName at this
      simp only [Bool.and_eq_true, decide_eq_true_eq] at this
      rw [← len_tl]
      exact Nat.le_trans this.2.2.1 (by decide)
  simpa [smD] using this os h
/-- rows of names and data -/
structure RowsP (K : PySem.W.Frag) (H : Hp) (t : Addr) (xs : List V) (rs : List (Str × List PyData)) : Prop where
  tu : SqT K H t xs
  dp : DpAll K H xs (rs.map rowP)
  nm : ∀ r ∈ rs, nameB r.1 = true
  gd : ∀ r ∈ rs, ∀ e ∈ r.2, Gd e
  few : rs.length ≤ 40
  len : ∀ r ∈ rs, r.2.length ≤ 1000
theorem RowsP.same {K : PySem.W.Frag} {H H1 : Hp} {t : Addr} {xs : List V} {rs : List (Str × List PyData)} (h : RowsP K H t xs rs) (s : Same H H1) : RowsP K H1 t xs rs := ⟨sqT_same s h.tu, dpAll_same s h.dp, h.nm, h.gd, h.few, h.len⟩
theorem RowsP.at_ {K : PySem.W.Frag} {H : Hp} {t : Addr} {xs : List V} {rs : List (Str × List PyData)} (h : RowsP K H t xs rs) {i : Nat} {x : V} (hx : xs[i]? = some x) : ∃ r q b us, rs[i]? = some r ∧ x = .ref q ∧ SqT K H q [.str r.1, .ref b] ∧ SqT K H b us ∧ DpAll K H us r.2 := by
  obtain ⟨d, hd, hp⟩ := dpAll_at h.dp hx
  rw [List.getElem?_map] at hd
  cases hr : rs[i]? with
  | none => rw [hr] at hd; cases hd
  | some r =>
    rw [hr] at hd
    injection hd with hd
    subst hd
    obtain ⟨q, b, us, rfl, h1, h2, h3⟩ := row_dp hp
    exact ⟨r, q, b, us, rfl, rfl, h1, h2, h3⟩
theorem RowsP.ln {K : PySem.W.Frag} {H : Hp} {t : Addr} {xs : List V} {rs : List (Str × List PyData)} (h : RowsP K H t xs rs) : xs.length = rs.length := by rw [dpAll_len h.dp, List.length_map]
def spCheckE (K : PySem.W.Frag) (CR : Addr) : Sp := fun vs H Q E => ∃ (t : Addr) (xs : List V) (rs : List (Str × List PyData)), vs = [.ref t] ∧ RowsP K H t xs rs ∧
  (evsBad (rs.map (·.1)) rs = none → ∀ H', Same H H' → Q .non H') ∧ (∀ n k, evsBad (rs.map (·.1)) rs = some (n, k) → RecAt CR H "event" (.str n) k E)
theorem drop_at {α : Type} {l : List α} {i : Nat} {x : α} (h : l[i]? = some x) : l.drop i = x :: l.drop (i + 1) := by
  obtain ⟨h1, h2⟩ := List.getElem?_eq_some_iff.mp h
  rw [← h2, List.getElem_cons_drop]
section
variable {P : Program} {w : World} {K : PySem.W.Frag} {mg : Str → Option Value} {base : Heap} {CR : Addr}
abbrev keN : List Str := ["rows", "names", "name", "events", "others", "other", "number", "event"]
theorem scKE : FnScope keN ["rows"] (defScope sCheckEvents) := ⟨rfl, rfl, rfl, by decide +kernel, rfl, by decide +kernel, by decide +kernel⟩
theorem ok_checkEvents {f fS : Addr} {fd fdS : FuncData} (F : Fun K "check_events" "check_events" sCheckEvents f fd) (menum : mg "enumerate" = none) (TR : RaiT P w K mg base "BadRecord" CR ["reason", "name", "number"])
    (CS : Cal P w K mg base 4 "has_shape" fS fdS ["event", "others"] (spHas K)) :
    FnOk P w K mg base (L2.CX P w) 5 f fd ["rows"] (spCheckE K CR) := by
  obtain ⟨fR, fdR, iR, tR, FR, bR⟩ := TR.ini
  refine F.okX scKE (fun vs H Q E h => ?_) (fun cdv A outer s H vs Q E hr h => ?_)
  · obtain ⟨_, _, _, rfl, _⟩ := h
    rfl
  · obtain ⟨t, xs, rs, rfl, R, kQ, kE⟩ := h
    have hr4 : Room 4 _ := hr.mono (by decide)
    have hrR : Room 3 _ := hr.mono (by decide)
    refine ⟨_, (pss_cons (ps_setLc (i := 1) (own := [("name", 2), ("events", 3)]) (g := gTup K 2 (gCons (gName 2) (gCons (gName 3) gNil))) (tt := tYes) (te := tVar 2) rfl scKE.nd rfl rfl (sw_true rfl rfl rfl (by decide +kernel)) (pi_tup (pv 0)) (blkOk_by (own := [("name", 2), ("events", 3)]) (N := keN) (sc := defScope sCheckEvents) (by decide +kernel)) (fun _ _ _ _ _ => (pg_tup rfl (pgs_cons (pg_name (i := 2) scKE.nd rfl (Or.inl rfl)) (pgs_cons (pg_name (i := 3) scKE.nd rfl (Or.inl rfl)) pgs_nil)))) (fun _ _ _ _ _ => pts_nil) (fun _ _ _ _ _ => (pv 2))) (pss_one (ps_for (passes_of rfl) rfl (pi_tup (pv 0)) (pg_tup rfl (pgs_cons (pg_name (i := 2) scKE.nd rfl (.inr rfl)) (pgs_cons (pg_name (i := 3) scKE.nd rfl (.inl rfl)) pgs_nil))) (pss_cons (ps_setLc (i := 4) (own := [("other", 5)]) (g := gName 5) (tt := tTest (tOp rNe (tVar 5) (tVar 2))) (te := tVar 5) rfl scKE.nd rfl rfl (sw_true rfl rfl rfl (by decide +kernel)) (pi_list (pv 1)) (blkOk_by (own := [("other", 5)]) (N := keN) (sc := defScope sCheckEvents) (by decide +kernel)) (fun _ _ _ _ _ => (pg_name (i := 5) scKE.nd rfl (Or.inl rfl))) (fun _ _ _ _ _ => pts_one (pt_cmpR op_ne (pv 5) (pv 2) (nomark _))) (fun _ _ _ _ _ => (pv 5))) (pss_one (ps_for (passes_of rfl) rfl (pi_enumTS (by rfl) menum (pa_cons (pv 3) pa_nil)) (pg_tup rfl (pgs_cons (pg_name (i := 6) scKE.nd rfl (.inl rfl)) (pgs_cons (pg_name (i := 7) scKE.nd rfl (.inl rfl)) pgs_nil))) (pss_one (ps_if (pt_not (pt_val (pe_call CS.ok hr4 rfl CS.mg CS.kp CS.bi .nil pass0 (pa_cons (pv 7) (pa_cons (pv 4) pa_nil))))) (pss_one (ps_raise rfl (takes_of rfl rfl rfl rfl) (pmk_oex TR.oex iR tR FR hrR bR .nil pass0 rfl TR.mgx (pa_cons pe_str (pa_cons (pv 2) (pa_cons (pv 6) pa_nil)))))) pss_nil)))))))), ?_⟩
    have hln := R.ln
    have hfew := R.few
    refine ⟨_, rfl, t, rfl, ⟨_, R.tu⟩, fun N nN => ?_⟩
    refine lc_it walk_tup (fun j Hy => Same H Hy ∧ Hy N = some (.lst (((rs.take j).map (·.1)).map V.str))) ⟨same_new nN, upd_same⟩ (fun j Hy _ q => sqT_same q.1 R.tu) ?_ ?_
    · rintro j x Hy Hy' hj ⟨sm, hN⟩ ⟨rfl, hx⟩
      obtain ⟨r, q, b, us, hr', rfl, hq, hb, hus⟩ := (R.same sm).at_ hx
      refine ⟨q, _, rfl, hq, rfl, _, _, rfl, _, _, rfl, rfl, rfl, ?_⟩
      dsimp only [tYes]
      rw [if_pos rfl]
      refine ⟨_, rfl, _, hN, ?_, same_upd sm nN, ?_⟩
      · rw [List.length_map, List.length_map, List.length_take]
        exact fitR (by omega)
      · rw [upd_same, List.take_add_one, hr']
        simp
    rintro H1 ⟨s1, hN⟩
    rw [hln, List.take_length] at hN
    refine ⟨_, rfl, t, rfl, ⟨_, sqT_same s1 R.tu⟩, ?_⟩
    refine for_tup (fun i σ Hx => ∃ (x2 x3 x4 x5 x6 x7 : Option V), σ = [some (.ref t), some (.ref N), x2, x3, x4, x5, x6, x7] ∧ Same H Hx ∧ Hx N = some (.lst ((rs.map (·.1)).map V.str)) ∧ evsBad (rs.map (·.1)) rs = evsBad (rs.map (·.1)) (rs.drop i)) ⟨_, _, _, _, _, _, rfl, s1, hN, rfl⟩ (fun i σ Hx _ ⟨_, _, _, _, _, _, _, sm, _⟩ => sqT_same sm R.tu) ?_ ?_
    · rintro i x σ Hx hx ⟨x2, x3, x4, x5, x6, x7, rfl, sm, hN, hb⟩
      obtain ⟨r, q, b, us, hr', rfl, hq, hb', hus⟩ := (R.same sm).at_ hx
      obtain ⟨n, es⟩ := r
      rw [drop_at hr'] at hb
      have hmem := List.mem_of_getElem? hr'
      refine ⟨q, _, rfl, hq, rfl, _, _, rfl, _, _, rfl, rfl, ?_⟩
      dsimp only [List.set]
      have hb1 : evsBad (rs.map (·.1)) ((n, es) :: rs.drop (i + 1)) = match evBad (othersL (rs.map (·.1)) n) 1 es with | some k => some (n, k) | none => evsBad (rs.map (·.1)) (rs.drop (i + 1)) := rfl
      rw [hb1] at hb
      refine ⟨_, rfl, N, rfl, ⟨_, SqL.of hN⟩, fun O nO => ?_⟩
      have hO0 : H O = none := sm.free nO
      refine lc_list (K := K) (a := N) (xs := (rs.map (·.1)).map V.str) (fun j Hy => Same Hx Hy ∧ Hy O = some (.lst ((othersL ((rs.map (·.1)).take j) n).map V.str))) ⟨same_new nO, upd_same⟩ (fun j Hy _ q => SqL.of (q.1 _ _ hN)) ?_ ?_
      · rintro j x Hy hx ⟨sy, hO⟩
        obtain ⟨o, ho, rfl⟩ := mapS_get hx
        refine ⟨rfl, _, rfl, _, rfl, rfl, _, rfl, ?_⟩
        have e1 : (!decide (V.str o = V.str n)) = decide (o ≠ n) := by
          by_cases h : o = n
          · subst h; simp
          · have : V.str o ≠ V.str n := fun z => h (by injection z)
            simp [this, h]
        have e2 : othersL ((rs.map (·.1)).take (j + 1)) n = othersL ((rs.map (·.1)).take j) n ++ (if o ≠ n then [o] else []) := by
          rw [List.take_add_one, ho]
          unfold othersL
          rw [List.filter_append]
          congr 1
          by_cases h : o = n <;> simp [h]
        rw [e1, e2]
        have hlo : (othersL ((rs.map (·.1)).take j) n).length ≤ 40 := by
          have := List.length_filter_le (fun o => decide (o ≠ n)) ((rs.map (·.1)).take j)
          rw [List.length_take, List.length_map] at this
          show (List.filter _ _).length ≤ 40
          omega
        by_cases h : o = n
        · refine iteFc (by simp [h]) ⟨sy, ?_⟩
          rw [if_neg (fun z => z h), List.append_nil]
          exact hO
        · refine iteTc (by simp [h]) ⟨_, rfl, _, hO, ?_, same_upd sy nO, ?_⟩
          · rw [List.length_map]
            exact fitR (by omega)
          · rw [upd_same, if_pos h, List.map_append]
            rfl
      rintro H2 ⟨s2, hO⟩
      rw [List.length_map, List.take_length] at hO
      have sm2 := sm.trans s2
      have hN2 := s2 _ _ hN
      dsimp only [List.set]
      generalize hos : othersL (rs.map (·.1)) n = os at hb hO
      have hon : ∀ o ∈ os, nameB o = true := fun o ho => by
        rw [← hos] at ho
        obtain ⟨r, hr, rfl⟩ := List.mem_map.mp (List.mem_filter.mp ho).1
        exact R.nm r hr
      have hol : os.length ≤ 50 := by
        rw [← hos]
        have := List.length_filter_le (fun o => decide (o ≠ n)) (rs.map (·.1))
        rw [List.length_map] at this
        show (List.filter _ _).length ≤ 50
        omega
      have hul := dpAll_len hus
      refine ⟨_, rfl, b, us, rfl, sqT_same s2 hb', ?_⟩
      refine for_enumT (fun j σ Hy => ∃ (x5 x6 x7 : Option V), σ = [some (.ref t), some (.ref N), some (.str n), some (.ref b), some (.ref O), x5, x6, x7] ∧ Same H2 Hy ∧ evBad os 1 es = evBad os (1 + j) (es.drop j)) ⟨_, _, _, rfl, .refl _, rfl⟩ (fun i σ Hy _ ⟨_, _, _, _, sy, _⟩ => sqT_same (s2.trans sy) hb') ?_ ?_
      · rintro j v σ Hy hv ⟨x5, x6, x7, rfl, sy, hbj⟩ T nT
        obtain ⟨d, hdj, hdp⟩ := dpAll_at hus hv
        rw [drop_at hdj] at hbj
        have s3 : Same H2 (upd Hy T (.tup [.int (1 + (j : Nat)), v])) := sy.trans (same_new nT)
        have hT := SqT.of (K := K) (upd_same (H := Hy) (a := T) (o := .tup [.int (1 + (j : Nat)), v]))
        generalize upd Hy T (.tup [.int (1 + (j : Nat)), v]) = H3 at s3 hT ⊢
        rw [show ((1 : Int) + (j : Int)) = ((1 + j : Nat) : Int) by omega] at hT
        refine ⟨T, _, rfl, hT, rfl, _, _, rfl, _, _, rfl, rfl, ?_⟩
        refine ⟨_, rfl, _, rfl, v, d, O, os, rfl, dp_same (s2.trans s3) hdp, R.gd _ hmem _ (List.mem_of_getElem? hdj), s3 _ _ hO, hol, gd_names hon, fun H4 s4 => ⟨_, rfl, ?_⟩⟩
        have ebj : evBad os (1 + j) (d :: es.drop (j + 1)) = if (evOf os d).isSome then evBad os (1 + j + 1) (es.drop (j + 1)) else some (1 + j) := rfl
        rw [ebj] at hbj
        rw [hasB_ev]
        cases hev : (evOf os d).isSome with
        | false =>
          rw [hev, if_neg (by decide)] at hbj
          refine iteTc rfl ⟨_, rfl, _, rfl, mk_rec (K := K) (n := 1 + j) (kE n (1 + j) ?_) (sm2.trans (s3.trans s4)) (.str n)⟩
          rw [hb, hbj]
        | true =>
          rw [hev, if_pos rfl] at hbj
          exact iteFc rfl ⟨_, _, _, rfl, s3.trans s4, hbj⟩
      · rintro σ Hy ⟨x5, x6, x7, rfl, sy, hbj⟩
        rw [hul, List.drop_length] at hbj
        refine ⟨_, _, _, _, _, _, rfl, sm2.trans sy, sy _ _ hN2, ?_⟩
        rw [hb, hbj]
        rfl
    · rintro σ Hx ⟨x2, x3, x4, x5, x6, x7, rfl, sm, hN, hb⟩
      refine kQ ?_ Hx sm
      rw [hb, hln, List.drop_length]
      rfl
end
end XE

set_option Elab.async false
set_option linter.all false
set_option maxRecDepth 100000
set_option maxHeartbeats 1000000
/-! RxMsg: messages of typed rows -/
namespace Rc
open PySem PySem.Spec PyProof.Rows L2 RZ Rx SX
abbrev EvId := Str × Nat
abbrev Flat := List (EvId × Ev)
def flatRow (n : Str) : Nat → List Ev → Flat
  | _, [] => []
  | k, e :: es => ((n, k), e) :: flatRow n (k + 1) es
def flatR : Rows → Flat
  | [] => []
  | (n, es) :: rs => flatRow n 1 es ++ flatR rs
theorem flatRow_snoc (n : Str) : ∀ (es : List Ev) (k : Nat) (e : Ev), flatRow n k (es ++ [e]) = flatRow n k es ++ [((n, k + es.length), e)]
  | [], k, e => rfl
  | x :: es, k, e => by
    show _ :: flatRow n (k + 1) (es ++ [e]) = _
    rw [flatRow_snoc n es (k + 1) e]
    show _ = _ :: (flatRow n (k + 1) es ++ [((n, k + (es.length + 1)), e)])
    rw [show k + 1 + es.length = k + (es.length + 1) by omega]
theorem flatRow_len (n : Str) : ∀ (es : List Ev) (k : Nat), (flatRow n k es).length = es.length
  | [], _ => rfl
  | x :: es, k => by
    show (flatRow n (k + 1) es).length + 1 = _
    rw [flatRow_len n es (k + 1)]
    rfl
theorem flatR_app : ∀ (rs qs : Rows), flatR (rs ++ qs) = flatR rs ++ flatR qs
  | [], _ => rfl
  | (n, es) :: rs, qs => by
    show flatRow n 1 es ++ flatR (rs ++ qs) = _
    rw [flatR_app rs qs, ← List.append_assoc]
    rfl
theorem flatR_one (n : Str) (es : List Ev) : flatR [(n, es)] = flatRow n 1 es := List.append_nil _
theorem flatRow_cons (n : Str) (es : List Ev) (k j : Nat) (e : Ev) (h : es[j]? = some e) : flatRow n (k + j) (es.drop j) = ((n, k + j), e) :: flatRow n (k + (j + 1)) (es.drop (j + 1)) := by
  have : es.drop j = e :: es.drop (j + 1) := by
    obtain ⟨h1, h2⟩ := List.getElem?_eq_some_iff.mp h
    rw [← h2, List.getElem_cons_drop]
  rw [this]
  rfl
def Ev.sendOf : Ev → Option (Str × Int)
  | .send p v => some (p, v) | _ => none
def Ev.recvOf : Ev → Option (Str × Int)
  | .recv p _ v => some (p, v) | .take p _ v => some (p, v) | _ => none
def sentF (fl : Flat) (a b : Str) : List (EvId × Int) := fl.filterMap fun x => if x.1.1 = a then (match x.2.sendOf with | some (p, v) => if p = b then some (x.1, v) else none | none => none) else none
/-- how many messages from a the process b has received -/
def recvN (fl : Flat) (a b : Str) : Nat := (fl.filter fun x => decide (x.1.1 = b) && decide (x.2.recvOf.map (·.1) = some a)).length
def matchF (all : Flat) : Flat → List (EvId × EvId) → Flat → Except EvId (List (EvId × EvId))
  | _, acc, [] => .ok acc
  | done, acc, x :: rest => match x.2.recvOf with
    | none => matchF all (done ++ [x]) acc rest
    | some (p, v) => match (sentF all p x.1.1)[recvN done p x.1.1]? with
      | some (s, v') => if v' = v then matchF all (done ++ [x]) (acc ++ [(s, x.1)]) rest else .error x.1
      | none => .error x.1
def matchR (rs : Rows) : Except EvId (List (EvId × EvId)) := matchF (flatR rs) [] [] (flatR rs)
theorem sentF_snoc (fl : Flat) (x : EvId × Ev) (a b : Str) : sentF (fl ++ [x]) a b = sentF fl a b ++ (if x.1.1 = a then (match x.2.sendOf with | some (p, v) => if p = b then [(x.1, v)] else [] | none => []) else []) := by
  unfold sentF
  rw [List.filterMap_append]
  congr 1
  rw [List.filterMap_cons]
  split
  · rename_i h
    split at h
    · rename_i h1
      rw [if_pos h1]
      split
      · rename_i p v hp
        rw [hp] at h
        simp only at h
        split at h
        · cases h
        · rename_i h2
          rw [if_neg h2]
          rfl
      · rfl
    · rename_i h1
      rw [if_neg h1]
      rfl
  · rename_i y h
    split at h
    · rename_i h1
      rw [if_pos h1]
      split at h
      · rename_i p v hp
        split at h
        · rename_i h2
          injection h with h
          rw [if_pos h2, ← h]
          rfl
        · cases h
      · cases h
    · cases h
theorem recvN_snoc (fl : Flat) (x : EvId × Ev) (a b : Str) : recvN (fl ++ [x]) a b = recvN fl a b + (if x.1.1 = b ∧ x.2.recvOf.map (·.1) = some a then 1 else 0) := by
  unfold recvN
  rw [List.filter_append, List.length_append]
  congr 1
  by_cases h1 : x.1.1 = b <;> by_cases h2 : x.2.recvOf.map (·.1) = some a <;> simp [h1, h2]
theorem recvN_le (fl : Flat) (a b : Str) : recvN fl a b ≤ fl.length := List.length_filter_le ..
theorem sentF_le (fl : Flat) (a b : Str) : (sentF fl a b).length ≤ fl.length := List.length_filterMap_le ..
/-! ### values of an event's parts -/
def Ev.restV : Ev → List V
  | .set x v => [.str x, .int v] | .inp x v => [.str x, .int v] | .send p v => [.str p, .int v] | .recv p x v => [.str p, .str x, .int v] | .take p x v => [.str p, .str x, .int v] | .chk => []
theorem dp_two {K : PySem.W.Frag} {H : Hp} {vs : List V} {x : Str} {v : Int} (ha : DpAll K H vs [.str x, .int v]) : vs = [.str x, .int v] := by
  obtain ⟨v1, vs1, rfl, h1, ha⟩ := dpAll_d ha
  obtain ⟨v2, vs2, rfl, h2, ha⟩ := dpAll_d ha
  have := dpAll_d0 ha
  subst this
  rw [dpS h1, dpI h2]
theorem dp_three {K : PySem.W.Frag} {H : Hp} {vs : List V} {p x : Str} {v : Int} (ha : DpAll K H vs [.str p, .str x, .int v]) : vs = [.str p, .str x, .int v] := by
  obtain ⟨v1, vs1, rfl, h1, ha⟩ := dpAll_d ha
  rw [dp_two ha, dpS h1]
theorem ev_dp {K : PySem.W.Frag} {H : Hp} {x : V} {e : Ev} (h : Dp K H x e.data) : ∃ q, x = .ref q ∧ SqT K H q (V.str e.word :: e.restV) := by
  obtain ⟨q, vs, rfl, hq, ha⟩ := dpT_inv h
  obtain ⟨v0, vs0, rfl, h0, hb⟩ := dpAll_d ha
  have e0 := dpS h0
  subst e0
  refine ⟨q, rfl, ?_⟩
  suffices vs0 = e.restV by rw [← this]; exact hq
  cases e with
  | chk => exact dpAll_d0 hb
  | set x v => exact dp_two hb
  | inp x v => exact dp_two hb
  | send x v => exact dp_two hb
  | recv p x v => exact dp_three hb
  | take p x v => exact dp_three hb
theorem word_send (e : Ev) : decide (V.str e.word = V.str "send") = e.sendOf.isSome := by
  cases e with
  | set _ _ => exact (show decide (V.str "set" = V.str "send") = false by decide +kernel)
  | inp _ _ => exact (show decide (V.str "input" = V.str "send") = false by decide +kernel)
  | send _ _ => exact (show decide (V.str "send" = V.str "send") = true by decide +kernel)
  | recv _ _ _ => exact (show decide (V.str "receive" = V.str "send") = false by decide +kernel)
  | take _ _ _ => exact (show decide (V.str "take" = V.str "send") = false by decide +kernel)
  | chk => exact (show decide (V.str "checkpoint" = V.str "send") = false by decide +kernel)
theorem word_recv (e : Ev) : (["receive", "take"] : List Str).contains e.word = e.recvOf.isSome := by
  cases e with
  | set _ _ => exact (show (["receive", "take"] : List Str).contains "set" = false by decide +kernel)
  | inp _ _ => exact (show (["receive", "take"] : List Str).contains "input" = false by decide +kernel)
  | send _ _ => exact (show (["receive", "take"] : List Str).contains "send" = false by decide +kernel)
  | recv _ _ _ => exact (show (["receive", "take"] : List Str).contains "receive" = true by decide +kernel)
  | take _ _ _ => exact (show (["receive", "take"] : List Str).contains "take" = true by decide +kernel)
  | chk => exact (show (["receive", "take"] : List Str).contains "checkpoint" = false by decide +kernel)
theorem send_rest {e : Ev} {p : Str} {v : Int} (h : e.sendOf = some (p, v)) : e = .send p v ∧ e.restV = [.str p, .int v] := by
  cases e <;> first | (injection h with h; injection h with h1 h2; subst h1 h2; exact ⟨rfl, rfl⟩) | cases h
theorem recv_rest {e : Ev} {p : Str} {v : Int} (h : e.recvOf = some (p, v)) : ∃ x, e.restV = [.str p, .str x, .int v] := by
  cases e <;> first | (injection h with h; injection h with h1 h2; subst h1 h2; exact ⟨_, rfl⟩) | cases h
/-- rows of names and events -/
structure RowsT (K : PySem.W.Frag) (H : Hp) (t : Addr) (xs : List V) (rs : Rows) : Prop where
  tu : SqT K H t xs
  dp : DpAll K H xs (rs.map rowE)
  few : rs.length ≤ 40
  len : ∀ r ∈ rs, r.2.length ≤ 1000
theorem RowsT.same {K : PySem.W.Frag} {H H1 : Hp} {t : Addr} {xs : List V} {rs : Rows} (h : RowsT K H t xs rs) (s : Same H H1) : RowsT K H1 t xs rs := ⟨sqT_same s h.tu, dpAll_same s h.dp, h.few, h.len⟩
theorem RowsT.at_ {K : PySem.W.Frag} {H : Hp} {t : Addr} {xs : List V} {rs : Rows} (h : RowsT K H t xs rs) {i : Nat} {x : V} (hx : xs[i]? = some x) : ∃ r q b us, rs[i]? = some r ∧ x = .ref q ∧ SqT K H q [.str r.1, .ref b] ∧ SqT K H b us ∧ DpAll K H us (r.2.map Ev.data) := by
  obtain ⟨d, hd, hp⟩ := dpAll_at h.dp hx
  rw [List.getElem?_map] at hd
  cases hr : rs[i]? with
  | none => rw [hr] at hd; cases hd
  | some r =>
    rw [hr] at hd
    injection hd with hd
    subst hd
    obtain ⟨q, b, us, rfl, h1, h2, h3⟩ := row_dp hp
    exact ⟨r, q, b, us, rfl, rfl, h1, h2, h3⟩
theorem RowsT.ln {K : PySem.W.Frag} {H : Hp} {t : Addr} {xs : List V} {rs : Rows} (h : RowsT K H t xs rs) : xs.length = rs.length := by rw [dpAll_len h.dp, List.length_map]
theorem ev_at {K : PySem.W.Frag} {H : Hp} {us : List V} {es : List Ev} (h : DpAll K H us (es.map Ev.data)) {j : Nat} {x : V} (hx : us[j]? = some x) : ∃ e q, es[j]? = some e ∧ x = .ref q ∧ SqT K H q (V.str e.word :: e.restV) := by
  obtain ⟨d, hd, hp⟩ := dpAll_at h hx
  rw [List.getElem?_map] at hd
  cases hr : es[j]? with
  | none => rw [hr] at hd; cases hd
  | some e =>
    rw [hr] at hd
    injection hd with hd
    subst hd
    obtain ⟨q, rfl, hq⟩ := ev_dp hp
    exact ⟨e, q, rfl, rfl, hq⟩
theorem flat_len {rs : Rows} (h : ∀ r ∈ rs, r.2.length ≤ 1000) : (flatR rs).length ≤ 1000 * rs.length := by
  induction rs with
  | nil => exact Nat.le_refl _
  | cons r rs ih =>
    obtain ⟨n, es⟩ := r
    show (flatRow n 1 es ++ flatR rs).length ≤ _
    rw [List.length_append, flatRow_len, List.length_cons]
    have h1 := h (n, es) (List.mem_cons_self ..)
    have h2 := ih fun r hr => h r (List.mem_cons_of_mem _ hr)
    simp only at h1
    omega
end Rc

set_option Elab.async false
set_option linter.all false
set_option maxRecDepth 100000
set_option maxHeartbeats 1000000
/-! XRe: sends_by_channel -/
namespace XE
open PySem PySem.Spec PyProof.Rows L2 RZ Rx SX Rc
abbrev sSendsBy : Stmt := topS 27
abbrev chK (a b : Str) : List Key := [Sum.inr a, Sum.inr b]
/-- an event's tuple of name and number -/
def IdAt (H : Hp) (q : Addr) (x : EvId) : Prop := H q = some (.tup [.str x.1, .int (x.2 : Nat)])
/-- a tuple of an event and a value -/
def SentAt (H : Hp) (v : V) (s : EvId × Int) : Prop := ∃ q t, v = .ref q ∧ H q = some (.tup [.ref t, .int s.2]) ∧ IdAt H t s.1
def SentL (H : Hp) (us : List V) (ss : List (EvId × Int)) : Prop := Paired (SentAt H) us ss
structure SendsAt (H : Hp) (D : Addr) (fl : Flat) (kvs : List (List Key × V)) : Prop where
  at_ : H D = some (.dT kvs)
  few : kvs.length ≤ fl.length
  val : ∀ a b, (valV kvs (chK a b) = none ∧ sentF fl a b = []) ∨ ∃ L us, valV kvs (chK a b) = some (.ref L) ∧ H L = some (.lst us) ∧ SentL H us (sentF fl a b)
  inj : ∀ a b a' b' L, valV kvs (chK a b) = some (.ref L) → valV kvs (chK a' b') = some (.ref L) → a = a' ∧ b = b'
theorem SentAt.same {H H1 : Hp} {v : V} {s : EvId × Int} (h : SentAt H v s) (e : Same H H1) : SentAt H1 v s := by
  obtain ⟨q, t, h1, h2, h3⟩ := h
  exact ⟨q, t, h1, e _ _ h2, e _ _ h3⟩
theorem paired_imp {α β : Type} {R R' : α → β → Prop} (k : ∀ a b, R a b → R' a b) : ∀ {xs : List α} {ys : List β}, Paired R xs ys → Paired R' xs ys
  | _, _, .nil => .nil
  | _, _, .cons h t => .cons (k _ _ h) (paired_imp k t)
theorem paired_app {α β : Type} {R : α → β → Prop} : ∀ {xs : List α} {ys : List β} {zs : List α} {ws : List β}, Paired R xs ys → Paired R zs ws → Paired R (xs ++ zs) (ys ++ ws)
  | _, _, _, _, .nil, h2 => h2
  | _, _, _, _, .cons h t, h2 => .cons h (paired_app t h2)
theorem SentL.same {H H1 : Hp} {us : List V} {ss : List (EvId × Int)} (h : SentL H us ss) (e : Same H H1) : SentL H1 us ss := paired_imp (fun _ _ x => x.same e) h
theorem SendsAt.same {H H1 : Hp} {D : Addr} {fl : Flat} {kvs : List (List Key × V)} (h : SendsAt H D fl kvs) (e : Same H H1) : SendsAt H1 D fl kvs := by
  refine ⟨e _ _ h.at_, h.few, fun a b => ?_, h.inj⟩
  rcases h.val a b with h | ⟨L, us, h1, h2, h3⟩
  · exact .inl h
  · exact .inr ⟨L, us, h1, e _ _ h2, h3.same e⟩
/-- a tuple stays where lists and dicts change -/
theorem SentAt.keep {H H1 : Hp} {v : V} {s : EvId × Int} (h : SentAt H v s) (k : ∀ b xs, H b = some (.tup xs) → H1 b = some (.tup xs)) : SentAt H1 v s := by
  obtain ⟨q, t, h1, h2, h3⟩ := h
  exact ⟨q, t, h1, k _ _ h2, k _ _ h3⟩
theorem chK_eq {a b a' b' : Str} : chK a b = chK a' b' ↔ a = a' ∧ b = b' := by
  constructor
  · intro h
    injection h with h1 h2
    injection h1 with h1
    injection h2 with h2 _
    injection h2 with h2
    exact ⟨h1, h2⟩
  · rintro ⟨rfl, rfl⟩
    rfl
theorem SendsAt.skip {H : Hp} {D : Addr} {fl : Flat} {kvs : List (List Key × V)} (h : SendsAt H D fl kvs) {x : EvId × Ev} (hx : x.2.sendOf = none) : SendsAt H D (fl ++ [x]) kvs := by
  have e : ∀ a b, sentF (fl ++ [x]) a b = sentF fl a b := fun a b => by
    rw [sentF_snoc, hx]
    split <;> exact List.append_nil _
  refine ⟨h.at_, Nat.le_trans h.few (by simp), fun a b => ?_, h.inj⟩
  rw [e]
  exact h.val a b
theorem sends_step {Hs H7 : Hp} {D L T I : Addr} {fl : Flat} {kvs kvs' : List (List Key × V)} {us : List V} {n p : Str} {k : Nat} {v : Int} {e : Ev} (S : SendsAt Hs D fl kvs) (sm : ∀ b o, Hs b = some o → b ≠ D → H7 b = some o) (hD : H7 D = some (.dT kvs'))
    (hv : ∀ a b, valV kvs' (chK a b) = if a = n ∧ b = p then some (.ref L) else valV kvs (chK a b)) (hl : kvs'.length ≤ fl.length + 1) (hL : H7 L = some (.lst us)) (hS : SentL H7 us (sentF fl n p)) (hnew : ∀ a b, ¬ (a = n ∧ b = p) → valV kvs (chK a b) ≠ some (.ref L))
    (hT : H7 T = some (.tup [.ref I, .int v])) (hI : H7 I = some (.tup [.str n, .int (k : Nat)])) (he : e.sendOf = some (p, v)) : SendsAt (upd H7 L (.lst (us ++ [.ref T]))) D (fl ++ [((n, k), e)]) kvs' := by
  have LD : D ≠ L := ne_of hD hL (by intro z; cases z)
  have tk : ∀ b xs, H7 b = some (.tup xs) → upd H7 L (.lst (us ++ [.ref T])) b = some (.tup xs) := fun b xs h => by
    rw [upd_ne (ne_of h hL (by intro z; cases z))]
    exact h
  refine ⟨by rw [upd_ne LD]; exact hD, by rw [List.length_append]; exact hl, fun a b => ?_, fun a b a' b' L' h1 h2 => ?_⟩
  · rw [hv, sentF_snoc]
    by_cases c : a = n ∧ b = p
    · obtain ⟨rfl, rfl⟩ := c
      rw [if_pos ⟨rfl, rfl⟩]
      refine .inr ⟨L, _, rfl, upd_same, paired_app (paired_imp (fun _ _ x => x.keep tk) hS) ?_⟩
      rw [if_pos rfl, he]
      show Paired _ _ (if b = b then _ else _)
      rw [if_pos rfl]
      exact .cons ⟨T, I, rfl, tk _ _ hT, tk _ _ hI⟩ .nil
    · rw [if_neg c]
      have z : (if n = a then (match e.sendOf with | some (p, v) => if p = b then [(((n, k) : EvId), v)] else [] | none => []) else [] : List (EvId × Int)) = [] := by
        split
        · rename_i h1
          rw [he]
          show (if p = b then _ else _) = _
          rw [if_neg fun h2 => c ⟨h1.symm, h2.symm⟩]
        · rfl
      show (_ ∧ sentF fl a b ++ (if n = a then (match e.sendOf with | some (p, v) => if p = b then [(((n, k) : EvId), v)] else [] | none => []) else []) = []) ∨ ∃ L us, _ ∧ _ ∧ SentL _ us (sentF fl a b ++ (if n = a then (match e.sendOf with | some (p, v) => if p = b then [(((n, k) : EvId), v)] else [] | none => []) else []))
      rw [z, List.append_nil]
      rcases S.val a b with ⟨h1, h2⟩ | ⟨L', us', h1, h2, h3⟩
      · exact .inl ⟨h1, h2⟩
      · have nd : L' ≠ D := (ne_of S.at_ h2 (by intro z; cases z)).symm
        have nl : L' ≠ L := fun z => hnew a b c (by rw [h1, z])
        refine .inr ⟨L', us', h1, by rw [upd_ne nl]; exact sm _ _ h2 nd, paired_imp (fun _ _ x => x.keep fun b xs hb => tk b xs (sm _ _ hb (ne_of hb S.at_ (by intro z; cases z)))) h3⟩
  · rw [hv] at h1 h2
    by_cases c : a = n ∧ b = p <;> by_cases c' : a' = n ∧ b' = p
    · exact ⟨c.1.trans c'.1.symm, c.2.trans c'.2.symm⟩
    · rw [if_pos c] at h1
      rw [if_neg c'] at h2
      injection h1 with h1
      injection h1 with h1
      subst h1
      exact absurd h2 (hnew _ _ c')
    · rw [if_neg c] at h1
      rw [if_pos c'] at h2
      injection h2 with h2
      injection h2 with h2
      subst h2
      exact absurd h1 (hnew _ _ c)
    · rw [if_neg c] at h1
      rw [if_neg c'] at h2
      exact S.inj _ _ _ _ _ h1 h2
def spSends (K : PySem.W.Frag) : Sp := fun vs H Q _ => ∃ (t : Addr) (xs : List V) (rs : Rows), vs = [.ref t] ∧ RowsT K H t xs rs ∧ ∀ (D : Addr) (kvs : List (List Key × V)) (H' : Hp), Same H H' → SendsAt H' D (flatR rs) kvs → Q (.ref D) H'
section
variable {P : Program} {w : World} {K : PySem.W.Frag} {mg : Str → Option Value} {base : Heap}
abbrev sbN : List Str := ["rows", "sends", "name", "events", "number", "event"]
theorem scSB : FnScope sbN ["rows"] (defScope sSendsBy) := ⟨rfl, rfl, rfl, by decide +kernel, rfl, by decide +kernel, by decide +kernel⟩
theorem ok_sendsBy {f : Addr} {fd : FuncData} (F : Fun K "sends_by_channel" "sends_by_channel" sSendsBy f fd) (menum : mg "enumerate" = none) : FnOk P w K mg base CX0 1 f fd ["rows"] (spSends K) := by
  refine F.ok scSB (fun vs H Q E h => ?_) (fun cdv A outer s H vs Q E hr h => ?_)
  · obtain ⟨_, _, _, rfl, _⟩ := h
    rfl
  · obtain ⟨t, xs, rs, rfl, R, k⟩ := h
    have hu := hu_of hr
    have hu2 := Nat.lt_of_le_of_lt (Nat.add_le_add_left (show 2 ≤ 64 by decide) _) hr.units
    refine ⟨_, (pss_cons (ps_set (i := 1) scSB.nd rfl (.inl rfl) pe_dnewT) (pss_cons (ps_for PassesOwn.never rfl (pi_tup (pv 0)) (pg_tup rfl (pgs_cons (pg_name (i := 2) scSB.nd rfl (.inl rfl)) (pgs_cons (pg_name (i := 3) scSB.nd rfl (.inl rfl)) pgs_nil))) (pss_one (ps_for PassesOwn.never rfl (pi_enumTS (by rfl) menum (pa_cons (pv 3) pa_nil)) (pg_tup rfl (pgs_cons (pg_name (i := 4) scSB.nd rfl (.inl rfl)) (pgs_cons (pg_name (i := 5) scSB.nd rfl (.inl rfl)) pgs_nil))) (pss_one (ps_if (pt_cmpR op_eq (pe_ix ix_tup (pv 5) pe_int (fun _ _ => rfl)) pe_str (nomark _)) (pss_one (ps_expr (pe_bm PySem.F.plainAttrs_list PySem.F.slot_list_append PySem.F.type_list_append mt_append (pe_dsetdT hu2 (pv 1) (pe_tup (pa_cons (pv 2) (pa_cons (pe_ix ix_tup (pv 5) pe_int (fun _ _ => rfl)) pa_nil))) (pe_lst pa_nil) ⟨rfl, rfl, rfl, rfl⟩) (pa_cons (pe_tup (pa_cons (pe_tup (pa_cons (pv 2) (pa_cons (pv 4) pa_nil))) (pa_cons (pe_ix ix_tup (pv 5) pe_int (fun _ _ => rfl)) pa_nil))) pa_nil)))) pss_nil))))) (pss_one (ps_ret (pv 1))))), ?_⟩
    have hln := R.ln
    have hfl := flat_len R.len
    refine fun D nD => ?_
    have s0 := same_new (o := .dT []) nD
    have S0 : SendsAt (upd H D (.dT [])) D (flatR (rs.take 0)) [] := ⟨upd_same, Nat.le_refl _, fun a b => .inl ⟨rfl, rfl⟩, fun a b a' b' L h => nomatch h⟩
    refine ⟨_, rfl, t, rfl, ⟨_, sqT_same s0 R.tu⟩, ?_⟩
    refine for_tup (fun i σ Hx => ∃ (x2 x3 x4 x5 : Option V) (kvs : List (List Key × V)), σ = [some (.ref t), some (.ref D), x2, x3, x4, x5] ∧ Same H Hx ∧ SendsAt Hx D (flatR (rs.take i)) kvs ∧ ∀ a b L, valV kvs (chK a b) = some (.ref L) → H L = none) ⟨_, _, _, _, _, rfl, s0, S0, fun a b L h => nomatch h⟩ (fun i σ Hx _ ⟨_, _, _, _, _, _, sm, _⟩ => sqT_same sm R.tu) ?_ ?_
    · rintro i x σ Hx hx ⟨x2, x3, x4, x5, kvs, rfl, sm, S, nw⟩
      obtain ⟨r, q, b, us, hr', rfl, hq, hb', hus⟩ := R.at_ hx
      obtain ⟨n, es⟩ := r
      have hmem := List.mem_of_getElem? hr'
      have hul := dpAll_len hus
      rw [List.length_map] at hul
      refine ⟨q, _, rfl, sqT_same sm hq, rfl, _, _, rfl, _, _, rfl, rfl, ?_⟩
      refine ⟨_, rfl, b, us, rfl, sqT_same sm hb', ?_⟩
      have ei : flatR (rs.take i) = flatR (rs.take i) ++ flatRow n 1 (es.take 0) := (List.append_nil _).symm
      refine for_enumT (fun j σ Hy => ∃ (x4 x5 : Option V) (kvs : List (List Key × V)), σ = [some (.ref t), some (.ref D), some (.str n), some (.ref b), x4, x5] ∧ Same H Hy ∧ SendsAt Hy D (flatR (rs.take i) ++ flatRow n 1 (es.take j)) kvs ∧ ∀ a b L, valV kvs (chK a b) = some (.ref L) → H L = none) ⟨_, _, _, rfl, sm, by rw [← ei]; exact S, nw⟩ (fun i σ Hy _ ⟨_, _, _, _, sy, _⟩ => sqT_same sy hb') ?_ ?_
      · rintro j v σ Hy hv ⟨x4, x5, kvs, rfl, sy, S, nw⟩ T nT
        obtain ⟨e, qe, hej, rfl, hqe⟩ := ev_at (dpAll_same sy hus) hv
        have s3 : Same Hy (upd Hy T (.tup [.int (1 + (j : Nat)), .ref qe])) := same_new nT
        have hT := SqT.of (K := K) (upd_same (H := Hy) (a := T) (o := .tup [.int (1 + (j : Nat)), .ref qe]))
        generalize upd Hy T (.tup [.int (1 + (j : Nat)), .ref qe]) = H3 at s3 hT ⊢
        rw [show ((1 : Int) + (j : Int)) = ((1 + j : Nat) : Int) by omega] at hT
        refine ⟨T, _, rfl, hT, rfl, _, _, rfl, _, _, rfl, rfl, ?_⟩
        replace hej : es[j]? = some e := hej
        have hqe3 := sqT_same s3 hqe
        have ej : es.take (j + 1) = es.take j ++ [e] := by rw [List.take_add_one, hej]; rfl
        have hjl : (es.take j).length = j := by
          have := (List.getElem?_eq_some_iff.mp hej).1
          rw [List.length_take]; omega
        have ef : flatR (rs.take i) ++ flatRow n 1 (es.take (j + 1)) = (flatR (rs.take i) ++ flatRow n 1 (es.take j)) ++ [((n, 1 + j), e)] := by
          rw [ej, flatRow_snoc, hjl, List.append_assoc]
        have hlen : (flatR (rs.take i) ++ flatRow n 1 (es.take j)).length ≤ 41000 := by
          have h1 := flat_len (rs := rs.take i) fun r hr => R.len r (List.mem_of_mem_take hr)
          have h2 := R.len _ hmem
          have h3 := R.few
          simp only at h2
          rw [List.length_append, flatRow_len, hjl]
          rw [List.length_take] at h1
          have := (List.getElem?_eq_some_iff.mp hej).1
          omega
        generalize flatR (rs.take i) ++ flatRow n 1 (es.take j) = fl at S ef hlen
        rw [ef]
        refine ⟨_, rfl, qe, _, 0, _, rfl, rfl, hqe3, atI_nat (j := 0) rfl, rfl, _, rfl, ?_⟩
        rw [word_send]
        cases hso : e.sendOf with
        | none => exact iteFc rfl ⟨_, _, kvs, rfl, sy.trans s3, (S.same s3).skip hso, nw⟩
        | some pv =>
        obtain ⟨p, v⟩ := pv
        obtain ⟨_, hrest⟩ := send_rest hso
        rw [hrest] at hqe3
        refine iteTc rfl ?_
        have S3 := S.same s3
        have hD3 := S3.at_
        refine ⟨_, rfl, D, _, rfl, hD3, _, rfl, _, rfl, qe, _, 1, _, rfl, rfl, hqe3, atI_nat (j := 1) rfl, (by show 2 ≤ sizeLine; decide), fun U nU => ⟨by show 0 ≤ sizeLine; decide, fun O nO => ?_⟩⟩
        have hU := upd_same (H := H3) (a := U) (o := .tup [.str n, .str p])
        have s4 := (same_new (o := .tup [.str n, .str p]) nU).trans (same_new (o := .lst []) nO)
        have hU4 := same_new (o := .lst []) nO _ _ hU
        have hO4 := upd_same (H := upd H3 U (.tup [.str n, .str p])) (a := O) (o := .lst [])
        have nO3 := (same_new (o := .tup [.str n, .str p]) nU).free nO
        generalize upd (upd H3 U (.tup [.str n, .str p])) O (.lst []) = H4 at s4 hU4 hO4 ⊢
        have S4 := S3.same s4
        have hD4 := S4.at_
        have hqe4 := sqT_same s4 hqe3
        have sm4 := (sy.trans s3).trans s4
        have hDH : H D = none := nD
        have kl : kvs.length < sizeLine := fitR (Nat.le_trans S.few (Nat.le_trans hlen (by decide)))
        have uls : ∀ {Hz : Hp} {uz : List V}, SentL Hz uz (sentF fl n p) → uz.length < sizeLine := fun h => fitR (by rw [Paired.length h]; exact Nat.le_trans (sentF_le ..) (Nat.le_trans hlen (by decide)))
        refine ⟨kvs, chK n p, U, hD4, rfl, hU4, kl, fun v' hv' => ?_, fun hv' => ?_⟩
        · obtain ⟨L, us0, hL1, hL2, hL3⟩ : ∃ L us, valV kvs (chK n p) = some (.ref L) ∧ H4 L = some (.lst us) ∧ SentL H4 us (sentF fl n p) := by
            rcases S4.val n p with ⟨h, _⟩ | h
            · rw [h] at hv'; cases hv'
            · exact h
          rw [hL1] at hv'
          injection hv' with hv'
          subst hv'
          refine ⟨.inl ⟨rfl, _, SqL.of hL2⟩, _, rfl, _, rfl, (by show 2 ≤ sizeLine; decide), fun I nI => ?_⟩
          have s6 := same_new (o := .tup [.str n, .int ((1 + j : Nat) : Int)]) nI
          have hI := upd_same (H := H4) (a := I) (o := .tup [.str n, .int ((1 + j : Nat) : Int)])
          generalize upd H4 I (.tup [.str n, .int ((1 + j : Nat) : Int)]) = H6 at s6 hI ⊢
          refine ⟨_, rfl, qe, _, 2, _, rfl, rfl, sqT_same s6 hqe4, atI_nat (j := 2) rfl, (by show 2 ≤ sizeLine; decide), fun T7 nT7 => ?_⟩
          have s7 := same_new (o := .tup [.ref I, .int v]) nT7
          have hT7 := upd_same (H := H6) (a := T7) (o := .tup [.ref I, .int v])
          have hI7 := s7 _ _ hI
          generalize upd H6 T7 (.tup [.ref I, .int v]) = H7 at s7 hT7 hI7 ⊢
          have s67 := s6.trans s7
          have hL7 := s67 _ _ hL2
          have nLH := nw _ _ _ hL1
          refine ⟨L, _, _, rfl, rfl, hL7, uls hL3, _, _, kvs, rfl, same_upd (sm4.trans s67) nLH, sends_step S4 (fun b o h _ => s67 b o h) (s67 _ _ hD4) (fun a b => ?_) (Nat.le_succ_of_le S.few) hL7 (hL3.same s67) (fun a b hn hz => hn (S4.inj _ _ _ _ _ hz hL1)) hT7 hI7 hso, nw⟩
          split
          · rename_i h
            rw [h.1, h.2, hL1]
          · rfl
        · have h0 : sentF fl n p = [] := by
            rcases S4.val n p with ⟨_, h⟩ | ⟨L, us, h, _⟩
            · exact h
            · rw [h] at hv'; cases hv'
          have nOD : O ≠ D := (ne_of hD4 hO4 (by intro z; cases z)).symm
          have hO5 : upd H4 D (.dT (putK kvs (chK n p) (.ref O))) O = some (.lst []) := by rw [upd_ne nOD]; exact hO4
          have hD5 := upd_same (H := H4) (a := D) (o := .dT (putK kvs (chK n p) (.ref O)))
          have e5 : ∀ b o, H4 b = some o → b ≠ D → upd H4 D (.dT (putK kvs (chK n p) (.ref O))) b = some o := fun b o h nb => by rw [upd_ne nb]; exact h
          have sm5 := same_upd (o := .dT (putK kvs (chK n p) (.ref O))) sm4 hDH
          have hqe5 : SqT K (upd H4 D (.dT (putK kvs (chK n p) (.ref O)))) qe _ := sqT_keep (fun b xs h => e5 b _ h (ne_of h hD4 (by intro z; cases z))) (fun b o u h => e5 b _ h (ne_of h hD4 (by intro z; cases z))) hqe4
          generalize upd H4 D (.dT (putK kvs (chK n p) (.ref O))) = H5 at hO5 hD5 e5 sm5 hqe5 ⊢
          refine ⟨.inl ⟨rfl, _, SqL.of hO5⟩, _, rfl, _, rfl, (by show 2 ≤ sizeLine; decide), fun I nI => ?_⟩
          have s6 := same_new (o := .tup [.str n, .int ((1 + j : Nat) : Int)]) nI
          have hI := upd_same (H := H5) (a := I) (o := .tup [.str n, .int ((1 + j : Nat) : Int)])
          generalize upd H5 I (.tup [.str n, .int ((1 + j : Nat) : Int)]) = H6 at s6 hI ⊢
          refine ⟨_, rfl, qe, _, 2, _, rfl, rfl, sqT_same s6 hqe5, atI_nat (j := 2) rfl, (by show 2 ≤ sizeLine; decide), fun T7 nT7 => ?_⟩
          have s7 := same_new (o := .tup [.ref I, .int v]) nT7
          have hT7 := upd_same (H := H6) (a := T7) (o := .tup [.ref I, .int v])
          have hI7 := s7 _ _ hI
          generalize upd H6 T7 (.tup [.ref I, .int v]) = H7 at s7 hT7 hI7 ⊢
          have s67 := s6.trans s7
          have hL7 := s67 _ _ hO5
          have nLH : H O = none := ((sy.trans s3).free nO3)
          have pk : ∀ a b, valV (putK kvs (chK n p) (.ref O)) (chK a b) = if a = n ∧ b = p then some (.ref O) else valV kvs (chK a b) := fun a b => by
            rw [valV_put]
            by_cases h : a = n ∧ b = p
            · rw [if_pos h, if_pos (chK_eq.mpr h)]
            · rw [if_neg h, if_neg fun z => h (chK_eq.mp z)]
          refine ⟨O, _, _, rfl, rfl, hL7, (by show 0 < sizeLine; decide), _, _, _, rfl, same_upd (sm5.trans s67) nLH, sends_step S4 (fun b o h nb => s67 b o (e5 b o h nb)) (s67 _ _ hD5) pk ?_ hL7 (by rw [h0]; exact .nil) (fun a b hn hz => ?_) hT7 hI7 hso, fun a b L h => ?_⟩
          · have := length_putK kvs (chK n p) (V.ref O)
            have := S.few
            omega
          · rcases S3.val a b with ⟨h, _⟩ | ⟨L, us, h, hL, _⟩
            · rw [h] at hz; cases hz
            · rw [h] at hz
              injection hz with hz
              injection hz with hz
              subst hz
              rw [nO3] at hL
              cases hL
          · rw [pk] at h
            split at h
            · injection h with h
              injection h with h
              subst h
              exact nLH
            · exact nw _ _ _ h
      · rintro σ Hy ⟨x4, x5, kvs, rfl, sy, S, nw⟩
        rw [hul, List.take_length] at S
        have e1 : flatR (rs.take (i + 1)) = flatR (rs.take i) ++ flatRow n 1 es := by
          rw [List.take_add_one, hr', flatR_app]
          exact congrArg _ (flatR_one n es)
        exact ⟨_, _, _, _, kvs, rfl, sy, by rw [e1]; exact S, nw⟩
    · rintro σ Hx ⟨x2, x3, x4, x5, kvs, rfl, sm, S, _⟩
      rw [hln, List.take_length] at S
      exact ⟨_, rfl, k D kvs Hx sm S⟩
end
end XE

set_option Elab.async false
set_option linter.all false
set_option maxRecDepth 100000
set_option maxHeartbeats 1000000
/-! XRf: matched_messages -/
namespace XE
open PySem PySem.Spec PyProof.Rows L2 RZ Rx SX Rc
abbrev sMatched : Stmt := topS 26
def MsgAt (H : Hp) (v : V) (m : EvId × EvId) : Prop := ∃ q t1 t2, v = .ref q ∧ H q = some (.tup [.ref t1, .ref t2]) ∧ IdAt H t1 m.1 ∧ IdAt H t2 m.2
def MsgL (H : Hp) (us : List V) (ms : List (EvId × EvId)) : Prop := Paired (MsgAt H) us ms
theorem MsgAt.keep {H H1 : Hp} {v : V} {m : EvId × EvId} (h : MsgAt H v m) (k : ∀ b xs, H b = some (.tup xs) → H1 b = some (.tup xs)) : MsgAt H1 v m := by
  obtain ⟨q, t1, t2, e, h1, h2, h3⟩ := h
  exact ⟨q, t1, t2, e, k _ _ h1, k _ _ h2, k _ _ h3⟩
theorem MsgL.keep {H H1 : Hp} {us : List V} {ms : List (EvId × EvId)} (h : MsgL H us ms) (k : ∀ b xs, H b = some (.tup xs) → H1 b = some (.tup xs)) : MsgL H1 us ms := paired_imp (fun _ _ x => x.keep k) h
theorem MsgL.same {H H1 : Hp} {us : List V} {ms : List (EvId × EvId)} (h : MsgL H us ms) (e : Same H H1) : MsgL H1 us ms := h.keep fun b xs => e b _
/-- how many were received, by channel -/
structure RecvAt (H : Hp) (D : Addr) (fl : Flat) (kvs : List (List Key × V)) : Prop where
  at_ : H D = some (.dT kvs)
  few : kvs.length ≤ fl.length
  val : ∀ a b, (valV kvs (chK a b)).getD (.int 0) = .int (recvN fl a b : Nat)
theorem RecvAt.skip {H : Hp} {D : Addr} {fl : Flat} {kvs : List (List Key × V)} (h : RecvAt H D fl kvs) {x : EvId × Ev} (hx : x.2.recvOf = none) : RecvAt H D (fl ++ [x]) kvs := by
  refine ⟨h.at_, Nat.le_trans h.few (by simp), fun a b => ?_⟩
  rw [recvN_snoc, hx, if_neg (fun z => by cases z.2), Nat.add_zero]
  exact h.val a b
theorem RecvAt.at2 {H H' : Hp} {D : Addr} {fl : Flat} {kvs : List (List Key × V)} (h : RecvAt H D fl kvs) (e : H' D = H D) : RecvAt H' D fl kvs := ⟨by rw [e]; exact h.at_, h.few, h.val⟩
theorem recv_step {H : Hp} {D : Addr} {fl : Flat} {kvs : List (List Key × V)} (h : RecvAt H D fl kvs) {n p : Str} {k : Nat} {v : Int} {e : Ev} (he : e.recvOf = some (p, v)) {m : Int} (hm : m = (recvN fl p n : Nat) + 1) :
    RecvAt (upd H D (.dT (putK kvs (chK p n) (.int m)))) D (fl ++ [((n, k), e)]) (putK kvs (chK p n) (.int m)) := by
  subst hm
  refine ⟨upd_same, ?_, fun a b => ?_⟩
  · have := length_putK kvs (chK p n) (V.int ((recvN fl p n : Nat) + 1))
    have := h.few
    rw [List.length_append, List.length_singleton]
    omega
  · rw [valV_put, recvN_snoc]
    by_cases c : a = p ∧ b = n
    · obtain ⟨rfl, rfl⟩ := c
      rw [if_pos rfl, if_pos ⟨rfl, by rw [he]; rfl⟩]
      rfl
    · rw [if_neg fun z => c (chK_eq.mp z), if_neg fun z => c ?_]
      · exact h.val a b
      · obtain ⟨z1, z2⟩ := z
        rw [he] at z2
        injection z2 with z2
        exact ⟨z2.symm, z1.symm⟩
theorem matchF_none {all done rest : Flat} {acc : List (EvId × EvId)} {x : EvId × Ev} (h : x.2.recvOf = none) : matchF all done acc (x :: rest) = matchF all (done ++ [x]) acc rest := by
  simp only [matchF, h]
theorem matchF_some {all done rest : Flat} {acc : List (EvId × EvId)} {x : EvId × Ev} {p : Str} {v : Int} (h : x.2.recvOf = some (p, v)) : matchF all done acc (x :: rest) = match (sentF all p x.1.1)[recvN done p x.1.1]? with
      | some (s, v') => if v' = v then matchF all (done ++ [x]) (acc ++ [(s, x.1)]) rest else .error x.1
      | none => .error x.1 := by
  simp only [matchF, h] <;> rfl
theorem paired_get {α β : Type} {R : α → β → Prop} : ∀ {xs : List α} {ys : List β}, Paired R xs ys → ∀ {i : Nat} {y : β}, ys[i]? = some y → ∃ x, xs[i]? = some x ∧ R x y
  | _, _, .nil, _, _, h => nomatch h
  | _, _, .cons h t, 0, y, e => by
    injection e with e
    subst e
    exact ⟨_, rfl, h⟩
  | _, _, .cons h t, i + 1, y, e => paired_get t (i := i) e
theorem ixSeq {K : PySem.W.Frag} {H : Hp} {L : Addr} {us : List V} {i : Int} {v : V} {Q : VK} (h : SqL K H L us ∨ SqT K H L us) (e : atI us i = some v) (q : Q v H) : rIx K (.ref L) (.int i) H Q := by
  rcases h with h | h
  · exact .inl ⟨L, us, i, v, rfl, rfl, h, e, q⟩
  · exact .inr (.inl ⟨L, us, i, v, rfl, rfl, h, e, q⟩)
theorem sq_same {K : PySem.W.Frag} {H H1 : Hp} {L : Addr} {us : List V} (h : SqL K H L us ∨ SqT K H L us) (s : Same H H1) : SqL K H1 L us ∨ SqT K H1 L us := by
  rcases h with h | h
  · exact .inl (sqL_same s h)
  · exact .inr (sqT_same s h)
def spMatched (K : PySem.W.Frag) (CR : Addr) : Sp := fun vs H Q E => ∃ (t : Addr) (xs : List V) (rs : Rows), vs = [.ref t] ∧ RowsT K H t xs rs ∧
  (∀ ms, matchR rs = .ok ms → ∀ (T : Addr) (us : List V) (H' : Hp), Same H H' → H' T = some (.tup us) → MsgL H' us ms → Q (.ref T) H') ∧ (∀ x, matchR rs = .error x → RecAt CR H "message" (.str x.1) x.2 E)
section
variable {P : Program} {w : World} {K : PySem.W.Frag} {mg : Str → Option Value} {base : Heap} {CR : Addr}
abbrev mmN : List Str := ["rows", "sends", "pairs", "received", "name", "events", "number", "event", "channel", "place", "sent"]
theorem scMM : FnScope mmN ["rows"] (defScope sMatched) := ⟨rfl, rfl, rfl, by decide +kernel, rfl, by decide +kernel, by decide +kernel⟩
theorem ok_matched {f fS : Addr} {fd fdS : FuncData} (F : Fun K "matched_messages" "matched_messages" sMatched f fd) (menum : mg "enumerate" = none) (mlen : mg "len" = none) (mtup : mg "tuple" = none) (RV : ∃ a, mg "RECEIVING" = some (.ref a) ∧ KTup K a ((["receive", "take"] : List Str).map V.str))
    (TR : RaiT P w K mg base "BadRecord" CR ["reason", "name", "number"]) (CS : Cal P w K mg base 1 "sends_by_channel" fS fdS ["rows"] (spSends K)) : FnOk P w K mg base (L2.CX P w) 4 f fd ["rows"] (spMatched K CR) := by
  obtain ⟨fR, fdR, iR, tR, FR, bR⟩ := TR.ini
  obtain ⟨aV, mV, kRv⟩ := RV
  refine F.okX scMM (fun vs H Q E h => ?_) (fun cdv A outer s H vs Q E hr h => ?_)
  · obtain ⟨_, _, _, rfl, _⟩ := h
    rfl
  · obtain ⟨t, xs, rs, rfl, R, kQ, kE⟩ := h
    have hr3 : Room 1 _ := hr.mono (by decide)
    have hrR : Room 3 _ := hr.mono (by decide)
    have hu := hu_of hr
    have hu2 := Nat.lt_of_le_of_lt (Nat.add_le_add_left (show 2 ≤ 64 by decide) _) hr.units
    refine ⟨_, (pss_cons (ps_set (i := 1) scMM.nd rfl (.inl rfl) (pe_call CS.ok hr3 rfl CS.mg CS.kp CS.bi .nil pass0 (pa_cons (pv 0) pa_nil))) (pss_cons (ps_set (i := 2) scMM.nd rfl (.inl rfl) (pe_lst pa_nil)) (pss_cons (ps_set (i := 3) scMM.nd rfl (.inl rfl) pe_dnewT) (pss_cons (ps_for (passes_of rfl) rfl (pi_tup (pv 0)) (pg_tup rfl (pgs_cons (pg_name (i := 4) scMM.nd rfl (.inl rfl)) (pgs_cons (pg_name (i := 5) scMM.nd rfl (.inl rfl)) pgs_nil))) (pss_one (ps_for (passes_of rfl) rfl (pi_enumTS (by rfl) menum (pa_cons (pv 5) pa_nil)) (pg_tup rfl (pgs_cons (pg_name (i := 6) scMM.nd rfl (.inl rfl)) (pgs_cons (pg_name (i := 7) scMM.nd rfl (.inl rfl)) pgs_nil))) (pss_cons (ps_if (pt_cmpR op_notIn_seq (pe_ix ix_tup (pv 7) pe_int (fun _ _ => rfl)) (pe_glob (v := .ref aV) rfl mV rfl) rfl) (pss_one ps_continue) pss_nil) (pss_cons (ps_set (i := 8) scMM.nd rfl (.inl rfl) (pe_tup (pa_cons (pe_ix ix_tup (pv 7) pe_int (fun _ _ => rfl)) (pa_cons (pv 4) pa_nil)))) (pss_cons (ps_set (i := 9) scMM.nd rfl (.inl rfl) (pe_dget2 hu (pv 3) (pv 8) pe_int ⟨rfl, rfl, rfl, rfl⟩)) (pss_cons (ps_dput hu (pv 3) (pv 8) (pe_op op_add (pv 9) pe_int) rfl) (pss_cons (ps_set (i := 10) scMM.nd rfl (.inl rfl) (pe_dget2 hu (pv 1) (pv 8) (pe_tup pa_nil) ⟨rfl, rfl, rfl, rfl⟩)) (pss_cons (ps_if (PW.pt (pw_or (pt_cmpR op_ge (pv 9) (pe_callB call_len_seq (by rfl) mlen PySem.boot_len (pa_cons (pv 10) pa_nil)) (nomark _)) (pw_or1 (pt_cmpR op_ne (pe_ix ix_tup (pe_ix ix_seq (pv 10) (pv 9) (fun _ _ => rfl)) pe_int (fun _ _ => rfl)) (pe_ix ix_tup (pv 7) pe_int (fun _ _ => rfl)) (nomark _))))) (pss_one (ps_raise rfl (takes_of rfl rfl rfl rfl) (pmk_oex TR.oex iR tR FR hrR bR .nil pass0 rfl TR.mgx (pa_cons pe_str (pa_cons (pv 4) (pa_cons (pv 6) pa_nil)))))) pss_nil) (pss_one (ps_expr (pe_bm PySem.F.plainAttrs_list PySem.F.slot_list_append PySem.F.type_list_append mt_append (pv 2) (pa_cons (pe_tup (pa_cons (pe_ix ix_tup (pe_ix ix_seq (pv 10) (pv 9) (fun _ _ => rfl)) pe_int (fun _ _ => rfl)) (pa_cons (pe_tup (pa_cons (pv 4) (pa_cons (pv 6) pa_nil))) pa_nil))) pa_nil))))))))))))) (pss_one (ps_ret (pe_callTy call_tuple_of (by rfl) mtup (by decide +kernel) (pa_cons (pv 2) pa_nil)))))))), ?_⟩
    have hln := R.ln
    have hfl := flat_len R.len
    refine ⟨_, rfl, t, xs, rs, rfl, R, fun DS kvs H1 s1 SS => ⟨by show 0 ≤ sizeLine; decide, fun Pq nP => ?_⟩⟩
    refine fun DR nR => ?_
    have sP := same_new (o := .lst []) nP
    have s12 := sP.trans (same_new (o := .dT []) nR)
    have hP0 := same_new (o := .dT []) nR _ _ (upd_same (H := H1) (a := Pq) (o := .lst []))
    have hR0 := upd_same (H := upd H1 Pq (.lst [])) (a := DR) (o := .dT [])
    have hRn : H1 DR = none := sP.free nR
    have R1 := R.same s1
    have RV0 : RecvAt (upd (upd H1 Pq (.lst [])) DR (.dT [])) DR (flatR (rs.take 0)) [] := ⟨hR0, Nat.le_refl _, fun a b => rfl⟩
    refine ⟨_, rfl, t, rfl, ⟨_, sqT_same s12 R1.tu⟩, ?_⟩
    refine for_tup (fun i σ Hx => ∃ (x4 x5 x6 x7 x8 x9 x10 : Option V) (kvr : List (List Key × V)) (us : List V) (acc : List (EvId × EvId)), σ = [some (.ref t), some (.ref DS), some (.ref Pq), some (.ref DR), x4, x5, x6, x7, x8, x9, x10] ∧ Same H1 Hx ∧ Hx Pq = some (.lst us) ∧ MsgL Hx us acc ∧ acc.length ≤ (flatR (rs.take i)).length ∧ RecvAt Hx DR (flatR (rs.take i)) kvr ∧ matchR rs = matchF (flatR rs) (flatR (rs.take i)) acc (flatR (rs.drop i)))
      ⟨_, _, _, _, _, _, _, _, _, _, rfl, s12, hP0, .nil, Nat.le_refl _, RV0, rfl⟩ (fun i σ Hx _ ⟨_, _, _, _, _, _, _, _, _, _, _, sm, _⟩ => sqT_same sm R1.tu) ?_ ?_
    · rintro i x σ Hx hx ⟨x4, x5, x6, x7, x8, x9, x10, kvr, us, acc, rfl, sm, hP, hM, hacc, RV, hmt⟩
      obtain ⟨r, q, b, vs, hr', rfl, hq, hb', hus⟩ := R1.at_ hx
      obtain ⟨n, es⟩ := r
      have hmem := List.mem_of_getElem? hr'
      have hul := dpAll_len hus
      rw [List.length_map] at hul
      have hdr : flatR (rs.drop i) = flatRow n 1 es ++ flatR (rs.drop (i + 1)) := by
        have : rs.drop i = (n, es) :: rs.drop (i + 1) := by
          obtain ⟨h1, h2⟩ := List.getElem?_eq_some_iff.mp hr'
          rw [← h2, List.getElem_cons_drop]
        rw [this]
        rfl
      rw [hdr] at hmt
      refine ⟨q, _, rfl, sqT_same sm hq, rfl, _, _, rfl, _, _, rfl, rfl, ?_⟩
      refine ⟨_, rfl, b, vs, rfl, sqT_same sm hb', ?_⟩
      have ei : flatR (rs.take i) = flatR (rs.take i) ++ flatRow n 1 (es.take 0) := (List.append_nil _).symm
      refine for_enumT (fun j σ Hy => ∃ (x6 x7 x8 x9 x10 : Option V) (kvr : List (List Key × V)) (us : List V) (acc : List (EvId × EvId)), σ = [some (.ref t), some (.ref DS), some (.ref Pq), some (.ref DR), some (.str n), some (.ref b), x6, x7, x8, x9, x10] ∧ Same H1 Hy ∧ Hy Pq = some (.lst us) ∧ MsgL Hy us acc ∧ acc.length ≤ (flatR (rs.take i) ++ flatRow n 1 (es.take j)).length ∧ RecvAt Hy DR (flatR (rs.take i) ++ flatRow n 1 (es.take j)) kvr ∧ matchR rs = matchF (flatR rs) (flatR (rs.take i) ++ flatRow n 1 (es.take j)) acc (flatRow n (1 + j) (es.drop j) ++ flatR (rs.drop (i + 1))))
        ⟨_, _, _, _, _, _, _, _, rfl, sm, hP, hM, by rw [← ei]; exact hacc, by rw [← ei]; exact RV, by rw [← ei]; exact hmt⟩ (fun i σ Hy _ ⟨_, _, _, _, _, _, _, _, _, sy, _⟩ => sqT_same sy hb') ?_ ?_
      · rintro j v σ Hy hv ⟨x6, x7, x8, x9, x10, kvr, us, acc, rfl, sy, hP, hM, hacc, RV, hmt⟩ T nT
        obtain ⟨e, qe, hej, rfl, hqe⟩ := ev_at (dpAll_same sy hus) hv
        have s3 : Same Hy (upd Hy T (.tup [.int (1 + (j : Nat)), .ref qe])) := same_new nT
        have hT := SqT.of (K := K) (upd_same (H := Hy) (a := T) (o := .tup [.int (1 + (j : Nat)), .ref qe]))
        generalize upd Hy T (.tup [.int (1 + (j : Nat)), .ref qe]) = H3 at s3 hT ⊢
        rw [show ((1 : Int) + (j : Int)) = ((1 + j : Nat) : Int) by omega] at hT
        refine ⟨T, _, rfl, hT, rfl, _, _, rfl, _, _, rfl, rfl, ?_⟩
        replace hej : es[j]? = some e := hej
        have hqe3 := sqT_same s3 hqe
        have hP3 := s3 _ _ hP
        have hM3 := hM.same s3
        have RV3 := RV.at2 (H' := H3) (by rw [s3 _ _ RV.at_, RV.at_])
        have sm3 := sy.trans s3
        have ej : es.take (j + 1) = es.take j ++ [e] := by rw [List.take_add_one, hej]; rfl
        have hjl : (es.take j).length = j := by
          have := (List.getElem?_eq_some_iff.mp hej).1
          rw [List.length_take]; omega
        have ef : flatR (rs.take i) ++ flatRow n 1 (es.take (j + 1)) = (flatR (rs.take i) ++ flatRow n 1 (es.take j)) ++ [((n, 1 + j), e)] := by
          rw [ej, flatRow_snoc, hjl, List.append_assoc]
        have hlen : (flatR (rs.take i) ++ flatRow n 1 (es.take j)).length ≤ 41000 := by
          have h1 := flat_len (rs := rs.take i) fun r hr => R.len r (List.mem_of_mem_take hr)
          have h2 := R.len _ hmem
          have h3 := R.few
          simp only at h2
          rw [List.length_append, flatRow_len, hjl]
          rw [List.length_take] at h1
          have := (List.getElem?_eq_some_iff.mp hej).1
          omega
        have hfc : flatRow n (1 + j) (es.drop j) = ((n, 1 + j), e) :: flatRow n (1 + (j + 1)) (es.drop (j + 1)) := flatRow_cons n es 1 j e hej
        rw [hfc, List.cons_append] at hmt
        generalize flatR (rs.take i) ++ flatRow n 1 (es.take j) = fl at RV RV3 ef hlen hacc hmt
        rw [ef]
        generalize flatRow n (1 + (j + 1)) (es.drop (j + 1)) ++ flatR (rs.drop (i + 1)) = rest at hmt
        refine ⟨_, rfl, qe, _, 0, _, rfl, rfl, hqe3, atI_nat (j := 0) rfl, aV, _, rfl, .inr (kRv.sq H3), rfl, flat_strs _, _, rfl, ?_⟩
        show if (!inV (.str e.word) ((["receive", "take"] : List Str).map V.str)) = true then _ else _
        rw [inV_strs, word_recv]
        cases hro : e.recvOf with
        | none =>
          rw [matchF_none hro] at hmt
          exact iteTc rfl ⟨_, _, _, _, _, kvr, us, acc, rfl, sm3, hP3, hM3, by rw [List.length_append]; omega, RV3.skip hro, hmt⟩
        | some pv =>
        obtain ⟨p, v⟩ := pv
        obtain ⟨xv, hrest⟩ := recv_rest hro
        rw [hrest] at hqe3
        rw [matchF_some hro] at hmt
        refine iteFc rfl ?_
        refine ⟨_, rfl, qe, _, 1, _, rfl, rfl, hqe3, atI_nat (j := 1) rfl, _, rfl, (by show 2 ≤ sizeLine; decide), fun C nC => ?_⟩
        have s4 := same_new (o := .tup [.str p, .str n]) nC
        have hC4 : upd H3 C (.tup [.str p, .str n]) C = some (.tup ((chK p n).map kV)) := upd_same (H := H3) (a := C) (o := .tup [.str p, .str n])
        have RV4 := RV3.at2 (H' := upd H3 C (.tup [.str p, .str n])) (by rw [s4 _ _ RV3.at_, RV3.at_])
        generalize upd H3 C (.tup [.str p, .str n]) = H4 at s4 hC4 RV4 ⊢
        have sm4 := sm3.trans s4
        have hP4 := s4 _ _ hP3
        have hM4 := hM3.same s4
        have hqe4 := sqT_same s4 hqe3
        refine ⟨_, rfl, DR, rfl, .inr ⟨_, .inl RV4.at_⟩, _, rfl, _, DGet.t RV4.at_ hC4, ?_⟩
        rw [RV4.val p n]
        have kl : kvr.length < sizeLine := fitR (Nat.le_trans RV4.few (Nat.le_trans hlen (by decide)))
        refine ⟨_, rfl, _, _, rfl, rfl, _, rfl, _, rfl, DR, _, rfl, DPut.t RV4.at_ hC4 kl, ?_⟩
        have RV5 := recv_step RV4 (n := n) (k := 1 + j) hro (m := (recvN fl p n : Nat) + 1) rfl
        have e5 : ∀ b o, H4 b = some o → b ≠ DR → upd H4 DR (.dT (putK kvr (chK p n) (.int ((recvN fl p n : Nat) + 1)))) b = some o := fun b o h nb => by rw [upd_ne nb]; exact h
        have sm5 := same_upd (o := .dT (putK kvr (chK p n) (.int ((recvN fl p n : Nat) + 1)))) sm4 hRn
        generalize upd H4 DR (.dT (putK kvr (chK p n) (.int ((recvN fl p n : Nat) + 1)))) = H5 at RV5 e5 sm5 ⊢
        have tk5 : ∀ b xs, H4 b = some (.tup xs) → H5 b = some (.tup xs) := fun b xs h => e5 b _ h (ne_of h RV4.at_ (by intro z; cases z))
        have hP5 := e5 _ _ hP4 (ne_of hP4 RV4.at_ (by intro z; cases z))
        have hM5 := hM4.keep tk5
        have hC5 := tk5 _ _ hC4
        have hqe5 : SqT K H5 qe _ := sqT_keep tk5 (fun b o u h => e5 b _ h (ne_of h RV4.at_ (by intro z; cases z))) hqe4
        refine ⟨_, rfl, DS, rfl, .inr ⟨_, .inl (sm5 _ _ SS.at_)⟩, _, rfl, (by show 0 ≤ sizeLine; decide), fun E0 nE => ⟨_, DGet.t (same_new nE _ _ (sm5 _ _ SS.at_)) (same_new nE _ _ hC5), ?_⟩⟩
        have s6 := same_new (o := .tup []) nE
        have hE6 := upd_same (H := H5) (a := E0) (o := .tup [])
        generalize upd H5 E0 (.tup []) = H6 at s6 hE6 ⊢
        have sm6 := sm5.trans s6
        have SS6 := SS.same sm6
        obtain ⟨L, us0, hLv, hLs, hSL⟩ : ∃ L us0, (valV kvs (chK p n)).getD (.ref E0) = .ref L ∧ (SqL K H6 L us0 ∨ SqT K H6 L us0) ∧ SentL H6 us0 (sentF (flatR rs) p n) := by
          rcases SS6.val p n with ⟨h1, h2⟩ | ⟨L, us0, h1, h2, h3⟩
          · exact ⟨E0, [], by rw [h1]; rfl, .inr (SqT.of hE6), by rw [h2]; exact .nil⟩
          · exact ⟨L, us0, by rw [h1]; rfl, .inl (SqL.of h2), h3⟩
        rw [hLv]
        have hP6 := s6 _ _ hP5
        have hM6 := hM5.same s6
        have RV6 := RV5.at2 (H' := H6) (by rw [s6 _ _ RV5.at_, RV5.at_])
        have hqe6 := sqT_same s6 hqe5
        have hpl := Paired.length hSL
        refine ⟨_, rfl, _, rfl, L, us0, rfl, hLs, _, _, rfl, rfl, _, rfl, ?_⟩
        dsimp only at hmt
        cases hat : (sentF (flatR rs) p n)[recvN fl p n]? with
        | none =>
          rw [hat] at hmt
          have hge := List.getElem?_eq_none_iff.mp hat
          exact iteTc (decide_eq_true (by omega)) (iteTc rfl ⟨_, rfl, _, rfl, mk_rec (K := K) (n := 1 + j) (kE (n, 1 + j) hmt) (s1.trans sm6) (.str n)⟩)
        | some sv =>
        obtain ⟨s0, v'⟩ := sv
        rw [hat] at hmt
        dsimp only at hmt
        have hlt := (List.getElem?_eq_some_iff.mp hat).1
        refine iteFc (decide_eq_false (by omega)) ?_
        obtain ⟨xq, hxq, q1, t1, rfl, hq1, ht1⟩ := paired_get hSL hat
        refine ⟨_, rfl, _, rfl, ixSeq hLs (atI_nat hxq) ⟨q1, _, 1, _, rfl, rfl, SqT.of hq1, atI_nat (j := 1) rfl, _, rfl, qe, _, 3, _, rfl, rfl, hqe6, atI_nat (j := 3) rfl, rfl, _, rfl, ?_⟩⟩
        have dne : (!decide (V.int v' = V.int v)) = !decide (v' = v) := by
          congr 1
          rw [decide_eq_decide]
          exact ⟨fun z => by injection z, fun z => by rw [z]⟩
        rw [dne]
        by_cases hvv : v' = v
        · subst hvv
          rw [if_pos rfl] at hmt
          refine iteFc (by simp) ?_
          refine ⟨_, rfl, .inl ⟨rfl, _, SqL.of hP6⟩, _, rfl, _, rfl, ixSeq hLs (atI_nat hxq) ⟨q1, _, 0, _, rfl, rfl, SqT.of hq1, atI_nat (j := 0) rfl, _, rfl, _, rfl, (by show 2 ≤ sizeLine; decide), fun I nI => ⟨(by show 2 ≤ sizeLine; decide), fun T7 nT7 => ?_⟩⟩⟩
          have s7 := (same_new (o := .tup [.str n, .int ((1 + j : Nat) : Int)]) nI).trans (same_new (o := .tup [.ref t1, .ref I]) nT7)
          have hI7 := same_new (o := .tup [.ref t1, .ref I]) nT7 _ _ (upd_same (H := H6) (a := I) (o := .tup [.str n, .int ((1 + j : Nat) : Int)]))
          have hT7 := upd_same (H := upd H6 I (.tup [.str n, .int ((1 + j : Nat) : Int)])) (a := T7) (o := .tup [.ref t1, .ref I])
          generalize upd (upd H6 I (.tup [.str n, .int ((1 + j : Nat) : Int)])) T7 (.tup [.ref t1, .ref I]) = H7 at s7 hI7 hT7 ⊢
          have hP7 := s7 _ _ hP6
          have RV7 := RV6.at2 (H' := H7) (by rw [s7 _ _ RV6.at_, RV6.at_])
          have tk7 : ∀ b xs, H7 b = some (.tup xs) → upd H7 Pq (.lst (us ++ [.ref T7])) b = some (.tup xs) := fun b xs h => by
            rw [upd_ne (ne_of h hP7 (by intro z; cases z))]
            exact h
          refine ⟨Pq, _, _, rfl, rfl, hP7, ?_, _, _, _, _, _, putK kvr (chK p n) (.int ((recvN fl p n : Nat) + 1)), us ++ [.ref T7], acc ++ [(s0, (n, 1 + j))], rfl, same_upd (sm6.trans s7) nP, upd_same, ?_, ?_, ?_, hmt⟩
          · have := Paired.length hM6
            exact fitR (by omega)
          · refine paired_app ((hM6.same s7).keep tk7) (.cons ⟨T7, t1, I, rfl, tk7 _ _ hT7, tk7 _ _ (s7 _ _ ht1), tk7 _ _ hI7⟩ .nil)
          · rw [List.length_append, List.length_append, List.length_singleton, List.length_singleton]
            omega
          · exact RV7.at2 (upd_ne (ne_of RV7.at_ hP7 (by intro z; cases z)))
        · rw [if_neg hvv] at hmt
          refine iteTc (by simp [hvv]) ⟨_, rfl, _, rfl, mk_rec (K := K) (n := 1 + j) (kE (n, 1 + j) hmt) (s1.trans sm6) (.str n)⟩
      · rintro σ Hy ⟨x6, x7, x8, x9, x10, kvr, us, acc, rfl, sy, hP, hM, hacc, RV, hmt⟩
        rw [hul, List.take_length] at hacc RV hmt
        rw [List.drop_length] at hmt
        have e1 : flatR (rs.take (i + 1)) = flatR (rs.take i) ++ flatRow n 1 es := by
          rw [List.take_add_one, hr', flatR_app]
          exact congrArg _ (flatR_one n es)
        exact ⟨_, _, _, _, _, _, _, kvr, us, acc, rfl, sy, hP, hM, by rw [e1]; exact hacc, by rw [e1]; exact RV, by rw [e1]; exact hmt⟩
    · rintro σ Hx ⟨x4, x5, x6, x7, x8, x9, x10, kvr, us, acc, rfl, sm, hP, hM, hacc, RV, hmt⟩
      rw [hln, List.take_length, List.drop_length] at hmt
      refine ⟨_, rfl, Pq, us, rfl, .inl ⟨SqL.of hP, fun Tq nT => ?_⟩⟩
      exact kQ acc hmt Tq us _ ((s1.trans sm).trans (same_new nT)) upd_same (hM.same (same_new nT))
end
end XE

set_option Elab.async false
set_option linter.all false
set_option maxRecDepth 100000
set_option maxHeartbeats 1000000
namespace Rx
open PySem PySem.Spec PyProof.Rows L2 SX
/-! ### xs[:0:-1]: all but the first one, backwards -/
theorem rs_map (n : Nat) : (List.range (n - 1)).map (fun k => n - 1 - k) = ((List.range (n - 1)).map (1 + ·)).reverse := by
  apply List.ext_getElem
  · simp
  · intro i h1 h2
    simp only [List.length_map, List.length_range] at h1
    simp only [List.getElem_map, List.getElem_range, List.getElem_reverse, List.length_map, List.length_range]
    omega
theorem rs_all {α : Type} (xs : Array α) : ((List.range (xs.size - 1)).map (fun k => xs.size - 1 - k)).filterMap (xs[·]?) = (xs.toList.drop 1).reverse := by
  rw [rs_map, List.filterMap_reverse, pick_run xs 1 (xs.size - 1), List.take_of_length_le (by rw [List.length_drop, Array.length_toList]; exact Nat.le_refl _)]
theorem rs_range (n : Nat) : sliceRange ((n : Int) - 1) (max (-1) (min 0 ((n : Int) - 1))) (-1) = (List.range (n - 1)).map fun k => n - 1 - k := by
  unfold sliceRange
  have h1 : ¬ ((-1 : Int) > 0) := by decide
  simp only [h1, if_false]
  by_cases h : (n : Int) - 1 > 0
  · have e0 : max (-1) (min 0 ((n : Int) - 1)) = 0 := by omega
    rw [e0]
    have e : ((n : Int) - 1 - 0 - -1 - 1) / (- -1) = ((n - 1 : Nat) : Int) := by
      rw [show (- -1 : Int) = 1 by decide, Int.ediv_one]
      omega
    simp only [h, if_true, e, Int.toNat_natCast]
    apply List.map_congr_left
    intro k hk
    have := List.mem_range.mp hk
    omega
  · have e : ¬ ((n : Int) - 1 > max (-1) (min 0 ((n : Int) - 1))) := by omega
    simp only [e, if_false]
    have : n - 1 = 0 := by omega
    rw [this]
    rfl
theorem rs_pick (items : Array Value) : slicePick items none (some 0) (some (-1)) = (items.toList.drop 1).reverse.toArray := by
  unfold slicePick
  have e : sliceBounds none (some 0) (some (-1)) items.size = ((items.size : Int) - 1, max (-1) (min 0 ((items.size : Int) - 1)), -1) := by
    first
    | rfl
    | simp [sliceBounds]
  rw [e]
  show ((sliceRange ((items.size : Int) - 1) (max (-1) (min 0 ((items.size : Int) - 1))) (-1)).filterMap (items[·]?)).toArray = _
  rw [rs_range, rs_all]
section
variable {prog : Program} {w : World} {A : Around} {E : Value → Shared → Prop} {s : Shared}
theorem rs_applied {sl : Addr} {vl vu vs : Value} {n : Nat} {Q : Int × Int × Nat → Shared → Prop} (hn : 1 ≤ n) (hs : s.heap.IsSliceOf sl vl vu vs) (pl : IsPart vl none) (pu : IsPart vu (some 0)) (ps : IsPart vs (some (-1)))
    (h : Q ((n : Int) - 1, -1, n - 1) s) : wpAny (model prog w) A (Builtin.Slice.sliceApplied (.ref sl) (pure (n : Int))) Q E s := by
  obtain ⟨os, hos, hcs, hds⟩ := id hs
  unfold Builtin.Slice.sliceApplied Builtin.Slice.sliceFields
  refine wpAny_bind (wpAny_bind (wpAny_field hos hds (x := vl) rfl (wpAny_bind (wpAny_field hos hds (x := vu) rfl (wpAny_bind (wpAny_field hos hds (x := vs) rfl (wpAny_pure ?_)))))))
  refine wpAny_bind (HT.slicePart_ ps ?_)
  show wpAny _ _ (if ((-1 : Int) == 0) = true then _ else _) _ _ s
  rw [if_neg (by decide)]
  refine wpAny_bind (HT.slicePart_ pl (wpAny_bind (HT.slicePart_ pu (wpAny_bind (wpAny_pure ?_)))))
  show wpAny _ _ (match Builtin.Slice.sliceAdjust none (some 0) (-1) (n : Int) with | (lo, hi) => pure (lo, (-1 : Int), Builtin.Slice.slicePlaces lo hi (-1))) _ _ s
  have e : Builtin.Slice.sliceAdjust none (some 0) (-1) (n : Int) = ((n : Int) - 1, min 0 ((n : Int) - 1)) := by
    unfold Builtin.Slice.sliceAdjust
    rfl
  rw [e]
  show wpAny _ _ (pure ((n : Int) - 1, (-1 : Int), Builtin.Slice.slicePlaces ((n : Int) - 1) (min 0 ((n : Int) - 1)) (-1))) _ _ s
  have e2 : Builtin.Slice.slicePlaces ((n : Int) - 1) (min 0 ((n : Int) - 1)) (-1) = n - 1 := by
    unfold Builtin.Slice.slicePlaces
    have h1 : ¬ ((-1 : Int) > 0) := by decide
    simp only [h1, if_false]
    rw [show (- -1 : Int) = 1 by decide, Int.ediv_one]
    split <;> omega
  rw [e2]
  exact wpAny_pure h
theorem rs_pickT (xs : Array Value) : ((List.range (xs.size - 1)).filterMap fun (m : Nat) => xs[((xs.size : Int) - 1 + (m : Int) * (-1)).toNat]?).toArray = (xs.toList.drop 1).reverse.toArray := by
  have e : ((List.range (xs.size - 1)).map fun (m : Nat) => ((xs.size : Int) - 1 + (m : Int) * (-1)).toNat) = (List.range (xs.size - 1)).map (fun k => xs.size - 1 - k) := by
    apply List.map_congr_left
    intro m hm
    have := List.mem_range.mp hm
    omega
  rw [← rs_all, ← e, List.filterMap_map]
  rfl
theorem getItem_tuple_rest {t sl : Addr} {items : Array Value} {vl vu vs : Value} {Q : Value → Shared → Prop} (ht : IsTup s.heap t items) (hs : s.heap.IsSliceOf sl vl vu vs) (pl : IsPart vl none) (pu : IsPart vu (some 0)) (ps : IsPart vs (some (-1))) (hn : 1 ≤ items.size)
    (h : Q (.ref s.heap.objs.size) { s with heap := s.heap.push { cls := .type "tuple", data := .seq (items.toList.drop 1).reverse.toArray } })
    (hsz : items.size ≤ sizeLine) : wpAny (model prog w) A (getItem (.ref t) (.ref sl)) Q E s := by
  have htake : sizeOk (.seq (items.toList.drop 1).reverse.toArray) := by
    show (items.toList.drop 1).reverse.toArray.size ≤ sizeLine
    rw [List.size_toArray, List.length_reverse, List.length_drop, Array.length_toList]
    omega
  obtain ⟨os, hos, hcs, hds⟩ := id hs
  have hTs : s.TypeIs (.ref sl) "slice" := ⟨os, hos, hcs⟩
  unfold getItem
  try with_reducible refine wpAny_holding ?_
  first | refine wpAny_bind (wpAny_pure ?_) | skip
  refine wpAny_bind (wpAny_sequenceKey ht.typeIs (by decide) ?_)
  refine wpAny_bind (wpAny_callSpecial?_slot (name := Str.ofString "__getitem__") ht.typeIs PyProof.Rows.slot_tuple_getitem
    (wpAny_call_entry PyProof.Rows.slot_tuple_getitem ht.typeIs entry_tuple_getitem ?_ (args_tuple_getitem _ _)))
  show wpAny _ _ (Builtin.Tuple.tupleItemsOf (.ref t) >>= _) _ _ s
  refine wpAny_bind (tupleItemsOf_ ht ?_)
  refine wpAny_bind (wpAny_typeOf hTs ?_)
  rw [if_pos (by decide)]
  refine wpAny_bind (rs_applied hn hs pl pu ps ?_)
  have hno : ¬ ((((items.size : Int) - 1) == 0 && (-1 : Int) == 1 && (items.size - 1) == items.size) = true) := by
    intro q
    rw [Bool.and_eq_true, Bool.and_eq_true] at q
    exact absurd q.1.2 (by decide)
  show wpAny _ _ (if (((items.size : Int) - 1) == 0 && (-1 : Int) == 1 && (items.size - 1) == items.size) = true then _ else _) _ _ s
  rw [if_neg hno, rs_pickT]
  first
    | exact wpAny_bind (m := Builtin.Tuple.tupleExact _) (wpAny_newObj_type (wpAny_pure ⟨_, rfl, wpAny_pure h⟩) htake)
    | exact wpAny_bind (m := Builtin.Tuple.tupleExact _) (wpAny_newObj_type (wpAny_bind (wpAny_pure (wpAny_pure ⟨_, rfl, wpAny_pure h⟩))) htake)
    | exact wpAny_bind (wpAny_bind (m := Builtin.Tuple.tupleExact _) (wpAny_newObj_type (wpAny_pure (wpAny_pure ⟨_, rfl, wpAny_pure h⟩)) htake))
    | exact wpAny_bind (wpAny_bind (m := Builtin.Tuple.tupleExact _) (wpAny_newObj_type (wpAny_pure ⟨_, rfl, wpAny_pure h⟩) htake))
end
section
variable {X : Cx}
def tRest (K : PySem.W.Frag) (te : TE) : TE := fun σ H Q => te σ H fun x H1 => ∃ a xs, x = .ref a ∧ xs ≠ [] ∧
  ((SqL K H1 a xs ∧ ∀ p, H1 p = none → Q (.ref p) (upd H1 p (.lst (xs.drop 1).reverse))) ∨ (SqT K H1 a xs ∧ ∀ p, H1 p = none → Q (.ref p) (upd H1 p (.tup (xs.drop 1).reverse))))
theorem pe_rest {e : Expr} {te : TE} {k k0 : Nat} {p0 p1 p2 p3 pos : Pos} (he : PE X e te) : PE X (.Subscript e (.Slice none (some (.Constant (.int 0) k0 p0)) (some (.UnaryOp .USub (.Constant (.int 1) k p1) p2)) p3) pos) (tRest X.K te) := by
  refine ⟨fun pins s σ H Q I h => ?_⟩
  refine Subscript_ (thn (he.run pins s σ H _ I h) fun v s1 ⟨x, H1, I1, r1, q1⟩ => ?_)
  obtain ⟨a, xs, ex, hne, q1⟩ := q1
  subst ex
  cases r1
  have hst : PO X (some (.UnaryOp .USub (.Constant (.int 1) k p1) p2)) (tPart (tUn (rU fun i => .int (-i)) (tC (.int 1)))) := po_some (pe_un un_neg pe_int)
  have h0 : PO X (some (.Constant (.int 0) k0 p0)) (tPart (tC (.int 0))) := po_some pe_int
  refine wpAny_Slice (thn (po_none.run pins s1 σ H1 (fun o H2 => o = none ∧ H2 = H1) I1 ⟨rfl, rfl⟩) fun vl s2 ⟨l, H2, I2, pl, el, e2⟩ => ?_)
  subst el e2
  refine thn (h0.run pins s2 σ H2 (fun o H3 => o = some 0 ∧ H3 = H2) I2 ⟨0, rfl, rfl, rfl⟩) fun vu s3 ⟨u, H3, I3, pu, eu, e3⟩ => ?_
  subst eu e3
  refine thn (hst.run pins s3 σ H3 (fun o H4 => o = some (-1) ∧ H4 = H3) I3 ⟨1, rfl, -1, rfl, rfl, rfl⟩) fun vs s4 ⟨o, H4, I4, ps, eo, e4⟩ => ?_
  subst eo e4
  have I5 : Inv X pins σ H4 { s4 with heap := s4.heap.push { cls := .type "slice", data := .fields #[vl, vu, vs] } } := I4.kept (t' := s4.toks) fun b ob q => Heap.get?_push_of_some _ q
  show wpAny (model X.prog X.w) X.A (subscriptTail e (.Slice none (some (.Constant (.int 0) k0 p0)) (some (.UnaryOp .USub (.Constant (.int 1) k p1) p2)) p3) (.ref a) (.ref s4.heap.objs.size)) (EP X pins σ Q) X.xe { s4 with heap := s4.heap.push { cls := .type "slice", data := .fields #[vl, vu, vs] } }
  rcases q1 with ⟨hx, q⟩ | ⟨hx, q⟩
  · obtain ⟨its, r, ht, hz⟩ := I5.list hx
    have hlen := r.length
    refine tail_any (ops := [.ref a, .ref s4.heap.objs.size]) ht.isList.typeIs (PySem.slot_list_getitem.lookup) ?_ (by with_unfolding_all rfl)
    refine wpAny_getItem_list_slice ht.isList (Heap.IsSliceOf.new _ vl vu vs) pl pu ps (by decide) ?_ (by rw [List.size_toArray]; omega)
    rw [rs_pick]
    refine ⟨.ref _, _, I5.laid (t' := s4.toks) (o := .lst (xs.drop 1).reverse) (fun b ob q => Heap.get?_push_of_some _ q) (Nat.le_refl _) ?_, rfl, q _ (I5.hok.fresh (Nat.le_refl _))⟩
    exact ⟨by rw [List.length_reverse, List.length_drop]; omega, _, 0, (r.drop 1).reverse, Heap.get?_push_size _ rfl⟩
  · obtain ⟨its, r, ht, hz⟩ := I5.tuple hx
    have hlen : its.toArray.size = xs.length := by rw [List.size_toArray]; exact r.length.symm
    have hn : 1 ≤ xs.length := by cases xs with | nil => exact absurd rfl hne | cons _ _ => simp
    refine tail_any (ops := [.ref a, .ref s4.heap.objs.size]) ht.typeIs (PyProof.Rows.slot_tuple_getitem.lookup) ?_ (by with_unfolding_all rfl)
    refine getItem_tuple_rest ht (Heap.IsSliceOf.new _ vl vu vs) pl pu ps (by omega) ?_ (by omega)
    refine ⟨.ref _, _, I5.laid (t' := s4.toks) (o := .tup (xs.drop 1).reverse) (fun b ob q => Heap.get?_push_of_some _ q) (Nat.le_refl _) ?_, rfl, q _ (I5.hok.fresh (Nat.le_refl _))⟩
    exact ⟨by rw [List.length_reverse, List.length_drop]; omega, _, (r.drop 1).reverse, IsTup.new _ _⟩
/-- a walk over a list or a tuple -/
def iSq (K : PySem.W.Frag) (tl : TE) : TI := fun σ H R => tl σ H fun x H1 => ∃ a xs, x = .ref a ∧ ((SqL K H1 a xs ∧ R (Itl K a) H1) ∨ (SqT K H1 a xs ∧ R (Itt K a) H1))
theorem pi_sq {tg l : Expr} {tl : TE} (hl : PE X l tl) : PI X tg l (iSq X.K tl) := by
  refine ⟨fun pins s σ H R I h => ?_⟩
  refine thn (hl.run pins s σ H _ I h) fun v s1 ⟨x, H1, I1, r1, q1⟩ => ?_
  obtain ⟨a, xs, e, q⟩ := q1
  subst e
  cases r1
  rcases q with ⟨hq, q⟩ | ⟨hq, q⟩
  · obtain ⟨its, rv, p, hz⟩ := I1.list hq
    refine wpAny_pyIter_list p.isList ?_
    refine ⟨s1.heap.objs.size, [s1.heap.objs.size], _, _, H1, rfl, I1.kept (t' := s1.toks) fun b o e => Heap.get?_push_of_some _ e, turn_list a _, ⟨_, Heap.get?_push_size _ rfl, rfl, rfl⟩, fun b hb => ?_, q⟩
    have e : b = s1.heap.objs.size := by simpa using hb
    subst e
    exact I1.fpOk (Nat.le_refl _) (I1.hok.fresh (Nat.le_refl _))
  · obtain ⟨its, rv, p, hz⟩ := I1.tuple hq
    refine wpAny_pyIter_tuple (show s1.heap.IsTuple a its.toArray from p) ?_
    refine ⟨s1.heap.objs.size, [s1.heap.objs.size], _, _, H1, rfl, I1.kept (t' := s1.toks) fun b o e => Heap.get?_push_of_some _ e, turn_tuple a _, ⟨_, Heap.get?_push_size _ rfl, rfl, rfl⟩, fun b hb => ?_, q⟩
    have e : b = s1.heap.objs.size := by simpa using hb
    subst e
    exact I1.fpOk (Nat.le_refl _) (I1.hok.fresh (Nat.le_refl _))
/-- // by any divisor but 0, of less than 9000 bits -/
theorem op_fdivX : OpR X (binaryOp .FloorDiv) (rI (fun _ j => j ≠ 0 ∧ j.natAbs.log2 < 9000) fun i j => .int (i.fdiv j)) := opI fun _ _ _ _ _ _ _ hc q => floordiv_int hc.1 q (.inl (PyProof.noPylong_of_log2 hc.2))
end
end Rx

set_option Elab.async false
set_option linter.all false
set_option maxRecDepth 100000
set_option maxHeartbeats 1000000
namespace Rx
open PySem PySem.Spec PyProof.Rows L2 SX
/-! ### values of trees -/
abbrev Lt30 (i : Int) : Prop := i.natAbs < 10 ^ 30
def addT (w : Str) (i j : Int) : Int := if w = "+" then i + j else if w = "-" then i - j else i * j
def calcT (w : Str) (i j : Int) : Except Str Int :=
  if w = "//" ∨ w = "mod" then (if j = 0 then .error "division" else .ok (if w = "//" then i.fdiv j else i.fmod j))
  else if (addT w i j).natAbs < 10 ^ 30 then .ok (addT w i j) else .error "overflow"
def cmpT (w : Str) (i j : Int) : Bool :=
  if w = "=" then decide (i = j) else if w = "!=" then !decide (i = j) else if w = "<" then decide (i < j) else if w = "<=" then decide (i ≤ j) else if w = ">" then decide (i > j) else decide (i ≥ j)
inductive PreR : Str → V → V → Prop where
  | neg (i : Int) : PreR "negate" (.int i) (.int (-i))
  | not (b : Bool) : PreR "not" (.bl b) (.bl (!b))
inductive BinR : Str → V → V → Except Str V → Prop where
  | ari {w : Str} {i j x : Int} : w ∈ arithL → Lt30 i → Lt30 j → calcT w i j = .ok x → BinR w (.int i) (.int j) (.ok (.int x))
  | ariE {w e : Str} {i j : Int} : w ∈ arithL → Lt30 i → Lt30 j → calcT w i j = .error e → BinR w (.int i) (.int j) (.error e)
  | cmp {w : Str} {i j : Int} : w ∈ compL → BinR w (.int i) (.int j) (.ok (.bl (cmpT w i j)))
  | and (a b : Bool) : BinR "and" (.bl a) (.bl b) (.ok (.bl (a && b)))
  | or (a b : Bool) : BinR "or" (.bl a) (.bl b) (.ok (.bl (a || b)))
inductive Ev (ρ : Str → Int) : Tr → Except Str V → Prop where
  | num (n : Int) : Ev ρ (.num n) (.ok (.int n))
  | var (x : Str) : Ev ρ (.var x) (.ok (.int (ρ x)))
  | pre {w : Str} {a : Tr} {x v : V} : Ev ρ a (.ok x) → PreR w x v → Ev ρ (.pre w a) (.ok v)
  | preE {w e : Str} {a : Tr} : Ev ρ a (.error e) → Ev ρ (.pre w a) (.error e)
  | bin {w : Str} {a b : Tr} {x y : V} {r : Except Str V} : Ev ρ a (.ok x) → Ev ρ b (.ok y) → BinR w x y r → Ev ρ (.bin w a b) r
  | binL {w e : Str} {a b : Tr} : Ev ρ a (.error e) → Ev ρ (.bin w a b) (.error e)
  | binR {w e : Str} {a b : Tr} {x : V} : Ev ρ a (.ok x) → Ev ρ b (.error e) → Ev ρ (.bin w a b) (.error e)
abbrev WI := Tr × Bool
inductive Out (ρ : Str → Int) : List WI → List V → Except Str V → Prop where
  | nil (v : V) : Out ρ [] [v] (.ok v)
  | ev {t : Tr} {v : V} {ws : List WI} {rs : List V} {r : Except Str V} : Ev ρ t (.ok v) → Out ρ ws (v :: rs) r → Out ρ ((t, false) :: ws) rs r
  | evE {t : Tr} {e : Str} {ws : List WI} {rs : List V} : Ev ρ t (.error e) → Out ρ ((t, false) :: ws) rs (.error e)
  | pre {w : Str} {a : Tr} {x v : V} {ws : List WI} {rs : List V} {r : Except Str V} : PreR w x v → Out ρ ws (v :: rs) r → Out ρ ((.pre w a, true) :: ws) (x :: rs) r
  | bin {w : Str} {a b : Tr} {x y v : V} {ws : List WI} {rs : List V} {r : Except Str V} : BinR w x y (.ok v) → Out ρ ws (v :: rs) r → Out ρ ((.bin w a b, true) :: ws) (y :: x :: rs) r
  | binE {w e : Str} {a b : Tr} {x y : V} {ws : List WI} {rs : List V} : BinR w x y (.error e) → Out ρ ((.bin w a b, true) :: ws) (y :: x :: rs) (.error e)
theorem out_start {ρ : Str → Int} {t : Tr} {r : Except Str V} (h : Ev ρ t r) : Out ρ [(t, false)] [] r := by
  cases r with
  | ok v => exact .ev h (.nil v)
  | error e => exact .evE h
theorem out_pre {ρ : Str → Int} {w : Str} {a : Tr} {ws : List WI} {rs : List V} {r : Except Str V} (h : Out ρ ((.pre w a, false) :: ws) rs r) : Out ρ ((a, false) :: (.pre w a, true) :: ws) rs r := by
  cases h with
  | ev h1 h2 => cases h1 with
    | pre h3 h4 => exact .ev h3 (.pre h4 h2)
  | evE h1 => cases h1 with
    | preE h3 => exact .evE h3
theorem out_bin {ρ : Str → Int} {w : Str} {a b : Tr} {ws : List WI} {rs : List V} {r : Except Str V} (h : Out ρ ((.bin w a b, false) :: ws) rs r) : Out ρ ((a, false) :: (b, false) :: (.bin w a b, true) :: ws) rs r := by
  cases h with
  | ev h1 h2 => cases h1 with
    | bin h3 h4 h5 => exact .ev h3 (.ev h4 (.bin h5 h2))
  | evE h1 => cases h1 with
    | bin h3 h4 h5 => exact .ev h3 (.ev h4 (.binE h5))
    | binL h3 => exact .evE h3
    | binR h3 h4 => exact .ev h3 (.evE h4)
theorem out_num {ρ : Str → Int} {n : Int} {ws : List WI} {rs : List V} {r : Except Str V} (h : Out ρ ((.num n, false) :: ws) rs r) : Out ρ ws (.int n :: rs) r := by
  cases h with
  | ev h1 h2 => cases h1; exact h2
  | evE h1 => cases h1
theorem out_var {ρ : Str → Int} {x : Str} {ws : List WI} {rs : List V} {r : Except Str V} (h : Out ρ ((.var x, false) :: ws) rs r) : Out ρ ws (.int (ρ x) :: rs) r := by
  cases h with
  | ev h1 h2 => cases h1; exact h2
  | evE h1 => cases h1
def wiM : WI → Nat
  | (t, false) => t.sz
  | (_, true) => 1
def wiL (ws : List WI) : Nat := (ws.map wiM).sum
theorem wiL_cons (x : WI) (ws : List WI) : wiL (x :: ws) = wiM x + wiL ws := by unfold wiL; rw [List.map_cons, List.sum_cons]
theorem trsz_pos (t : Tr) : 3 ≤ t.sz := by cases t <;> simp [Tr.sz] <;> omega
theorem wiL_len (ws : List WI) : ws.length ≤ wiL ws := by
  induction ws with
  | nil => simp
  | cons p ws ih =>
    rw [wiL_cons, List.length_cons]
    have : 1 ≤ wiM p := by
      obtain ⟨t, b⟩ := p
      cases b with
      | true => exact Nat.le_refl 1
      | false => have := trsz_pos t; show 1 ≤ t.sz; omega
    omega
/-! computed -/
def binC (w : Str) : V → V → Option (Except Str V)
  | .int i, .int j => if w ∈ arithL then (if i.natAbs < 10 ^ 30 ∧ j.natAbs < 10 ^ 30 then some (match calcT w i j with | .ok x => .ok (.int x) | .error e => .error e) else none)
    else if w ∈ compL then some (.ok (.bl (cmpT w i j))) else none
  | .bl a, .bl b => if w = "and" then some (.ok (.bl (a && b))) else if w = "or" then some (.ok (.bl (a || b))) else none
  | _, _ => none
def preCc (w : Str) : V → Option V
  | .int i => if w = "negate" then some (.int (-i)) else none
  | .bl b => if w = "not" then some (.bl (!b)) else none
  | _ => none
theorem binC_ok {w : Str} {x y : V} {r : Except Str V} (h : binC w x y = some r) : BinR w x y r := by
  unfold binC at h
  split at h
  · split at h
    · rename_i hw
      split at h
      · rename_i hb
        injection h with h
        subst h
        cases hc : calcT w _ _ with
        | ok x => exact .ari hw hb.1 hb.2 hc
        | error e => exact .ariE hw hb.1 hb.2 hc
      · cases h
    · split at h
      · rename_i hw
        injection h with h
        subst h
        exact .cmp hw
      · cases h
  · split at h
    · rename_i hw
      injection h with h
      subst h hw
      exact .and _ _
    · split at h
      · rename_i hw
        injection h with h
        subst h hw
        exact .or _ _
      · cases h
  · cases h
theorem preC_ok {w : Str} {x v : V} (h : preCc w x = some v) : PreR w x v := by
  unfold preCc at h
  split at h
  · split at h
    · rename_i hw
      injection h with h
      subst h hw
      exact .neg _
    · cases h
  · split at h
    · rename_i hw
      injection h with h
      subst h hw
      exact .not _
    · cases h
  · cases h
def evC (ρ : Str → Int) : Tr → Option (Except Str V)
  | .num n => some (.ok (.int n))
  | .var x => some (.ok (.int (ρ x)))
  | .pre w a => match evC ρ a with
    | some (.ok x) => (preCc w x).map .ok
    | some (.error e) => some (.error e)
    | none => none
  | .bin w a b => match evC ρ a with
    | some (.ok x) => (match evC ρ b with
      | some (.ok y) => binC w x y
      | some (.error e) => some (.error e)
      | none => none)
    | some (.error e) => some (.error e)
    | none => none
theorem evC_ok {ρ : Str → Int} : ∀ {t : Tr} {r : Except Str V}, evC ρ t = some r → Ev ρ t r
  | .num n, r, h => by injection h with h; subst h; exact .num n
  | .var x, r, h => by injection h with h; subst h; exact .var x
  | .pre w a, r, h => by
    unfold evC at h
    cases e : evC ρ a with
    | none => rw [e] at h; cases h
    | some q =>
      rw [e] at h
      cases q with
      | error z => injection h with h; subst h; exact .preE (evC_ok e)
      | ok x =>
        cases p : preCc w x with
        | none => simp only [p] at h; cases h
        | some v => simp only [p, Option.map_some] at h; injection h with h; subst h; exact .pre (evC_ok e) (preC_ok p)
  | .bin w a b, r, h => by
    unfold evC at h
    cases e : evC ρ a with
    | none => rw [e] at h; cases h
    | some q =>
      rw [e] at h
      cases q with
      | error z => injection h with h; subst h; exact .binL (evC_ok e)
      | ok x =>
        cases e2 : evC ρ b with
        | none => simp only [e2] at h; cases h
        | some q2 =>
          simp only [e2] at h
          cases q2 with
          | error z => injection h with h; subst h; exact .binR (evC_ok e) (evC_ok e2)
          | ok y => exact .bin (evC_ok e) (evC_ok e2) (binC_ok h)
/-! bounds, and that drawn trees have a value -/
theorem fdiv_le (i j : Int) (h : j ≠ 0) : (i.fdiv j).natAbs ≤ i.natAbs := by
  rcases Int.lt_or_gt_of_ne h with g | g
  · rw [← Int.neg_fdiv_neg, Int.fdiv_eq_ediv_of_nonneg (-i) (by omega)]
    have := Int.natAbs_ediv_le_natAbs (-i) (-j)
    omega
  · rw [Int.fdiv_eq_ediv_of_nonneg i (by omega)]
    exact Int.natAbs_ediv_le_natAbs i j
theorem fmod_lt (i j : Int) (h : j ≠ 0) : (i.fmod j).natAbs ≤ j.natAbs := by
  rcases Int.lt_or_gt_of_ne h with g | g
  · have h0 := Int.neg_fmod_neg i j
    have h1 := Int.fmod_nonneg_of_pos (-i) (b := -j) (by omega)
    have h2 := Int.fmod_lt_of_pos (-i) (b := -j) (by omega)
    omega
  · have h1 := Int.fmod_nonneg_of_pos i g
    have h2 := Int.fmod_lt_of_pos i g
    omega
theorem calcT_lt {w : Str} {i j x : Int} (hi : Lt30 i) (hj : Lt30 j) (h : calcT w i j = .ok x) : Lt30 x := by
  unfold calcT at h
  split at h
  · split at h
    · cases h
    · rename_i hj0
      injection h with h
      subst h
      split
      · exact Nat.lt_of_le_of_lt (fdiv_le i j hj0) hi
      · exact Nat.lt_of_le_of_lt (fmod_lt i j hj0) hj
  · split at h
    · injection h with h; subst h; assumption
    · cases h
theorem calcT_err {w e : Str} {i j : Int} (h : calcT w i j = .error e) : e = "division" ∨ e = "overflow" := by
  unfold calcT at h
  split at h
  · split at h
    · injection h with h; exact .inl h.symm
    · cases h
  · split at h
    · cases h
    · injection h with h; exact .inr h.symm
def KindOf (b : Bool) (r : Except Str V) : Prop := match r with
  | .ok v => if b = true then ∃ c, v = .bl c else ∃ i, v = .int i ∧ Lt30 i
  | .error e => e = "division" ∨ e = "overflow"
theorem numL_lt : ∀ n ∈ numL, n.natAbs < 10 ^ 30 := by decide +kernel
theorem ty_ev {ρ : Str → Int} (hρ : ∀ x, Lt30 (ρ x)) {b : Bool} {n : Nat} {t : Tr} (h : Ty b n t) : ∃ r, Ev ρ t r ∧ KindOf b r := by
  induction h with
  | @num k n h => exact ⟨_, .num n, n, rfl, numL_lt n h⟩
  | @var k x h => exact ⟨_, .var x, ρ x, rfl, hρ x⟩
  | neg _ ih =>
    obtain ⟨r, h1, h2⟩ := ih
    cases r with
    | error e => exact ⟨_, .preE h1, h2⟩
    | ok v => obtain ⟨i, rfl, hi⟩ := h2; exact ⟨_, .pre h1 (.neg i), -i, rfl, by show (-i).natAbs < _; rw [Int.natAbs_neg]; exact hi⟩
  | not_ _ ih =>
    obtain ⟨r, h1, h2⟩ := ih
    cases r with
    | error e => exact ⟨_, .preE h1, h2⟩
    | ok v => obtain ⟨c, rfl⟩ := h2; exact ⟨_, .pre h1 (.not c), _, rfl⟩
  | bin hw _ _ i1 i2 =>
    obtain ⟨r, h1, h2⟩ := i1
    cases r with
    | error e => exact ⟨_, .binL h1, h2⟩
    | ok v =>
      obtain ⟨i, rfl, hi⟩ := h2
      obtain ⟨r, g1, g2⟩ := i2
      cases r with
      | error e => exact ⟨_, .binR h1 g1, g2⟩
      | ok u =>
        obtain ⟨j, rfl, hj⟩ := g2
        cases hc : calcT _ i j with
        | ok x => exact ⟨_, .bin h1 g1 (.ari hw hi hj hc), x, rfl, calcT_lt hi hj hc⟩
        | error e => exact ⟨_, .bin h1 g1 (.ariE hw hi hj hc), calcT_err hc⟩
  | cmp hw _ _ i1 i2 =>
    obtain ⟨r, h1, h2⟩ := i1
    cases r with
    | error e => exact ⟨_, .binL h1, h2⟩
    | ok v =>
      obtain ⟨i, rfl, hi⟩ := h2
      obtain ⟨r, g1, g2⟩ := i2
      cases r with
      | error e => exact ⟨_, .binR h1 g1, g2⟩
      | ok u =>
        obtain ⟨j, rfl, hj⟩ := g2
        exact ⟨_, .bin h1 g1 (.cmp hw), _, rfl⟩
  | @log k w a b hw _ _ i1 i2 =>
    obtain ⟨r, h1, h2⟩ := i1
    cases r with
    | error e => exact ⟨_, .binL h1, h2⟩
    | ok v =>
      obtain ⟨i, rfl⟩ := h2
      obtain ⟨r, g1, g2⟩ := i2
      cases r with
      | error e => exact ⟨_, .binR h1 g1, g2⟩
      | ok u =>
        obtain ⟨j, rfl⟩ := g2
        have hw2 : w = "or" ∨ w = "and" := by simpa [logL] using hw
        rcases hw2 with rfl | rfl
        · exact ⟨_, .bin h1 g1 (.or i j), _, rfl⟩
        · exact ⟨_, .bin h1 g1 (.and i j), _, rfl⟩
end Rx

set_option Elab.async false
set_option linter.all false
set_option maxRecDepth 100000
set_option maxHeartbeats 1000000
namespace Rx
open PySem PySem.Spec PyProof.Rows L2 SX
section
variable {X : Cx}
/-- name = {k: v for ..} on one line, the name a local -/
theorem ps_setDc {i : Nat} {y : Str} {py : Pos} {kx vx tg iter : Expr} {ifs : List Expr} {scope : Scope} {own : List (Str × Nat)} {pos spos : Pos} {wi : TI} {g : TG} {tt : L2.TT} {tk tv : TE} (hc : X.calm = true) (hN : X.N.Nodup) (hy : X.N[i]? = some y) (hyl : X.env.scope.names.lookup y = some .local)
    (hsw : swapsWith (.DictComp kx vx [⟨tg, iter, ifs, 0⟩] scope pos) (some (.Name y py)) spos.line X.env = pure true) (hi : PI X tg iter wi) (ok : BlkOk X.N X.env.scope scope own)
    (hg : ∀ (s : Shared) (H : Hp) (C : Addr) (cl : List (Str × Addr)) (fp : List Addr), PG (X.blk s H scope (compEnvC scope cl C X.env) fp) tg g) (ht : ∀ (s : Shared) (H : Hp) (C : Addr) (cl : List (Str × Addr)) (fp : List Addr), PTs (X.blk s H scope (compEnvC scope cl C X.env) fp) ifs tt)
    (hk : ∀ (s : Shared) (H : Hp) (C : Addr) (cl : List (Str × Addr)) (fp : List Addr), PE (X.blk s H scope (compEnvC scope cl C X.env) fp) kx tk)
    (he : ∀ (s : Shared) (H : Hp) (C : Addr) (cl : List (Str × Addr)) (fp : List Addr), PE (X.blk s H scope (compEnvC scope cl C X.env) fp) vx tv) (hs : ∀ x, foldedSetIterable iter X.env x = pure x := by intro _; rfl) :
    PS X (.Assign [.Name y py] (.DictComp kx vx [⟨tg, iter, ifs, 0⟩] scope pos) spos) (tAsg (tDc wi g tt tk tv (own.map (·.2))) (gName i)) := by
  refine ⟨fun pins s σ H D I h => ?_⟩
  rw [exec_Assign_Name_used _ _ _ _ hsw]
  refine wpAny_bind (wpAny_standAt (wpAny_bind ?_))
  show wpAny _ X.A (do let _ ← comprehension (.DictComp kx vx [⟨tg, iter, ifs, 0⟩] scope pos) scope X.env (firstIterPos [⟨tg, iter, ifs, 0⟩] pos) newDict false (eval iter X.env) (some (assign (.Name y py) X.env))) _ _ s
  have h : tDc wi g tt tk tv (own.map (·.2)) σ H (fun x H1 => gName i x σ H1 D.nx) := h
  refine wpAny_bind (thn (dc_core (Qf := fun _ s' => SP X pins D .next s') hc hN I hi ok hg ht hk he hs h fun L C s' m H' I' q hn f => ?_) fun _ s' hq => wpAny_pure (wpAny_pure hq))
  show wpAny _ _ (assign (.Name y py) X.env (.ref L)) _ _ _
  refine wpAny_assign_Name (store_ok2 (v := V.ref L) I' hN hy (.inl hyl) rfl (fun s2 I2 ⟨a, sb, ha⟩ => ?_) (.inr hyl))
  obtain ⟨f0, f1, f2, f3, f4, f5⟩ := f
  have haC : C ≠ a := by
    rcases ha with z | z
    · rw [z]; exact f1
    · exact fun e => f4 y a z e.symm
  refine ⟨m, hn.sameBut sb haC, fun h3 sb3 => ?_⟩
  exact ⟨_, H', I2.turned (t' := s2.toks) (fun b o hb e => (sb3.2 b hb).trans e) f0 f1 f3 f4 f5, q⟩
theorem sw_trueD {kx vx : Expr} {gs : List Comprehension} {scope : Scope} {pos py : Pos} {y : Str} {l : Nat} {env : Env} (hk : env.scope.kind = .function) (hy : env.scope.names.lookup y = some .local) (hl : (py.line == pos.line) = true)
    (ha : (scope.names.any fun (n, k) => n == y && (k == .local || k == .cell)) = false) : swapsWith (.DictComp kx vx gs scope pos) (some (.Name y py)) l env = pure true := by
  have ky : env.kindOf y = some .local := hy
  have hb : env.blockKind = .function := by unfold Env.blockKind; rw [hk]; rfl
  unfold swapsWith
  simp only [hb, ky, ha, Expr.pos, hl]
  rfl
end
/-- over a list or a tuple that stays -/
theorem dc_list {K : PySem.W.Frag} {a : Addr} {xs : List V} {g : TG} {tt : L2.TT} {tk tv : TE} {vs : List Nat} {σ : L2.St} {H1 : Hp} {D : Addr} {Qd : Hp → Prop} (Pv : Nat → Hp → Prop) (h0 : Pv 0 (upd H1 D (.dK []))) (hl : ∀ i H, i ≤ xs.length → Pv i H → SqL K H a xs)
    (hs : ∀ i x H, xs[i]? = some x → Pv i H → g x (wipe σ vs) H fun σ2 H2 => wipe σ2 vs = wipe σ vs ∧ tt σ2 H2 fun b H3 =>
      if b = true then tk σ2 H3 fun y H4 => tv σ2 H4 fun z H5 => ∃ kvs k, y = kV k ∧ H5 D = some (.dK kvs) ∧ kvs.length < sizeLine ∧ Pv (i + 1) (upd H5 D (.dK (putK kvs k z))) else Pv (i + 1) H3) (hd : ∀ H, Pv xs.length H → Qd H) :
    ∃ W : Nat → Nat → Hp → Prop, (∃ m, W 0 m (upd H1 D (.dK []))) ∧ ∀ i m H, W i m H →
      ((Itl K a).stop i H ∧ Qd H) ∨ ((Itl K a).go i H ∧ ∃ Nx : Hp → Prop, (∀ H', Nx H' → ∃ m', m' < m ∧ W (i + 1) m' H') ∧ ∀ x H', (Itl K a).yld i H x H' → g x (wipe σ vs) H' fun σ2 H2 => wipe σ2 vs = wipe σ vs ∧ tt σ2 H2 fun b H3 =>
        if b = true then tk σ2 H3 fun y H4 => tv σ2 H4 fun z H5 => ∃ kvs k, y = kV k ∧ H5 D = some (.dK kvs) ∧ kvs.length < sizeLine ∧ Nx (upd H5 D (.dK (putK kvs k z))) else Nx H3) := by
  refine ⟨fun i m H => m = xs.length - i ∧ i ≤ xs.length ∧ Pv i H, ⟨xs.length, by simp, Nat.zero_le _, h0⟩, ?_⟩
  rintro i m H ⟨rfl, hi, p⟩
  have q := hl i H hi p
  by_cases hlt : i < xs.length
  · refine .inr ⟨⟨xs, xs[i], q, by simp [hlt]⟩, Pv (i + 1), fun H' p' => ⟨xs.length - (i + 1), by omega, rfl, hlt, p'⟩, fun x H' y => ?_⟩
    obtain ⟨e, y⟩ := y
    subst e
    exact hs i x _ (y xs q) p
  · have e : i = xs.length := by omega
    subst e
    exact .inl ⟨⟨xs, q, Nat.le_refl _⟩, hd H p⟩
end Rx

set_option Elab.async false
set_option linter.all false
set_option maxRecDepth 100000
set_option maxHeartbeats 1000000
/-! RxDi: for over a list or a tuple; a dict comprehension over any walk -/
namespace L2
open PySem PySem.Spec PyProof.Rows Rx
section
variable {X : Cx} {tg : Expr}
def SeqIt (K : PySem.W.Frag) (H1 : Hp) (a : Addr) (R : It → Hp → Prop) : Prop := ((∃ xs, SqL K H1 a xs) ∧ R (Itl K a) H1) ∨ ((∃ xs, SqT K H1 a xs) ∧ R (Itt K a) H1)
def iSeq (K : PySem.W.Frag) (tl : TE) : TI := fun σ H R => tl σ H fun x H1 => ∃ a, x = .ref a ∧ SeqIt K H1 a R
theorem pi_seq {l : Expr} {tl : TE} (hl : PE X l tl) : PI X tg l (iSeq X.K tl) := by
  refine ⟨fun pins s σ H R I h => ?_⟩
  refine thn (hl.run pins s σ H _ I h) fun v s1 ⟨x, H1, I1, r1, q1⟩ => ?_
  obtain ⟨a, e, q1⟩ := q1
  subst e
  cases r1
  rcases q1 with ⟨⟨xs, hq⟩, q⟩ | ⟨⟨xs, hq⟩, q⟩
  · obtain ⟨its, rv, p, hz⟩ := I1.list hq
    refine wpAny_pyIter_list p.isList ?_
    refine ⟨s1.heap.objs.size, [s1.heap.objs.size], _, _, H1, rfl, I1.kept (t' := s1.toks) fun b o e => Heap.get?_push_of_some _ e, turn_list a _, ⟨_, Heap.get?_push_size _ rfl, rfl, rfl⟩, fun b hb => ?_, q⟩
    have e : b = s1.heap.objs.size := by simpa using hb
    subst e
    exact I1.fpOk (Nat.le_refl _) (I1.hok.fresh (Nat.le_refl _))
  · obtain ⟨its, rv, p, hz⟩ := I1.tuple hq
    refine wpAny_pyIter_tuple (show s1.heap.IsTuple a its.toArray from p) ?_
    refine ⟨s1.heap.objs.size, [s1.heap.objs.size], _, _, H1, rfl, I1.kept (t' := s1.toks) fun b o e => Heap.get?_push_of_some _ e, turn_tuple a _, ⟨_, Heap.get?_push_size _ rfl, rfl, rfl⟩, fun b hb => ?_, q⟩
    have e : b = s1.heap.objs.size := by simpa using hb
    subst e
    exact I1.fpOk (Nat.le_refl _) (I1.hok.fresh (Nat.le_refl _))
end
theorem dc_it {J : It} {n : Nat} {G : Hp → Prop} {Y : Nat → Hp → V → Hp → Prop} (w : Walk J n G Y) {g : TG} {tt : TT} {tk tv : TE} {vs : List Nat} {σ : St} {H1 : Hp} {D : Addr} {Qd : Hp → Prop} (Pv : Nat → Hp → Prop) (h0 : Pv 0 (upd H1 D (.dK []))) (hG : ∀ i H, i ≤ n → Pv i H → G H)
    (hs : ∀ i x H H', i < n → Pv i H → Y i H x H' → g x (wipe σ vs) H' fun σ2 H2 => wipe σ2 vs = wipe σ vs ∧ tt σ2 H2 fun b H3 =>
      if b = true then tk σ2 H3 fun y H4 => tv σ2 H4 fun z H5 => ∃ kvs k, y = kV k ∧ H5 D = some (.dK kvs) ∧ kvs.length < sizeLine ∧ Pv (i + 1) (upd H5 D (.dK (putK kvs k z))) else Pv (i + 1) H3) (hd : ∀ H, Pv n H → Qd H) :
    ∃ W : Nat → Nat → Hp → Prop, (∃ m, W 0 m (upd H1 D (.dK []))) ∧ ∀ i m H, W i m H →
      (J.stop i H ∧ Qd H) ∨ (J.go i H ∧ ∃ Nx : Hp → Prop, (∀ H', Nx H' → ∃ m', m' < m ∧ W (i + 1) m' H') ∧ ∀ x H', J.yld i H x H' → g x (wipe σ vs) H' fun σ2 H2 => wipe σ2 vs = wipe σ vs ∧ tt σ2 H2 fun b H3 =>
        if b = true then tk σ2 H3 fun y H4 => tv σ2 H4 fun z H5 => ∃ kvs k, y = kV k ∧ H5 D = some (.dK kvs) ∧ kvs.length < sizeLine ∧ Nx (upd H5 D (.dK (putK kvs k z))) else Nx H3) := by
  refine ⟨fun i m H => m = n - i ∧ i ≤ n ∧ Pv i H, ⟨n, by simp, Nat.zero_le _, h0⟩, ?_⟩
  rintro i m H ⟨rfl, hi, p⟩
  have q := hG i H hi p
  by_cases hlt : i < n
  · exact .inr ⟨w.goes i H hlt q, Pv (i + 1), fun H' p' => ⟨n - (i + 1), by omega, rfl, hlt, p'⟩, fun x H' y => hs i x H H' hlt p (w.yields i H x H' hlt q y)⟩
  · have e : i = n := by omega
    subst e
    exact .inl ⟨w.stops H q, hd H p⟩
/-- over a list or a tuple -/
theorem it_seq {K : PySem.W.Frag} {H0 H : Hp} {a : Addr} {xs : List V} {R : It → Hp → Prop} (h : SqL K H0 a xs ∨ SqT K H0 a xs) (s : Same H0 H) (k : ∀ J G, (∀ H', Same H0 H' → G H') → Walk J xs.length G (YAt xs) → R J H) :
    SeqIt K H a R := by
  rcases h with h | h
  · exact .inl ⟨⟨xs, sqL_same s h⟩, k _ (fun H => SqL K H a xs) (fun _ s => sqL_same s h) walk_list⟩
  · exact .inr ⟨⟨xs, sqT_same s h⟩, k _ (fun H => SqT K H a xs) (fun _ s => sqT_same s h) walk_tup⟩
end L2

set_option Elab.async false
set_option linter.all false
set_option maxRecDepth 100000
set_option maxHeartbeats 1000000
/-! XRg: partners_by_event, numbers_reached -/
namespace XE
open PySem PySem.Spec PyProof.Rows L2 RZ Rx SX Rc
abbrev sPartnersBy : Stmt := topS 28
abbrev sReached : Stmt := topS 33
abbrev evK (x : EvId) : List Key := [Sum.inr x.1, Sum.inl (x.2 : Nat)]
theorem evK_eq {x y : EvId} : evK x = evK y ↔ x = y := by
  constructor
  · intro h
    injection h with h1 h2
    injection h1 with h1
    injection h2 with h2 _
    injection h2 with h2
    exact Prod.ext h1 (Int.ofNat_inj.mp h2)
  · rintro rfl
    rfl
def putE (f : EvId → Option EvId) (x y : EvId) : EvId → Option EvId := fun z => if z = x then some y else f z
def partF (ms : List (EvId × EvId)) : EvId → Option EvId := ms.foldl (fun f m => putE (putE f m.1 m.2) m.2 m.1) (fun _ => none)
theorem partF_snoc (ms : List (EvId × EvId)) (m : EvId × EvId) : partF (ms ++ [m]) = putE (putE (partF ms) m.1 m.2) m.2 m.1 := by
  unfold partF
  rw [List.foldl_append]
  rfl
def PartV (H : Hp) (o : Option V) : Option EvId → Prop
  | none => o = none
  | some y => ∃ q, o = some (.ref q) ∧ IdAt H q y
structure PartAt (H : Hp) (D : Addr) (kvs : List (List Key × V)) (f : EvId → Option EvId) : Prop where
  at_ : H D = some (.dT kvs)
  val : ∀ x, PartV H (valV kvs (evK x)) (f x)
theorem PartV.keep {H H1 : Hp} {o : Option V} {y : Option EvId} (h : PartV H o y) (k : ∀ b xs, H b = some (.tup xs) → H1 b = some (.tup xs)) : PartV H1 o y := by
  cases y with
  | none => exact h
  | some y =>
    obtain ⟨q, e, h⟩ := h
    exact ⟨q, e, k _ _ h⟩
theorem PartAt.same {H H1 : Hp} {D : Addr} {kvs : List (List Key × V)} {f : EvId → Option EvId} (h : PartAt H D kvs f) (e : Same H H1) : PartAt H1 D kvs f := ⟨e _ _ h.at_, fun x => (h.val x).keep fun b xs => e b _⟩
theorem part_put {H : Hp} {D q : Addr} {kvs : List (List Key × V)} {f : EvId → Option EvId} (h : PartAt H D kvs f) {x y : EvId} (hq : IdAt H q y) : PartAt (upd H D (.dT (putK kvs (evK x) (.ref q)))) D (putK kvs (evK x) (.ref q)) (putE f x y) := by
  have tk : ∀ b xs, H b = some (.tup xs) → upd H D (.dT (putK kvs (evK x) (.ref q))) b = some (.tup xs) := fun b xs e => by
    rw [upd_ne (ne_of e h.at_ (by intro z; cases z))]
    exact e
  refine ⟨upd_same, fun z => ?_⟩
  rw [valV_put]
  unfold putE
  by_cases c : z = x
  · subst c
    rw [if_pos rfl, if_pos rfl]
    exact ⟨q, rfl, tk _ _ hq⟩
  · rw [if_neg c, if_neg fun e => c (evK_eq.mp e)]
    exact (h.val z).keep tk
theorem IdAt.key {H : Hp} {q : Addr} {x : EvId} (h : IdAt H q x) : H q = some (.tup ((evK x).map kV)) := h
def spPartners (K : PySem.W.Frag) : Sp := fun vs H Q _ => ∃ (T : Addr) (us : List V) (ms : List (EvId × EvId)), vs = [.ref T] ∧ H T = some (.tup us) ∧ MsgL H us ms ∧ ms.length ≤ 100000 ∧ ∀ (D : Addr) (kvs : List (List Key × V)) (H' : Hp), Same H H' → PartAt H' D kvs (partF ms) → Q (.ref D) H'
/-- a dict of numbers by names -/
structure NumAt (H : Hp) (D : Addr) (ns : List Str) (ex : Str → Nat) (kvs : List (Key × V)) : Prop where
  at_ : H D = some (.dK kvs)
  keys : kvs.map (·.1) = ns.map Sum.inr
  val : ∀ n ∈ ns, valV kvs (Sum.inr n) = some (.int (ex n : Nat))
def IdsL (H : Hp) (us : List V) (ids : List EvId) : Prop := Paired (fun v y => ∃ q, v = .ref q ∧ IdAt H q y) us ids
def reachF (ids : List EvId) : Str → Nat := ids.foldl (fun f x n => if n = x.1 then x.2 else f n) (fun _ => 0)
def HistAt (H : Hp) (D : Addr) (ns : List Str) (vs : List V) : Prop := H D = some (.dK (ns.zip vs |>.map fun p => (Sum.inr p.1, p.2))) ∧ ns.length = vs.length
def spReached (K : PySem.W.Frag) : Sp := fun vs H Q _ => ∃ (h e : Addr) (ns : List Str) (hs us : List V) (ids : List EvId), vs = [.ref h, .ref e] ∧ HistAt H h ns hs ∧ ns.length ≤ 40 ∧ ns.Nodup ∧ (SqL K H e us ∨ SqT K H e us) ∧ IdsL H us ids ∧ ids.length ≤ 100000 ∧ (∀ x ∈ ids, x.1 ∈ ns) ∧
  ∀ (D : Addr) (kvs : List (Key × V)) (H' : Hp), Same H H' → H D = none → NumAt H' D ns (reachF ids) kvs → Q (.ref D) H'
theorem unlock_same {H H' : Hp} {d : Addr} {od : Obj} {u : HO} (s : Same (upd H d (.frz od u)) H') (h : H d = some u) : Same H (upd H' d u) := fun b o e => by
  by_cases c : b = d
  · subst c
    rw [upd_same, ← h, e]
  · rw [upd_ne c]
    exact s _ _ (by rw [upd_ne c]; exact e)
theorem valV_names {ns : List Str} {f : Str → V} {n : Str} (h : n ∉ ns) : valV (ns.map fun n => ((Sum.inr n : Key), f n)) (Sum.inr n) = none := by
  induction ns with
  | nil => rfl
  | cons m ns ih =>
    rw [List.map_cons, valV_neg (fun z => h (by injection z with z; rw [z]; exact List.mem_cons_self ..))]
    exact ih fun z => h (List.mem_cons_of_mem _ z)
theorem valV_name {ns : List Str} {f : Str → V} {n : Str} (h : n ∈ ns) : valV (ns.map fun n => ((Sum.inr n : Key), f n)) (Sum.inr n) = some (f n) := by
  induction ns with
  | nil => cases h
  | cons m ns ih =>
    rw [List.map_cons]
    by_cases c : m = n
    · subst c
      exact valV_pos rfl
    · rw [valV_neg (fun z => c (by injection z))]
      rcases List.mem_cons.mp h with rfl | h
      · exact absurd rfl c
      · exact ih h
theorem zip_key {ns : List Str} {vs : List V} {i : Nat} {k : Key} {v : V} (h : ((ns.zip vs).map fun p => ((Sum.inr p.1 : Key), p.2))[i]? = some (k, v)) : ∃ n, ns[i]? = some n ∧ vs[i]? = some v ∧ k = Sum.inr n := by
  rw [List.getElem?_map] at h
  cases hz : (ns.zip vs)[i]? with
  | none => rw [hz] at h; cases h
  | some p =>
    rw [hz] at h
    injection h with h
    injection h with h1 h2
    obtain ⟨q1, q2⟩ := List.getElem?_zip_eq_some.mp hz
    exact ⟨p.1, q1, by rw [← h2]; exact q2, h1.symm⟩
theorem putK_keys {kvs : List (Key × V)} {k : Key} {v : V} (h : (valV kvs k).isSome = true) : (putK kvs k v).map (·.1) = kvs.map (·.1) := by
  unfold putK
  rw [valV_any, if_pos h, List.map_map]
  refine List.map_congr_left fun p _ => ?_
  show (if p.1 = k then (p.1, v) else p).1 = p.1
  split <;> rfl
theorem NumAt.put {H : Hp} {D : Addr} {ns : List Str} {ex : Str → Nat} {kvs : List (Key × V)} (h : NumAt H D ns ex kvs) {n : Str} {k : Nat} (hn : n ∈ ns) : NumAt (upd H D (.dK (putK kvs (Sum.inr n) (.int (k : Nat))))) D ns (fun m => if m = n then k else ex m) (putK kvs (Sum.inr n) (.int (k : Nat))) := by
  refine ⟨upd_same, ?_, fun m hm => ?_⟩
  · rw [putK_keys (by rw [h.val n hn]; rfl)]
    exact h.keys
  · rw [valV_put]
    by_cases c : m = n
    · subst c
      rw [if_pos rfl, if_pos rfl]
    · rw [if_neg (fun z => c (by injection z)), if_neg c]
      exact h.val m hm
theorem NumAt.few {H : Hp} {D : Addr} {ns : List Str} {ex : Str → Nat} {kvs : List (Key × V)} (h : NumAt H D ns ex kvs) : kvs.length = ns.length := by
  have := congrArg List.length h.keys
  rw [List.length_map, List.length_map] at this
  exact this
theorem reachF_snoc (ids : List EvId) (x : EvId) : reachF (ids ++ [x]) = fun m => if m = x.1 then x.2 else reachF ids m := by
  unfold reachF
  rw [List.foldl_append]
  rfl
theorem NumAt.at2 {H H1 : Hp} {D : Addr} {ns : List Str} {ex : Str → Nat} {kvs : List (Key × V)} (h : NumAt H D ns ex kvs) (e : H1 D = H D) : NumAt H1 D ns ex kvs := ⟨by rw [e]; exact h.at_, h.keys, h.val⟩
section
variable {P : Program} {w : World} {K : PySem.W.Frag} {mg : Str → Option Value} {base : Heap}
abbrev pbN : List Str := ["messages", "partners", "one", "other"]
theorem scPB : FnScope pbN ["messages"] (defScope sPartnersBy) := ⟨rfl, rfl, rfl, by decide +kernel, rfl, by decide +kernel, by decide +kernel⟩
theorem ok_partnersBy {f : Addr} {fd : FuncData} (F : Fun K "partners_by_event" "partners_by_event" sPartnersBy f fd) : FnOk P w K mg base CX0 1 f fd ["messages"] (spPartners K) := by
  refine F.ok scPB (fun vs H Q E h => ?_) (fun cdv A outer s H vs Q E hr h => ?_)
  · obtain ⟨_, _, _, rfl, _⟩ := h
    rfl
  · obtain ⟨T, us, ms, rfl, hT, hM, hml, k⟩ := h
    have hu := hu_of hr
    refine ⟨_, (pss_cons (ps_set (i := 1) scPB.nd rfl (.inl rfl) pe_dnewT) (pss_cons (ps_for PassesOwn.never rfl (pi_tup (pv 0)) (pg_tup rfl (pgs_cons (pg_name (i := 2) scPB.nd rfl (.inl rfl)) (pgs_cons (pg_name (i := 3) scPB.nd rfl (.inl rfl)) pgs_nil))) (pss_cons (ps_dput hu (pv 1) (pv 2) (pv 3) rfl) (pss_one (ps_dput hu (pv 1) (pv 3) (pv 2) rfl)))) (pss_one (ps_ret (pv 1))))), ?_⟩
    refine fun D nD => ?_
    have s0 := same_new (o := .dT []) nD
    have hlen := Paired.length hM
    refine ⟨_, rfl, T, rfl, ⟨_, SqT.of (s0 _ _ hT)⟩, ?_⟩
    refine for_tup (fun i σ Hx => ∃ (x2 x3 : Option V) (kvs : List (List Key × V)), σ = [some (.ref T), some (.ref D), x2, x3] ∧ Same H Hx ∧ PartAt Hx D kvs (partF (ms.take i)) ∧ kvs.length ≤ 2 * i) ⟨_, _, [], rfl, s0, ⟨upd_same, fun x => rfl⟩, Nat.le_refl _⟩ (fun i σ Hx _ ⟨_, _, _, _, sm, _⟩ => SqT.of (sm _ _ hT)) ?_ ?_
    · rintro i x σ Hx hx ⟨x2, x3, kvs, rfl, sm, PA, kl⟩
      have hi := (List.getElem?_eq_some_iff.mp hx).1
      obtain ⟨m, hm⟩ : ∃ m, ms[i]? = some m := ⟨ms[i]'(by omega), by simp⟩
      obtain ⟨x', hx', q, t1, t2, rfl, hq, h1, h2⟩ := paired_get hM hm
      rw [hx] at hx'
      injection hx' with hx'
      subst hx'
      refine ⟨q, _, rfl, SqT.of (sm _ _ hq), rfl, _, _, rfl, _, _, rfl, rfl, ?_⟩
      refine ⟨_, rfl, _, rfl, _, rfl, D, _, rfl, DPut.t PA.at_ (sm _ _ h1) (fitR (by omega)) (k := evK m.1), ?_⟩
      have P1 := part_put PA (x := m.1) (y := m.2) (q := t2) (sm _ _ h2)
      have s1 := same_upd (o := .dT (putK kvs (evK m.1) (.ref t2))) sm nD
      have l1 := length_putK kvs (evK m.1) (.ref t2)
      generalize putK kvs (evK m.1) (.ref t2) = kv1 at P1 s1 l1 ⊢
      generalize upd Hx D (.dT kv1) = H1 at P1 s1 ⊢
      refine ⟨_, rfl, _, rfl, _, rfl, D, _, rfl, DPut.t P1.at_ (s1 _ _ h2) (fitR (by omega)) (k := evK m.2), ?_⟩
      have P2 := part_put P1 (x := m.2) (y := m.1) (q := t1) (s1 _ _ h1)
      have l2 := length_putK kv1 (evK m.2) (.ref t1)
      refine ⟨_, _, putK kv1 (evK m.2) (.ref t1), rfl, same_upd s1 nD, ?_, ?_⟩
      · rw [List.take_add_one, hm]
        show PartAt _ _ _ (partF (_ ++ [m]))
        rw [partF_snoc]
        exact P2
      · omega
    · rintro σ Hx ⟨x2, x3, kvs, rfl, sm, PA, kl⟩
      rw [hlen, List.take_length] at PA
      exact ⟨_, rfl, k D kvs Hx sm PA⟩
abbrev nrN : List Str := ["histories", "events", "executed", "name", "number"]
theorem scNR : FnScope nrN ["histories", "events"] (defScope sReached) := ⟨rfl, rfl, rfl, by decide +kernel, rfl, by decide +kernel, by decide +kernel⟩
theorem ok_reached {f : Addr} {fd : FuncData} (F : Fun K "numbers_reached" "numbers_reached" sReached f fd) : FnOk P w K mg base CX0 1 f fd ["histories", "events"] (spReached K) := by
  refine F.ok scNR (fun vs H Q E h => ?_) (fun cdv A outer s H vs Q E hr h => ?_)
  · obtain ⟨_, _, _, _, _, _, rfl, _⟩ := h
    rfl
  · obtain ⟨hd, e, ns, hs, us, ids, rfl, hH, hnl, hnd, hE, hI, hil, hin, k⟩ := h
    have hu := hu_of hr
    refine ⟨_, (pss_cons (ps_lock (ps_setDc (i := 2) (own := [("name", 3)]) (g := gName 3) (tt := tYes) (tk := tVar 3) (tv := tC (.int 0)) rfl scNR.nd rfl rfl (sw_trueD rfl rfl rfl (by decide +kernel)) (pi_keys (pv 0)) (blkOk_by (own := [("name", 3)]) (N := nrN) (sc := defScope sReached) (by decide +kernel)) (fun _ _ _ _ _ => (pg_name (i := 3) scNR.nd rfl (Or.inl rfl))) (fun _ _ _ _ _ => pts_nil) (fun _ _ _ _ _ => (pv 3)) (fun _ _ _ _ _ => pe_int))) (pss_cons (ps_for PassesOwn.never rfl (pi_seq (pv 1)) (pg_tup rfl (pgs_cons (pg_name (i := 3) scNR.nd rfl (.inl rfl)) (pgs_cons (pg_name (i := 4) scNR.nd rfl (.inl rfl)) pgs_nil))) (pss_one (ps_dput hu (pv 2) (pv 3) (pv 4) rfl))) (pss_one (ps_ret (pv 2))))), ?_⟩
    refine ⟨hd, _, hH.1, True.intro, fun od => ⟨_, rfl, hd, od, rfl, .inl ⟨_, upd_same, fun D nD => ?_⟩⟩⟩
    generalize hu0 : HO.dK ((ns.zip hs).map fun p => ((Sum.inr p.1 : Key), p.2)) = u0
    have hHd : H hd = some u0 := by rw [← hu0]; exact hH.1
    have hlz : ((ns.zip hs).map fun p => ((Sum.inr p.1 : Key), p.2)).length = ns.length := by
      rw [List.length_map, List.length_zip, ← hH.2, Nat.min_self]
    have nDd : D ≠ hd := fun z => by rw [z, upd_same] at nD; cases nD
    have nDH : H D = none := by rw [← nD, upd_ne nDd]
    rw [← hu0]
    refine dc_it walk_keys (fun i Hy => Hy D = some (.dK ((ns.take i).map fun n => ((Sum.inr n : Key), V.int 0))) ∧ Same (upd H hd (.frz od (.dK ((ns.zip hs).map fun p => ((Sum.inr p.1 : Key), p.2))))) Hy) ⟨upd_same, same_new nD⟩ (fun i Hy _ q => q.2 _ _ upd_same) ?_ ?_
    · rintro i x Hy Hy' hi ⟨hD, sm⟩ ⟨rfl, k0, v0, hk, rfl⟩
      obtain ⟨n, hn, _, rfl⟩ := zip_key hk
      refine ⟨rfl, ?_⟩
      dsimp only [tYes]
      rw [if_pos rfl]
      have e1 : ns.take (i + 1) = ns.take i ++ [n] := by rw [List.take_add_one, hn]; rfl
      have hnn : n ∉ ns.take i := fun z => by
        rw [List.nodup_iff_pairwise_ne] at hnd
        have hnd2 := hnd.sublist (List.take_sublist (i + 1) ns)
        rw [e1] at hnd2
        exact (List.pairwise_append.mp hnd2).2.2 n z n (List.mem_singleton_self _) rfl
      refine ⟨_, rfl, _, Sum.inr n, rfl, hD, ?_, ?_, same_upd sm nD⟩
      · rw [List.length_map, List.length_take]
        exact fitR (by omega)
      · rw [putK_new _ (valV_names (f := fun _ => V.int 0) hnn), upd_same, e1, List.map_append]
        rfl
    rintro H1 ⟨hD, sm⟩
    rw [hlz, List.take_length] at hD
    refine ⟨sm _ _ upd_same, ?_⟩
    rw [hu0] at sm ⊢
    have s1 := unlock_same sm hHd
    have hD1 : upd H1 hd u0 D = _ := (upd_ne nDd).trans hD
    generalize upd H1 hd u0 = H2 at s1 hD1 ⊢
    have N0 : NumAt H2 D ns (reachF (ids.take 0)) _ := ⟨hD1, by rw [List.map_map]; rfl, fun n hn => valV_name (f := fun _ => V.int 0) hn⟩
    have hlen := Paired.length hI
    refine ⟨_, rfl, e, rfl, ?_⟩
    refine it_seq (K := K) (xs := us) hE s1 fun J G hG wk => ?_
    refine for_it wk (fun i σ Hx => ∃ (x3 x4 : Option V) (kvs : List (Key × V)), σ = [some (.ref hd), some (.ref e), some (.ref D), x3, x4] ∧ Same H Hx ∧ NumAt Hx D ns (reachF (ids.take i)) kvs) ⟨_, _, _, rfl, s1, N0⟩ (fun i σ Hx _ ⟨_, _, _, _, sm, _⟩ => hG _ sm) ?_ ?_
    · rintro i x σ Hx Hx' hi ⟨x3, x4, kvs, rfl, sm, NA⟩ ⟨rfl, hx⟩
      obtain ⟨y, hy⟩ : ∃ y, ids[i]? = some y := ⟨ids[i]'(by omega), by simp⟩
      obtain ⟨x', hx', q, rfl, hq⟩ := paired_get hI hy
      rw [hx] at hx'
      injection hx' with hx'
      subst hx'
      have hyn := hin y (List.mem_of_getElem? hy)
      refine ⟨q, _, rfl, SqT.of (sm _ _ hq), rfl, _, _, rfl, _, _, rfl, rfl, ?_⟩
      refine ⟨_, rfl, _, rfl, _, rfl, D, _, rfl, DPut.k NA.at_ (by rw [NA.few]; exact fitR (by omega)) (k := Sum.inr y.1), _, _, putK kvs (Sum.inr y.1) (.int (y.2 : Nat)), rfl, same_upd sm nDH, ?_⟩
      rw [List.take_add_one, hy]
      show NumAt _ _ _ (reachF (_ ++ [y])) _
      rw [reachF_snoc]
      exact NA.put hyn
    · rintro σ Hx ⟨x3, x4, kvs, rfl, sm, NA⟩
      rw [hlen, List.take_length] at NA
      exact ⟨_, rfl, k D kvs Hx sm nDH NA⟩
end
end XE

set_option Elab.async false
set_option linter.all false
set_option maxRecDepth 100000
set_option maxHeartbeats 1000000
/-! XRh: causes_by_event, lacking -/
namespace XE
open PySem PySem.Spec PyProof.Rows L2 RZ Rx SX Rc
abbrev sCausesBy : Stmt := topS 30
abbrev sLacking : Stmt := topS 32
def causesF (ms : List (EvId × EvId)) (x : EvId) : List EvId := (ms.filter fun m => decide (m.2 = x)).map (·.1)
theorem causesF_snoc (ms : List (EvId × EvId)) (m : EvId × EvId) (x : EvId) : causesF (ms ++ [m]) x = causesF ms x ++ (if m.2 = x then [m.1] else []) := by
  unfold causesF
  rw [List.filter_append, List.map_append]
  congr 1
  by_cases h : m.2 = x <;> simp [h]
theorem causesF_le (ms : List (EvId × EvId)) (x : EvId) : (causesF ms x).length ≤ ms.length := by
  unfold causesF
  rw [List.length_map]
  exact List.length_filter_le ..
structure CauseAt (H : Hp) (D : Addr) (ms : List (EvId × EvId)) (kvs : List (List Key × V)) : Prop where
  at_ : H D = some (.dT kvs)
  few : kvs.length ≤ ms.length
  val : ∀ x, (valV kvs (evK x) = none ∧ causesF ms x = []) ∨ ∃ L us, valV kvs (evK x) = some (.ref L) ∧ H L = some (.lst us) ∧ IdsL H us (causesF ms x)
  inj : ∀ x y L, valV kvs (evK x) = some (.ref L) → valV kvs (evK y) = some (.ref L) → x = y
theorem IdsL.keep {H H1 : Hp} {us : List V} {ids : List EvId} (h : IdsL H us ids) (k : ∀ b xs, H b = some (.tup xs) → H1 b = some (.tup xs)) : IdsL H1 us ids := paired_imp (fun _ _ ⟨q, e, h⟩ => ⟨q, e, k _ _ h⟩) h
theorem IdsL.same {H H1 : Hp} {us : List V} {ids : List EvId} (h : IdsL H us ids) (e : Same H H1) : IdsL H1 us ids := h.keep fun b xs => e b _
theorem CauseAt.same {H H1 : Hp} {D : Addr} {ms : List (EvId × EvId)} {kvs : List (List Key × V)} (h : CauseAt H D ms kvs) (e : Same H H1) : CauseAt H1 D ms kvs := by
  refine ⟨e _ _ h.at_, h.few, fun x => ?_, h.inj⟩
  rcases h.val x with h | ⟨L, us, h1, h2, h3⟩
  · exact .inl h
  · exact .inr ⟨L, us, h1, e _ _ h2, h3.same e⟩
theorem cause_step {Hs H7 : Hp} {D L T : Addr} {ms : List (EvId × EvId)} {kvs kvs' : List (List Key × V)} {us : List V} {m : EvId × EvId} (S : CauseAt Hs D ms kvs) (sm : ∀ b o, Hs b = some o → b ≠ D → H7 b = some o) (hD : H7 D = some (.dT kvs'))
    (hv : ∀ x, valV kvs' (evK x) = if x = m.2 then some (.ref L) else valV kvs (evK x)) (hl : kvs'.length ≤ ms.length + 1) (hL : H7 L = some (.lst us)) (hS : IdsL H7 us (causesF ms m.2)) (hnew : ∀ x, ¬ x = m.2 → valV kvs (evK x) ≠ some (.ref L))
    (hT : IdAt H7 T m.1) : CauseAt (upd H7 L (.lst (us ++ [.ref T]))) D (ms ++ [m]) kvs' := by
  have LD : D ≠ L := ne_of hD hL (by intro z; cases z)
  have tk : ∀ b xs, H7 b = some (.tup xs) → upd H7 L (.lst (us ++ [.ref T])) b = some (.tup xs) := fun b xs h => by
    rw [upd_ne (ne_of h hL (by intro z; cases z))]
    exact h
  refine ⟨by rw [upd_ne LD]; exact hD, by rw [List.length_append]; exact hl, fun x => ?_, fun x y L' h1 h2 => ?_⟩
  · rw [hv, causesF_snoc]
    by_cases c : x = m.2
    · subst c
      rw [if_pos rfl, if_pos rfl]
      exact .inr ⟨L, _, rfl, upd_same, paired_app (IdsL.keep hS tk) (.cons ⟨T, rfl, tk _ _ hT⟩ .nil)⟩
    · rw [if_neg c, if_neg (fun z => c z.symm), List.append_nil]
      rcases S.val x with ⟨h1, h2⟩ | ⟨L', us', h1, h2, h3⟩
      · exact .inl ⟨h1, h2⟩
      · have nd : L' ≠ D := (ne_of S.at_ h2 (by intro z; cases z)).symm
        have nl : L' ≠ L := fun z => hnew x c (by rw [h1, z])
        exact .inr ⟨L', us', h1, by rw [upd_ne nl]; exact sm _ _ h2 nd, h3.keep fun b xs hb => tk b xs (sm _ _ hb (ne_of hb S.at_ (by intro z; cases z)))⟩
  · rw [hv] at h1 h2
    by_cases c : x = m.2 <;> by_cases c' : y = m.2
    · exact c.trans c'.symm
    · rw [if_pos c] at h1
      rw [if_neg c'] at h2
      injection h1 with h1
      injection h1 with h1
      subst h1
      exact absurd h2 (hnew _ c')
    · rw [if_neg c] at h1
      rw [if_pos c'] at h2
      injection h2 with h2
      injection h2 with h2
      subst h2
      exact absurd h1 (hnew _ c)
    · rw [if_neg c] at h1
      rw [if_neg c'] at h2
      exact S.inj _ _ _ h1 h2
def spCauses (K : PySem.W.Frag) : Sp := fun vs H Q _ => ∃ (T : Addr) (us : List V) (ms : List (EvId × EvId)), vs = [.ref T] ∧ H T = some (.tup us) ∧ MsgL H us ms ∧ ms.length ≤ 100000 ∧ ∀ (D : Addr) (kvs : List (List Key × V)) (H' : Hp), Same H H' → CauseAt H' D ms kvs → Q (.ref D) H'
def lackF (ids : List EvId) (ex : Str → Nat) : List EvId := ids.filter fun x => decide (ex x.1 < x.2)
def spLacking (K : PySem.W.Frag) : Sp := fun vs H Q _ => ∃ (e D : Addr) (us : List V) (ids : List EvId) (ns : List Str) (ex : Str → Nat) (kvs : List (Key × V)), vs = [.ref e, .ref D] ∧ (SqL K H e us ∨ SqT K H e us) ∧ IdsL H us ids ∧ ids.length ≤ 100000 ∧ NumAt H D ns ex kvs ∧ (∀ x ∈ ids, x.1 ∈ ns) ∧
  ∀ (N : Addr) (zs : List V) (H' : Hp), Same H H' → H N = none → H' N = some (.lst zs) → IdsL H' zs (lackF ids ex) → Q (.ref N) H'
section
variable {P : Program} {w : World} {K : PySem.W.Frag} {mg : Str → Option Value} {base : Heap}
abbrev cbN : List Str := ["pairs", "causes", "one", "other"]
theorem scCB : FnScope cbN ["pairs"] (defScope sCausesBy) := ⟨rfl, rfl, rfl, by decide +kernel, rfl, by decide +kernel, by decide +kernel⟩
theorem ok_causesBy {f : Addr} {fd : FuncData} (F : Fun K "causes_by_event" "causes_by_event" sCausesBy f fd) : FnOk P w K mg base CX0 1 f fd ["pairs"] (spCauses K) := by
  refine F.ok scCB (fun vs H Q E h => ?_) (fun cdv A outer s H vs Q E hr h => ?_)
  · obtain ⟨_, _, _, rfl, _⟩ := h
    rfl
  · obtain ⟨T, us, ms, rfl, hT, hM, hml, k⟩ := h
    have hu := hu_of hr
    have hu2 := Nat.lt_of_le_of_lt (Nat.add_le_add_left (show 2 ≤ 64 by decide) _) hr.units
    refine ⟨_, (pss_cons (ps_set (i := 1) scCB.nd rfl (.inl rfl) pe_dnewT) (pss_cons (ps_for PassesOwn.never rfl (pi_tup (pv 0)) (pg_tup rfl (pgs_cons (pg_name (i := 2) scCB.nd rfl (.inl rfl)) (pgs_cons (pg_name (i := 3) scCB.nd rfl (.inl rfl)) pgs_nil))) (pss_one (ps_expr (pe_bm PySem.F.plainAttrs_list PySem.F.slot_list_append PySem.F.type_list_append mt_append (pe_dsetdT hu2 (pv 1) (pv 3) (pe_lst pa_nil) ⟨rfl, rfl, rfl, rfl⟩) (pa_cons (pv 2) pa_nil))))) (pss_one (ps_ret (pv 1))))), ?_⟩
    refine fun D nD => ?_
    have s0 := same_new (o := .dT []) nD
    have hlen := Paired.length hM
    refine ⟨_, rfl, T, rfl, ⟨_, SqT.of (s0 _ _ hT)⟩, ?_⟩
    refine for_tup (fun i σ Hx => ∃ (x2 x3 : Option V) (kvs : List (List Key × V)), σ = [some (.ref T), some (.ref D), x2, x3] ∧ Same H Hx ∧ CauseAt Hx D (ms.take i) kvs ∧ ∀ x L, valV kvs (evK x) = some (.ref L) → H L = none) ⟨_, _, [], rfl, s0, ⟨upd_same, Nat.le_refl _, fun x => .inl ⟨rfl, rfl⟩, fun x y L h => nomatch h⟩, fun x L h => nomatch h⟩ (fun i σ Hx _ ⟨_, _, _, _, sm, _⟩ => SqT.of (sm _ _ hT)) ?_ ?_
    · rintro i x σ Hx hx ⟨x2, x3, kvs, rfl, sm, S, nw⟩
      have hi := (List.getElem?_eq_some_iff.mp hx).1
      obtain ⟨m, hm⟩ : ∃ m, ms[i]? = some m := ⟨ms[i]'(by omega), by simp⟩
      obtain ⟨x', hx', q, t1, t2, rfl, hq, h1, h2⟩ := paired_get hM hm
      rw [hx] at hx'
      injection hx' with hx'
      subst hx'
      have e1 : ms.take (i + 1) = ms.take i ++ [m] := by rw [List.take_add_one, hm]; rfl
      have htl : (ms.take i).length ≤ 100000 := by rw [List.length_take]; omega
      rw [e1]
      refine ⟨q, _, rfl, SqT.of (sm _ _ hq), rfl, _, _, rfl, _, _, rfl, rfl, ?_⟩
      generalize ms.take i = fl at S htl
      have hD := S.at_
      refine ⟨_, rfl, D, _, rfl, hD, _, rfl, (by show 0 ≤ sizeLine; decide), fun O nO => ?_⟩
      have s4 := same_new (o := .lst []) nO
      have hO4 := upd_same (H := Hx) (a := O) (o := .lst [])
      generalize upd Hx O (.lst []) = H4 at s4 hO4 ⊢
      have S4 := S.same s4
      have hD4 := S4.at_
      have sm4 := sm.trans s4
      refine ⟨kvs, evK m.2, t2, hD4, rfl, sm4 _ _ h2, fitR (Nat.le_trans S.few (Nat.le_trans htl (by decide))), fun v' hv' => ?_, fun hv' => ?_⟩
      · obtain ⟨L, us0, hL1, hL2, hL3⟩ : ∃ L us, valV kvs (evK m.2) = some (.ref L) ∧ H4 L = some (.lst us) ∧ IdsL H4 us (causesF fl m.2) := by
          rcases S4.val m.2 with ⟨h, _⟩ | h
          · rw [h] at hv'; cases hv'
          · exact h
        rw [hL1] at hv'
        injection hv' with hv'
        subst hv'
        have nLH := nw _ _ hL1
        refine ⟨.inl ⟨rfl, _, SqL.of hL2⟩, _, rfl, L, _, _, rfl, rfl, hL2, ?_, _, _, kvs, rfl, same_upd sm4 nLH, cause_step S4 (fun b o h _ => h) hD4 (fun x => ?_) (Nat.le_succ_of_le S.few) hL2 hL3 (fun x hn hz => hn (S4.inj _ _ _ hz hL1)) (sm4 _ _ h1), nw⟩
        · rw [Paired.length hL3]
          exact fitR (Nat.le_trans (causesF_le ..) (Nat.le_trans htl (by decide)))
        · split
          · rename_i h
            rw [h, hL1]
          · rfl
      · have h0 : causesF fl m.2 = [] := by
          rcases S4.val m.2 with ⟨_, h⟩ | ⟨L, us, h, _⟩
          · exact h
          · rw [h] at hv'; cases hv'
        have nOD : O ≠ D := (ne_of hD4 hO4 (by intro z; cases z)).symm
        have hO5 : upd H4 D (.dT (putK kvs (evK m.2) (.ref O))) O = some (.lst []) := by rw [upd_ne nOD]; exact hO4
        have hD5 := upd_same (H := H4) (a := D) (o := .dT (putK kvs (evK m.2) (.ref O)))
        have e5 : ∀ b o, H4 b = some o → b ≠ D → upd H4 D (.dT (putK kvs (evK m.2) (.ref O))) b = some o := fun b o h nb => by rw [upd_ne nb]; exact h
        have sm5 := same_upd (o := .dT (putK kvs (evK m.2) (.ref O))) sm4 nD
        generalize upd H4 D (.dT (putK kvs (evK m.2) (.ref O))) = H5 at hO5 hD5 e5 sm5 ⊢
        have nLH : H O = none := sm.free nO
        have pk : ∀ x, valV (putK kvs (evK m.2) (.ref O)) (evK x) = if x = m.2 then some (.ref O) else valV kvs (evK x) := fun x => by
          rw [valV_put]
          by_cases h : x = m.2
          · rw [if_pos h, if_pos (evK_eq.mpr h)]
          · rw [if_neg h, if_neg fun z => h (evK_eq.mp z)]
        refine ⟨.inl ⟨rfl, _, SqL.of hO5⟩, _, rfl, O, _, _, rfl, rfl, hO5, (by show 0 < sizeLine; decide), _, _, putK kvs (evK m.2) (.ref O), rfl, same_upd sm5 nLH, cause_step S4 e5 hD5 pk ?_ hO5 (by rw [h0]; exact .nil) (fun x hn hz => ?_) (sm5 _ _ h1), fun x L h => ?_⟩
        · have := length_putK kvs (evK m.2) (V.ref O)
          have := S.few
          omega
        · rcases S.val x with ⟨h, _⟩ | ⟨L, us, h, hL, _⟩
          · rw [h] at hz; cases hz
          · rw [h] at hz
            injection hz with hz
            injection hz with hz
            subst hz
            rw [nO] at hL
            cases hL
        · rw [pk] at h
          split at h
          · injection h with h
            injection h with h
            subst h
            exact nLH
          · exact nw _ _ h
    · rintro σ Hx ⟨x2, x3, kvs, rfl, sm, S, _⟩
      rw [hlen, List.take_length] at S
      exact ⟨_, rfl, k D kvs Hx sm S⟩
abbrev lkN : List Str := ["events", "executed", "name", "number"]
theorem scLK : FnScope lkN ["events", "executed"] (defScope sLacking) := ⟨rfl, rfl, rfl, by decide +kernel, rfl, by decide +kernel, by decide +kernel⟩
theorem ok_lacking {f : Addr} {fd : FuncData} (F : Fun K "lacking" "lacking" sLacking f fd) : FnOk P w K mg base CX0 1 f fd ["events", "executed"] (spLacking K) := by
  refine F.ok scLK (fun vs H Q E h => ?_) (fun cdv A outer s H vs Q E hr h => ?_)
  · obtain ⟨_, _, _, _, _, _, _, rfl, _⟩ := h
    rfl
  · obtain ⟨e, D, us, ids, ns, ex, kvs, rfl, hE, hI, hil, NA, hin, k⟩ := h
    have hu := hu_of hr
    refine ⟨_, (pss_one (ps_ret (pe_lc (own := [("name", 2), ("number", 3)]) (g := gTup K 2 (gCons (gName 2) (gCons (gName 3) gNil))) (te := tTup (tCons (tVar 2) (tCons (tVar 3) tNil))) rfl scLK.nd (pi_seq (pv 0)) (blkOk_by (own := [("name", 2), ("number", 3)]) (N := lkN) (sc := defScope sLacking) (by decide +kernel)) (fun _ _ _ _ _ => (pg_tup rfl (pgs_cons (pg_name (i := 2) scLK.nd rfl (Or.inl rfl)) (pgs_cons (pg_name (i := 3) scLK.nd rfl (Or.inl rfl)) pgs_nil)))) (fun _ _ _ _ _ => pts_one (pt_cmpR op_gt (pv 3) (pe_dget hu (pv 1) (pv 2) (fun _ _ => rfl)) (nomark _))) (fun _ _ _ _ _ => (pe_tup (pa_cons (pv 2) (pa_cons (pv 3) pa_nil))))))), ?_⟩
    have hlen := Paired.length hI
    refine ⟨_, rfl, e, rfl, it_seq hE (Same.refl H) fun J G hG wk => fun N nN => ?_⟩
    refine lc_it wk (fun j Hy => Same H Hy ∧ ∃ zs, Hy N = some (.lst zs) ∧ IdsL Hy zs (lackF (ids.take j) ex) ∧ zs.length ≤ j) ⟨same_new nN, [], upd_same, .nil, Nat.le_refl _⟩ (fun j Hy _ q => hG _ q.1) ?_ ?_
    · rintro j x Hy Hy' hj ⟨sm, zs, hN, hZ, hzl⟩ ⟨rfl, hx⟩
      obtain ⟨y, hy⟩ : ∃ y, ids[j]? = some y := ⟨ids[j]'(by omega), by simp⟩
      obtain ⟨x', hx', q, rfl, hq⟩ := paired_get hI hy
      rw [hx] at hx'
      injection hx' with hx'
      subst hx'
      have hyn := hin y (List.mem_of_getElem? hy)
      have e2 : lackF (ids.take (j + 1)) ex = lackF (ids.take j) ex ++ (if ex y.1 < y.2 then [y] else []) := by
        rw [List.take_add_one, hy]
        unfold lackF
        rw [List.filter_append]
        congr 1
        by_cases h : ex y.1 < y.2 <;> simp [h]
      refine ⟨q, _, rfl, SqT.of (sm _ _ hq), rfl, _, _, rfl, _, _, rfl, rfl, rfl, ?_⟩
      have hg : DGet Hy' D (.str y.1) (some (.int (ex y.1 : Nat))) := by
        have := DGet.k (k := Sum.inr y.1) (sm _ _ NA.at_)
        rw [NA.val _ hyn] at this
        exact this
      refine ⟨_, rfl, _, rfl, _, rfl, D, _, rfl, hg, _, _, rfl, rfl, _, rfl, ?_⟩
      rw [e2]
      by_cases h : ex y.1 < y.2
      · refine iteTc (decide_eq_true (by omega)) ⟨_, rfl, _, rfl, (by show 2 ≤ sizeLine; decide), fun T nT => ?_⟩
        have s1 := same_new (o := .tup [.str y.1, .int (y.2 : Nat)]) nT
        have hT := upd_same (H := Hy') (a := T) (o := .tup [.str y.1, .int (y.2 : Nat)])
        generalize upd Hy' T (.tup [.str y.1, .int (y.2 : Nat)]) = H2 at s1 hT ⊢
        have hN2 := s1 _ _ hN
        have tk : ∀ b xs, H2 b = some (.tup xs) → upd H2 N (.lst (zs ++ [.ref T])) b = some (.tup xs) := fun b xs h => by
          rw [upd_ne (ne_of h hN2 (by intro z; cases z))]
          exact h
        refine ⟨zs, hN2, fitR (by omega), same_upd (sm.trans s1) nN, _, upd_same, ?_, by rw [List.length_append, List.length_singleton]; omega⟩
        rw [if_pos h]
        exact paired_app ((hZ.same s1).keep tk) (.cons ⟨T, rfl, tk _ _ hT⟩ .nil)
      · refine iteFc (decide_eq_false (by omega)) ⟨sm, zs, hN, ?_, by omega⟩
        rw [if_neg h, List.append_nil]
        exact hZ
    · rintro Hy ⟨sm, zs, hN, hZ, _⟩
      rw [hlen, List.take_length] at hZ
      exact k N zs Hy sm nN hN hZ
end
end XE

set_option Elab.async false
set_option linter.all false
set_option maxRecDepth 100000
set_option maxHeartbeats 1000000
/-! XRi: execution -/
namespace XE
open PySem PySem.Spec PyProof.Rows L2 RZ Rx SX Rc
abbrev sExecution : Stmt := topS 31
/-- a row of events each of which has what it needs ahead of it -/
inductive Legal (ns : List Str) (ln : Str → Nat) (cz : EvId → List EvId) : List EvId → Prop where
  | nil : Legal ns ln cz []
  | snoc {ids : List EvId} {n : Str} : Legal ns ln cz ids → n ∈ ns → reachF ids n < ln n → lackF (cz (n, reachF ids n + 1)) (reachF ids) = [] → Legal ns ln cz (ids ++ [(n, reachF ids n + 1)])
def Stuck (ln : Str → Nat) (cz : EvId → List EvId) (ids : List EvId) (n : Str) : Prop := reachF ids n < ln n → lackF (cz (n, reachF ids n + 1)) (reachF ids) ≠ []
structure ExecOk (ns : List Str) (ln : Str → Nat) (cz : EvId → List EvId) (ids : List EvId) : Prop where
  legal : Legal ns ln cz ids
  stuck : ∀ n ∈ ns, Stuck ln cz ids n
theorem sum_upd {f : Str → Nat} {n : Str} : ∀ {ns : List Str}, ns.Nodup → n ∈ ns → (ns.map fun m => if m = n then f n + 1 else f m).sum = (ns.map f).sum + 1
  | [], _, h => nomatch h
  | m :: ns, hd, h => by
    rw [List.nodup_cons] at hd
    rw [List.map_cons, List.map_cons, List.sum_cons, List.sum_cons]
    by_cases c : m = n
    · subst c
      rw [if_pos rfl]
      have : (ns.map fun k => if k = m then f m + 1 else f k) = ns.map f := List.map_congr_left fun k hk => if_neg fun z => hd.1 (by rw [← z]; exact hk)
      rw [this]
      omega
    · rw [if_neg c]
      rcases List.mem_cons.mp h with rfl | h
      · exact absurd rfl c
      · rw [sum_upd hd.2 h]
        omega
theorem sum_le {f g : Str → Nat} : ∀ {ns : List Str}, (∀ n ∈ ns, f n ≤ g n) → (ns.map f).sum ≤ (ns.map g).sum
  | [], _ => Nat.le_refl _
  | n :: ns, h => by
    rw [List.map_cons, List.map_cons, List.sum_cons, List.sum_cons]
    have h1 := h n (List.mem_cons_self ..)
    have h2 := sum_le (ns := ns) fun m hm => h m (List.mem_cons_of_mem _ hm)
    omega
theorem Legal.le {ns : List Str} {ln : Str → Nat} {cz : EvId → List EvId} {ids : List EvId} (h : Legal ns ln cz ids) : ∀ n, reachF ids n ≤ ln n := by
  induction h with
  | nil => exact fun n => Nat.zero_le _
  | snoc h hn hl _ ih =>
    intro m
    rw [reachF_snoc]
    show (if m = _ then _ else _) ≤ _
    split
    · rename_i e
      subst e
      exact hl
    · exact ih m
theorem Legal.sum {ns : List Str} {ln : Str → Nat} {cz : EvId → List EvId} {ids : List EvId} (hd : ns.Nodup) (h : Legal ns ln cz ids) : ids.length = (ns.map (reachF ids)).sum := by
  induction h with
  | nil =>
    have : ∀ l : List Str, (l.map (reachF [])).sum = 0 := fun l => by
      induction l with
      | nil => rfl
      | cons a l ih => rw [List.map_cons, List.sum_cons, ih]; rfl
    exact (this ns).symm
  | snoc h hn hl _ ih =>
    rw [reachF_snoc, List.length_append, ih]
    exact (sum_upd hd hn).symm
theorem Legal.few {ns : List Str} {ln : Str → Nat} {cz : EvId → List EvId} {ids : List EvId} (hd : ns.Nodup) (h : Legal ns ln cz ids) : ids.length ≤ (ns.map ln).sum := by
  rw [h.sum hd]
  exact sum_le fun n _ => h.le n
theorem Legal.names {ns : List Str} {ln : Str → Nat} {cz : EvId → List EvId} {ids : List EvId} (h : Legal ns ln cz ids) : ∀ x ∈ ids, x.1 ∈ ns := by
  induction h with
  | nil => exact fun _ h => nomatch h
  | snoc h hn hl _ ih =>
    intro x hx
    rcases List.mem_append.mp hx with hx | hx
    · exact ih x hx
    · rw [List.mem_singleton.mp hx]
      exact hn
/-- the histories of the processes -/
structure HistL (K : PySem.W.Frag) (H : Hp) (h : Addr) (ns : List Str) (ln : Str → Nat) (hs : List V) : Prop where
  at_ : HistAt H h ns hs
  ev : ∀ (i : Nat) (n : Str), ns[i]? = some n → ∃ b us, hs[i]? = some (.ref b) ∧ SqT K H b us ∧ us.length = ln n
  nd : ns.Nodup
  few : ns.length ≤ 40
  len : (ns.map ln).sum ≤ 40000
theorem HistL.same {K : PySem.W.Frag} {H H1 : Hp} {h : Addr} {ns : List Str} {ln : Str → Nat} {hs : List V} (hh : HistL K H h ns ln hs) (e : Same H H1) : HistL K H1 h ns ln hs := by
  refine ⟨⟨e _ _ hh.at_.1, hh.at_.2⟩, fun i n hn => ?_, hh.nd, hh.few, hh.len⟩
  obtain ⟨b, us, h1, h2, h3⟩ := hh.ev i n hn
  exact ⟨b, us, h1, sqT_same e h2, h3⟩
theorem CauseAt.keep {H H1 : Hp} {D h : Addr} {ms : List (EvId × EvId)} {kvs : List (List Key × V)} {z : List (Key × V)} (C : CauseAt H D ms kvs) (hz : H h = some (.dK z)) (k : ∀ b o, H b = some o → b ≠ h → H1 b = some o) : CauseAt H1 D ms kvs := by
  refine ⟨k _ _ C.at_ (ne_of C.at_ hz (by intro z; cases z)), C.few, fun x => ?_, C.inj⟩
  rcases C.val x with h | ⟨L, us, h1, h2, h3⟩
  · exact .inl h
  · exact .inr ⟨L, us, h1, k _ _ h2 (ne_of h2 hz (by intro z; cases z)), h3.keep fun b xs e => k _ _ e (ne_of e hz (by intro z; cases z))⟩
structure ExSt (Hb Hx : Hp) (N E : Addr) (ns : List Str) (ids : List EvId) : Prop where
  sm : Same Hb Hx
  fd : ∃ zs, Hx N = some (.lst zs) ∧ IdsL Hx zs ids
  ex : ∃ kve, NumAt Hx E ns (reachF ids) kve
def spExecution (K : PySem.W.Frag) : Sp := fun vs H Q _ => ∃ (h c : Addr) (ns : List Str) (ln : Str → Nat) (hs : List V) (ms : List (EvId × EvId)) (kvc : List (List Key × V)), vs = [.ref h, .ref c] ∧ HistL K H h ns ln hs ∧ CauseAt H c ms kvc ∧ ms.length ≤ 100000 ∧ (∀ m ∈ ms, m.1.1 ∈ ns) ∧
  ∀ (ids : List EvId) (N : Addr) (zs : List V) (H' : Hp), ExecOk ns ln (causesF ms) ids → Same H H' → H N = none → H' N = some (.lst zs) → IdsL H' zs ids → Q (.ref N) H'
theorem lock_same {H H' : Hp} {d : Addr} {o : HO} (s : Same H H') : Same (upd H d o) (upd H' d o) := fun b x e => by
  by_cases c : b = d
  · subst c
    rw [upd_same] at e ⊢
    exact e
  · rw [upd_ne c] at e ⊢
    exact s _ _ e
theorem ExSt.lock {H Hx : Hp} {N E d : Addr} {ns : List Str} {ids : List EvId} {od : Obj} {z : List (Key × V)} (S : ExSt H Hx N E ns ids) (hN : H N = none) (hE : H E = none) (hd : H d = some (.dK z)) : ExSt (upd H d (.frz od (.dK z))) (upd Hx d (.frz od (.dK z))) N E ns ids := by
  obtain ⟨sm, ⟨zs, h1, h2⟩, kve, NA⟩ := S
  have nN : N ≠ d := fun q => by rw [q, hd] at hN; cases hN
  have nE : E ≠ d := fun q => by rw [q, hd] at hE; cases hE
  have hd' := sm _ _ hd
  exact ⟨lock_same sm, ⟨zs, by rw [upd_ne nN]; exact h1, IdsL.keep h2 fun b xs e => by rw [upd_ne (ne_of e hd' (by intro z; cases z))]; exact e⟩, kve, NA.at2 (upd_ne nE)⟩
theorem ExSt.unlock {H Hx : Hp} {N E d : Addr} {ns : List Str} {ids : List EvId} {od : Obj} {z : List (Key × V)} (S : ExSt (upd H d (.frz od (.dK z))) Hx N E ns ids) (hN : H N = none) (hE : H E = none) (hd : H d = some (.dK z)) : ExSt H (upd Hx d (.dK z)) N E ns ids := by
  obtain ⟨sm, ⟨zs, h1, h2⟩, kve, NA⟩ := S
  have nN : N ≠ d := fun q => by rw [q, hd] at hN; cases hN
  have nE : E ≠ d := fun q => by rw [q, hd] at hE; cases hE
  have hd' := sm _ _ (upd_same (H := H) (a := d))
  exact ⟨unlock_same sm hd, ⟨zs, by rw [upd_ne nN]; exact h1, IdsL.keep h2 fun b xs e => by rw [upd_ne (ne_of e hd' (by intro z; cases z))]; exact e⟩, kve, NA.at2 (upd_ne nE)⟩
theorem lackF_nil {zs : List V} {H : Hp} {l : List EvId} (h : IdsL H zs l) : zs.isEmpty = l.isEmpty := by
  cases h <;> rfl
section
variable {P : Program} {w : World} {K : PySem.W.Frag} {mg : Str → Option Value} {base : Heap}
abbrev exN : List Str := ["histories", "causes", "executed", "name", "found", "before", "events", "number"]
theorem scEX : FnScope exN ["histories", "causes"] (defScope sExecution) := ⟨rfl, rfl, rfl, by decide +kernel, rfl, by decide +kernel, by decide +kernel⟩
theorem ok_execution {f fL : Addr} {fd fdL : FuncData} (F : Fun K "execution" "execution" sExecution f fd) (mlen : mg "len" = none) (CL : Cal P w K mg base 1 "lacking" fL fdL ["events", "executed"] (spLacking K)) : FnOk P w K mg base CX0 2 f fd ["histories", "causes"] (spExecution K) := by
  refine F.ok scEX (fun vs H Q E h => ?_) (fun cdv A outer s H vs Q E hr h => ?_)
  · obtain ⟨_, _, _, _, _, _, _, rfl, _⟩ := h
    rfl
  · obtain ⟨hd, c, ns, ln, hs, ms, kvc, rfl, HL, CA, hml, hin, k⟩ := h
    have hu := hu_of hr
    have hr1 : Room 1 _ := hr
    refine ⟨_, (pss_cons (ps_lock (ps_setDc (i := 2) (own := [("name", 3)]) (g := gName 3) (tt := tYes) (tk := tVar 3) (tv := tC (.int 0)) rfl scEX.nd rfl rfl (sw_trueD rfl rfl rfl (by decide +kernel)) (pi_keys (pv 0)) (blkOk_by (own := [("name", 3)]) (N := exN) (sc := defScope sExecution) (by decide +kernel)) (fun _ _ _ _ _ => (pg_name (i := 3) scEX.nd rfl (Or.inl rfl))) (fun _ _ _ _ _ => pts_nil) (fun _ _ _ _ _ => (pv 3)) (fun _ _ _ _ _ => pe_int))) (pss_cons (ps_set (i := 4) scEX.nd rfl (.inl rfl) (pe_lst pa_nil)) (pss_cons (ps_set (i := 5) scEX.nd rfl (.inl rfl) (pe_un un_neg pe_int)) (pss_cons (ps_while PassesOwn.never (pt_cmpR op_gt (pe_callB call_len_seq (by rfl) mlen PySem.boot_len (pa_cons (pv 4) pa_nil)) (pv 5) (nomark _)) (pss_cons (ps_set (i := 5) scEX.nd rfl (.inl rfl) (pe_callB call_len_seq (by rfl) mlen PySem.boot_len (pa_cons (pv 4) pa_nil))) (pss_one (ps_lock (ps_for PassesOwn.never rfl (pi_items (pv 0)) (pg_tup rfl (pgs_cons (pg_name (i := 3) scEX.nd rfl (.inl rfl)) (pgs_cons (pg_name (i := 6) scEX.nd rfl (.inl rfl)) pgs_nil))) (pss_cons (ps_set (i := 7) scEX.nd rfl (.inl rfl) (pe_op op_add (pe_dget hu (pv 2) (pv 3) (fun _ _ => rfl)) pe_int)) (pss_one (ps_while PassesOwn.never (PW.pt (pw_and (pt_cmpR op_le (pv 7) (pe_callB call_len_seq (by rfl) mlen PySem.boot_len (pa_cons (pv 6) pa_nil)) (nomark _)) (pw_and1 (pt_not (pt_truth (pe_call CL.ok hr1 rfl CL.mg CL.kp CL.bi .nil pass0 (pa_cons (pe_dget2 hu (pv 1) (pe_tup (pa_cons (pv 3) (pa_cons (pv 7) pa_nil))) (pe_tup pa_nil) ⟨rfl, rfl, rfl, rfl⟩) (pa_cons (pv 2) pa_nil))) (by intro _; rfl)))))) (pss_cons (ps_expr (pe_bm PySem.F.plainAttrs_list PySem.F.slot_list_append PySem.F.type_list_append mt_append (pv 4) (pa_cons (pe_tup (pa_cons (pv 3) (pa_cons (pv 7) pa_nil))) pa_nil))) (pss_cons (ps_dput hu (pv 2) (pv 3) (pv 7) rfl) (pss_one (ps_aug (i := 7) scEX.nd rfl (.inl rfl) pe_int iop_add)))))))))))) (pss_one (ps_ret (pv 4))))))), ?_⟩
    refine ⟨hd, _, HL.at_.1, True.intro, fun od => ⟨_, rfl, hd, od, rfl, .inl ⟨_, upd_same, fun D nD => ?_⟩⟩⟩
    generalize hu0 : HO.dK ((ns.zip hs).map fun p => ((Sum.inr p.1 : Key), p.2)) = u0
    have hHd : H hd = some u0 := by rw [← hu0]; exact HL.at_.1
    have hlz : ((ns.zip hs).map fun p => ((Sum.inr p.1 : Key), p.2)).length = ns.length := by
      rw [List.length_map, List.length_zip, ← HL.at_.2, Nat.min_self]
    have nDd : D ≠ hd := fun z => by rw [z, upd_same] at nD; cases nD
    have nDH : H D = none := by rw [← nD, upd_ne nDd]
    rw [← hu0]
    refine dc_it walk_keys (fun i Hy => Hy D = some (.dK ((ns.take i).map fun n => ((Sum.inr n : Key), V.int 0))) ∧ Same (upd H hd (.frz od (.dK ((ns.zip hs).map fun p => ((Sum.inr p.1 : Key), p.2))))) Hy) ⟨upd_same, same_new nD⟩ (fun i Hy _ q => q.2 _ _ upd_same) ?_ ?_
    · rintro i x Hy Hy' hi ⟨hD, sm⟩ ⟨rfl, k0, v0, hk, rfl⟩
      obtain ⟨n, hn, _, rfl⟩ := zip_key hk
      refine ⟨rfl, ?_⟩
      dsimp only [tYes]
      rw [if_pos rfl]
      have e1 : ns.take (i + 1) = ns.take i ++ [n] := by rw [List.take_add_one, hn]; rfl
      have hnn : n ∉ ns.take i := fun z => by
        have hnd1 := List.nodup_iff_pairwise_ne.mp HL.nd
        have hnd2 := hnd1.sublist (List.take_sublist (i + 1) ns)
        rw [e1] at hnd2
        exact (List.pairwise_append.mp hnd2).2.2 n z n (List.mem_singleton_self _) rfl
      refine ⟨_, rfl, _, Sum.inr n, rfl, hD, ?_, ?_, same_upd sm nD⟩
      · rw [List.length_map, List.length_take]
        have := HL.few
        exact fitR (by omega)
      · rw [putK_new _ (valV_names (f := fun _ => V.int 0) hnn), upd_same, e1, List.map_append]
        rfl
    rintro H1 ⟨hD, sm⟩
    rw [hlz, List.take_length] at hD
    refine ⟨sm _ _ upd_same, ?_⟩
    rw [hu0] at sm ⊢
    have s1 := unlock_same sm hHd
    have hD1 : upd H1 hd u0 D = _ := (upd_ne nDd).trans hD
    generalize upd H1 hd u0 = H2 at s1 hD1 ⊢
    have N0 : NumAt H2 D ns (reachF []) _ := ⟨hD1, by rw [List.map_map]; rfl, fun n hn => valV_name (f := fun _ => V.int 0) hn⟩
    clear hD1 hD sm
    refine ⟨by show 0 ≤ sizeLine; exact Nat.zero_le _, fun N nN => ?_⟩
    have nNH : H N = none := s1.free nN
    have s3 := s1.trans (same_new (o := .lst []) nN)
    have hN3 := upd_same (H := H2) (a := N) (o := .lst [])
    have nDN : D ≠ N := ne_of_none N0.at_ nN
    have N3 : NumAt (upd H2 N (.lst [])) D ns (reachF []) _ := N0.at2 (upd_ne nDN)
    generalize upd H2 N (.lst []) = H3 at s3 hN3 N3 ⊢
    have hcs : ∀ x, ∀ y ∈ causesF ms x, y.1 ∈ ns := fun x y hy => by
      obtain ⟨m, hm, rfl⟩ := List.mem_map.mp hy
      exact hin m (List.mem_filter.mp hm).1
    refine ⟨_, rfl, ?_⟩
    refine ⟨fun m σ Hx => ∃ (x3 x6 x7 : Option V) (bf : Int) (ids : List EvId), σ = [some (.ref hd), some (.ref c), some (.ref D), x3, some (.ref N), some (.int bf), x6, x7] ∧ ExSt H Hx N D ns ids ∧ Legal ns ln (causesF ms) ids ∧ -1 ≤ bf ∧ bf ≤ ids.length ∧ ((ids.length : Int) = bf → ∀ n ∈ ns, Stuck ln (causesF ms) ids n) ∧ m = (40001 - bf).toNat,
      ⟨_, _, _, _, -1, [], rfl, ⟨s3, ⟨[], hN3, .nil⟩, _, N3⟩, .nil, by omega, by simp, fun z => by simp at z, rfl⟩, ?_⟩
    rintro m σ Hx ⟨x3, x6, x7, bf, ids, rfl, ST, LG, b0, b1, st, rfl⟩
    have ST0 := ST
    obtain ⟨sm, ⟨zs, hzN, hzI⟩, kve, NA⟩ := ST
    have hzl := Paired.length hzI
    refine ⟨_, rfl, N, zs, rfl, .inl (SqL.of hzN), _, rfl, _, _, rfl, rfl, _, rfl, ?_⟩
    have hfew := Nat.le_trans (LG.few HL.nd) HL.len
    by_cases hlt : bf < zs.length
    · refine iteTc (decide_eq_true hlt) ⟨_, fun _ _ h => h, ?_⟩
      refine ⟨_, rfl, N, zs, rfl, .inl (SqL.of hzN), ?_⟩
      rw [hzl]
      refine ⟨hd, u0, sm _ _ hHd, by rw [← hu0]; exact True.intro, fun od2 => ?_⟩
      have ST1 := ST0.lock (od := od2) nNH nDH HL.at_.1
      rw [hu0] at ST1
      have hl0 : upd H hd (.frz od2 u0) hd = some (.frz od2 u0) := upd_same
      have kp : ∀ b o, H b = some o → b ≠ hd → upd H hd (.frz od2 u0) b = some o := fun b o e n => by rw [upd_ne n]; exact e
      have CA1 := CA.keep (h := hd) HL.at_.1 kp
      have EV1 : ∀ (i : Nat) (n : Str), ns[i]? = some n → ∃ b us, hs[i]? = some (.ref b) ∧ SqT K (upd H hd (.frz od2 u0)) b us ∧ us.length = ln n := fun i n hn => by
        obtain ⟨b, us, q1, q2, q3⟩ := HL.ev i n hn
        exact ⟨b, us, q1, sqT_keep (fun b xs e => kp b _ e (ne_of e HL.at_.1 (by intro z; cases z))) (fun b o u e => kp b _ e (ne_of e HL.at_.1 (by intro z; cases z))) q2, q3⟩
      have nNL : upd H hd (.frz od2 u0) N = none := by rw [upd_ne (fun q => by rw [q, hHd] at nNH; cases nNH)]; exact nNH
      have nDL : upd H hd (.frz od2 u0) D = none := by rw [upd_ne nDd]; exact nDH
      have hHx : upd Hx hd (.frz od2 u0) hd = some (.frz od2 u0) := upd_same
      have fin : ∀ (σ' : L2.St) (Hy : Hp), (∃ (x3 x6 x7 : Option V) (ids' : List EvId), σ' = [some (.ref hd), some (.ref c), some (.ref D), x3, some (.ref N), some (.int (ids.length : Nat)), x6, x7] ∧ ExSt (upd H hd (.frz od2 u0)) Hy N D ns ids' ∧ Legal ns ln (causesF ms) ids' ∧ ids.length ≤ ids'.length ∧ (ids'.length = ids.length → ids' = ids ∧ ∀ n ∈ ns.take ns.length, Stuck ln (causesF ms) ids n)) →
          Hy hd = some (.frz od2 u0) ∧ ∃ m', m' < (40001 - bf).toNat ∧ ∃ (x3 x6 x7 : Option V) (bf : Int) (ids : List EvId), σ' = [some (.ref hd), some (.ref c), some (.ref D), x3, some (.ref N), some (.int bf), x6, x7] ∧ ExSt H (upd Hy hd u0) N D ns ids ∧ Legal ns ln (causesF ms) ids ∧ -1 ≤ bf ∧ bf ≤ ids.length ∧ ((ids.length : Int) = bf → ∀ n ∈ ns, Stuck ln (causesF ms) ids n) ∧ m' = (40001 - bf).toNat := fun σ' Hy ⟨x3, x6, x7, ids', e, S, L, l1, l2⟩ => by
        have S2 := (hu0 ▸ S).unlock (z := (ns.zip hs).map fun (p : Str × V) => ((Sum.inr p.1 : Key), p.2)) nNH nDH HL.at_.1
        rw [hu0] at S2
        refine ⟨S.sm _ _ hl0, _, ?_, x3, x6, x7, ids.length, ids', e, S2, L, by omega, by omega, fun z n hn => ?_, rfl⟩
        · omega
        · obtain ⟨rfl, q⟩ := l2 (by omega)
          exact q n (by rw [List.take_length]; exact hn)
      generalize upd Hx hd (.frz od2 u0) = Hy0 at ST1 hHx ⊢
      generalize upd H hd (.frz od2 u0) = HL0 at ST1 hl0 CA1 EV1 nNL nDL fin
      refine ⟨_, rfl, hd, od2, (ns.zip hs).map fun p => ((Sum.inr p.1 : Key), p.2), rfl, by rw [hu0]; exact hHx, ?_⟩
      refine for_it walk_items (fun i σ Hy => ∃ (x3 x6 x7 : Option V) (ids' : List EvId), σ = [some (.ref hd), some (.ref c), some (.ref D), x3, some (.ref N), some (.int (ids.length : Nat)), x6, x7] ∧ ExSt HL0 Hy N D ns ids' ∧ Legal ns ln (causesF ms) ids' ∧ ids.length ≤ ids'.length ∧ (ids'.length = ids.length → ids' = ids ∧ ∀ n ∈ ns.take i, Stuck ln (causesF ms) ids n))
        ⟨_, _, _, ids, rfl, ST1, LG, Nat.le_refl _, fun _ => ⟨rfl, fun n h => nomatch h⟩⟩ (fun i σ Hy _ ⟨_, _, _, _, _, S, _⟩ => by rw [hu0]; exact S.sm _ _ hl0) ?_ (fun σ' Hy q => fin σ' Hy (by rw [← hlz]; exact q))
      rintro i x σ Hy Hy' hi ⟨x3, x6, x7, ids1, rfl, S1, L1, l1, l2⟩ ⟨T, y1, y2, rfl, nT, rfl, e1, e2⟩
      dsimp only at e1 e2
      cases hkv : ((ns.zip hs).map fun (p : Str × V) => ((Sum.inr p.1 : Key), p.2))[i]? with
      | none => rw [hkv] at e1; cases e1
      | some kv =>
      obtain ⟨k0, v0⟩ := kv
      obtain ⟨n, hn, hv, rfl⟩ := zip_key hkv
      rw [hkv] at e1 e2
      obtain ⟨b, us, hb, hbu, hul⟩ := EV1 i n hn
      rw [hv] at hb
      injection hb with hb
      subst hb
      injection e1 with e1
      injection e2 with e2
      subst e1 e2
      have hnm := List.mem_of_getElem? hn
      have sT := same_new (o := .tup [.str n, .ref b]) nT
      have hT := upd_same (H := Hy) (a := T) (o := .tup [.str n, .ref b])
      have ST3 : ExSt HL0 (upd Hy T (.tup [.str n, .ref b])) N D ns ids1 := by
        obtain ⟨q1, ⟨zs, q2, q3⟩, kve, q4⟩ := S1
        exact ⟨q1.trans sT, ⟨zs, sT _ _ q2, IdsL.same q3 sT⟩, kve, q4.at2 (by rw [sT _ _ q4.at_, q4.at_])⟩
      show gTup _ _ _ (V.ref T) _ (upd Hy T (.tup [.str n, .ref b])) _
      generalize upd Hy T (.tup [.str n, .ref b]) = Hz at ST3 hT ⊢
      have ST4 := ST3
      obtain ⟨smz, _, kve1, NA1⟩ := ST4
      have hg : ∀ {Hw : Hp} {kve : List (Key × V)} {ids : List EvId}, NumAt Hw D ns (reachF ids) kve → DGet Hw D (.str n) (some (.int (reachF ids n : Nat))) := fun NA => by
        have := DGet.k (k := Sum.inr n) NA.at_
        rw [NA.val _ hnm] at this
        exact this
      refine ⟨T, _, rfl, SqT.of hT, rfl, _, _, rfl, _, _, rfl, rfl, ?_⟩
      refine ⟨_, rfl, _, rfl, D, _, rfl, hg NA1, _, _, rfl, rfl, ?_⟩
      refine ⟨fun m σ Hw => ∃ (ids' : List EvId), σ = [some (.ref hd), some (.ref c), some (.ref D), some (.str n), some (.ref N), some (.int (ids.length : Nat)), some (.ref b), some (.int ((reachF ids' n : Nat) + 1))] ∧ ExSt HL0 Hw N D ns ids' ∧ Legal ns ln (causesF ms) ids' ∧ ids1.length ≤ ids'.length ∧ (ids'.length = ids1.length → ids' = ids1) ∧ m = ln n - reachF ids' n,
        ⟨_, ids1, rfl, ST3, L1, Nat.le_refl _, fun _ => rfl, rfl⟩, ?_⟩
      rintro m σ Hw ⟨ids', rfl, S2, L2', q1, q2, rfl⟩
      have S2' := S2
      obtain ⟨smw, ⟨zs, hzN2, hzI2⟩, kve, NA2⟩ := S2
      refine ⟨_, rfl, _, rfl, b, us, rfl, .inr (sqT_same smw hbu), _, _, rfl, rfl, _, rfl, ?_⟩
      rw [hul]
      have out : (ln n ≤ reachF ids' n ∨ lackF (causesF ms (n, reachF ids' n + 1)) (reachF ids') ≠ []) → ∀ Hv, ExSt HL0 Hv N D ns ids' → ∃ (x3 x6 x7 : Option V) (ids'' : List EvId), [some (V.ref hd), some (.ref c), some (.ref D), some (.str n), some (.ref N), some (.int (ids.length : Nat)), some (.ref b), some (.int ((reachF ids' n : Nat) + 1))] = [some (.ref hd), some (.ref c), some (.ref D), x3, some (.ref N), some (.int (ids.length : Nat)), x6, x7] ∧ ExSt HL0 Hv N D ns ids'' ∧ Legal ns ln (causesF ms) ids'' ∧ ids.length ≤ ids''.length ∧ (ids''.length = ids.length → ids'' = ids ∧ ∀ n ∈ ns.take (i + 1), Stuck ln (causesF ms) ids n) := fun hs Hv SV => by
        refine ⟨_, _, _, ids', rfl, SV, L2', by omega, fun z => ?_⟩
        have z1 := q2 (by omega)
        subst z1
        obtain ⟨rfl, z2⟩ := l2 z
        refine ⟨rfl, fun m hm => ?_⟩
        rw [List.take_add_one, hn] at hm
        rcases List.mem_append.mp hm with hm | hm
        · exact z2 m hm
        · rw [show m = n by simpa using hm]
          intro hlt
          rcases hs with hs | hs
          · omega
          · exact hs
      by_cases hle : reachF ids' n < ln n
      · refine iteTc (decide_eq_true (by omega)) ?_
        refine ⟨_, rfl, c, rfl, .inr ⟨_, .inl (smw _ _ CA1.at_)⟩, _, rfl, _, rfl, (by show 2 ≤ sizeLine; decide), fun U nU => ⟨(by show 0 ≤ sizeLine; decide), fun E0 nE => ?_⟩⟩
        have sU := (same_new (o := .tup [.str n, .int ((reachF ids' n : Nat) + 1)]) nU).trans (same_new (o := .tup []) nE)
        have hU0 : upd Hw U (.tup [.str n, .int ((reachF ids' n : Nat) + 1)]) U = some (.tup ((evK (n, reachF ids' n + 1)).map kV)) := upd_same
        have hU := same_new (o := .tup []) nE _ _ hU0
        have hE0 := upd_same (H := upd Hw U (.tup [.str n, .int ((reachF ids' n : Nat) + 1)])) (a := E0) (o := .tup [])
        generalize upd (upd Hw U (.tup [.str n, .int ((reachF ids' n : Nat) + 1)])) E0 (.tup []) = Hv at sU hU hE0 ⊢
        have CAv := CA1.same (smw.trans sU)
        refine ⟨_, DGet.t CAv.at_ hU, ?_⟩
        obtain ⟨L, us0, hLv, hLs, hSL⟩ : ∃ L us0, (valV kvc (evK (n, reachF ids' n + 1))).getD (.ref E0) = .ref L ∧ (SqL K Hv L us0 ∨ SqT K Hv L us0) ∧ IdsL Hv us0 (causesF ms (n, reachF ids' n + 1)) := by
          rcases CAv.val (n, reachF ids' n + 1) with ⟨h1, h2⟩ | ⟨L, us0, h1, h2, h3⟩
          · exact ⟨E0, [], by rw [h1]; rfl, .inr (SqT.of hE0), by rw [h2]; exact .nil⟩
          · exact ⟨L, us0, by rw [h1]; rfl, .inl (SqL.of h2), h3⟩
        rw [hLv]
        have NAv := NA2.at2 (H1 := Hv) (by rw [sU _ _ NA2.at_, NA2.at_])
        refine ⟨_, rfl, L, D, us0, _, ns, _, kve, rfl, hLs, hSL, Nat.le_trans (causesF_le ..) hml, NAv, hcs _, fun NN zz H4 s4 nNN hNN hZZ => ?_⟩
        refine ⟨_, .inl ⟨_, SqL.of hNN, rfl⟩, ?_⟩
        rw [lackF_nil hZZ]
        have s24 := sU.trans s4
        have S4 : ExSt HL0 H4 N D ns ids' := ⟨smw.trans s24, ⟨zs, s24 _ _ hzN2, IdsL.same hzI2 s24⟩, kve, NA2.at2 (by rw [s24 _ _ NA2.at_, NA2.at_])⟩
        cases hlk : (lackF (causesF ms (n, reachF ids' n + 1)) (reachF ids')).isEmpty with
        | false =>
          refine iteFc rfl (out (.inr fun z => ?_) _ S4)
          rw [z] at hlk
          cases hlk
        | true =>
          refine iteTc rfl ⟨_, fun _ _ h => h, ?_⟩
          have hl0' := List.isEmpty_iff.mp hlk
          refine ⟨_, rfl, .inl ⟨rfl, _, SqL.of (s24 _ _ hzN2)⟩, _, rfl, _, rfl, (by show 2 ≤ sizeLine; decide), fun T2 nT2 => ?_⟩
          have s5 := same_new (o := .tup [.str n, .int ((reachF ids' n : Nat) + 1)]) nT2
          have hT5 : upd H4 T2 (.tup [.str n, .int ((reachF ids' n : Nat) + 1)]) T2 = some (.tup [.str n, .int ((reachF ids' n + 1 : Nat) : Int)]) := upd_same
          generalize upd H4 T2 (.tup [.str n, .int ((reachF ids' n : Nat) + 1)]) = H5 at s5 hT5 ⊢
          have s25 := s24.trans s5
          have hN5 := s25 _ _ hzN2
          have hI5 := IdsL.same hzI2 s25
          have NA5 := NA2.at2 (H1 := H5) (by rw [s25 _ _ NA2.at_, NA2.at_])
          have nDN' : D ≠ N := ne_of NA5.at_ hN5 (by intro z; cases z)
          have lz : ids'.length ≤ 40000 := Nat.le_trans (L2'.few HL.nd) HL.len
          refine ⟨N, _, _, rfl, rfl, hN5, (by rw [Paired.length hzI2]; exact fitR (by omega)), ?_⟩
          have NA6 := NA5.at2 (H1 := upd H5 N (.lst (zs ++ [.ref T2]))) (upd_ne nDN')
          have tk : ∀ b xs, H5 b = some (.tup xs) → upd H5 N (.lst (zs ++ [.ref T2])) b = some (.tup xs) := fun b xs h => by
            rw [upd_ne (ne_of h hN5 (by intro z; cases z))]
            exact h
          refine ⟨_, rfl, _, rfl, _, rfl, D, _, rfl, DPut.k NA6.at_ (by rw [NA6.few]; exact fitR (by have := HL.few; omega)) (k := Sum.inr n), ?_⟩
          refine ⟨_, rfl, _, _, rfl, rfl, _, ?_, ids' ++ [(n, reachF ids' n + 1)], ?_, ⟨same_upd (same_upd (smw.trans s25) nNL) nDL, ⟨zs ++ [.ref T2], ?_, ?_⟩, putK kve (Sum.inr n) (.int ((reachF ids' n + 1 : Nat) : Int)), ?_⟩, .snoc L2' hnm hle hl0', ?_, ?_, rfl⟩
          · rw [reachF_snoc]
            show ln n - (if n = n then _ else _) < _
            rw [if_pos rfl]
            show ln n - (reachF ids' n + 1) < _
            omega
          · rw [reachF_snoc]
            show _ = [_, _, _, _, _, _, _, some (V.int (((if n = n then reachF ids' n + 1 else reachF ids' n : Nat) : Int) + 1))]
            rw [if_pos rfl]
            rfl
          · rw [upd_ne nDN'.symm, upd_same]
          · refine paired_app (IdsL.keep hI5 fun b xs h => ?_) (.cons ⟨T2, rfl, ?_⟩ .nil)
            · rw [upd_ne (ne_of (tk _ _ h) NA6.at_ (by intro z; cases z))]
              exact tk _ _ h
            · show upd (upd _ _ _) _ _ T2 = _
              rw [upd_ne (ne_of (tk _ _ hT5) NA6.at_ (by intro z; cases z))]
              exact tk _ _ hT5
          · rw [reachF_snoc]
            exact NA6.put hnm
          · rw [List.length_append]
            omega
          · intro z
            rw [List.length_append, List.length_singleton] at z
            omega
      · refine iteFc (decide_eq_false (by omega)) ?_
        refine iteFc rfl (out (.inl (by omega)) _ S2')
    · refine iteFc (decide_eq_false hlt) ⟨_, rfl, k ids N zs Hx ⟨LG, st (by omega)⟩ sm nNH hzN hzI⟩
end
end XE

set_option Elab.async false
set_option linter.all false
set_option maxRecDepth 100000
set_option maxHeartbeats 1000000
/-! XRj: check_order -/
namespace XE
open PySem PySem.Spec PyProof.Rows L2 RZ Rx SX Rc
abbrev sCheckOrder : Stmt := topS 29
/-- an error, while one object may be otherwise -/
def RecAtX (CR : Addr) (H : Hp) (d : Addr) (r : Str) (v : V) (n : Nat) (E : XK) : Prop := ∀ (H' : Hp) (dx : Addr), (∀ b o, H b = some o → b ≠ d → H' b = some o) → H dx = none → H' dx = some (.xd [("number", .int (n : Nat)), ("name", v), ("reason", .str r)]) → E (.ref CR) (some dx) H'
theorem RecAtX.to {CR d : Addr} {H H1 : Hp} {r : Str} {v : V} {n : Nat} {E : XK} (h : RecAtX CR H d r v n E) (k : ∀ b o, H b = some o → b ≠ d → H1 b = some o) (hd : H1 d ≠ none) : RecAt CR H1 r v n E := fun H' dx sm hx hxx => by
  refine h H' dx (fun b o e n => sm _ _ (k b o e n)) ?_ hxx
  cases q : H dx with
  | none => rfl
  | some o =>
    by_cases c : dx = d
    · subst c
      exact absurd hx hd
    · rw [k _ _ q c] at hx
      cases hx
theorem RecAtX.to2 {CR d e : Addr} {H H1 : Hp} {r : Str} {v : V} {n : Nat} {E : XK} (h : RecAtX CR H d r v n E) (k : ∀ b o, H b = some o → b ≠ d → H1 b = some o) (hd : H1 d ≠ none) (he : H e = none) : RecAtX CR H1 e r v n (fun c o H' => (∀ b o, H1 b = some o → b ≠ e → H' b = some o) → E c o H') := fun H' dx sm hx hxx z => by
  refine h H' dx (fun b o q n => sm _ _ (k b o q n) fun z => ?_) ?_ hxx
  · subst z
    rw [he] at q
    cases q
  · cases q : H dx with
    | none => rfl
    | some o =>
      by_cases c : dx = d
      · subst c
        exact absurd hx hd
      · rw [k _ _ q c] at hx
        cases hx
def orderF (ns : List Str) (ln ex : Str → Nat) : Option Str := ns.find? fun n => decide (ex n < ln n)
def spOrder (K : PySem.W.Frag) (CR : Addr) : Sp := fun vs H Q E => ∃ (h T : Addr) (ns : List Str) (ln : Str → Nat) (hs us : List V) (ms : List (EvId × EvId)), vs = [.ref h, .ref T] ∧ HistL K H h ns ln hs ∧ H T = some (.tup us) ∧ MsgL H us ms ∧ ms.length ≤ 100000 ∧ (∀ m ∈ ms, m.1.1 ∈ ns) ∧
  ∀ ids, ExecOk ns ln (causesF ms) ids → (orderF ns ln (reachF ids) = none → ∀ H', Same H H' → Q .non H') ∧ ∀ n, orderF ns ln (reachF ids) = some n → RecAtX CR H h "order" (.str n) (reachF ids n + 1) E
section
variable {P : Program} {w : World} {K : PySem.W.Frag} {mg : Str → Option Value} {base : Heap} {CR : Addr}
abbrev coN : List Str := ["histories", "messages", "executed", "name", "events"]
theorem scCO : FnScope coN ["histories", "messages"] (defScope sCheckOrder) := ⟨rfl, rfl, rfl, by decide +kernel, rfl, by decide +kernel, by decide +kernel⟩
theorem ok_checkOrder {f fC fX fN : Addr} {fd fdC fdX fdN : FuncData} (F : Fun K "check_order" "check_order" sCheckOrder f fd) (mlen : mg "len" = none) (TR : RaiT P w K mg base "BadRecord" CR ["reason", "name", "number"])
    (CC : Cal P w K mg base 1 "causes_by_event" fC fdC ["pairs"] (spCauses K)) (CX : Cal P w K mg base 2 "execution" fX fdX ["histories", "causes"] (spExecution K)) (CN : Cal P w K mg base 1 "numbers_reached" fN fdN ["histories", "events"] (spReached K)) : FnOk P w K mg base (L2.CX P w) 4 f fd ["histories", "messages"] (spOrder K CR) := by
  obtain ⟨fR, fdR, iR, tR, FR, bR⟩ := TR.ini
  refine F.okX scCO (fun vs H Q E h => ?_) (fun cdv A outer s H vs Q E hr h => ?_)
  · obtain ⟨_, _, _, _, _, _, _, rfl, _⟩ := h
    rfl
  · obtain ⟨hd, T, ns, ln, hs, us, ms, rfl, HL, hT, hM, hml, hin, k⟩ := h
    have hu := hu_of hr
    have hr1 : Room 1 _ := hr.mono (by decide)
    have hr2 : Room 2 _ := hr.mono (by decide)
    have hrR : Room 3 _ := hr.mono (by decide)
    refine ⟨_, (pss_cons (ps_set (i := 2) scCO.nd rfl (.inl rfl) (pe_call CN.ok hr1 rfl CN.mg CN.kp CN.bi .nil pass0 (pa_cons (pv 0) (pa_cons (pe_call CX.ok hr2 rfl CX.mg CX.kp CX.bi .nil pass0 (pa_cons (pv 0) (pa_cons (pe_call CC.ok hr1 rfl CC.mg CC.kp CC.bi .nil pass0 (pa_cons (pv 1) pa_nil)) pa_nil))) pa_nil)))) (pss_one (ps_lock (ps_for (passes_of rfl) rfl (pi_items (pv 0)) (pg_tup rfl (pgs_cons (pg_name (i := 3) scCO.nd rfl (.inl rfl)) (pgs_cons (pg_name (i := 4) scCO.nd rfl (.inl rfl)) pgs_nil))) (pss_one (ps_if (pt_cmpR op_lt (pe_dget hu (pv 2) (pv 3) (fun _ _ => rfl)) (pe_callB call_len_seq (by rfl) mlen PySem.boot_len (pa_cons (pv 4) pa_nil)) (nomark _)) (pss_one (ps_raise rfl (takes_of rfl rfl rfl rfl) (pmk_oex TR.oex iR tR FR hrR bR .nil pass0 rfl TR.mgx (pa_cons pe_str (pa_cons (pv 3) (pa_cons (pe_op op_add (pe_dget hu (pv 2) (pv 3) (fun _ _ => rfl)) pe_int) pa_nil)))))) pss_nil)))))), ?_⟩
    refine ⟨_, rfl, _, rfl, _, rfl, T, us, ms, rfl, hT, hM, hml, fun Cq kvc H1 s1 CA => ?_⟩
    refine ⟨hd, Cq, ns, ln, hs, ms, kvc, rfl, HL.same s1, CA, hml, hin, fun ids N zs H2 ok s2 nN hN hI => ?_⟩
    have hidl := Nat.le_trans (ok.legal.few HL.nd) HL.len
    have s12 := s1.trans s2
    have HL2 := HL.same s12
    refine ⟨hd, N, ns, hs, zs, ids, rfl, HL2.at_, HL.few, HL.nd, .inl (SqL.of hN), hI, by omega, ok.legal.names, fun D kve H3 s3 nD NA => ?_⟩
    have s13 := s12.trans s3
    have HL3 := HL2.same s3
    obtain ⟨kn, ke⟩ := k ids ok
    have hH3 := HL3.at_.1
    have nDH : H D = none := s12.free nD
    generalize reachF ids = ex at NA kn ke
    have hu1 : ∀ z : List (Key × V), Mut (some (HO.dK z)) := fun _ => True.intro
    refine ⟨hd, _, hH3, hu1 _, fun od => ?_⟩
    have hl0 : upd H3 hd (.frz od (.dK ((ns.zip hs).map fun (p : Str × V) => ((Sum.inr p.1 : Key), p.2)))) hd = some (.frz od (.dK ((ns.zip hs).map fun (p : Str × V) => ((Sum.inr p.1 : Key), p.2)))) := upd_same
    have kp : ∀ b o, H3 b = some o → b ≠ hd → upd H3 hd (.frz od (.dK ((ns.zip hs).map fun (p : Str × V) => ((Sum.inr p.1 : Key), p.2)))) b = some o := fun b o e n => by rw [upd_ne n]; exact e
    have nDd : D ≠ hd := fun z => by
      rw [z, HL2.at_.1] at nD
      cases nD
    have NAL := NA.at2 (H1 := upd H3 hd (.frz od (.dK ((ns.zip hs).map fun (p : Str × V) => ((Sum.inr p.1 : Key), p.2))))) (upd_ne nDd)
    have hlz : ((ns.zip hs).map fun (p : Str × V) => ((Sum.inr p.1 : Key), p.2)).length = ns.length := by
      rw [List.length_map, List.length_zip, ← HL.at_.2, Nat.min_self]
    have EVL : ∀ (i : Nat) (n : Str), ns[i]? = some n → ∃ b us, hs[i]? = some (.ref b) ∧ SqT K (upd H3 hd (.frz od (.dK ((ns.zip hs).map fun (p : Str × V) => ((Sum.inr p.1 : Key), p.2))))) b us ∧ us.length = ln n := fun i n hn => by
      obtain ⟨b, us, q1, q2, q3⟩ := HL3.ev i n hn
      exact ⟨b, us, q1, sqT_keep (fun b xs e => kp b _ e (ne_of e hH3 (by intro z; cases z))) (fun b o u e => kp b _ e (ne_of e hH3 (by intro z; cases z))) q2, q3⟩
    have fin : ∀ Hy, Same (upd H3 hd (.frz od (.dK ((ns.zip hs).map fun (p : Str × V) => ((Sum.inr p.1 : Key), p.2))))) Hy → Same H3 (upd Hy hd (.dK ((ns.zip hs).map fun (p : Str × V) => ((Sum.inr p.1 : Key), p.2)))) := fun Hy s => unlock_same s hH3
    have err : ∀ n, orderF ns ln ex = some n → RecAt CR (upd H3 hd (.frz od (.dK ((ns.zip hs).map fun (p : Str × V) => ((Sum.inr p.1 : Key), p.2))))) "order" (.str n) (ex n + 1) E := fun n hn => (ke n hn).to (fun b o e nb => kp b o (s13 _ _ e) nb) (by rw [hl0]; exact fun z => nomatch z)
    refine ⟨_, rfl, hd, od, _, rfl, hl0, ?_⟩
    refine for_it walk_items (fun i σ Hy => ∃ (x3 x4 : Option V), σ = [some (.ref hd), some (.ref T), some (.ref D), x3, x4] ∧ Same (upd H3 hd (.frz od (.dK ((ns.zip hs).map fun (p : Str × V) => ((Sum.inr p.1 : Key), p.2))))) Hy ∧ orderF ns ln ex = orderF (ns.drop i) ln ex)
      ⟨_, _, rfl, .refl _, rfl⟩ (fun i σ Hy _ ⟨_, _, _, sm, _⟩ => sm _ _ hl0) ?_ ?_
    · rintro i x σ Hy Hy' hi ⟨x3, x4, rfl, sm, ho⟩ ⟨Tq, y1, y2, rfl, nT, rfl, e1, e2⟩
      dsimp only at e1 e2
      cases hkv : ((ns.zip hs).map fun (p : Str × V) => ((Sum.inr p.1 : Key), p.2))[i]? with
      | none => rw [hkv] at e1; cases e1
      | some kv =>
      obtain ⟨k0, v0⟩ := kv
      obtain ⟨n, hn, hv, rfl⟩ := zip_key hkv
      rw [hkv] at e1 e2
      obtain ⟨b, us', hb, hbu, hul⟩ := EVL i n hn
      rw [hv] at hb
      injection hb with hb
      subst hb
      injection e1 with e1
      injection e2 with e2
      subst e1 e2
      have hnm := List.mem_of_getElem? hn
      have hdr : ns.drop i = n :: ns.drop (i + 1) := by
        obtain ⟨h1, h2⟩ := List.getElem?_eq_some_iff.mp hn
        rw [← h2, List.getElem_cons_drop]
      have sT := sm.trans (same_new (o := .tup [.str n, .ref b]) nT)
      have hT5 := upd_same (H := Hy) (a := Tq) (o := .tup [.str n, .ref b])
      show gTup _ _ _ (V.ref Tq) _ (upd Hy Tq (.tup [.str n, .ref b])) _
      generalize upd Hy Tq (.tup [.str n, .ref b]) = Hz at sT hT5 ⊢
      have hg : DGet Hz D (.str n) (some (.int (ex n : Nat))) := by
        have := DGet.k (k := Sum.inr n) (sT _ _ NAL.at_)
        rw [NAL.val _ hnm] at this
        exact this
      refine ⟨Tq, _, rfl, SqT.of hT5, rfl, _, _, rfl, _, _, rfl, rfl, ?_⟩
      refine ⟨_, rfl, _, rfl, D, _, rfl, hg, _, rfl, b, us', rfl, .inr (sqT_same sT hbu), _, _, rfl, rfl, _, rfl, ?_⟩
      rw [hul]
      rw [hdr] at ho
      by_cases hlt : ex n < ln n
      · have ho1 : orderF ns ln ex = some n := by
          rw [ho]
          unfold orderF
          rw [List.find?_cons, decide_eq_true hlt]
        refine iteTc (decide_eq_true (by omega)) ⟨_, rfl, _, rfl, _, rfl, D, _, rfl, hg, _, _, rfl, rfl, mk_rec (K := K) (n := ex n + 1) (err n ho1) sT (.str n)⟩
      · refine iteFc (decide_eq_false (by omega)) ⟨_, _, rfl, sT, ?_⟩
        rw [ho]
        unfold orderF
        rw [List.find?_cons, decide_eq_false hlt]
    · rintro σ Hy ⟨x3, x4, rfl, sm, ho⟩
      rw [hlz, List.drop_length] at ho
      exact ⟨sm _ _ hl0, kn ho _ (s13.trans (fin Hy sm))⟩
end
end XE

set_option Elab.async false
set_option linter.all false
set_option maxRecDepth 100000
set_option maxHeartbeats 1000000
/-! RxRcd: good rows as typed rows -/
namespace Rc
open PySem PySem.Spec PyProof.Rows L2 RZ Rx SX
theorem evs_data {os : List Str} : ∀ {es : List PyData}, (∀ d ∈ es, (evOf os d).isSome = true) → (es.filterMap (evOf os)).map Ev.data = es
  | [], _ => rfl
  | d :: es, h => by
    have h1 := h d (List.mem_cons_self ..)
    cases he : evOf os d with
    | none => rw [he] at h1; cases h1
    | some e =>
      rw [List.filterMap_cons, he]
      show e.data :: _ = _
      rw [evs_data fun x hx => h x (List.mem_cons_of_mem _ hx), (evOf_data he).1]
theorem evsBad_off {names : List Str} : ∀ {rp : List (Str × List PyData)}, evsBad names rp = none → ∀ r ∈ rp, evBad (othersL names r.1) 1 r.2 = none
  | [], _, _, h => nomatch h
  | (n, es) :: rp, h, r, hm => by
    unfold evsBad at h
    split at h
    · cases h
    · rename_i hb
      rcases List.mem_cons.mp hm with rfl | hm
      · exact hb
      · exact evsBad_off h r hm
theorem rowsTy_data {names : List Str} {rp : List (Str × List PyData)} (h : evsBad names rp = none) : (rowsTy names rp).map rowE = rp.map rowP := by
  unfold rowsTy
  rw [List.map_map]
  refine List.map_congr_left fun r hr => ?_
  show PyData.tuple [.str r.1, .tuple ((r.2.filterMap (evOf (othersL names r.1))).map Ev.data)] = .tuple [.str r.1, .tuple r.2]
  rw [evs_data (evBad_off _ _ _ (evsBad_off h r hr))]
theorem rowsTy_names {names : List Str} {rp : List (Str × List PyData)} : (rowsTy names rp).map (·.1) = rp.map (·.1) := by
  unfold rowsTy
  rw [List.map_map]
  rfl
theorem rowsTy_len {names : List Str} {rp : List (Str × List PyData)} (h : ∀ r ∈ rp, r.2.length ≤ 1000) : ∀ r ∈ rowsTy names rp, r.2.length ≤ 1000 := fun r hr => by
  obtain ⟨q, hq, rfl⟩ := List.mem_map.mp hr
  exact Nat.le_trans (List.length_filterMap_le ..) (h q hq)
theorem rowBad_nodup : ∀ {ds : List PyData} {kn : List Str} {i : Nat}, rowBad kn i ds = none → i ≤ 40 → ((rowsOfD ds).map (·.1)).Nodup ∧ (∀ n ∈ (rowsOfD ds).map (·.1), n ∉ kn) ∧ (rowsOfD ds).length + i ≤ 40
  | [], _, _, _, hi => ⟨by simp [rowsOfD], by simp [rowsOfD], by simpa [rowsOfD] using hi⟩
  | d :: ds, kn, i, h, hi => by
    cases hr : rowOf d with
    | none =>
      simp only [rowBad, hr] at h
      cases h
    | some r =>
      obtain ⟨n, es⟩ := r
      simp only [rowBad, hr] at h
      split at h
      · cases h
      · rename_i hc
        have hi2 : i ≠ 40 := fun z => hc (.inl z)
        have hn : n ∉ kn := fun z => hc (.inr z)
        obtain ⟨h1, h2, h3⟩ := rowBad_nodup h (by omega)
        have e : rowsOfD (d :: ds) = (n, es) :: rowsOfD ds := by
          unfold rowsOfD
          rw [List.filterMap_cons, hr]
        rw [e]
        refine ⟨?_, fun m hm => ?_, by rw [List.length_cons]; omega⟩
        · rw [List.map_cons, List.nodup_cons]
          exact ⟨fun z => h2 n z (by simp), h1⟩
        · rcases List.mem_cons.mp hm with rfl | hm
          · exact hn
          · exact fun z => h2 m hm (List.mem_append_left _ z)
/-- how many events the process of this name has -/
def lnOf (rs : Rows) (n : Str) : Nat := ((rs.find? fun r => decide (r.1 = n)).map (·.2.length)).getD 0
theorem lnOf_at : ∀ {rs : Rows}, (rs.map (·.1)).Nodup → ∀ {r}, r ∈ rs → lnOf rs r.1 = r.2.length
  | [], _, _, h => nomatch h
  | q :: rs, hd, r, h => by
    rw [List.map_cons, List.nodup_cons] at hd
    unfold lnOf
    rw [List.find?_cons]
    rcases List.mem_cons.mp h with rfl | h
    · rw [decide_eq_true rfl]
      rfl
    · rw [decide_eq_false fun z => hd.1 (by rw [z]; exact List.mem_map.mpr ⟨r, h, rfl⟩)]
      exact lnOf_at hd.2 h
theorem sum_const {α : Type} {f : α → Nat} {c : Nat} : ∀ {l : List α}, (∀ x ∈ l, f x ≤ c) → (l.map f).sum ≤ c * l.length
  | [], _ => Nat.zero_le _
  | x :: l, h => by
    rw [List.map_cons, List.sum_cons, List.length_cons]
    have h1 := h x (List.mem_cons_self ..)
    have h2 := sum_const (l := l) fun y hy => h y (List.mem_cons_of_mem _ hy)
    rw [Nat.mul_add]
    omega
theorem lnOf_sum {rs : Rows} (hd : (rs.map (·.1)).Nodup) (hf : rs.length ≤ 40) (h : ∀ r ∈ rs, r.2.length ≤ 1000) : ((rs.map (·.1)).map (lnOf rs)).sum ≤ 40000 := by
  have : ((rs.map (·.1)).map (lnOf rs)).sum ≤ 1000 * (rs.map (·.1)).length := sum_const fun n hn => by
    obtain ⟨r, hr, rfl⟩ := List.mem_map.mp hn
    rw [lnOf_at hd hr]
    exact h r hr
  rw [List.length_map] at this
  omega
theorem flatRow_mem {n : Str} : ∀ {es : List Ev} {k : Nat} {x : EvId × Ev}, x ∈ flatRow n k es → x.1.1 = n
  | e :: es, k, x, h => by
    rcases List.mem_cons.mp h with rfl | h
    · rfl
    · exact flatRow_mem h
theorem flatR_mem : ∀ {rs : Rows} {x : EvId × Ev}, x ∈ flatR rs → x.1.1 ∈ rs.map (·.1)
  | (n, es) :: rs, x, h => by
    rcases List.mem_append.mp (show x ∈ flatRow n 1 es ++ flatR rs from h) with h | h
    · rw [flatRow_mem h]
      exact List.mem_cons_self ..
    · exact List.mem_cons_of_mem _ (flatR_mem h)
theorem sentF_mem {fl : Flat} {a b : Str} {s : EvId × Int} (h : s ∈ sentF fl a b) : ∃ x ∈ fl, x.1 = s.1 := by
  obtain ⟨x, hx, h⟩ := List.mem_filterMap.mp h
  refine ⟨x, hx, ?_⟩
  split at h
  · split at h
    · split at h
      · injection h with h
        rw [← h]
      · cases h
    · cases h
  · cases h
theorem matchF_mem {all : Flat} {S : List Str} (hS : ∀ x ∈ all, x.1.1 ∈ S) : ∀ {rest done : Flat} {acc ms : List (EvId × EvId)}, (∀ x ∈ rest, x.1.1 ∈ S) → (∀ m ∈ acc, m.1.1 ∈ S ∧ m.2.1 ∈ S) → matchF all done acc rest = .ok ms → (∀ m ∈ ms, m.1.1 ∈ S ∧ m.2.1 ∈ S) ∧ ms.length ≤ acc.length + rest.length
  | [], done, acc, ms, hr, ha, h => by
    injection h with h
    subst h
    exact ⟨ha, Nat.le_add_right ..⟩
  | x :: rest, done, acc, ms, hr, ha, h => by
    have hr2 : ∀ x ∈ rest, x.1.1 ∈ S := fun y hy => hr y (List.mem_cons_of_mem _ hy)
    unfold matchF at h
    split at h
    · obtain ⟨h1, h2⟩ := matchF_mem hS hr2 ha h
      exact ⟨h1, by rw [List.length_cons]; omega⟩
    · split at h
      · rename_i p v hp s v' hs
        split at h
        · obtain ⟨h1, h2⟩ := matchF_mem hS hr2 (fun m hm => by
            rcases List.mem_append.mp hm with hm | hm
            · exact ha m hm
            · rw [List.mem_singleton.mp hm]
              obtain ⟨y, hy, e⟩ := sentF_mem (List.mem_of_getElem? hs)
              exact ⟨by show s.1 ∈ S; rw [show s = y.1 from e.symm]; exact hS y hy, hr x (List.mem_cons_self ..)⟩) h
          refine ⟨h1, ?_⟩
          rw [List.length_append, List.length_singleton] at h2
          rw [List.length_cons]
          omega
        · cases h
      · cases h
theorem matchR_mem {rs : Rows} {ms : List (EvId × EvId)} (h : matchR rs = .ok ms) : (∀ m ∈ ms, m.1.1 ∈ rs.map (·.1) ∧ m.2.1 ∈ rs.map (·.1)) ∧ ms.length ≤ (flatR rs).length := by
  obtain ⟨h1, h2⟩ := matchF_mem (S := rs.map (·.1)) (fun x hx => flatR_mem hx) (fun x hx => flatR_mem hx) (fun m h => by cases h) h
  exact ⟨h1, by simpa using h2⟩
end Rc

set_option Elab.async false
set_option linter.all false
set_option maxRecDepth 100000
set_option maxHeartbeats 1000000
/-! XRk: Record.__init__ -/
namespace XE
open PySem PySem.Spec PyProof.Rows L2 RZ Rx SX Rc
abbrev cRecord : Stmt := topS 20
abbrev sRInit : Stmt := inClass cRecord 0
/-- a def of the module that may raise -/
structure CalY (P : Program) (w : World) (K : PySem.W.Frag) (mg : Str → Option Value) (base : Heap) (k : Nat) (x : Str) (f : Addr) (fd : FuncData) (ps : List Str) (sp : Sp) : Prop where
  ok : FnOk P w K mg base (L2.CX P w) k f fd ps sp
  mg : mg x = some (.ref f)
  kp : PySem.W.keepIn K (.ref f) = true
  bi : Binds K fd ps []
structure TxtRc (K : PySem.W.Frag) (C : Addr) : Prop where
  cl : Cls K C
  nRows : NoAttr K C "rows"
  nHist : NoAttr K C "histories"
  nMsgs : NoAttr K C "messages"
  nPart : NoAttr K C "partners"
/-- the histories, by rows -/
structure HistR (K : PySem.W.Frag) (H : Hp) (h : Addr) (hs : List V) (rs : Rows) : Prop where
  at_ : HistAt H h (rs.map (·.1)) hs
  ev : ∀ (i : Nat) (r : Str × List Ev), rs[i]? = some r → ∃ b us, hs[i]? = some (.ref b) ∧ SqT K H b us ∧ DpAll K H us (r.2.map Ev.data)
/-- a record -/
structure RecO (K : PySem.W.Frag) (C : Addr) (H : Hp) (p : Addr) (rs : Rows) (ms : List (EvId × EvId)) (dx t h tm pt : Addr) (xs hs us : List V) (kvp : List (List Key × V)) : Prop where
  ins : H p = some (.ins C dx [("rows", .ref t), ("histories", .ref h), ("messages", .ref tm), ("partners", .ref pt)])
  rows : RowsT K H t xs rs
  hist : HistR K H h hs rs
  msgs : H tm = some (.tup us) ∧ MsgL H us ms
  part : PartAt H pt kvp (partF ms)
def IsRec (K : PySem.W.Frag) (C : Addr) (H : Hp) (p : Addr) (rs : Rows) (ms : List (EvId × EvId)) : Prop := ∃ dx t h tm pt xs hs us kvp, RecO K C H p rs ms dx t h tm pt xs hs us kvp
structure GoodR (ds : List PyData) (rs : Rows) (ms : List (EvId × EvId)) : Prop where
  due : rowDue ds = none
  evs : evsBad ((rowsOfD ds).map (·.1)) (rowsOfD ds) = none
  eq : rs = rowsTy ((rowsOfD ds).map (·.1)) (rowsOfD ds)
  msg : matchR rs = .ok ms
def spRInit (K : PySem.W.Frag) (C CR : Addr) : Sp := fun vs H Q E => ∃ (p dx : Addr) (ds : List PyData) (a : Addr) (xs : List V), vs = [.ref p, .ref a] ∧ H p = some (.ins C dx []) ∧ (SqL K H a xs ∨ SqT K H a xs) ∧ DpAll K H xs ds ∧ szAll ds ≤ 4900 ∧ (∀ d ∈ fixAll ds, Gd d) ∧ ds.length ≤ 1000 ∧ (∀ r ∈ rowsOfD (fixAll ds), r.2.length ≤ 1000) ∧
  (∀ i, rowDue (fixAll ds) = some i → RecAtX CR H p "row" .non i E) ∧
  (rowDue (fixAll ds) = none → ∀ n k, evsBad ((rowsOfD (fixAll ds)).map (·.1)) (rowsOfD (fixAll ds)) = some (n, k) → RecAtX CR H p "event" (.str n) k E) ∧
  (rowDue (fixAll ds) = none → evsBad ((rowsOfD (fixAll ds)).map (·.1)) (rowsOfD (fixAll ds)) = none → ∀ x, matchR (rowsTy ((rowsOfD (fixAll ds)).map (·.1)) (rowsOfD (fixAll ds))) = .error x → RecAtX CR H p "message" (.str x.1) x.2 E) ∧
  (∀ rs ms, GoodR (fixAll ds) rs ms → ∀ ids, ExecOk (rs.map (·.1)) (lnOf rs) (causesF ms) ids →
    (orderF (rs.map (·.1)) (lnOf rs) (reachF ids) = none → ∀ H', (∀ b o, H b = some o → b ≠ p → H' b = some o) → IsRec K C H' p rs ms → Q .non H') ∧
    ∀ n, orderF (rs.map (·.1)) (lnOf rs) (reachF ids) = some n → RecAtX CR H p "order" (.str n) (reachF ids n + 1) E)
theorem pf_missR {k x : Str} {v w : V} {l : List (Str × V)} (h : ¬ x = k) : putF k v ((x, w) :: l) = (x, w) :: putF k v l := if_neg h
theorem ev_noList (e : Ev) : noList e.data = true := by cases e <;> rfl
theorem evs_noList : ∀ es : List Ev, noListAll (es.map Ev.data) = true
  | [] => rfl
  | e :: es => by
    show (noList e.data && noListAll (es.map Ev.data)) = true
    rw [ev_noList, evs_noList es]
    rfl
theorem rows_noList : ∀ rs : Rows, noListAll (rs.map rowE) = true
  | [] => rfl
  | r :: rs => by
    show (noList (rowE r) && noListAll (rs.map rowE)) = true
    rw [rows_noList rs]
    show ((true && (noListAll (r.2.map Ev.data) && true)) && true) = true
    rw [evs_noList]
    rfl
theorem rowsT_keep {K : PySem.W.Frag} {H H1 : Hp} {t : Addr} {xs : List V} {rs : Rows} (h : RowsT K H t xs rs) (k : Keeps H H1) : RowsT K H1 t xs rs := ⟨sqT_keep k.1 k.2 h.tu, dpAll_keep k.1 k.2 h.dp (rows_noList rs), h.few, h.len⟩
theorem keeps_but {H H1 : Hp} {p C dx : Addr} {fs : List (Str × V)} (k : ∀ b o, H b = some o → b ≠ p → H1 b = some o) (hp : H p = some (.ins C dx fs)) : Keeps H H1 :=
  ⟨fun b xs e => k b _ e (ne_of e hp (by intro z; cases z)), fun b o u e => k b _ e (ne_of e hp (by intro z; cases z))⟩
theorem HistR.keep {K : PySem.W.Frag} {H H1 : Hp} {h p C dx : Addr} {fs : List (Str × V)} {hs : List V} {rs : Rows} (x : HistR K H h hs rs) (k : ∀ b o, H b = some o → b ≠ p → H1 b = some o) (hp : H p = some (.ins C dx fs)) : HistR K H1 h hs rs := by
  have kk := keeps_but k hp
  refine ⟨⟨k _ _ x.at_.1 (ne_of x.at_.1 hp (by intro z; cases z)), x.at_.2⟩, fun i r hr => ?_⟩
  obtain ⟨b, us, h1, h2, h3⟩ := x.ev i r hr
  exact ⟨b, us, h1, sqT_keep kk.1 kk.2 h2, dpAll_keep kk.1 kk.2 h3 (evs_noList _)⟩
theorem HistR.same {K : PySem.W.Frag} {H H1 : Hp} {h : Addr} {hs : List V} {rs : Rows} (x : HistR K H h hs rs) (s : Same H H1) : HistR K H1 h hs rs := by
  refine ⟨⟨s _ _ x.at_.1, x.at_.2⟩, fun i r hr => ?_⟩
  obtain ⟨b, us, h1, h2, h3⟩ := x.ev i r hr
  exact ⟨b, us, h1, sqT_same s h2, dpAll_same s h3⟩
theorem HistR.toL {K : PySem.W.Frag} {H : Hp} {h : Addr} {hs : List V} {rs : Rows} (x : HistR K H h hs rs) (hd : (rs.map (·.1)).Nodup) (hf : rs.length ≤ 40) (hl : ∀ r ∈ rs, r.2.length ≤ 1000) : HistL K H h (rs.map (·.1)) (lnOf rs) hs := by
  refine ⟨x.at_, fun i n hn => ?_, hd, by rw [List.length_map]; exact hf, lnOf_sum hd hf hl⟩
  rw [List.getElem?_map] at hn
  cases hr : rs[i]? with
  | none => rw [hr] at hn; cases hn
  | some r =>
    rw [hr] at hn
    injection hn with hn
    subst hn
    obtain ⟨b, us, h1, h2, h3⟩ := x.ev i r hr
    refine ⟨b, us, h1, h2, ?_⟩
    rw [dpAll_len h3, List.length_map, lnOf_at hd (List.mem_of_getElem? hr)]
theorem rows_hs {K : PySem.W.Frag} {H : Hp} : ∀ {rs : Rows} {ys : List V}, DpAll K H ys (rs.map rowE) → ∃ hs : List V, hs.length = rs.length ∧ ∀ (i : Nat) (r : Str × List Ev), rs[i]? = some r → ∃ q b us, ys[i]? = some (.ref q) ∧ hs[i]? = some (.ref b) ∧ SqT K H q [.str r.1, .ref b] ∧ SqT K H b us ∧ DpAll K H us (r.2.map Ev.data)
  | [], _, _ => ⟨[], rfl, fun _ _ h => nomatch h⟩
  | r :: rs, _, .cons h1 h2 => by
    obtain ⟨hs, g1, g2⟩ := rows_hs h2
    obtain ⟨q, b, us, rfl, k1, k2, k3⟩ := row_dp h1
    refine ⟨.ref b :: hs, by rw [List.length_cons, List.length_cons, g1], fun i r' hr => ?_⟩
    cases i with
    | zero =>
      injection hr with hr
      subst hr
      exact ⟨q, b, us, rfl, rfl, k1, k2, k3⟩
    | succ i => exact g2 i r' hr
section
variable {P : Program} {w : World} {K : PySem.W.Frag} {mg : Str → Option Value} {base : Heap} {C CR : Addr}
abbrev riN : List Str := ["self", "rows", "kept", "name", "events"]
theorem scRI : FnScope riN ["self", "rows"] (defScope sRInit) := ⟨rfl, rfl, rfl, by decide +kernel, rfl, by decide +kernel, by decide +kernel⟩
theorem ok_rinit {f fZ fKR fKE fM fO fB : Addr} {fd fdZ fdKR fdKE fdM fdO fdB : FuncData} (F : Fun K "__init__" "Record.__init__" sRInit f fd) (T : TxtRc K C) (mlist : mg "list" = none)
    (CZ : Cal P w K mg base 1 "frozen" fZ fdZ ["thing"] (spFrozenN K 5000)) (CKR : CalY P w K mg base 4 "check_rows" fKR fdKR ["rows"] (spCheckR K CR)) (CKE : CalY P w K mg base 5 "check_events" fKE fdKE ["rows"] (spCheckE K CR))
    (CM : CalY P w K mg base 4 "matched_messages" fM fdM ["rows"] (spMatched K CR)) (CO : CalY P w K mg base 4 "check_order" fO fdO ["histories", "messages"] (spOrder K CR)) (CB : Cal P w K mg base 1 "partners_by_event" fB fdB ["messages"] (spPartners K)) :
    FnOk P w K mg base (L2.CX P w) 6 f fd ["self", "rows"] (spRInit K C CR) := by
  refine F.okX scRI (fun vs H Q E h => ?_) (fun cdv A outer s H vs Q E hr h => ?_)
  · obtain ⟨_, _, _, _, _, rfl, _⟩ := h
    rfl
  · obtain ⟨p, dx, ds, a, xs, rfl, hp, hA, hD, hsz, hG, hdl, hrl, kR, kE, kM, kO⟩ := h
    have hu := hu_of hr
    have hr1 : Room 1 _ := hr.mono (by decide)
    have hr4 : Room 4 _ := hr.mono (by decide)
    have hr5 : Room 5 _ := hr.mono (by decide)
    refine ⟨_, (pss_cons (ps_set (i := 2) scRI.nd rfl (.inl rfl) (pe_call CZ.ok hr1 rfl CZ.mg CZ.kp CZ.bi .nil pass0 (pa_cons (pe_callTy call_list_of (by rfl) mlist (by decide +kernel) (pa_cons (pv 1) pa_nil)) pa_nil))) (pss_cons (ps_expr (pe_call CKR.ok hr4 rfl CKR.mg CKR.kp CKR.bi .nil (passes_call (takes_of (E := E) rfl rfl rfl rfl) (fun _ _ _ _ h => h)) (pa_cons (pv 2) pa_nil))) (pss_cons (ps_expr (pe_call CKE.ok hr5 rfl CKE.mg CKE.kp CKE.bi .nil (passes_call (takes_of (E := E) rfl rfl rfl rfl) (fun _ _ _ _ h => h)) (pa_cons (pv 2) pa_nil))) (pss_cons (ps_fld (pv 0) (pv 2) rfl) (pss_cons (ps_fld (pv 0) (pe_dc (own := [("name", 3), ("events", 4)]) (g := gTup K 2 (gCons (gName 3) (gCons (gName 4) gNil))) (tt := tYes) (tk := tVar 3) (tv := tVar 4) rfl scRI.nd (pi_tup (pv 2)) (blkOk_by (own := [("name", 3), ("events", 4)]) (N := riN) (sc := defScope sRInit) (by decide +kernel)) (fun _ _ _ _ _ => (pg_tup rfl (pgs_cons (pg_name (i := 3) scRI.nd rfl (Or.inl rfl)) (pgs_cons (pg_name (i := 4) scRI.nd rfl (Or.inl rfl)) pgs_nil)))) (fun _ _ _ _ _ => pts_nil) (fun _ _ _ _ _ => (pv 3)) (fun _ _ _ _ _ => (pv 4))) rfl) (pss_cons (ps_fld (pv 0) (pe_call CM.ok hr4 rfl CM.mg CM.kp CM.bi .nil (passes_call (takes_of (E := E) rfl rfl rfl rfl) (fun _ _ _ _ h => h)) (pa_cons (pv 2) pa_nil)) rfl) (pss_cons (ps_expr (pe_call CO.ok hr4 rfl CO.mg CO.kp CO.bi .nil (passes_call (takes_of (E := E) rfl rfl rfl rfl) (fun _ _ _ _ h => h)) (pa_cons (pe_fld (pv 0) rfl) (pa_cons (pe_fld (pv 0) rfl) pa_nil)))) (pss_one (ps_fld (pv 0) (pe_call CB.ok hr1 rfl CB.mg CB.kp CB.bi .nil pass0 (pa_cons (pe_fld (pv 0) rfl) pa_nil)) rfl))))))))), ?_⟩
    refine ⟨_, rfl, a, xs, rfl, hA, fun l0 nl0 => ?_⟩
    have s0 := same_new (o := .lst xs) nl0
    have hl0 : Dp K (upd H l0 (.lst xs)) (.ref l0) (.list ds) := .lst (SqL.of upd_same) (dpAll_same s0 hD)
    generalize upd H l0 (.lst xs) = H1 at s0 hl0 ⊢
    refine ⟨_, .list ds, rfl, hl0, by show 2 + szAll ds ≤ 5000; omega, fun H2 v' s2 hv' => ?_⟩
    obtain ⟨t, ys, rfl, ht, hy⟩ := dpT_inv (show Dp K H2 v' (.tuple (fixAll ds)) from hv')
    have s02 := s0.trans s2
    have hp2 := s02 _ _ hp
    have hdl2 : (fixAll ds).length ≤ 1000 := by rw [fixAll_map, List.length_map]; exact hdl
    generalize fixAll ds = fs at hy hG hrl kR kE kM kO hdl2
    have kp : ∀ {Hn : Hp}, Same H Hn → ∀ b o, H b = some o → b ≠ p → Hn b = some o := fun s b o e _ => s b o e
    have np : ∀ {Hn : Hp}, Same H Hn → Hn p ≠ none := fun s z => by rw [s _ _ hp] at z; cases z
    refine ⟨_, rfl, t, ys, fs, rfl, ht, hy, hG, hdl2, fun hdue H3 s3 => ?_, fun i hi => (kR i hi).to (kp s02) (np s02)⟩
    have s03 := s02.trans s3
    have hfs : fs ≠ [] := fun z => by
      unfold rowDue at hdue
      rw [if_pos z] at hdue
      cases hdue
    have hbad : rowBad [] 0 fs = none := by
      unfold rowDue at hdue
      rw [if_neg hfs] at hdue
      exact hdue
    obtain ⟨rp, hds, hnm, hro⟩ := rows_of_bad hbad
    obtain ⟨hnd, _, hfew⟩ := rowBad_nodup hbad (Nat.zero_le _)
    have kE := kE hdue
    have kM := kM hdue
    rw [hro] at hnd hfew hrl kE kM
    have RP : RowsP K H3 t ys rp := ⟨sqT_same s3 ht, by rw [← hds]; exact dpAll_same s3 hy, hnm, fun r hr e he => (((hG _ (by rw [hds]; exact List.mem_map.mpr ⟨r, hr, rfl⟩) : Gd (rowP r)).mem (x := .tuple r.2) (by simp)).mem he), by omega, hrl⟩
    refine ⟨_, rfl, t, ys, rp, rfl, RP, fun hev H4 s4 => ?_, fun n k hn => (kE n k hn).to (kp s03) (np s03)⟩
    have s04 := s03.trans s4
    have kM := kM hev
    generalize hrs : rowsTy (rp.map (·.1)) rp = rs at kM
    have hE : rs.map rowE = rp.map rowP := by rw [← hrs]; exact rowsTy_data hev
    have hN : rs.map (·.1) = rp.map (·.1) := by rw [← hrs]; exact rowsTy_names
    have hL : ∀ r ∈ rs, r.2.length ≤ 1000 := by rw [← hrs]; exact rowsTy_len hrl
    have hF : rs.length ≤ 40 := by
      have := congrArg List.length hE
      rw [List.length_map, List.length_map] at this
      omega
    have hND : (rs.map (·.1)).Nodup := by rw [hN]; exact hnd
    have RT : RowsT K H4 t ys rs := ⟨sqT_same (s3.trans s4) ht, by rw [hE, ← hds]; exact dpAll_same (s3.trans s4) hy, hF, hL⟩
    have hp4 := s04 _ _ hp
    clear RP hy ht hv' hG
    refine ⟨_, rfl, _, rfl, p, C, dx, _, rfl, hp4, T.cl, T.nRows, (by show 0 < 1000; decide), ?_⟩
    have e1 : putF "rows" (.ref t) [] = ([("rows", .ref t)] : List (Str × V)) := rfl
    rw [e1]
    have k5 : ∀ b o, H b = some o → b ≠ p → upd H4 p (.ins C dx [("rows", .ref t)]) b = some o := fun b o e n => by rw [upd_ne n]; exact s04 _ _ e
    have hp5 : upd H4 p (.ins C dx [("rows", .ref t)]) p = _ := upd_same
    have RT5 := rowsT_keep RT (keeps_but (H1 := upd H4 p (.ins C dx [("rows", .ref t)])) (fun b o e n => by rw [upd_ne n]; exact e) hp4)
    generalize upd H4 p (.ins C dx [("rows", .ref t)]) = H5 at k5 hp5 RT5 ⊢
    obtain ⟨hs, hsl, hsa⟩ := rows_hs RT5.dp
    have hln := RT5.ln
    refine ⟨_, rfl, t, rfl, ⟨_, RT5.tu⟩, fun Dh nDh => ?_⟩
    have hlz : ((rs.map (·.1)).zip hs).length = rs.length := by rw [List.length_zip, List.length_map, hsl, Nat.min_self]
    refine dc_it walk_tup (fun i Hy => Same H5 Hy ∧ Hy Dh = some (.dK ((((rs.map (·.1)).zip hs).take i).map fun (p : Str × V) => ((Sum.inr p.1 : Key), p.2)))) ⟨same_new nDh, upd_same⟩ (fun i Hy _ q => sqT_same q.1 RT5.tu) ?_ ?_
    · rintro i x Hy Hy' hi ⟨sm, hDh⟩ ⟨rfl, hx⟩
      obtain ⟨r, hr⟩ : ∃ r, rs[i]? = some r := ⟨rs[i]'(by omega), by simp⟩
      obtain ⟨q, b, us, g1, g2, g3, g4, g5⟩ := hsa i r hr
      rw [hx] at g1
      injection g1 with g1
      subst g1
      have hzi : ((rs.map (·.1)).zip hs)[i]? = some (r.1, .ref b) := Rc.zip_get (by rw [List.getElem?_map, hr]; rfl) g2
      refine ⟨q, _, rfl, sqT_same sm g3, rfl, _, _, rfl, _, _, rfl, rfl, rfl, ?_⟩
      dsimp only [tYes]
      rw [if_pos rfl]
      have e2 : ((rs.map (·.1)).zip hs).take (i + 1) = ((rs.map (·.1)).zip hs).take i ++ [(r.1, .ref b)] := by rw [List.take_add_one, hzi]; rfl
      have hnn : valV ((((rs.map (·.1)).zip hs).take i).map fun (p : Str × V) => ((Sum.inr p.1 : Key), p.2)) (Sum.inr r.1) = none := by
        cases hv : valV ((((rs.map (·.1)).zip hs).take i).map fun (p : Str × V) => ((Sum.inr p.1 : Key), p.2)) (Sum.inr r.1) with
        | none => rfl
        | some v =>
          exfalso
          have h1 := valV_any (Sum.inr r.1 : Key) ((((rs.map (·.1)).zip hs).take i).map fun (p : Str × V) => ((Sum.inr p.1 : Key), p.2))
          rw [hv] at h1
          obtain ⟨y, hy, hy2⟩ := List.any_eq_true.mp h1
          obtain ⟨z, hz, rfl⟩ := List.mem_map.mp hy
          have hz1 : z.1 = r.1 := by
            have := of_decide_eq_true hy2
            injection this
          obtain ⟨j, hj⟩ := List.mem_iff_getElem?.mp hz
          rw [List.getElem?_take] at hj
          split at hj
          · rename_i hji
            obtain ⟨h3, _⟩ := List.getElem?_zip_eq_some.mp hj
            have h4 : (rs.map (·.1))[i]? = some r.1 := by rw [List.getElem?_map, hr]; rfl
            have hjl : j < (rs.map (·.1)).length := (List.getElem?_eq_some_iff.mp h3).1
            have := (List.getElem?_inj (j := i) hjl hND).mp (by rw [h3, h4, hz1])
            omega
          · cases hj
      refine ⟨_, rfl, _, rfl, _, Sum.inr r.1, rfl, hDh, ?_, same_upd sm nDh, ?_⟩
      · rw [List.length_map, List.length_take]
        exact fitR (by omega)
      · rw [putK_new _ hnn, upd_same, e2, List.map_append]
        rfl
    rintro H6 ⟨s6, hDh⟩
    rw [hln, ← hlz, List.take_length] at hDh
    have k6 : ∀ b o, H b = some o → b ≠ p → H6 b = some o := fun b o e n => s6 _ _ (k5 b o e n)
    have hp6 := s6 _ _ hp5
    have HR6 : HistR K H6 Dh hs rs := ⟨⟨hDh, by rw [List.length_map, hsl]⟩, fun i r hr => by
      obtain ⟨q, b, us, _, g2, _, g4, g5⟩ := hsa i r hr
      exact ⟨b, us, g2, sqT_same s6 g4, dpAll_same s6 g5⟩⟩
    have RT6 := RT5.same s6
    have nDhH : H Dh = none := by
      cases q : H Dh with
      | none => rfl
      | some o =>
        by_cases c : Dh = p
        · rw [c, hp5] at nDh; cases nDh
        · rw [k5 _ _ q c] at nDh; cases nDh
    refine ⟨_, rfl, p, C, dx, _, rfl, hp6, T.cl, T.nHist, (by show 1 < 1000; decide), ?_⟩
    have e2 : putF "histories" (.ref Dh) [("rows", .ref t)] = ([("rows", .ref t), ("histories", .ref Dh)] : List (Str × V)) := by rw [pf_missR (by decide +kernel)]; rfl
    rw [e2]
    have k7' : ∀ b o, H6 b = some o → b ≠ p → upd H6 p (.ins C dx [("rows", .ref t), ("histories", .ref Dh)]) b = some o := fun b o e n => by rw [upd_ne n]; exact e
    have hp7 : upd H6 p (.ins C dx [("rows", .ref t), ("histories", .ref Dh)]) p = _ := upd_same
    generalize upd H6 p (.ins C dx [("rows", .ref t), ("histories", .ref Dh)]) = H7 at k7' hp7 ⊢
    have RT7 := rowsT_keep RT6 (keeps_but k7' hp6)
    have HR7 := HR6.keep k7' hp6
    have k7 : ∀ b o, H b = some o → b ≠ p → H7 b = some o := fun b o e n => k7' _ _ (k6 b o e n) n
    have np7 : H7 p ≠ none := by rw [hp7]; exact fun z => nomatch z
    refine ⟨_, rfl, t, ys, rs, rfl, RT7, fun ms hms tm us H8 s8 htm hM => ?_, fun x hx => (kM x hx).to k7 np7⟩
    have hp8 := s8 _ _ hp7
    refine ⟨_, rfl, p, C, dx, _, rfl, hp8, T.cl, T.nMsgs, (by show 2 < 1000; decide), ?_⟩
    have e3 : putF "messages" (.ref tm) [("rows", .ref t), ("histories", .ref Dh)] = ([("rows", .ref t), ("histories", .ref Dh), ("messages", .ref tm)] : List (Str × V)) := by rw [pf_missR (by decide +kernel), pf_missR (by decide +kernel)]; rfl
    rw [e3]
    have k9' : ∀ b o, H8 b = some o → b ≠ p → upd H8 p (.ins C dx [("rows", .ref t), ("histories", .ref Dh), ("messages", .ref tm)]) b = some o := fun b o e n => by rw [upd_ne n]; exact e
    have hp9 : upd H8 p (.ins C dx [("rows", .ref t), ("histories", .ref Dh), ("messages", .ref tm)]) p = _ := upd_same
    generalize upd H8 p (.ins C dx [("rows", .ref t), ("histories", .ref Dh), ("messages", .ref tm)]) = H9 at k9' hp9 ⊢
    have kk9 := keeps_but k9' hp8
    have RT9 := rowsT_keep (RT7.same s8) kk9
    have HR9 := (HR7.same s8).keep k9' hp8
    have htm9 := kk9.1 _ _ htm
    have hM9 := hM.keep kk9.1
    have k9 : ∀ b o, H b = some o → b ≠ p → H9 b = some o := fun b o e n => k9' _ _ (s8 _ _ (k7 b o e n)) n
    obtain ⟨hmm, hml⟩ := matchR_mem hms
    have hfl := flat_len hL
    have GR : GoodR fs rs ms := ⟨hdue, by rw [hro]; exact hev, by rw [hro]; exact hrs.symm, hms⟩
    refine ⟨_, rfl, p, C, dx, _, _, rfl, hp9, T.cl, T.nHist, rfl, _, rfl, p, C, dx, _, _, rfl, hp9, T.cl, T.nMsgs, rfl, Dh, tm, rs.map (·.1), lnOf rs, hs, us, ms, rfl, HR9.toL hND hF hL, htm9, hM9, by omega, fun m hm => (hmm m hm).1, fun ids ok => ⟨fun ho H10 s10 => ?_, fun n ho => ?_⟩⟩
    · have hp10 := s10 _ _ hp9
      refine ⟨_, rfl, p, C, dx, _, _, rfl, hp10, T.cl, T.nMsgs, rfl, tm, us, ms, rfl, s10 _ _ htm9, hM9.same s10, by omega, fun pt kvp H11 s11 PA => ?_⟩
      have hp11 := s11 _ _ hp10
      refine ⟨_, rfl, p, C, dx, _, rfl, hp11, T.cl, T.nPart, (by show 3 < 1000; decide), ?_⟩
      have e4 : putF "partners" (.ref pt) [("rows", .ref t), ("histories", .ref Dh), ("messages", .ref tm)] = ([("rows", .ref t), ("histories", .ref Dh), ("messages", .ref tm), ("partners", .ref pt)] : List (Str × V)) := by rw [pf_missR (by decide +kernel), pf_missR (by decide +kernel), pf_missR (by decide +kernel)]; rfl
      rw [e4]
      have k12' : ∀ b o, H11 b = some o → b ≠ p → upd H11 p (.ins C dx [("rows", .ref t), ("histories", .ref Dh), ("messages", .ref tm), ("partners", .ref pt)]) b = some o := fun b o e n => by rw [upd_ne n]; exact e
      have hp12 : upd H11 p (.ins C dx [("rows", .ref t), ("histories", .ref Dh), ("messages", .ref tm), ("partners", .ref pt)]) p = _ := upd_same
      refine (kO rs ms GR ids ok).1 ho _ (fun b o e n => k12' _ _ (s11 _ _ (s10 _ _ (k9 b o e n))) n) ?_
      generalize upd H11 p (.ins C dx [("rows", .ref t), ("histories", .ref Dh), ("messages", .ref tm), ("partners", .ref pt)]) = H12 at k12' hp12
      have kk12 := keeps_but k12' hp11
      have sA := s10.trans s11
      refine ⟨dx, t, Dh, tm, pt, ys, hs, us, kvp, hp12, rowsT_keep (RT9.same sA) kk12, (HR9.same sA).keep k12' hp11, ⟨kk12.1 _ _ (sA _ _ htm9), (hM9.same sA).keep kk12.1⟩, ⟨k12' _ _ PA.at_ (ne_of PA.at_ hp11 (by intro z; cases z)), fun x => (PA.val x).keep kk12.1⟩⟩
    · intro H' dx' sm hd hx
      refine (kO rs ms GR ids ok).2 n ho H' dx' (fun b o e nb => sm _ _ (k9 b o e nb) fun z => by rw [z, nDhH] at e; cases e) ?_ hx
      cases q : H dx' with
      | none => rfl
      | some o =>
        by_cases c : dx' = p
        · rw [c, hp9] at hd; cases hd
        · rw [k9 _ _ q c] at hd; cases hd
end
end XE

set_option Elab.async false
set_option linter.all false
set_option maxRecDepth 100000
set_option maxHeartbeats 4000000
namespace XE
open PySem PySem.Spec PyProof.Rows L2 Rx SX
abbrev sDraw : Stmt := topS 35
/-- the stream of numbers at s, its list at a, n draws made -/
def StreamAt (H : Hp) (s a : Addr) (n : Nat) : Prop := ∃ (ns : List Int) (big seed : Int), H s = some (.lst [.ref a, .int big, .int n, .int seed]) ∧ H a = some (.lst (ns.map V.int)) ∧ 0 ≤ seed ∧ seed < 2147483647
def Else2 (s a : Addr) (H H' : Hp) : Prop := ∀ b o, H b = some o → b ≠ s → b ≠ a → H' b = some o
/-- a number from 0 to below m, whichever -/
def spDraw : Sp := fun vs H Q _ => ∃ (s a : Addr) (n : Nat) (m : Int), vs = [.ref s, .int m] ∧ 0 < m ∧ m < 1000000 ∧ StreamAt H s a n ∧ n < 1000000 ∧
  ∀ (k : Int) (H' : Hp), 0 ≤ k → k < m → StreamAt H' s a (n + 1) → Else2 s a H H' → Q (.int k) H'
section
variable {P : Program} {w : World} {K : PySem.W.Frag} {mg : Str → Option Value} {base : Heap}
theorem scD : FnScope ["_law_stream", "_law_many", "_law_digit", "_law_mixed"] ["_law_stream", "_law_many"] (defScope sDraw) := ⟨rfl, rfl, rfl, by decide +kernel, rfl, by decide +kernel, by decide +kernel⟩
theorem ixs {xs : List V} (j : Nat) {v : V} (h : xs[j]? = some v) : atI xs (j : Int) = some v := atI_nat h
theorem dpInts (H : Hp) : ∀ ns : List Int, DpAll K H (ns.map V.int) (ns.map PyData.int)
  | [] => .nil
  | n :: ns => .cons (.int n) (dpInts H ns)
theorem shInts (ns : List Int) : SeqAt.shaped (.list (ns.map PyData.int)) = true := by
  have h1 : ∀ ns : List Int, PyData.canLayAll0 (ns.map PyData.int) = true ∧ PyData.depthAll (ns.map PyData.int) = 0 := by
    intro ns
    induction ns with
    | nil => simp [PyData.canLayAll0, PyData.depthAll]
    | cons n ns ih => simp [PyData.canLayAll0, PyData.depthAll, PyData.canLay0, PyData.depth, ih.1, ih.2]
  simp [SeqAt.shaped, PyData.canLay0, PyData.depth, (h1 ns).1, (h1 ns).2]
theorem ok_draw {f : Addr} {fd : FuncData} (F : Fun K "_law_draw" "_law_draw" sDraw f fd) : FnOk P w K mg base CX0 1 f fd ["_law_stream", "_law_many"] spDraw := by
  refine F.ok scD (fun vs H Q E h => ?_) (fun cdv A outer s H vs Q E hr h => ?_)
  · obtain ⟨s, a, n, m, rfl, _⟩ := h
    rfl
  · obtain ⟨st, a, n, m, rfl, m0, m1, ⟨ns, big, seed, hs, ha, s0, s1⟩, hn, k⟩ := h
    refine ⟨_, pss_cons (ps_asg (pe_op op_add (pe_ix ix_list (pv 0) pe_int (fun _ _ => rfl)) pe_int) (pg_sub (pv 0) pe_int set_list))
      (C8.pss_cut (ps_if (PW.pt (pw_and (pt_cmpR op_eq (pe_ix ix_list (pv 0) pe_int (fun _ _ => rfl)) pe_int (nomark _)) (pw_and1 (pt_cmpR (op_neD hr.units) (pe_ix ix_list (pv 0) pe_int (fun _ _ => rfl)) (pe_lst pa_nil) (nomark _)))))
        (pss_cons (ps_asg (pe_bm PySem.F.plainAttrs_list PySem.F.slot_list_pop PySem.F.type_list_pop mt_popAt (pe_ix ix_list (pv 0) pe_int (fun _ _ => rfl)) (pa_cons pe_int pa_nil)) (pg_sub (pv 0) pe_int set_list))
        (pss_one (ps_if (pt_cmpR op_lt (pe_ix ix_list (pv 0) pe_int (fun _ _ => rfl)) (pe_op op_pow pe_int pe_int) (nomark _))
          (pss_cons (ps_asg (pe_op op_mod (pe_op op_add (pe_op op_add (pe_op op_mul (pe_ix ix_list (pv 0) pe_int (fun _ _ => rfl)) pe_int) (pe_ix ix_list (pv 0) pe_int (fun _ _ => rfl))) pe_int) pe_int) (pg_sub (pv 0) pe_int set_list))
          (pss_one (ps_asg pe_int (pg_sub (pv 0) pe_int set_list)))) pss_nil))) pss_nil)
      (pss_cons (ps_if (pt_cmpR op_gt (pe_ix ix_list (pv 0) pe_int (fun _ _ => rfl)) pe_int (nomark _))
        (pss_cons (ps_set (i := 2) scD.nd rfl (.inl rfl) (pe_op op_mod (pe_ix ix_list (pv 0) pe_int (fun _ _ => rfl)) (pv 1)))
        (pss_cons (ps_asg (pe_op op_fdiv (pe_ix ix_list (pv 0) pe_int (fun _ _ => rfl)) (pv 1)) (pg_sub (pv 0) pe_int set_list))
        (pss_one (ps_ret (pv 2))))) pss_nil)
      (pss_cons (ps_set (i := 3) scD.nd rfl (.inl rfl) (pe_op op_mod (pe_op op_pow (pe_op op_add (pe_op op_add (pe_ix ix_list (pv 0) pe_int (fun _ _ => rfl)) (pe_op op_mul pe_int (pe_ix ix_list (pv 0) pe_int (fun _ _ => rfl)))) pe_int) pe_int) pe_int))
      (pss_one (ps_ret (pe_op op_mod (pe_op op_mod (pe_op op_pow (pe_op op_add (pe_op op_add (pe_op op_mul (pv 3) pe_int) (pe_op op_mul (pe_op op_mul pe_int (pe_ix ix_list (pv 0) pe_int (fun _ _ => rfl))) (pe_ix ix_list (pv 0) pe_int (fun _ _ => rfl)))) pe_int) pe_int) pe_int) (pv 1))))))), ?_⟩
    have nsa : st ≠ a := fun z => by
      rw [z, ha] at hs
      have := Option.some.inj hs
      injection this with this
      cases ns with
      | nil => simp at this
      | cons x xs => simp at this
    refine ⟨_, rfl, st, _, _, _, rfl, rfl, SqL.of hs, ixs 2 rfl, _, _, rfl, rfl, _, rfl, st, _, _, 2, rfl, rfl, hs, rfl, ?_⟩
    refine ⟨fun σ H' => ∃ (ns : List Int) (big seed : Int), σ = [some (.ref st), some (.int m), none, none] ∧ H' st = some (.lst [.ref a, .int big, .int (n + 1 : Nat), .int seed]) ∧ H' a = some (.lst (ns.map V.int)) ∧ 0 ≤ seed ∧ seed < 2147483647 ∧ Else2 st a H H', ?_, ?_⟩
    · have el0 : ∀ o, Else2 st a H (upd H st o) := fun o b u e n1 n2 => by rw [upd_ne n1]; exact e
      have ha1 : ∀ o, upd H st o a = some (.lst (ns.map V.int)) := fun o => by rw [upd_ne nsa.symm]; exact ha
      refine ⟨_, rfl, st, _, _, _, rfl, rfl, SqL.of upd_same, ixs 1 rfl, rfl, _, rfl, ite2 (fun hb => ?_) (fun hb => ?_)⟩
      · refine ⟨_, rfl, st, _, _, _, rfl, rfl, SqL.of upd_same, ixs 0 rfl, (by show 0 ≤ sizeLine; decide), fun e he => ?_⟩
        have nae : a ≠ e := ne_of_none (ha1 _) he
        have nse : st ≠ e := ne_of_none upd_same he
        refine ⟨.list (ns.map .int), .list [], .lst (SqL.of (by rw [upd_ne nae]; exact ha1 _)) (dpInts _ ns), .lst (SqL.of upd_same) .nil, shInts ns, by decide, _, rfl, ?_⟩
        have el1 : ∀ o, Else2 st a H (upd (upd H st o) e (.lst [])) := fun o b u q n1 n2 => by
          by_cases hbe : b = e
          · subst hbe
            rw [upd_ne n1] at he
            rw [q] at he
            cases he
          · rw [upd_ne hbe, upd_ne n1]; exact q
        cases ns with
        | nil =>
          refine iteFc (by simp [PyData.eqv, PyData.eqvAll]) ?_
          exact ⟨[], big, seed, rfl, (by rw [upd_ne nse, upd_same]; rfl), (by rw [upd_ne nae]; exact ha1 _), s0, s1, el1 _⟩
        | cons x xs =>
          refine iteTc (by simp [PyData.eqv, PyData.eqvAll]) ?_
          have qS : ∀ o, upd (upd H st o) e (.lst []) st = some o := fun o => by rw [upd_ne nse, upd_same]
          have qA : ∀ o, upd (upd H st o) e (.lst []) a = some (.lst ((x :: xs).map V.int)) := fun o => by rw [upd_ne nae]; exact ha1 _
          have ix0 : seqIndex? 0 (List.map V.int (x :: xs)).length = some 0 := (ixN_seq (by unfold ixN; simp)).1
          refine ⟨_, rfl, st, _, _, _, rfl, rfl, SqL.of (qS _), ixs 0 rfl, .inl ⟨rfl, _, SqL.of (qA _)⟩, a, _, 0, 0, _, rfl, rfl, qA _, by decide, by decide, ix0, rfl, ?_⟩
          have rS : ∀ o u, upd (upd (upd H st o) e (.lst [])) a u st = some o := fun o u => by rw [upd_ne nsa]; exact qS o
          refine ⟨_, rfl, st, _, _, 1, rfl, rfl, rS _ _, rfl, ?_⟩
          have el2 : ∀ o u z, Else2 st a H (upd (upd (upd (upd H st o) e (.lst [])) a u) st z) := fun o u z b v q n1 n2 => by
            rw [upd_ne n1, upd_ne n2]; exact el1 _ b v q n1 n2
          have tA : ∀ o u z, upd (upd (upd (upd H st o) e (.lst [])) a u) st z a = some u := fun o u z => by rw [upd_ne nsa.symm, upd_same]
          refine ⟨_, rfl, st, _, _, _, rfl, rfl, SqL.of upd_same, ixs 1 rfl, _, _, rfl, rfl, ⟨by decide, by decide, by decide⟩, _, _, rfl, rfl, _, rfl, ite2 (fun hb => ?_) (fun hb => ?_)⟩
          · refine ⟨_, rfl, st, _, _, _, rfl, rfl, SqL.of upd_same, ixs 3 rfl, _, _, rfl, rfl, .inl ⟨by omega, by omega⟩, _, rfl, st, _, _, _, rfl, rfl, SqL.of upd_same, ixs 1 rfl, _, _, rfl, rfl, _, _, rfl, rfl, _, _, rfl, rfl, (by show (0 : Int) < 2147483647; decide), _, rfl, st, _, _, 3, rfl, rfl, upd_same, rfl, ?_⟩
            refine ⟨_, rfl, st, _, _, 1, rfl, rfl, upd_same, rfl, ?_⟩
            rw [upd_upd, upd_upd]
            exact ⟨xs, 0, _, rfl, upd_same, tA _ _ _, Int.emod_nonneg _ (by decide), Int.emod_lt_of_pos _ (by decide), el2 _ _ _⟩
          · exact ⟨xs, x, seed, rfl, upd_same, tA _ _ _, s0, s1, el2 _ _ _⟩
      · refine iteF ⟨ns, big, seed, rfl, upd_same, ha1 _, s0, s1, el0 _⟩
    · rintro σ' H' ⟨ns, big, seed, rfl, hs, ha, s0, s1, el⟩
      have hn' : ((n + 1 : Nat) : Int) ≤ 1000000 := by omega
      have hn0 : (0 : Int) ≤ ((n + 1 : Nat) : Int) := by omega
      generalize hN : ((n + 1 : Nat) : Int) = N at hs hn' hn0
      have nsa' : st ≠ a := nsa
      refine ⟨_, rfl, st, _, _, _, rfl, rfl, SqL.of hs, ixs 1 rfl, _, _, rfl, rfl, _, rfl, ite2 (fun hb => ?_) (fun hb => ?_)⟩
      · refine ⟨_, rfl, st, _, _, _, rfl, rfl, SqL.of hs, ixs 1 rfl, _, rfl, _, _, rfl, rfl, m0, ?_⟩
        refine ⟨_, rfl, st, _, _, _, rfl, rfl, SqL.of hs, ixs 1 rfl, _, rfl, _, _, rfl, rfl, ⟨m0, (by omega)⟩, _, rfl, st, _, _, 1, rfl, rfl, hs, rfl, ?_⟩
        refine ⟨_, rfl, k _ _ (Int.emod_nonneg _ (by omega)) (Int.emod_lt_of_pos _ m0) ⟨ns, _, seed, (by rw [upd_same, ← hN]; rfl), (by rw [upd_ne nsa'.symm]; exact ha), s0, s1⟩ fun b o e n1 n2 => ?_⟩
        rw [upd_ne n1]
        exact el b o e n1 n2
      · have b1 : (0 : Int) ≤ 104729 * N ∧ 104729 * N ≤ 104729000000 := by omega
        refine ⟨_, rfl, st, _, _, _, rfl, rfl, SqL.of hs, ixs 3 rfl, _, rfl, st, _, _, _, rfl, rfl, SqL.of hs, ixs 2 rfl, _, _, rfl, rfl, .inl ⟨by decide, by decide⟩, _, _, rfl, rfl, _, _, rfl, rfl, _, _, rfl, rfl, ⟨by decide, by decide, by omega⟩, _, _, rfl, rfl, (by show (0 : Int) < 2147483629; decide), ?_⟩
        generalize hM : ((seed + 104729 * N + 17) ^ (5 : Int).toNat) % 2147483629 = M
        have c0 : 0 ≤ M := by rw [← hM]; exact Int.emod_nonneg _ (by decide)
        have c1 : M < 2147483629 := by rw [← hM]; exact Int.emod_lt_of_pos _ (by decide)
        have d0 : (0 : Int) ≤ 40503 * N ∧ 40503 * N ≤ 40503000000 := by omega
        have d1 : (0 : Int) ≤ 40503 * N * N := Int.mul_nonneg d0.1 hn0
        have d2 : 40503 * N * N ≤ 40503000000 * 1000000 := Int.mul_le_mul d0.2 hn' hn0 (by decide)
        refine ⟨_, rfl, _, _, rfl, rfl, .inl ⟨by omega, by omega⟩, _, rfl, st, _, _, _, rfl, rfl, SqL.of hs, ixs 2 rfl, _, _, rfl, rfl, .inl ⟨by decide, by decide⟩, _, rfl, st, _, _, _, rfl, rfl, SqL.of hs, ixs 2 rfl, _, _, rfl, rfl, .inl ⟨by omega, by omega⟩, _, _, rfl, rfl, _, _, rfl, rfl, _, _, rfl, rfl, ⟨by decide, by decide, by omega⟩, _, _, rfl, rfl, (by show (0 : Int) < 1000000007; decide), _, rfl, _, _, rfl, rfl, m0, ?_⟩
        exact k _ _ (Int.emod_nonneg _ (by omega)) (Int.emod_lt_of_pos _ m0) ⟨ns, big, seed, (by rw [hs, ← hN]), ha, s0, s1⟩ el
theorem fn_none {f : Addr} {fd : FuncData} {ps : List Str} {k : Nat} : FnOk P w K mg base CX0 k f fd ps (fun _ _ _ _ => False) := ⟨fun _ _ _ _ h => h.elim, fun _ _ _ _ _ _ _ _ _ _ _ _ _ h => h.elim⟩
end
def Live (H H' : Hp) : Prop := ∀ b, H b ≠ none → H' b ≠ none
theorem Live.refl (H : Hp) : Live H H := fun _ h => h
theorem Live.trans {H H1 H2 : Hp} (x : Live H H1) (y : Live H1 H2) : Live H H2 := fun b h => y b (x b h)
theorem Live.of_same {H H1 : Hp} (x : Same H H1) : Live H H1 := fun b h => by
  cases q : H b with
  | none => exact absurd q h
  | some o => rw [x b o q]; simp
theorem Live.upd (H : Hp) (a : Addr) (o : HO) : Live H (upd H a o) := fun b h => by
  by_cases e : b = a
  · rw [e, upd_same]; simp
  · rw [upd_ne e]; exact h
theorem Live.none {H H1 : Hp} (x : Live H H1) {b : Addr} (h : H1 b = Option.none) : H b = Option.none := Classical.byContradiction fun z => x b z h
theorem Else2.refl {s a : Addr} (H : Hp) : Else2 s a H H := fun _ _ e _ _ => e
theorem Else2.trans {s a : Addr} {H H1 H2 : Hp} (x : Else2 s a H H1) (y : Else2 s a H1 H2) : Else2 s a H H2 := fun b o e n1 n2 => y b o (x b o e n1 n2) n1 n2
theorem Else2.of_same {s a : Addr} {H H1 : Hp} (x : Same H H1) : Else2 s a H H1 := fun b o e _ _ => x b o e
theorem StreamAt.ne {H : Hp} {s a : Addr} {n : Nat} (h : StreamAt H s a n) : s ≠ a := fun z => by
  obtain ⟨ns, big, seed, h1, h2, _⟩ := h
  rw [z, h2] at h1
  have := Option.some.inj h1
  injection this with this
  cases ns <;> simp at this
theorem StreamAt.same {H H' : Hp} {s a : Addr} {n : Nat} (h : StreamAt H s a n) (e : Same H H') : StreamAt H' s a n := by
  obtain ⟨ns, big, seed, h1, h2, h3⟩ := h
  exact ⟨ns, big, seed, e _ _ h1, e _ _ h2, h3⟩
theorem StreamAt.live {H H' : Hp} {s a : Addr} {n : Nat} (h : StreamAt H' s a n) (e : Else2 s a H H') : Live H H' := fun b hb => by
  obtain ⟨ns, big, seed, h1, h2, _⟩ := h
  by_cases e1 : b = s
  · rw [e1, h1]; simp
  by_cases e2 : b = a
  · rw [e2, h2]; simp
  cases q : H b with
  | none => exact absurd q hb
  | some o => rw [e b o q e1 e2]; simp
theorem StreamAt.tr {H : Hp} {s a : Addr} {n : Nat} (h : StreamAt H s a n) : H s ≠ none ∧ H a ≠ none := by
  obtain ⟨ns, big, seed, h1, h2, _⟩ := h
  rw [h1, h2]
  simp
theorem StreamAt.upd {H : Hp} {s a b : Addr} {n : Nat} {o : HO} (h : StreamAt H s a n) (h1 : b ≠ s) (h2 : b ≠ a) : StreamAt (upd H b o) s a n := by
  obtain ⟨ns, big, seed, e1, e2, e3⟩ := h
  exact ⟨ns, big, seed, by rw [upd_ne h1.symm]; exact e1, by rw [upd_ne h2.symm]; exact e2, e3⟩
end XE

set_option Elab.async false
set_option linter.all false
set_option maxRecDepth 100000
set_option maxHeartbeats 1000000
/-! XS5: _law_same, _law_lists_of -/
namespace XE
open PySem PySem.Spec PyProof.Rows L2 RZ Rx SX Rc
abbrev sLSame : Stmt := topS 41
abbrev sLLists : Stmt := topS 42
/-- small data, so deep at most -/
inductive SmD : Nat → PyData → Prop where
  | str {n : Nat} (x : Str) : SmD n (.str x)
  | int {n : Nat} (i : Int) : SmD n (.int i)
  | bl {n : Nat} (b : Bool) : SmD n (.bool b)
  | non {n : Nat} : SmD n .none
  | lst {n : Nat} {xs : List PyData} : xs.length ≤ 1000 → (∀ x ∈ xs, SmD n x) → SmD (n + 1) (.list xs)
  | tup {n : Nat} {xs : List PyData} : xs.length ≤ 1000 → (∀ x ∈ xs, SmD n x) → SmD (n + 1) (.tuple xs)
/-- the same data twice: True -/
def spSame (K : PySem.W.Frag) (n : Nat) : Sp := fun vs H Q _ => ∃ (u v : V) (d : PyData), vs = [u, v] ∧ Dp K H u d ∧ Dp K H v d ∧ SmD n d ∧ ∀ H', Same H H' → Q (.bl true) H'
section
variable {P : Program} {w : World} {K : PySem.W.Frag} {mg : Str → Option Value} {base : Heap}
abbrev lsmN : List Str := ["_law_found", "_law_due", "_law_a", "_law_b"]
theorem scLSame : FnScope lsmN ["_law_found", "_law_due"] (defScope sLSame) := ⟨rfl, rfl, rfl, by decide +kernel, rfl, by decide +kernel, by decide +kernel⟩
theorem step_lsame {n : Nat} {f : Addr} {fd : FuncData} {spR : Sp} (F : Fun K "_law_same" "_law_same" sLSame f fd) (misi : mg "isinstance" = none) (mlen : mg "len" = none) (mall : mg "all" = none) (mzip : mg "zip" = none) (mlist : mg "list" = none) (mtup : mg "tuple" = none) (mint : mg "int" = none) (mbool : mg "bool" = none)
    (CS : Cal P w K mg base (n + 1) "_law_same" f fd ["_law_found", "_law_due"] spR) (hR : ∀ k, n = k + 1 → spR = spSame K k) : FnOk P w K mg base CX0 (n + 2) f fd ["_law_found", "_law_due"] (spSame K n) := by
  refine F.ok scLSame (fun vs H Q E h => ?_) (fun cdv A outer s H vs Q E hr h => ?_)
  · obtain ⟨_, _, _, rfl, _⟩ := h
    rfl
  · obtain ⟨u, v, d, rfl, hu1, hv1, hd, k⟩ := h
    have hr1 : Room (n + 1) _ := hr
    refine ⟨_, (pss_cons (ps_if (pt_val (pe_callB call_isiT (by rfl) misi (by decide +kernel) (pa_cons (pv 1) (pa_cons (pe_tup (pa_cons (pe_bltn (v := .ty "list") (by rfl) mlist (by decide +kernel) rfl) (pa_cons (pe_bltn (v := .ty "tuple") (by rfl) mtup (by decide +kernel) rfl) pa_nil))) pa_nil)))) (pss_cons (ps_if (PW.pt (pw_or (pt_cmpR op_ne (pe_callB call_isi (by rfl) misi (by decide +kernel) (pa_cons (pv 0) (pa_cons (pe_bltn (v := .ty "list") (by rfl) mlist (by decide +kernel) rfl) pa_nil))) (pe_callB call_isi (by rfl) misi (by decide +kernel) (pa_cons (pv 1) (pa_cons (pe_bltn (v := .ty "list") (by rfl) mlist (by decide +kernel) rfl) pa_nil))) (nomark _)) (pw_or1 (pt_cmpR op_ne (pe_callB call_isi (by rfl) misi (by decide +kernel) (pa_cons (pv 0) (pa_cons (pe_bltn (v := .ty "tuple") (by rfl) mtup (by decide +kernel) rfl) pa_nil))) (pe_callB call_isi (by rfl) misi (by decide +kernel) (pa_cons (pv 1) (pa_cons (pe_bltn (v := .ty "tuple") (by rfl) mtup (by decide +kernel) rfl) pa_nil))) (nomark _))))) (pss_one (ps_ret pe_bl)) pss_nil) (pss_one (ps_ret (pe_and (pe_cmpR op_eq (pe_callB call_len_seq (by rfl) mlen PySem.boot_len (pa_cons (pv 0) pa_nil)) (pe_callB call_len_seq (by rfl) mlen PySem.boot_len (pa_cons (pv 1) pa_nil)) (nomark _)) (pe_one (pe_callB (cr_all rfl) (by rfl) mall (by decide +kernel) (pa_cons (pe_lc (own := [("_law_a", 2), ("_law_b", 3)]) (g := gTup K 2 (gCons (gName 2) (gCons (gName 3) gNil))) (tt := tYes) (te := tCall spR [] E0 (tCons (tVar 2) (tCons (tVar 3) tNil))) rfl scLSame.nd (pi_zipA (by rfl) mzip (pa_cons (pv 0) (pa_cons (pv 1) pa_nil))) (blkOk_by (own := [("_law_a", 2), ("_law_b", 3)]) (N := lsmN) (sc := defScope sLSame) (by decide +kernel)) (fun _ _ _ _ _ => (pg_tup rfl (pgs_cons (pg_name (i := 2) scLSame.nd rfl (Or.inl rfl)) (pgs_cons (pg_name (i := 3) scLSame.nd rfl (Or.inl rfl)) pgs_nil)))) (fun _ _ _ _ _ => pts_nil) (fun _ _ _ _ _ => (pe_call CS.ok hr1 rfl CS.mg CS.kp CS.bi .nil pass0 (pa_cons (pv 2) (pa_cons (pv 3) pa_nil))))) pa_nil))))))) pss_nil) (pss_cons (ps_if (pt_val (pe_callB call_isi (by rfl) misi (by decide +kernel) (pa_cons (pv 1) (pa_cons (pe_bltn (v := .ty "int") (by rfl) mint (by decide +kernel) rfl) pa_nil)))) (pss_one (ps_ret (pe_and (pe_callB call_isi (by rfl) misi (by decide +kernel) (pa_cons (pv 0) (pa_cons (pe_bltn (v := .ty "int") (by rfl) mint (by decide +kernel) rfl) pa_nil))) (pe_and (pe_cmpR op_eq (pe_callB call_isi (by rfl) misi (by decide +kernel) (pa_cons (pv 0) (pa_cons (pe_bltn (v := .ty "bool") (by rfl) mbool (by decide +kernel) rfl) pa_nil))) (pe_callB call_isi (by rfl) misi (by decide +kernel) (pa_cons (pv 1) (pa_cons (pe_bltn (v := .ty "bool") (by rfl) mbool (by decide +kernel) rfl) pa_nil))) (nomark _)) (pe_one (pe_cmpR op_eq (pv 0) (pv 1) (nomark _))))))) pss_nil) (pss_one (ps_ret (pe_and (pe_not (pe_callB call_isi (by rfl) misi (by decide +kernel) (pa_cons (pv 0) (pa_cons (pe_bltn (v := .ty "int") (by rfl) mint (by decide +kernel) rfl) pa_nil)))) (pe_one (pe_cmpR op_eq (pv 0) (pv 1) (nomark _)))))))), ?_⟩
    cases hd with
    | lst hxl hx =>
      rename_i n xs
      have eR := hR n rfl
      subst eR
      obtain ⟨p1, us, rfl, hp1, hpd1⟩ : ∃ p us, u = .ref p ∧ SqL K H p us ∧ DpAll K H us xs := by
        cases hu1 with
        | lst h1 h2 => exact ⟨_, _, rfl, h1, h2⟩
      obtain ⟨p2, ws, rfl, hp2, hpd2⟩ : ∃ p us, v = .ref p ∧ SqL K H p us ∧ DpAll K H us xs := by
        cases hv1 with
        | lst h1 h2 => exact ⟨_, _, rfl, h1, h2⟩
      refine ⟨_, rfl, (by show 2 ≤ sizeLine; decide), fun q hq => ?_⟩
      have s1 := same_new (o := .tup [.ty "list", .ty "tuple"]) hq
      obtain ⟨ty, tx, tk⟩ := ty_dp (dp_same s1 hv1)
      refine ⟨_, q, _, ty, _, _, rfl, upd_same, .cons (.ty "list") (.cons (.ty "tuple") .nil), tx, tk, _, rfl, iteTc rfl ?_⟩
      have k2 := fun H' (s : Same (upd H q (.tup [.ty "list", .ty "tuple"])) H') => k H' (s1.trans s)
      have hu2 := dp_same s1 hu1
      have hv2 := dp_same s1 hv1
      replace hp1 := sqL_same s1 hp1
      replace hp2 := sqL_same s1 hp2
      replace hpd1 := dpAll_same s1 hpd1
      replace hpd2 := dpAll_same s1 hpd2
      generalize upd H q (.tup [.ty "list", .ty "tuple"]) = H1 at k2 hu2 hv2 hp1 hp2 hpd1 hpd2 ⊢
      refine ⟨_, rfl, _, _, _, _, _, rfl, .ty "list", dp_tyX hu2, kit_list hu2, _, rfl, _, _, _, _, _, rfl, .ty "list", dp_tyX hv2, kit_list hv2, rfl, _, rfl, iteFc (by simp) ?_⟩
      refine ⟨_, rfl, _, _, _, _, _, rfl, .ty "tuple", dp_tyX hu2, kit_tup hu2, _, rfl, _, _, _, _, _, rfl, .ty "tuple", dp_tyX hv2, kit_tup hv2, rfl, _, rfl, iteFc (by simp) ?_⟩
      have l1 := dpAll_len hpd1
      have l2 := dpAll_len hpd2
      refine ⟨_, rfl, p1, us, rfl, .inl hp1, _, rfl, p2, ws, rfl, .inl hp2, rfl, ?_⟩
      have ll : us.length = ws.length := by rw [l1, l2]
      refine ⟨_, rfl, iteTc (decide_eq_true (by rw [ll])) ?_⟩
      refine ⟨_, rfl, _, rfl, p1, p2, us, ws, rfl, .inl ⟨hp1, hp2, fun D nD => ?_⟩⟩
      refine lc_it (walk_zip rfl) (fun j Hy => Same H1 Hy ∧ Hy D = some (.lst ((List.replicate j true).map V.bl))) ⟨same_new nD, upd_same⟩ (fun j Hy _ q => ⟨sqL_same q.1 hp1, sqL_same q.1 hp2⟩) ?_ ?_
      · rintro j x Hy Hy' hj ⟨sy, hD⟩ ⟨T, x1, x2, rfl, nT, rfl, e1, e2⟩
        obtain ⟨d1, hd1, g1⟩ := dpAll_at hpd1 e1
        obtain ⟨d2, hd2, g2⟩ := dpAll_at hpd2 e2
        rw [hd1] at hd2
        injection hd2 with hd2
        subst hd2
        have s2 := sy.trans (same_new (o := .tup [x1, x2]) nT)
        have hT := upd_same (H := Hy) (a := T) (o := .tup [x1, x2])
        have hD2 := same_new (o := .tup [x1, x2]) nT _ _ hD
        show gTup _ _ _ (V.ref T) _ (upd Hy T (.tup [x1, x2])) _
        generalize upd Hy T (.tup [x1, x2]) = H2 at s2 hT hD2 ⊢
        refine ⟨T, _, rfl, SqT.of hT, rfl, _, _, rfl, _, _, rfl, rfl, rfl, ?_⟩
        dsimp only [tYes]
        rw [if_pos rfl]
        refine ⟨_, rfl, _, rfl, x1, x2, d1, rfl, dp_same s2 g1, dp_same s2 g2, hx d1 (List.mem_of_getElem? hd1), fun H3 s3 => ⟨_, s3 _ _ hD2, ?_, same_upd (s2.trans s3) nD, ?_⟩⟩
        · rw [List.length_map, List.length_replicate]
          exact fitR (by have := (List.getElem?_eq_some_iff.mp hd1).1; omega)
        · rw [upd_same, List.replicate_succ', List.map_append]
          rfl
      · rintro Hy ⟨sy, hD⟩
        refine ⟨D, _, rfl, SqL.of hD, ?_⟩
        have : ∀ m : Nat, (List.replicate m true).all id = true := fun m => by
          rw [List.all_eq_true]
          intro x hx
          rw [(List.mem_replicate.mp hx).2]
          rfl
        rw [this]
        exact k2 Hy sy
    | tup hxl hx =>
      rename_i n xs
      have eR := hR n rfl
      subst eR
      obtain ⟨p1, us, rfl, hp1, hpd1⟩ : ∃ p us, u = .ref p ∧ SqT K H p us ∧ DpAll K H us xs := by
        cases hu1 with
        | tup h1 h2 => exact ⟨_, _, rfl, h1, h2⟩
      obtain ⟨p2, ws, rfl, hp2, hpd2⟩ : ∃ p us, v = .ref p ∧ SqT K H p us ∧ DpAll K H us xs := by
        cases hv1 with
        | tup h1 h2 => exact ⟨_, _, rfl, h1, h2⟩
      refine ⟨_, rfl, (by show 2 ≤ sizeLine; decide), fun q hq => ?_⟩
      have s1 := same_new (o := .tup [.ty "list", .ty "tuple"]) hq
      obtain ⟨ty, tx, tk⟩ := ty_dp (dp_same s1 hv1)
      refine ⟨_, q, _, ty, _, _, rfl, upd_same, .cons (.ty "list") (.cons (.ty "tuple") .nil), tx, tk, _, rfl, iteTc rfl ?_⟩
      have k2 := fun H' (s : Same (upd H q (.tup [.ty "list", .ty "tuple"])) H') => k H' (s1.trans s)
      have hu2 := dp_same s1 hu1
      have hv2 := dp_same s1 hv1
      replace hp1 := sqT_same s1 hp1
      replace hp2 := sqT_same s1 hp2
      replace hpd1 := dpAll_same s1 hpd1
      replace hpd2 := dpAll_same s1 hpd2
      generalize upd H q (.tup [.ty "list", .ty "tuple"]) = H1 at k2 hu2 hv2 hp1 hp2 hpd1 hpd2 ⊢
      refine ⟨_, rfl, _, _, _, _, _, rfl, .ty "list", dp_tyX hu2, kit_list hu2, _, rfl, _, _, _, _, _, rfl, .ty "list", dp_tyX hv2, kit_list hv2, rfl, _, rfl, iteFc (by simp) ?_⟩
      refine ⟨_, rfl, _, _, _, _, _, rfl, .ty "tuple", dp_tyX hu2, kit_tup hu2, _, rfl, _, _, _, _, _, rfl, .ty "tuple", dp_tyX hv2, kit_tup hv2, rfl, _, rfl, iteFc (by simp) ?_⟩
      have l1 := dpAll_len hpd1
      have l2 := dpAll_len hpd2
      refine ⟨_, rfl, p1, us, rfl, .inr hp1, _, rfl, p2, ws, rfl, .inr hp2, rfl, ?_⟩
      have ll : us.length = ws.length := by rw [l1, l2]
      refine ⟨_, rfl, iteTc (decide_eq_true (by rw [ll])) ?_⟩
      refine ⟨_, rfl, _, rfl, p1, p2, us, ws, rfl, .inr ⟨hp1, hp2, fun D nD => ?_⟩⟩
      refine lc_it (walk_zipT rfl) (fun j Hy => Same H1 Hy ∧ Hy D = some (.lst ((List.replicate j true).map V.bl))) ⟨same_new nD, upd_same⟩ (fun j Hy _ q => ⟨sqT_same q.1 hp1, sqT_same q.1 hp2⟩) ?_ ?_
      · rintro j x Hy Hy' hj ⟨sy, hD⟩ ⟨T, x1, x2, rfl, nT, rfl, e1, e2⟩
        obtain ⟨d1, hd1, g1⟩ := dpAll_at hpd1 e1
        obtain ⟨d2, hd2, g2⟩ := dpAll_at hpd2 e2
        rw [hd1] at hd2
        injection hd2 with hd2
        subst hd2
        have s2 := sy.trans (same_new (o := .tup [x1, x2]) nT)
        have hT := upd_same (H := Hy) (a := T) (o := .tup [x1, x2])
        have hD2 := same_new (o := .tup [x1, x2]) nT _ _ hD
        show gTup _ _ _ (V.ref T) _ (upd Hy T (.tup [x1, x2])) _
        generalize upd Hy T (.tup [x1, x2]) = H2 at s2 hT hD2 ⊢
        refine ⟨T, _, rfl, SqT.of hT, rfl, _, _, rfl, _, _, rfl, rfl, rfl, ?_⟩
        dsimp only [tYes]
        rw [if_pos rfl]
        refine ⟨_, rfl, _, rfl, x1, x2, d1, rfl, dp_same s2 g1, dp_same s2 g2, hx d1 (List.mem_of_getElem? hd1), fun H3 s3 => ⟨_, s3 _ _ hD2, ?_, same_upd (s2.trans s3) nD, ?_⟩⟩
        · rw [List.length_map, List.length_replicate]
          exact fitR (by have := (List.getElem?_eq_some_iff.mp hd1).1; omega)
        · rw [upd_same, List.replicate_succ', List.map_append]
          rfl
      · rintro Hy ⟨sy, hD⟩
        refine ⟨D, _, rfl, SqL.of hD, ?_⟩
        have : ∀ m : Nat, (List.replicate m true).all id = true := fun m => by
          rw [List.all_eq_true]
          intro x hx
          rw [(List.mem_replicate.mp hx).2]
          rfl
        rw [this]
        exact k2 Hy sy
    | str x =>
      cases hu1
      cases hv1
      refine ⟨_, rfl, (by show 2 ≤ sizeLine; decide), fun q hq => ?_⟩
      have s1 := same_new (o := .tup [.ty "list", .ty "tuple"]) hq
      obtain ⟨ty, tx, tk⟩ := ty_dp (K := K) (H := upd H q (.tup [.ty "list", .ty "tuple"])) (Dp.str x)
      refine ⟨_, q, _, ty, _, _, rfl, upd_same, .cons (.ty "list") (.cons (.ty "tuple") .nil), tx, tk, _, rfl, iteFc rfl ?_⟩
      have k2 := k _ s1
      generalize upd H q (.tup [.ty "list", .ty "tuple"]) = H1 at k2 ⊢
      have dz : Dp K H1 _ _ := Dp.str x
      refine ⟨_, rfl, _, _, _, _, _, rfl, .ty "int", dp_tyX dz, kit_int dz, _, rfl, iteFc rfl ?_⟩
      refine ⟨_, rfl, _, _, _, _, _, rfl, .ty "int", dp_tyX dz, kit_int dz, _, rfl, _, rfl, iteTc rfl ⟨_, rfl, _, rfl, rfl, ?_⟩⟩
      show Q (.bl (decide (V.str x = V.str x))) H1
      rw [decide_eq_true rfl]
      exact k2
    | int i =>
      cases hu1
      cases hv1
      refine ⟨_, rfl, (by show 2 ≤ sizeLine; decide), fun q hq => ?_⟩
      have s1 := same_new (o := .tup [.ty "list", .ty "tuple"]) hq
      obtain ⟨ty, tx, tk⟩ := ty_dp (K := K) (H := upd H q (.tup [.ty "list", .ty "tuple"])) (Dp.int i)
      refine ⟨_, q, _, ty, _, _, rfl, upd_same, .cons (.ty "list") (.cons (.ty "tuple") .nil), tx, tk, _, rfl, iteFc rfl ?_⟩
      have k2 := k _ s1
      generalize upd H q (.tup [.ty "list", .ty "tuple"]) = H1 at k2 ⊢
      have dz : Dp K H1 _ _ := Dp.int i
      refine ⟨_, rfl, _, _, _, _, _, rfl, .ty "int", dp_tyX dz, kit_int dz, _, rfl, iteTc rfl ?_⟩
      refine ⟨_, rfl, _, _, _, _, _, rfl, .ty "int", dp_tyX dz, kit_int dz, _, rfl, iteTc rfl ?_⟩
      refine ⟨_, rfl, _, _, _, _, _, rfl, .ty "bool", dp_tyX dz, kit_bool dz, _, rfl, _, _, _, _, _, rfl, .ty "bool", dp_tyX dz, kit_bool dz, rfl, _, rfl, iteTc (decide_eq_true rfl) ⟨_, rfl, _, rfl, rfl, ?_⟩⟩
      show Q (.bl (decide (V.int i = V.int i))) H1
      rw [decide_eq_true rfl]
      exact k2
    | bl b =>
      cases hu1
      cases hv1
      refine ⟨_, rfl, (by show 2 ≤ sizeLine; decide), fun q hq => ?_⟩
      have s1 := same_new (o := .tup [.ty "list", .ty "tuple"]) hq
      obtain ⟨ty, tx, tk⟩ := ty_dp (K := K) (H := upd H q (.tup [.ty "list", .ty "tuple"])) (Dp.bl b)
      refine ⟨_, q, _, ty, _, _, rfl, upd_same, .cons (.ty "list") (.cons (.ty "tuple") .nil), tx, tk, _, rfl, iteFc rfl ?_⟩
      have k2 := k _ s1
      generalize upd H q (.tup [.ty "list", .ty "tuple"]) = H1 at k2 ⊢
      have dz : Dp K H1 _ _ := Dp.bl b
      refine ⟨_, rfl, _, _, _, _, _, rfl, .ty "int", dp_tyX dz, kit_int dz, _, rfl, iteTc rfl ?_⟩
      refine ⟨_, rfl, _, _, _, _, _, rfl, .ty "int", dp_tyX dz, kit_int dz, _, rfl, iteTc rfl ?_⟩
      refine ⟨_, rfl, _, _, _, _, _, rfl, .ty "bool", dp_tyX dz, kit_bool dz, _, rfl, _, _, _, _, _, rfl, .ty "bool", dp_tyX dz, kit_bool dz, rfl, _, rfl, iteTc (decide_eq_true rfl) ⟨_, rfl, _, rfl, rfl, ?_⟩⟩
      show Q (.bl (decide (V.bl b = V.bl b))) H1
      rw [decide_eq_true rfl]
      exact k2
    | non =>
      cases hu1
      cases hv1
      refine ⟨_, rfl, (by show 2 ≤ sizeLine; decide), fun q hq => ?_⟩
      have s1 := same_new (o := .tup [.ty "list", .ty "tuple"]) hq
      obtain ⟨ty, tx, tk⟩ := ty_dp (K := K) (H := upd H q (.tup [.ty "list", .ty "tuple"])) (Dp.non)
      refine ⟨_, q, _, ty, _, _, rfl, upd_same, .cons (.ty "list") (.cons (.ty "tuple") .nil), tx, tk, _, rfl, iteFc rfl ?_⟩
      have k2 := k _ s1
      generalize upd H q (.tup [.ty "list", .ty "tuple"]) = H1 at k2 ⊢
      have dz : Dp K H1 _ _ := Dp.non
      refine ⟨_, rfl, _, _, _, _, _, rfl, .ty "int", dp_tyX dz, kit_int dz, _, rfl, iteFc rfl ?_⟩
      refine ⟨_, rfl, _, _, _, _, _, rfl, .ty "int", dp_tyX dz, kit_int dz, _, rfl, _, rfl, iteTc rfl ⟨_, rfl, _, rfl, rfl, ?_⟩⟩
      show Q (.bl (decide (V.non = V.non))) H1
      rw [decide_eq_true rfl]
      exact k2
theorem ok_lsame {f : Addr} {fd : FuncData} (F : Fun K "_law_same" "_law_same" sLSame f fd) (misi : mg "isinstance" = none) (mlen : mg "len" = none) (mall : mg "all" = none) (mzip : mg "zip" = none) (mlist : mg "list" = none) (mtup : mg "tuple" = none) (mint : mg "int" = none) (mbool : mg "bool" = none)
    (mt : mg "_law_same" = some (.ref f)) (bi : Binds K fd ["_law_found", "_law_due"] []) : ∀ n, Cal P w K mg base (n + 2) "_law_same" f fd ["_law_found", "_law_due"] (spSame K n)
  | 0 => ⟨step_lsame F misi mlen mall mzip mlist mtup mint mbool ⟨fn_none, mt, F.kp, bi⟩ (fun k h => by cases h), mt, F.kp, bi⟩
  | n + 1 => ⟨step_lsame F misi mlen mall mzip mlist mtup mint mbool (ok_lsame F misi mlen mall mzip mlist mtup mint mbool mt bi n) (fun k h => by cases h; rfl), mt, F.kp, bi⟩
end
end XE

set_option Elab.async false
set_option linter.all false
set_option maxRecDepth 100000
set_option maxHeartbeats 1000000
/-! XS6: _law_lists_of -/
namespace XE
open PySem PySem.Spec PyProof.Rows L2 RZ Rx SX Rc
/-- what was laid since H -/
def nwIn (H H' : Hp) : Hp := fun b => if (H b).isSome then none else H' b
theorem nwIn_at {H H' : Hp} {b : Addr} (h : H b = none) : nwIn H H' b = H' b := by unfold nwIn; rw [h]; rfl
theorem nwIn_some {H H' : Hp} {b : Addr} {o : HO} (h : nwIn H H' b = some o) : H b = none ∧ H' b = some o := by
  unfold nwIn at h
  cases q : H b with
  | none => rw [q] at h; exact ⟨rfl, h⟩
  | some u => rw [q] at h; cases h
theorem nwIn_same (H H' : Hp) : Same (nwIn H H') H' := fun b o h => (nwIn_some h).2
theorem nwIn_mono {H0 H1 H1' H2 : Hp} (l : Live H0 H1) (k : ∀ b o, H1 b = none → H1' b = some o → H2 b = some o) : Same (nwIn H1 H1') (nwIn H0 H2) := fun b o h => by
  obtain ⟨n, q⟩ := nwIn_some h
  have n0 : H0 b = none := Classical.byContradiction fun z => l b z n
  rw [nwIn_at n0]
  exact k b o n q
mutual
/-- lists for tuples, all the way -/
def lsF : PyData → PyData
  | .tuple xs => .list (lsAll xs)
  | .list xs => .list (lsAll xs)
  | .none => .none
  | .bool b => .bool b
  | .int i => .int i
  | .str x => .str x
  | .dict d => .dict d
def lsAll : List PyData → List PyData
  | [] => []
  | x :: xs => lsF x :: lsAll xs
end
theorem lsAll_map : ∀ xs : List PyData, lsAll xs = xs.map lsF
  | [] => rfl
  | x :: xs => by rw [lsAll, lsAll_map xs]; rfl
mutual
theorem fix_ls : ∀ d : PyData, fix (lsF d) = fix d
  | .tuple xs => by simp only [lsF, fix]; rw [fixAll_ls xs]
  | .list xs => by simp only [lsF, fix]; rw [fixAll_ls xs]
  | .none => rfl
  | .bool _ => rfl
  | .int _ => rfl
  | .str _ => rfl
  | .dict _ => rfl
theorem fixAll_ls : ∀ xs : List PyData, fixAll (lsAll xs) = fixAll xs
  | [] => rfl
  | x :: xs => by simp only [lsAll, fixAll]; rw [fix_ls x, fixAll_ls xs]
end
mutual
theorem sz_ls : ∀ d : PyData, sz (lsF d) = sz d
  | .tuple xs => by simp only [lsF, sz]; rw [szAll_ls xs]
  | .list xs => by simp only [lsF, sz]; rw [szAll_ls xs]
  | .none => rfl
  | .bool _ => rfl
  | .int _ => rfl
  | .str _ => rfl
  | .dict _ => rfl
theorem szAll_ls : ∀ xs : List PyData, szAll (lsAll xs) = szAll xs
  | [] => rfl
  | x :: xs => by simp only [lsAll, szAll]; rw [sz_ls x, szAll_ls xs]
end
theorem dpAll_snocS {K : PySem.W.Frag} {H : Hp} {v : V} {d : PyData} (h : Dp K H v d) : ∀ {vs : List V} {ds : List PyData}, DpAll K H vs ds → DpAll K H (vs ++ [v]) (ds ++ [d])
  | _, _, .nil => .cons h .nil
  | _, _, .cons a r => .cons a (dpAll_snocS h r)
def spLists (K : PySem.W.Frag) (n : Nat) : Sp := fun vs H Q _ => ∃ (v : V) (d : PyData), vs = [v] ∧ Dp K H v d ∧ SmD n d ∧ ∀ v' H', Same H H' → Dp K (nwIn H H') v' (lsF d) → Q v' H'
section
variable {P : Program} {w : World} {K : PySem.W.Frag} {mg : Str → Option Value} {base : Heap}
abbrev llsN : List Str := ["_law_thing", "_law_part"]
theorem scLLs : FnScope llsN ["_law_thing"] (defScope sLLists) := ⟨rfl, rfl, rfl, by decide +kernel, rfl, by decide +kernel, by decide +kernel⟩
theorem step_lists {n : Nat} {f : Addr} {fd : FuncData} {spR : Sp} (F : Fun K "_law_lists_of" "_law_lists_of" sLLists f fd) (misi : mg "isinstance" = none) (mlist : mg "list" = none) (mtup : mg "tuple" = none)
    (CS : Cal P w K mg base (n + 1) "_law_lists_of" f fd ["_law_thing"] spR) (hR : ∀ k, n = k + 1 → spR = spLists K k) : FnOk P w K mg base CX0 (n + 2) f fd ["_law_thing"] (spLists K n) := by
  refine F.ok scLLs (fun vs H Q E h => ?_) (fun cdv A outer s H vs Q E hr h => ?_)
  · obtain ⟨_, _, rfl, _⟩ := h
    rfl
  · obtain ⟨v, d, rfl, hD, hd, k⟩ := h
    have hr1 : Room (n + 1) _ := hr
    refine ⟨_, (pss_cons (ps_if (pt_val (pe_callB call_isiT (by rfl) misi (by decide +kernel) (pa_cons (pv 0) (pa_cons (pe_tup (pa_cons (pe_bltn (v := .ty "list") (by rfl) mlist (by decide +kernel) rfl) (pa_cons (pe_bltn (v := .ty "tuple") (by rfl) mtup (by decide +kernel) rfl) pa_nil))) pa_nil)))) (pss_one (ps_ret (pe_lc (own := [("_law_part", 1)]) (g := gName 1) (tt := tYes) (te := tCall spR [] E0 (tCons (tVar 1) tNil)) rfl scLLs.nd (pi_seq (pv 0)) (blkOk_by (own := [("_law_part", 1)]) (N := llsN) (sc := defScope sLLists) (by decide +kernel)) (fun _ _ _ _ _ => (pg_name (i := 1) scLLs.nd rfl (Or.inl rfl))) (fun _ _ _ _ _ => pts_nil) (fun _ _ _ _ _ => (pe_call CS.ok hr1 rfl CS.mg CS.kp CS.bi .nil pass0 (pa_cons (pv 1) pa_nil)))))) pss_nil) (pss_one (ps_ret (pv 0)))), ?_⟩
    refine ⟨_, rfl, (by show 2 ≤ sizeLine; decide), fun q hq => ?_⟩
    have s1 := same_new (o := .tup [.ty "list", .ty "tuple"]) hq
    obtain ⟨ty, tx, tk⟩ := ty_dp (dp_same s1 hD)
    refine ⟨_, q, _, ty, _, _, rfl, upd_same, .cons (.ty "list") (.cons (.ty "tuple") .nil), tx, tk, _, rfl, ?_⟩
    have flat : kids d = none → ∀ v', v' = v → Dp K (nwIn H (upd H q (.tup [.ty "list", .ty "tuple"]))) v' (lsF d) → Q v' (upd H q (.tup [.ty "list", .ty "tuple"])) := fun _ v' e h => k v' _ s1 h
    have seq : ∀ (xs : List PyData) (a : Addr) (us : List V) (m : Nat), n = m + 1 → v = .ref a → (SqL K H a us ∨ SqT K H a us) → DpAll K H us xs → xs.length ≤ 1000 → (∀ x ∈ xs, SmD m x) → lsF d = .list (lsAll xs) →
        SeqIt K (upd H q (.tup [.ty "list", .ty "tuple"])) a (fun J H1 => ∀ D, H1 D = none → ∃ W : Nat → Nat → Hp → Prop, (∃ m, W 0 m (upd H1 D (.lst []))) ∧ ∀ i m Hh, W i m Hh → (J.stop i Hh ∧ Q (.ref D) Hh) ∨ (J.go i Hh ∧ ∃ Nx : Hp → Prop, (∀ H', Nx H' → ∃ m', m' < m ∧ W (i + 1) m' H') ∧ ∀ x H', J.yld i Hh x H' → gName 1 x (wipe (L2.start llsN [v]) [1]) H' fun σ2 H2 => wipe σ2 [1] = wipe (L2.start llsN [v]) [1] ∧ tYes σ2 H2 fun b H3 =>
          if b = true then tCall spR [] E0 (tCons (tVar 1) tNil) σ2 H3 fun y H4 => ∃ acc, H4 D = some (.lst acc) ∧ acc.length < sizeLine ∧ Nx (upd H4 D (.lst (acc ++ [y]))) else Nx H3)) := fun xs a us m hnm hva hsq hx hlen hall hls => by
      have hR' := hR m hnm
      subst hR'
      have hsq1 := sq_same hsq s1
      have k1 : ∀ v' H', Same (upd H q (.tup [.ty "list", .ty "tuple"])) H' → Dp K (nwIn (upd H q (.tup [.ty "list", .ty "tuple"])) H') v' (lsF d) → Q v' H' := fun v' H' s h => k v' H' (s1.trans s) (dp_same (nwIn_mono (Live.of_same s1) fun b o _ h => h) h)
      have hx1 := dpAll_same s1 hx
      generalize upd H q (.tup [.ty "list", .ty "tuple"]) = H1 at hsq1 k1 hx1 ⊢
      refine it_seq hsq1 (Same.refl H1) fun J G hG wk => fun D hD' => ?_
      have L := dpAll_len hx
      refine lc_it wk (fun i Hy => ∃ vs, Hy D = some (.lst vs) ∧ vs.length = i ∧ Same H1 Hy ∧ Live (upd H1 D (.lst [])) Hy ∧ DpAll K (nwIn (upd H1 D (.lst [])) Hy) vs ((xs.take i).map lsF)) ⟨[], upd_same, rfl, same_new hD', Live.refl _, .nil⟩ (fun i Hy _ e => by obtain ⟨_, _, _, sm, _⟩ := e; exact hG _ sm) ?_ ?_
      · rintro i x Hy Hy' hi ⟨vs, h1, h2, sm, lv, hv⟩ ⟨rfl, hx0⟩
        obtain ⟨d1, hd1, hdp⟩ := dpAll_at hx1 hx0
        refine ⟨rfl, ?_⟩
        dsimp only [tYes]
        rw [if_pos rfl]
        refine ⟨_, rfl, x, d1, rfl, dp_same sm hdp, hall d1 (List.mem_of_getElem? hd1), fun v' H' s2 hv' => ?_⟩
        have hDn : upd H1 D (.lst []) D ≠ none := by rw [upd_same]; simp
        have hDy : Hy' D ≠ none := by rw [h1]; simp
        refine ⟨vs, s2 _ _ h1, by rw [h2]; exact fitR (by omega), vs ++ [v'], upd_same, by rw [List.length_append, h2]; rfl, ?_, ?_, ?_⟩
        · intro b o hb
          have hbD : b ≠ D := fun z => by rw [z, hD'] at hb; cases hb
          rw [upd_ne hbD]
          exact s2 _ _ (sm _ _ hb)
        · exact (lv.trans (Live.of_same s2)).trans (Live.upd _ _ _)
        · rw [List.take_add_one, hd1]
          simp only [Option.toList, List.map_append, List.map_cons, List.map_nil]
          refine dpAll_snocS ?_ ?_
          · refine dp_same ?_ hv'
            refine nwIn_mono lv (fun b o hb hb2 => ?_)
            have hbD : b ≠ D := fun z => hDy (z ▸ hb)
            rw [upd_ne hbD]
            exact hb2
          · refine dpAll_same ?_ hv
            refine nwIn_mono (Live.refl _) (fun b o hb hb2 => ?_)
            have hbD : b ≠ D := fun z => hDn (z ▸ hb)
            rw [upd_ne hbD]
            exact s2 _ _ hb2
      · rintro Hy ⟨vs, h1, h2, sm, lv, hv⟩
        refine k1 _ _ sm ?_
        rw [hls, lsAll_map]
        rw [L, List.take_length] at hv
        refine .lst (SqL.of (by rw [nwIn_at hD']; exact h1)) (dpAll_same ?_ hv)
        exact nwIn_mono (Live.of_same (same_new hD')) (fun b o _ hb2 => hb2)
    cases hd with
    | str x => cases hD; exact iteFc rfl ⟨_, rfl, flat rfl _ rfl (.str x)⟩
    | int i => cases hD; exact iteFc rfl ⟨_, rfl, flat rfl _ rfl (.int i)⟩
    | bl b => cases hD; exact iteFc rfl ⟨_, rfl, flat rfl _ rfl (.bl b)⟩
    | non => cases hD; exact iteFc rfl ⟨_, rfl, flat rfl _ rfl .non⟩
    | lst hl hx =>
      cases hD with
      | lst h1 h2 => exact iteTc rfl ⟨_, rfl, _, rfl, seq _ _ _ _ rfl rfl (.inl h1) h2 hl hx (by simp only [lsF])⟩
    | tup hl hx =>
      cases hD with
      | tup h1 h2 => exact iteTc rfl ⟨_, rfl, _, rfl, seq _ _ _ _ rfl rfl (.inr h1) h2 hl hx (by simp only [lsF])⟩
theorem ok_lists {f : Addr} {fd : FuncData} (F : Fun K "_law_lists_of" "_law_lists_of" sLLists f fd) (misi : mg "isinstance" = none) (mlist : mg "list" = none) (mtup : mg "tuple" = none)
    (mt : mg "_law_lists_of" = some (.ref f)) (bi : Binds K fd ["_law_thing"] []) : ∀ n, Cal P w K mg base (n + 2) "_law_lists_of" f fd ["_law_thing"] (spLists K n)
  | 0 => ⟨step_lists F misi mlist mtup ⟨fn_none, mt, F.kp, bi⟩ (fun k h => by cases h), mt, F.kp, bi⟩
  | n + 1 => ⟨step_lists F misi mlist mtup (ok_lists F misi mlist mtup mt bi n) (fun k h => by cases h; rfl), mt, F.kp, bi⟩
end
end XE

set_option Elab.async false
set_option linter.all false
set_option maxRecDepth 100000
set_option maxHeartbeats 1000000
/-! RxRun: runs, event by event, and the rows they leave -/
namespace Rc
open PySem PySem.Spec PyProof.Rows L2 RZ Rx SX
abbrev RunL := List (Str × Ev)
def sentV (R : RunL) (a b : Str) : List Int := R.filterMap fun x => if x.1 = a then (match x.2.sendOf with | some (p, v) => if p = b then some v else none | none => none) else none
def recvV (R : RunL) (a b : Str) : Nat := (R.filter fun x => decide (x.1 = b) && decide (x.2.recvOf.map (·.1) = some a)).length
def pend (R : RunL) (a b : Str) : List Int := (sentV R a b).drop (recvV R a b)
inductive RunOk (names : List Str) : RunL → Prop where
  | nil : RunOk names []
  | snoc {R : RunL} {n : Str} {e : Ev} : RunOk names R → n ∈ names → e.ok (othersL names n) = true → (∀ p v, e.recvOf = some (p, v) → (sentV R p n)[recvV R p n]? = some v) → RunOk names (R ++ [(n, e)])
def ofP (R : RunL) (n : Str) : List Ev := R.filterMap fun x => if x.1 = n then some x.2 else none
def runRows (names : List Str) (R : RunL) : Rows := names.map fun n => (n, ofP R n)
theorem sentV_snoc (R : RunL) (n : Str) (e : Ev) (a b : Str) : sentV (R ++ [(n, e)]) a b = sentV R a b ++ (if n = a then (match e.sendOf with | some (p, v) => if p = b then [v] else [] | none => []) else []) := by
  unfold sentV
  rw [List.filterMap_append]
  congr 1
  by_cases h : n = a
  · rw [if_pos h]
    simp only [List.filterMap_cons, List.filterMap_nil, if_pos h]
    cases hs : e.sendOf with
    | none => rfl
    | some pv =>
      obtain ⟨p, v⟩ := pv
      by_cases c : p = b <;> simp [c]
  · rw [if_neg h]
    simp [h]
theorem recvV_snoc (R : RunL) (n : Str) (e : Ev) (a b : Str) : recvV (R ++ [(n, e)]) a b = recvV R a b + (if n = b ∧ e.recvOf.map (·.1) = some a then 1 else 0) := by
  unfold recvV
  rw [List.filter_append, List.length_append]
  congr 1
  by_cases h1 : n = b <;> by_cases h2 : e.recvOf.map (·.1) = some a <;> simp [h1, h2]
theorem ofP_snoc (R : RunL) (n : Str) (e : Ev) (m : Str) : ofP (R ++ [(n, e)]) m = ofP R m ++ (if n = m then [e] else []) := by
  unfold ofP
  rw [List.filterMap_append]
  congr 1
  by_cases h : n = m <;> simp [h]
/-- no more is received than was sent -/
theorem RunOk.le {names : List Str} {R : RunL} (h : RunOk names R) : ∀ a b, recvV R a b ≤ (sentV R a b).length := by
  induction h with
  | nil => exact fun a b => Nat.le_refl _
  | @snoc R n e h hn he hr ih =>
    intro a b
    rw [recvV_snoc, sentV_snoc, List.length_append]
    have h1 := ih a b
    by_cases c : n = b ∧ e.recvOf.map (·.1) = some a
    · rw [if_pos c]
      obtain ⟨rfl, c⟩ := c
      cases hro : e.recvOf with
      | none => rw [hro] at c; cases c
      | some pv =>
        obtain ⟨p, v⟩ := pv
        rw [hro] at c
        have c : p = a := by injection c
        subst c
        have := (List.getElem?_eq_some_iff.mp (hr p v hro)).1
        show _ ≤ (sentV R p n).length + _
        omega
    · rw [if_neg c]
      omega
theorem pend_send {names : List Str} {R : RunL} (h : RunOk names R) {n p : Str} {v : Int} (a b : Str) : pend (R ++ [(n, .send p v)]) a b = if a = n ∧ b = p then pend R a b ++ [v] else pend R a b := by
  unfold pend
  rw [sentV_snoc, recvV_snoc, if_neg (fun z => by cases z.2), Nat.add_zero]
  show (sentV R a b ++ (if n = a then (if p = b then [v] else []) else [])).drop _ = _
  by_cases c : a = n ∧ b = p
  · obtain ⟨rfl, rfl⟩ := c
    rw [if_pos rfl, if_pos rfl, if_pos ⟨rfl, rfl⟩, List.drop_append_of_le_length (h.le _ _)]
  · rw [if_neg c]
    have : (if n = a then (if p = b then [v] else []) else [] : List Int) = [] := by
      split
      · split
        · rename_i h1 h2
          exact absurd ⟨h1.symm, h2.symm⟩ c
        · rfl
      · rfl
    rw [this, List.append_nil]
theorem pend_recv {R : RunL} {n p : Str} {e : Ev} {v : Int} (he : e.recvOf = some (p, v)) (hs : e.sendOf = none) (a b : Str) : pend (R ++ [(n, e)]) a b = if a = p ∧ b = n then (pend R a b).drop 1 else pend R a b := by
  unfold pend
  rw [sentV_snoc, recvV_snoc, hs, he]
  have : (if n = a then ([] : List Int) else []) = [] := by split <;> rfl
  show (sentV R a b ++ (if n = a then [] else [])).drop _ = _
  rw [this, List.append_nil]
  by_cases c : a = p ∧ b = n
  · obtain ⟨rfl, rfl⟩ := c
    rw [if_pos ⟨rfl, rfl⟩, if_pos ⟨rfl, rfl⟩, List.drop_drop]
  · rw [if_neg c, if_neg fun z => c ?_]
    · rfl
    · obtain ⟨z1, z2⟩ := z
      injection z2 with z2
      exact ⟨z2.symm, z1.symm⟩
theorem pend_else {R : RunL} {n : Str} {e : Ev} (he : e.recvOf = none) (hs : e.sendOf = none) (a b : Str) : pend (R ++ [(n, e)]) a b = pend R a b := by
  unfold pend
  rw [sentV_snoc, recvV_snoc, hs, he, if_neg (fun z => by cases z.2), Nat.add_zero]
  have : (if n = a then ([] : List Int) else []) = [] := by split <;> rfl
  show (sentV R a b ++ (if n = a then [] else [])).drop _ = _
  rw [this, List.append_nil]
theorem recv_send {e : Ev} {x : Str × Int} (h : e.recvOf = some x) : e.sendOf = none := by
  cases e <;> first | rfl | cases h
theorem pend_head {R : RunL} {a b : Str} {v : Int} {l : List Int} (h : pend R a b = v :: l) : (sentV R a b)[recvV R a b]? = some v := by
  have : ((sentV R a b).drop (recvV R a b))[0]? = some v := by
    show (pend R a b)[0]? = _
    rw [h]
    rfl
  rwa [List.getElem?_drop, Nat.add_zero] at this
theorem RunOk.names {names : List Str} {R : RunL} (h : RunOk names R) : ∀ x ∈ R, x.1 ∈ names ∧ x.2.ok (othersL names x.1) = true := by
  induction h with
  | nil => exact fun _ h => nomatch h
  | snoc h hn he hr ih =>
    intro x hx
    rcases List.mem_append.mp hx with hx | hx
    · exact ih x hx
    · rw [List.mem_singleton.mp hx]
      exact ⟨hn, he⟩
theorem sentV_mem {R : RunL} {a b : Str} {v : Int} (h : v ∈ sentV R a b) : ∃ e : Ev, (a, e) ∈ R ∧ e.sendOf = some (b, v) := by
  obtain ⟨x, hx, h⟩ := List.mem_filterMap.mp h
  by_cases h1 : x.1 = a
  · rw [if_pos h1] at h
    cases hs : x.2.sendOf with
    | none => rw [hs] at h; cases h
    | some pv =>
      obtain ⟨p, w⟩ := pv
      rw [hs] at h
      dsimp only at h
      by_cases h2 : p = b
      · rw [if_pos h2] at h
        injection h with h
        exact ⟨x.2, by rw [← h1]; exact hx, by rw [hs, h, h2]⟩
      · rw [if_neg h2] at h
        cases h
  · rw [if_neg h1] at h
    cases h
/-- what was sent is a value, and sent to another -/
theorem RunOk.sent {names : List Str} {R : RunL} (h : RunOk names R) {a b : Str} {v : Int} {i : Nat} (e : (sentV R a b)[i]? = some v) : valB v = true ∧ b ∈ othersL names a := by
  obtain ⟨e, he, hs⟩ := sentV_mem (List.mem_of_getElem? e)
  have := (h.names _ he).2
  obtain ⟨rfl, _⟩ := send_rest hs
  have : (decide (b ∈ othersL names a) && valB v) = true := this
  rw [Bool.and_eq_true, decide_eq_true_eq] at this
  exact ⟨this.2, this.1⟩
theorem RunOk.vals {names : List Str} {R : RunL} (h : RunOk names R) {a b : Str} {v : Int} {i : Nat} (e : (sentV R a b)[i]? = some v) : valB v = true := (h.sent e).1
theorem RunOk.self {names : List Str} {R : RunL} (h : RunOk names R) {a : Str} {v : Int} {i : Nat} (e : (sentV R a a)[i]? = some v) : False := by
  have := (List.mem_filter.mp (h.sent e).2).2
  simp at this
end Rc

set_option Elab.async false
set_option linter.all false
set_option maxRecDepth 100000
set_option maxHeartbeats 1000000
/-! XSg: rows that are well made -/
namespace XE
open PySem PySem.Spec PyProof.Rows L2 RZ Rx SX Rc
structure RowsW (m : Nat) (rs : Rows) : Prop where
  ne : rs ≠ []
  few : rs.length ≤ 40
  nd : (rs.map (·.1)).Nodup
  nm : ∀ r ∈ rs, nameB r.1 = true
  ok : ∀ r ∈ rs, ∀ e ∈ r.2, e.ok (othersL (rs.map (·.1)) r.1) = true
  len : ∀ r ∈ rs, r.2.length ≤ m
mutual
theorem fix_noListG : ∀ d : PyData, noList d = true → fix d = d
  | .tuple xs, h => by rw [fix, fixAll_noListG xs (by simpa [noList] using h)]
  | .list xs, h => by simp [noList] at h
  | .none, _ => rfl
  | .bool _, _ => rfl
  | .int _, _ => rfl
  | .str _, _ => rfl
  | .dict _, _ => rfl
theorem fixAll_noListG : ∀ xs : List PyData, noListAll xs = true → fixAll xs = xs
  | [], _ => rfl
  | x :: xs, h => by
    simp only [noListAll, Bool.and_eq_true] at h
    rw [fixAll, fix_noListG x h.1, fixAll_noListG xs h.2]
end
theorem rows_fix (rs : Rows) : fixAll (rs.map rowE) = rs.map rowE := fixAll_noListG _ (rows_noList rs)
theorem rowOf_rowE {r : Str × List Ev} (h : nameB r.1 = true) : rowOf (rowE r) = some (r.1, r.2.map Ev.data) := if_pos h
theorem rowsOfD_rowE : ∀ {rs : Rows}, (∀ r ∈ rs, nameB r.1 = true) → rowsOfD (rs.map rowE) = rs.map fun r => (r.1, r.2.map Ev.data)
  | [], _ => rfl
  | r :: rs, h => by
    have ih := rowsOfD_rowE fun x hx => h x (List.mem_cons_of_mem r hx)
    unfold rowsOfD at ih ⊢
    rw [List.map_cons, List.filterMap_cons, rowOf_rowE (h r (List.mem_cons_self ..))]
    dsimp only
    rw [ih, List.map_cons]
theorem rowBad_rowE : ∀ {rs : Rows} {kn : List Str} {i : Nat}, (∀ r ∈ rs, nameB r.1 = true) → (rs.map (·.1)).Nodup → (∀ r ∈ rs, r.1 ∉ kn) → rs.length + i ≤ 40 → rowBad kn i (rs.map rowE) = none
  | [], _, _, _, _, _, _ => rfl
  | r :: rs, kn, i, h, hd, hk, hl => by
    rw [List.map_cons, List.nodup_cons] at hd
    rw [List.length_cons] at hl
    rw [List.map_cons]
    simp only [rowBad, rowOf_rowE (h r (List.mem_cons_self ..))]
    rw [if_neg (by
      rintro (z | z)
      · omega
      · exact hk r (List.mem_cons_self ..) z)]
    refine rowBad_rowE (fun x hx => h x (List.mem_cons_of_mem _ hx)) hd.2 (fun x hx z => ?_) (by omega)
    rcases List.mem_append.mp z with z | z
    · exact hk x (List.mem_cons_of_mem _ hx) z
    · rw [List.mem_singleton] at z
      exact hd.1 (by rw [← z]; exact List.mem_map.mpr ⟨x, hx, rfl⟩)
theorem evBad_data {os : List Str} : ∀ {es : List Ev} {k : Nat}, (∀ e ∈ es, e.ok os = true) → evBad os k (es.map Ev.data) = none
  | [], _, _ => rfl
  | e :: es, k, h => by
    rw [List.map_cons]
    unfold evBad
    rw [evOf_ok (h e (List.mem_cons_self ..))]
    show (if true = true then _ else _) = none
    rw [if_pos rfl]
    exact evBad_data fun x hx => h x (List.mem_cons_of_mem _ hx)
theorem evsBad_rowE {names : List Str} : ∀ {rs : Rows}, (∀ r ∈ rs, ∀ e ∈ r.2, e.ok (othersL names r.1) = true) → evsBad names (rs.map fun r => (r.1, r.2.map Ev.data)) = none
  | [], _ => rfl
  | r :: rs, h => by
    rw [List.map_cons]
    unfold evsBad
    rw [evBad_data (h r (List.mem_cons_self ..))]
    exact evsBad_rowE fun x hx => h x (List.mem_cons_of_mem _ hx)
theorem filterMap_data {os : List Str} : ∀ {es : List Ev}, (∀ e ∈ es, e.ok os = true) → (es.map Ev.data).filterMap (evOf os) = es
  | [], _ => rfl
  | e :: es, h => by
    rw [List.map_cons, List.filterMap_cons, evOf_ok (h e (List.mem_cons_self ..)), filterMap_data fun x hx => h x (List.mem_cons_of_mem _ hx)]
theorem rowsTy_rowE {names : List Str} {rs : Rows} (h : ∀ r ∈ rs, ∀ e ∈ r.2, e.ok (othersL names r.1) = true) : rowsTy names (rs.map fun r => (r.1, r.2.map Ev.data)) = rs := by
  unfold rowsTy
  rw [List.map_map]
  have : ∀ r ∈ rs, ((fun r : Str × List PyData => (r.1, r.2.filterMap (evOf (othersL names r.1)))) ∘ fun r : Str × List Ev => (r.1, r.2.map Ev.data)) r = r := fun r hr => by
    show (r.1, (r.2.map Ev.data).filterMap _) = r
    rw [filterMap_data (h r hr)]
  rw [List.map_congr_left this, List.map_id']
theorem names_rowE (rs : Rows) : (rs.map fun r => (r.1, r.2.map Ev.data)).map (·.1) = rs.map (·.1) := by
  rw [List.map_map]
  rfl
theorem RowsW.due {m : Nat} {rs : Rows} (h : RowsW m rs) : rowDue (fixAll (rs.map rowE)) = none := by
  rw [rows_fix]
  unfold rowDue
  rw [if_neg (by simpa using h.ne)]
  exact rowBad_rowE h.nm h.nd (fun _ _ z => nomatch z) h.few
theorem RowsW.rows {m : Nat} {rs : Rows} (h : RowsW m rs) : rowsOfD (fixAll (rs.map rowE)) = rs.map fun r => (r.1, r.2.map Ev.data) := by
  rw [rows_fix]
  exact rowsOfD_rowE h.nm
theorem RowsW.evs {m : Nat} {rs : Rows} (h : RowsW m rs) : evsBad ((rowsOfD (fixAll (rs.map rowE))).map (·.1)) (rowsOfD (fixAll (rs.map rowE))) = none := by
  rw [h.rows, names_rowE]
  exact evsBad_rowE h.ok
theorem RowsW.ty {m : Nat} {rs : Rows} (h : RowsW m rs) : rowsTy ((rowsOfD (fixAll (rs.map rowE))).map (·.1)) (rowsOfD (fixAll (rs.map rowE))) = rs := by
  rw [h.rows, names_rowE]
  exact rowsTy_rowE h.ok
theorem RowsW.good {m : Nat} {rs : Rows} {ms : List (EvId × EvId)} (h : RowsW m rs) (hm : matchR rs = .ok ms) : GoodR (fixAll (rs.map rowE)) rs ms := ⟨h.due, h.evs, h.ty.symm, hm⟩
theorem RowsW.few_ev {m : Nat} {rs : Rows} (h : RowsW m rs) : ∀ r ∈ rowsOfD (fixAll (rs.map rowE)), r.2.length ≤ m := fun r hr => by
  rw [h.rows] at hr
  obtain ⟨q, hq, rfl⟩ := List.mem_map.mp hr
  rw [List.length_map]
  exact h.len q hq
/-! ### sizes -/
theorem sz_ev (e : Ev) : sz e.data ≤ 6 := by
  cases e <;> simp [Ev.data, Ev.rest, sz, szAll]
theorem szAll_evs : ∀ es : List Ev, szAll (es.map Ev.data) ≤ 6 * es.length
  | [] => Nat.le_refl _
  | e :: es => by
    have h1 := sz_ev e
    have h2 := szAll_evs es
    rw [List.map_cons, szAll, List.length_cons]
    omega
theorem szAll_rows {m : Nat} : ∀ {rs : Rows}, (∀ r ∈ rs, r.2.length ≤ m) → szAll (rs.map rowE) ≤ (6 * m + 5) * rs.length
  | [], _ => Nat.le_refl _
  | r :: rs, h => by
    have h1 := szAll_rows fun x hx => h x (List.mem_cons_of_mem r hx)
    have h2 := szAll_evs r.2
    have h3 := h r (List.mem_cons_self ..)
    have h4 : sz (rowE r) = 2 + (1 + (2 + szAll (r.2.map Ev.data) + 0)) := rfl
    rw [List.map_cons, szAll, List.length_cons, Nat.mul_add, h4]
    omega
theorem name_lay {z : Str} {n : Nat} (h : nameB z = true) : Lay n (.str z) := lay_str (name_strOk h)
theorem name_short {z : Str} (h : nameB z = true) : z.length ≤ 8 := by
  unfold nameB isName at h
  simp only [Bool.and_eq_true, decide_eq_true_eq] at h
  rw [← len_tl]
  exact h.2.2.1
theorem lay_int {n : Nat} {i : Int} : Lay n (.int i) := ⟨by simp [PyData.canLay0], by simp [PyData.depth]⟩
theorem oth_name {names : List Str} {n p : Str} (hn : ∀ x ∈ names, nameB x = true) (h : p ∈ othersL names n) : nameB p = true := hn p (List.mem_filter.mp h).1
/-- the texts of a good event are names -/
theorem ev_names {names : List Str} {n : Str} {e : Ev} (hn : ∀ x ∈ names, nameB x = true) (h : e.ok (othersL names n) = true) : ∀ d ∈ e.rest, (∃ z, d = .str z ∧ nameB z = true) ∨ ∃ v, d = .int v := by
  cases e with
  | set x v =>
    have h : (nameB x && valB v) = true := h
    rw [Bool.and_eq_true] at h
    intro d hd
    simp only [Ev.rest, List.mem_cons, List.not_mem_nil, or_false] at hd
    rcases hd with rfl | rfl
    · exact .inl ⟨_, rfl, h.1⟩
    · exact .inr ⟨_, rfl⟩
  | inp x v =>
    have h : (nameB x && valB v) = true := h
    rw [Bool.and_eq_true] at h
    intro d hd
    simp only [Ev.rest, List.mem_cons, List.not_mem_nil, or_false] at hd
    rcases hd with rfl | rfl
    · exact .inl ⟨_, rfl, h.1⟩
    · exact .inr ⟨_, rfl⟩
  | send p v =>
    have h : (decide (p ∈ othersL names n) && valB v) = true := h
    rw [Bool.and_eq_true, decide_eq_true_eq] at h
    intro d hd
    simp only [Ev.rest, List.mem_cons, List.not_mem_nil, or_false] at hd
    rcases hd with rfl | rfl
    · exact .inl ⟨_, rfl, oth_name hn h.1⟩
    · exact .inr ⟨_, rfl⟩
  | recv p x v =>
    have h : (decide (p ∈ othersL names n) && nameB x && valB v) = true := h
    rw [Bool.and_eq_true, Bool.and_eq_true, decide_eq_true_eq] at h
    intro d hd
    simp only [Ev.rest, List.mem_cons, List.not_mem_nil, or_false] at hd
    rcases hd with rfl | rfl | rfl
    · exact .inl ⟨_, rfl, oth_name hn h.1.1⟩
    · exact .inl ⟨_, rfl, h.1.2⟩
    · exact .inr ⟨_, rfl⟩
  | take p x v =>
    have h : (decide (p ∈ othersL names n) && nameB x && valB v) = true := h
    rw [Bool.and_eq_true, Bool.and_eq_true, decide_eq_true_eq] at h
    intro d hd
    simp only [Ev.rest, List.mem_cons, List.not_mem_nil, or_false] at hd
    rcases hd with rfl | rfl | rfl
    · exact .inl ⟨_, rfl, oth_name hn h.1.1⟩
    · exact .inl ⟨_, rfl, h.1.2⟩
    · exact .inr ⟨_, rfl⟩
  | chk => exact fun d hd => nomatch hd
theorem word_ok (e : Ev) : PyData.strOk e.word = true ∧ e.word.length ≤ 10 := by
  have h : ∀ w ∈ (["set", "input", "send", "receive", "take", "checkpoint"] : List Str), PyData.strOk w = true ∧ w.length ≤ 10 := by decide +kernel
  refine h _ ?_
  cases e <;> simp [Ev.word]
theorem ev_lay {names : List Str} {n : Str} {e : Ev} (hn : ∀ x ∈ names, nameB x = true) (h : e.ok (othersL names n) = true) : Lay 1 e.data := by
  refine lay_tup (n := 0) fun d hd => ?_
  rcases List.mem_cons.mp hd with rfl | hd
  · exact lay_str (word_ok e).1
  · rcases ev_names hn h d hd with ⟨z, rfl, hz⟩ | ⟨v, rfl⟩
    · exact name_lay hz
    · exact lay_int
theorem smAll_of : ∀ {xs : List PyData}, (∀ x ∈ xs, smD x = true) → smAll xs = true
  | [], _ => rfl
  | x :: xs, h => by
    rw [smAll, h x (List.mem_cons_self ..), smAll_of fun y hy => h y (List.mem_cons_of_mem _ hy)]
    rfl
theorem ev_sm {names : List Str} {n : Str} {e : Ev} (hn : ∀ x ∈ names, nameB x = true) (h : e.ok (othersL names n) = true) : smD e.data = true := by
  show smAll (.str e.word :: e.rest) = true
  refine smAll_of fun d hd => ?_
  rcases List.mem_cons.mp hd with rfl | hd
  · exact decide_eq_true (Nat.le_trans (word_ok e).2 (by decide))
  · rcases ev_names hn h d hd with ⟨z, rfl, hz⟩ | ⟨v, rfl⟩
    · exact decide_eq_true (Nat.le_trans (name_short hz) (by decide))
    · rfl
theorem RowsW.names {m : Nat} {rs : Rows} (h : RowsW m rs) : ∀ x ∈ rs.map (·.1), nameB x = true := fun x hx => by
  obtain ⟨r, hr, rfl⟩ := List.mem_map.mp hx
  exact h.nm r hr
theorem RowsW.gd {m : Nat} {rs : Rows} (h : RowsW m rs) : ∀ d ∈ fixAll (rs.map rowE), Gd d := fun d hd => by
  rw [rows_fix] at hd
  obtain ⟨r, hr, rfl⟩ := List.mem_map.mp hd
  have hn := h.names
  refine ⟨?_, ?_⟩
  · refine Lay.shaped (n := 3) (lay_tup fun d hd => ?_) (by decide)
    simp only [List.mem_cons, List.not_mem_nil, or_false] at hd
    rcases hd with rfl | rfl
    · exact name_lay (h.nm r hr)
    · refine lay_tup fun d hd => ?_
      obtain ⟨e, he, rfl⟩ := List.mem_map.mp hd
      exact ev_lay hn (h.ok r hr e he)
  · show smAll [.str r.1, .tuple (r.2.map Ev.data)] = true
    refine smAll_of fun d hd => ?_
    simp only [List.mem_cons, List.not_mem_nil, or_false] at hd
    rcases hd with rfl | rfl
    · exact decide_eq_true (Nat.le_trans (name_short (h.nm r hr)) (by decide))
    · show smAll _ = true
      refine smAll_of fun d hd => ?_
      obtain ⟨e, he, rfl⟩ := List.mem_map.mp hd
      exact ev_sm hn (h.ok r hr e he)
theorem ev_smD {n : Nat} (e : Ev) : SmD (n + 1) e.data := by
  cases e <;> refine .tup (by simp [Ev.rest]) fun d hd => ?_ <;>
    (simp only [Ev.rest, List.mem_cons, List.not_mem_nil, or_false] at hd; rcases hd with rfl | rfl | rfl | rfl) <;> first | exact .str _ | exact .int _
theorem RowsW.smd {m : Nat} {rs : Rows} (h : RowsW m rs) (hm : m ≤ 1000) : SmD 4 (.list (rs.map rowE)) := by
  refine .lst (by rw [List.length_map]; exact Nat.le_trans h.few (by decide)) fun d hd => ?_
  obtain ⟨r, hr, rfl⟩ := List.mem_map.mp hd
  refine .tup (by simp) fun d hd => ?_
  simp only [List.mem_cons, List.not_mem_nil, or_false] at hd
  rcases hd with rfl | rfl
  · exact .str _
  · refine .tup (by rw [List.length_map]; exact Nat.le_trans (h.len r hr) hm) fun d hd => ?_
    obtain ⟨e, he, rfl⟩ := List.mem_map.mp hd
    exact ev_smD (n := 0) e
/-- rows of a run -/
theorem ofP_len (R : RunL) (n : Str) : (ofP R n).length ≤ R.length := List.length_filterMap_le ..
theorem ofP_mem {R : RunL} {n : Str} {e : Ev} (h : e ∈ ofP R n) : (n, e) ∈ R := by
  obtain ⟨x, hx, h⟩ := List.mem_filterMap.mp h
  by_cases c : x.1 = n
  · rw [if_pos c] at h
    injection h with h
    rw [← c, ← h]
    exact hx
  · rw [if_neg c] at h
    cases h
theorem runRows_names (names : List Str) (R : RunL) : (runRows names R).map (·.1) = names := by
  unfold runRows
  rw [List.map_map]
  exact List.map_id' _
theorem _root_.Rc.RunOk.rowsW {names : List Str} {R : RunL} (h : RunOk names R) (h0 : 0 < names.length) (hl : names.length ≤ 40) (hd : names.Nodup) (hn : ∀ x ∈ names, nameB x = true) : RowsW R.length (runRows names R) := by
  refine ⟨fun z => ?_, by unfold runRows; rw [List.length_map]; exact hl, by rw [runRows_names]; exact hd, fun r hr => ?_, fun r hr e he => ?_, fun r hr => ?_⟩
  · have := congrArg List.length z
    unfold runRows at this
    rw [List.length_map, List.length_nil] at this
    omega
  · obtain ⟨n, hn2, rfl⟩ := List.mem_map.mp hr
    exact hn n hn2
  · obtain ⟨n, hn2, rfl⟩ := List.mem_map.mp hr
    rw [runRows_names]
    exact (h.names _ (ofP_mem he)).2
  · obtain ⟨n, hn2, rfl⟩ := List.mem_map.mp hr
    exact ofP_len R n
theorem set_cut {α : Type} {xs : List α} {i : Nat} (h : i < xs.length) (x : α) : xs.take i ++ [x] ++ xs.drop (i + 1) = xs.set i x := by
  rw [List.set_eq_take_append_cons_drop, if_pos h, List.append_assoc]
  rfl
theorem RowsW.put {m : Nat} {rs : Rows} (h : RowsW m rs) {i : Nat} {n : Str} {es es' : List Ev} (hi : rs[i]? = some (n, es)) (ho : ∀ e ∈ es', e.ok (othersL (rs.map (·.1)) n) = true) (hl : es'.length ≤ m) :
    RowsW m (rs.set i (n, es')) ∧ (rs.set i (n, es')).map (·.1) = rs.map (·.1) := by
  have hn : (rs.set i (n, es')).map (·.1) = rs.map (·.1) := by
    rw [List.map_set]
    refine List.ext_getElem? fun j => ?_
    rw [List.getElem?_set]
    split
    · rename_i e
      subst e
      rw [List.getElem?_map, hi, if_pos (by rw [List.length_map]; exact (List.getElem?_eq_some_iff.mp hi).1)]
      rfl
    · rfl
  refine ⟨⟨fun z => h.ne (List.eq_nil_of_length_eq_zero (by rw [← List.length_set (i := i) (a := (n, es')), z]; rfl)), by rw [List.length_set]; exact h.few, by rw [hn]; exact h.nd, fun r hr => ?_, fun r hr => ?_, fun r hr => ?_⟩, hn⟩
  · rcases List.mem_or_eq_of_mem_set hr with hr | rfl
    · exact h.nm r hr
    · exact (h.nm (n, es) (List.mem_of_getElem? hi) :)
  · rw [hn]
    rcases List.mem_or_eq_of_mem_set hr with hr | rfl
    · exact h.ok r hr
    · exact ho
  · rcases List.mem_or_eq_of_mem_set hr with hr | rfl
    · exact h.len r hr
    · exact hl
theorem dpL_inv {K : PySem.W.Frag} {H : Hp} {x : V} {ds : List PyData} (h : Dp K H x (.list ds)) : ∃ q vs, x = .ref q ∧ SqL K H q vs ∧ DpAll K H vs ds := by
  cases h with
  | lst h1 h2 => exact ⟨_, _, rfl, h1, h2⟩
end XE

set_option Elab.async false
set_option linter.all false
set_option maxRecDepth 100000
set_option maxHeartbeats 1000000
/-! XS1: drawn values -/
namespace XE
open PySem PySem.Spec PyProof.Rows L2 RZ Rx SX Rc
abbrev sLValue : Stmt := topS 36
/-- the stream has moved on by at most k draws; nothing else that stood has changed -/
def Moved (s a : Addr) (H : Hp) (n k : Nat) (H' : Hp) : Prop := ∃ m, n ≤ m ∧ m ≤ n + k ∧ StreamAt H' s a m ∧ Else2 s a H H'
def spValue : Sp := fun vs H Q _ => ∃ (s a : Addr) (n : Nat), vs = [.ref s] ∧ StreamAt H s a n ∧ n + 2 < 1000000 ∧ ∀ (v : Int) (H' : Hp), valB v = true → Moved s a H n 2 H' → Q (.int v) H'
theorem StreamAt.moved {H H' : Hp} {s a : Addr} {n : Nat} (h : StreamAt H' s a (n + 1)) (e : Else2 s a H H') : Moved s a H n 1 H' := ⟨n + 1, by omega, by omega, h, e⟩
theorem Moved.trans {H H1 H2 : Hp} {s a : Addr} {n k : Nat} (x : Moved s a H n k H1) {j : Nat} (y : ∀ m, StreamAt H1 s a m → m ≤ n + k → Moved s a H1 m j H2) : Moved s a H n (k + j) H2 := by
  obtain ⟨m, h1, h2, h3, h4⟩ := x
  obtain ⟨m2, g1, g2, g3, g4⟩ := y m h3 h2
  exact ⟨m2, by omega, by omega, g3, h4.trans g4⟩
theorem val_small {k : Int} (h0 : 0 ≤ k) (h1 : k < 5) : valB (k - 2) = true := by
  unfold valB
  refine decide_eq_true ?_
  have : (5 : Int) < bigZ := by decide +kernel
  omega
theorem at_drawn {xs : List V} {k : Int} (h0 : 0 ≤ k) (h1 : k < xs.length) : ∃ j v, xs[j]? = some v ∧ atI xs k = some v ∧ v ∈ xs ∧ k = (j : Nat) := by
  obtain ⟨j, rfl⟩ := Int.eq_ofNat_of_zero_le h0
  have hj : j < xs.length := by omega
  have e : xs[j]? = some (xs[j]'hj) := List.getElem?_eq_getElem hj
  exact ⟨j, _, e, atI_nat e, List.getElem_mem hj, rfl⟩
theorem else_new {s a p : Addr} {H : Hp} {o : HO} (h : H p = none) : Else2 s a H (upd H p o) := .of_same (same_new h)
section
variable {P : Program} {w : World} {K : PySem.W.Frag} {mg : Str → Option Value} {base : Heap}
abbrev lvN : List Str := ["_law_stream", "_law_way"]
theorem scLV : FnScope lvN ["_law_stream"] (defScope sLValue) := ⟨rfl, rfl, rfl, by decide +kernel, rfl, by decide +kernel, by decide +kernel⟩
theorem ok_lvalue {f fD : Addr} {fd fdD : FuncData} (F : Fun K "_law_value" "_law_value" sLValue f fd) (CD : Cal P w K mg base 1 "_law_draw" fD fdD ["_law_stream", "_law_many"] spDraw) : FnOk P w K mg base CX0 2 f fd ["_law_stream"] spValue := by
  refine F.ok scLV (fun vs H Q E h => ?_) (fun cdv A outer s H vs Q E hr h => ?_)
  · obtain ⟨_, _, _, rfl, _⟩ := h
    rfl
  · obtain ⟨st, a, n, rfl, hS, hn, k⟩ := h
    have hu := hu_of hr
    have hr1 : Room 1 _ := hr
    refine ⟨_, (pss_cons (ps_set (i := 1) scLV.nd rfl (.inl rfl) (pe_call CD.ok hr1 rfl CD.mg CD.kp CD.bi .nil pass0 (pa_cons (pv 0) (pa_cons pe_int pa_nil)))) (pss_cons (ps_if (pt_cmpR op_lt (pv 1) pe_int (nomark _)) (pss_one (ps_ret (pe_op op_sub (pe_call CD.ok hr1 rfl CD.mg CD.kp CD.bi .nil pass0 (pa_cons (pv 0) (pa_cons pe_int pa_nil))) pe_int))) pss_nil) (pss_one (ps_ret (pe_ix ix_list (pe_lst (pa_cons (pe_op op_sub (pe_op op_pow pe_int pe_int) pe_int) (pa_cons (pe_op op_sub pe_int (pe_op op_pow pe_int pe_int)) (pa_cons pe_int (pa_cons pe_int pa_nil))))) (pe_call CD.ok hr1 rfl CD.mg CD.kp CD.bi .nil pass0 (pa_cons (pv 0) (pa_cons pe_int pa_nil))) (fun _ _ => rfl)))))), ?_⟩
    refine ⟨_, rfl, st, a, n, 8, rfl, by decide, by decide, hS, by omega, fun k1 H1 k10 k11 S1 el1 => ?_⟩
    refine ⟨_, rfl, _, _, rfl, rfl, _, rfl, ite2 (fun _ => ?_) (fun _ => ?_)⟩
    · refine ⟨_, rfl, st, a, n + 1, 5, rfl, by decide, by decide, S1, by omega, fun k2 H2 k20 k21 S2 el2 => ?_⟩
      exact ⟨_, _, rfl, rfl, k _ _ (val_small k20 k21) ⟨n + 2, by omega, by omega, S2, el1.trans el2⟩⟩
    · refine ⟨_, _, rfl, rfl, ⟨by decide, by decide, by decide⟩, _, _, rfl, rfl, _, _, rfl, rfl, ⟨by decide, by decide, by decide⟩, _, _, rfl, rfl, ?_⟩
      refine ⟨by show 4 ≤ sizeLine; decide, fun L nL => ?_⟩
      have tr := S1.tr
      have nLs : L ≠ st := fun z => tr.1 (by rw [← z]; exact nL)
      have nLa : L ≠ a := fun z => tr.2 (by rw [← z]; exact nL)
      refine ⟨_, rfl, st, a, n + 1, 4, rfl, by decide, by decide, S1.same (same_new nL), by omega, fun k2 H2 k20 k21 S2 el2 => ?_⟩
      have hL2 := el2 _ _ upd_same nLs nLa
      obtain ⟨j, v, hj, hv, hm, rfl⟩ := at_drawn (xs := [V.int ((10 : Int) ^ Int.toNat 30 - 1), .int (1 - (10 : Int) ^ Int.toNat 30), .int 17, .int 1000]) k20 (by show k2 < 4; omega)
      have fin : ∀ z : Int, valB z = true → v = .int z → Q v H2 := fun z hz e => by
        rw [e]
        exact k z H2 hz ⟨n + 2, by omega, by omega, S2, (el1.trans (else_new nL)).trans el2⟩
      refine ⟨L, _, (j : Nat), v, rfl, rfl, SqL.of hL2, hv, ?_⟩
      simp only [List.mem_cons, List.not_mem_nil, or_false] at hm
      rcases hm with h | h | h | h
      · exact fin _ (by decide +kernel) h
      · exact fin _ (by decide +kernel) h
      · exact fin _ (by decide +kernel) h
      · exact fin _ (by decide +kernel) h
end
end XE

set_option Elab.async false
set_option linter.all false
set_option maxRecDepth 100000
set_option maxHeartbeats 1000000
/-! XS4: drawn words -/
namespace XE
open PySem PySem.Spec PyProof.Rows L2 RZ Rx SX Rc
abbrev sLWord : Stmt := topS 39
abbrev sLWords : Stmt := topS 40
def someW : List Str := ["and", "else", "end", "if", "input", "mod", "not", "or", "process", "receive", "send", "set", "take"]
def allLet (z : Str) : Prop := ∀ c ∈ z.cps.toList, isLet c = true
theorem cps_app (a b : Str) : (a ++ b).cps.toList = a.cps.toList ++ b.cps.toList := by
  show (a.cps ++ b.cps).toList = _
  simp
theorem name_of {z : Str} (h : allLet z) (h1 : 1 ≤ z.cps.toList.length) (h2 : z.cps.toList.length ≤ 8) (h3 : z ∉ someW) (h4 : z ≠ "while") : nameB z = true := by
  unfold nameB isName
  rw [S_tl]
  simp only [Bool.and_eq_true, decide_eq_true_eq]
  refine ⟨?_, ?_, h2, List.all_eq_true.mpr h⟩
  · rw [Bool.not_eq_true', Bool.eq_false_iff]
    intro hc
    have hm := List.contains_iff_mem.mp hc
    have : ∀ x ∈ reservedL, x ∈ someW ∨ x = "while" ∨ 8 < x.cps.toList.length := by decide +kernel
    rcases this z hm with h | h | h
    · exact h3 h
    · exact h4 h
    · omega
  · intro z
    rw [z] at h1
    cases h1
/-- a name, and none of five times q -/
def nameQ (z : Str) : Bool := nameB z && decide (z ≠ "qqqqq")
theorem nameQ_of {z : Str} (h : nameB z = true) (hl : z.length ≠ 5) : nameQ z = true := by
  unfold nameQ
  rw [h, Bool.true_and, decide_eq_true_eq]
  rintro rfl
  exact hl (by decide)
theorem nameQ_B {z : Str} (h : nameQ z = true) : nameB z = true := by
  unfold nameQ at h
  rw [Bool.and_eq_true] at h
  exact h.1
theorem nameQ_ne {z : Str} (h : nameQ z = true) : z ≠ "qqqqq" := by
  unfold nameQ at h
  rw [Bool.and_eq_true, decide_eq_true_eq] at h
  exact h.2
def spWord : Sp := fun vs H Q _ => ∃ (s a : Addr) (n : Nat), vs = [.ref s] ∧ StreamAt H s a n ∧ n + 9 < 1000000 ∧ ∀ (z : Str) (H' : Hp), nameB z = true → Moved s a H n 9 H' → Q (.str z) H'
def spWordQ : Sp := fun vs H Q _ => ∃ (s a : Addr) (n : Nat), vs = [.ref s] ∧ StreamAt H s a n ∧ n + 9 < 1000000 ∧ ∀ (z : Str) (H' : Hp), nameQ z = true → Moved s a H n 9 H' → Q (.str z) H'
theorem inV_strsR (y : Str) (xs : List Str) : inV (V.str y) (xs.map V.str) = decide (y ∈ xs) := by
  rw [inV_strs]
  cases h : xs.contains y with
  | true => exact (decide_eq_true (List.contains_iff_mem.mp h)).symm
  | false =>
    refine (decide_eq_false fun z => ?_).symm
    rw [List.contains_iff_mem.mpr z] at h
    cases h
theorem letter_at {k : Int} (h0 : 0 ≤ k) (h1 : k < 26) : ∃ c, atI lettersS.cps.toList k = some c ∧ isLet c = true := by
  obtain ⟨j, rfl⟩ := Int.eq_ofNat_of_zero_le h0
  have hl : lettersS.cps.toList.length = 26 := by decide +kernel
  have hj : j < lettersS.cps.toList.length := by omega
  have : atI lettersS.cps.toList ((j : Nat) : Int) = lettersS.cps.toList[j]? := by
    unfold atI
    rw [show ixN lettersS.cps.toList.length ((j : Nat) : Int) = some j by unfold ixN; simp; omega]
    rfl
  refine ⟨lettersS.cps.toList[j]'hj, by rw [this]; exact List.getElem?_eq_getElem hj, ?_⟩
  have := let_mem (lettersS.cps.toList[j]'hj)
  rw [decide_eq_true (List.getElem_mem hj)] at this
  exact this.symm
section
variable {P : Program} {w : World} {K : PySem.W.Frag} {mg : Str → Option Value} {base : Heap}
abbrev lwdN : List Str := ["_law_stream", "_law_letters", "_law_word_here", "_law_k", "_law_some"]
theorem scLWd : FnScope lwdN ["_law_stream"] (defScope sLWord) := ⟨rfl, rfl, rfl, by decide +kernel, rfl, by decide +kernel, by decide +kernel⟩
theorem ok_lwordQ {f fD : Addr} {fd fdD : FuncData} (F : Fun K "_law_word" "_law_word" sLWord f fd) (mrange : mg "range" = none) (CD : Cal P w K mg base 1 "_law_draw" fD fdD ["_law_stream", "_law_many"] spDraw) : FnOk P w K mg base CX0 2 f fd ["_law_stream"] spWordQ := by
  refine F.ok scLWd (fun vs H Q E h => ?_) (fun cdv A outer s H vs Q E hr h => ?_)
  · obtain ⟨_, _, _, rfl, _⟩ := h
    rfl
  · obtain ⟨st, a, n, rfl, hS, hn, k⟩ := h
    have hu := hu_of hr
    have hr1 : Room 1 _ := hr
    refine ⟨_, (pss_cons (ps_set (i := 1) scLWd.nd rfl (.inl rfl) pe_str) (pss_cons (ps_set (i := 2) scLWd.nd rfl (.inl rfl) (pe_ix ix_str (pv 1) (pe_call CD.ok hr1 rfl CD.mg CD.kp CD.bi .nil pass0 (pa_cons (pv 0) (pa_cons pe_int pa_nil))) (fun _ _ => rfl))) (pss_cons (ps_for PassesOwn.never rfl (pi_range1 rfl mrange (pa_cons (pe_ix ix_list (pe_lst (pa_cons pe_int (pa_cons pe_int (pa_cons pe_int (pa_cons pe_int (pa_cons pe_int pa_nil)))))) (pe_call CD.ok hr1 rfl CD.mg CD.kp CD.bi .nil pass0 (pa_cons (pv 0) (pa_cons pe_int pa_nil))) (fun _ _ => rfl)) pa_nil)) (pg_name (i := 3) scLWd.nd rfl (.inl rfl)) (pss_one (ps_set (i := 2) scLWd.nd rfl (.inl rfl) (pe_op op_add_str (pv 2) (pe_ix ix_str (pv 1) (pe_call CD.ok hr1 rfl CD.mg CD.kp CD.bi .nil pass0 (pa_cons (pv 0) (pa_cons pe_int pa_nil))) (fun _ _ => rfl)))))) (pss_cons (ps_set (i := 4) scLWd.nd rfl (.inl rfl) (pe_tup (pa_cons pe_str (pa_cons pe_str (pa_cons pe_str (pa_cons pe_str (pa_cons pe_str (pa_cons pe_str (pa_cons pe_str (pa_cons pe_str (pa_cons pe_str (pa_cons pe_str (pa_cons pe_str (pa_cons pe_str (pa_cons pe_str pa_nil))))))))))))))) (pss_one (ps_ret (pe_ifExp (PW.pt (pw_or (pt_cmpR op_in_seq (pv 2) (pv 4) rfl) (pw_or1 (pt_cmpR op_eq (pv 2) pe_str (nomark _))))) (pe_op op_add_str (pv 2) pe_str) (pv 2)))))))), ?_⟩
    refine ⟨_, rfl, _, rfl, st, a, n, 26, rfl, by decide, by decide, hS, by omega, fun k1 H1 k10 k11 S1 el1 => ?_⟩
    obtain ⟨c1, hc1, hl1⟩ := letter_at k10 k11
    refine ⟨lettersS, k1, c1, rfl, rfl, by decide +kernel, hc1, ?_⟩
    refine ⟨by show 5 ≤ sizeLine; decide, fun L nL => ?_⟩
    have nLs : L ≠ st := fun z => S1.tr.1 (by rw [← z]; exact nL)
    have nLa : L ≠ a := fun z => S1.tr.2 (by rw [← z]; exact nL)
    refine ⟨_, rfl, st, a, n + 1, 5, rfl, by decide, by decide, S1.same (same_new nL), by omega, fun k2 H2 k20 k21 S2 el2 => ?_⟩
    obtain ⟨j, v, hj, hv, hm, rfl⟩ := at_drawn (xs := [V.int 0, .int 0, .int 1, .int 2, .int 7]) k20 (by show k2 < 5; omega)
    refine ⟨L, _, (j : Nat), v, rfl, rfl, SqL.of (el2 _ _ upd_same nLs nLa), hv, ?_⟩
    obtain ⟨r, rfl, hr7, hr4⟩ : ∃ r : Nat, v = .int (r : Nat) ∧ r ≤ 7 ∧ r ≠ 4 := by
      simp only [List.mem_cons, List.not_mem_nil, or_false] at hm
      rcases hm with h | h | h | h | h
      · exact ⟨0, h, by decide⟩
      · exact ⟨0, h, by decide⟩
      · exact ⟨1, h, by decide⟩
      · exact ⟨2, h, by decide⟩
      · exact ⟨7, h, by decide⟩
    have e2 := (el1.trans (else_new nL)).trans el2
    refine ⟨r, rfl, by omega, by omega, ?_⟩
    rw [show ((r : Int)).toNat = r by omega]
    refine for_range (lo := 0) (n := r) (fun i σ Hx => ∃ (z : Str) (x3 x4 : Option V), σ = [some (.ref st), some (.str lettersS), some (.str z), x3, x4] ∧ allLet z ∧ z.cps.toList.length = 1 + i ∧ StreamAt Hx st a (n + 1 + 1 + i) ∧ Else2 st a H Hx)
      ⟨_, none, none, rfl, (fun c hc => by rw [show c = c1 by simpa using hc]; exact hl1), rfl, S2, e2⟩ ?_ ?_
    · rintro i σ Hx hi ⟨z, x3, x4, rfl, hz, hzl, Sx, ex⟩
      refine ⟨_, rfl, _, rfl, _, rfl, st, a, _, 26, rfl, by decide, by decide, Sx, by omega, fun k3 H3 k30 k31 S3 el3 => ?_⟩
      obtain ⟨c3, hc3, hl3⟩ := letter_at k30 k31
      refine ⟨lettersS, k3, c3, rfl, rfl, by decide +kernel, hc3, z, ⟨#[c3]⟩, rfl, rfl, ?_, z ++ ⟨#[c3]⟩, _, _, rfl, fun c hc => ?_, ?_, S3, ex.trans el3⟩
      · have : z.length = 1 + i := by rw [← len_tl]; exact hzl
        rw [this]
        exact Nat.le_of_lt (fitR (show 1 + i + 1 ≤ 3000000 by omega))
      · rw [cps_app] at hc
        rcases List.mem_append.mp hc with hc | hc
        · exact hz c hc
        · rw [show c = c3 by simpa using hc]
          exact hl3
      · rw [cps_app, List.length_append, hzl]
        show 1 + i + 1 = _
        omega
    · rintro σ Hx ⟨z, x3, x4, rfl, hz, hzl, Sx, ex⟩
      refine ⟨by show 13 ≤ sizeLine; decide, fun T nT => ?_⟩
      have sT := same_new (o := .tup (someW.map V.str)) nT
      have fin : ∀ y : Str, nameQ y = true → Q (.str y) (upd Hx T (.tup (someW.map V.str))) := fun y hy => k y _ hy ⟨_, by omega, by omega, Sx.same sT, ex.trans (.of_same sT)⟩
      refine ⟨_, rfl, _, rfl, T, someW.map V.str, rfl, .inr (SqT.of upd_same), rfl, flat_strs _, _, rfl, ?_⟩
      show if (inV (.str z) (someW.map V.str)) = true then _ else _
      rw [inV_strsR]
      have hq : ∀ y ∈ (("while" : Str) :: someW), nameQ (y ++ "q") = true := by decide +kernel
      have hzl2 : z.length = 1 + r := by rw [← len_tl]; exact hzl
      have fit : z.length + ("q" : Str).length ≤ sizeLine := by
        rw [hzl2]
        exact Nat.le_of_lt (fitR (show 1 + r + 1 ≤ 3000000 by omega))
      by_cases hin : z ∈ someW
      · refine iteTc (decide_eq_true hin) (iteTc rfl ⟨_, rfl, z, "q", rfl, rfl, fit, fin _ (hq z (List.mem_cons_of_mem _ hin))⟩)
      · refine iteFc (decide_eq_false hin) ⟨_, rfl, rfl, _, rfl, ?_⟩
        by_cases hw : z = "while"
        · refine iteTc (decide_eq_true (by rw [hw])) ⟨_, rfl, z, "q", rfl, rfl, fit, fin _ (hq z (by rw [hw]; exact List.mem_cons_self ..))⟩
        · refine iteFc (decide_eq_false fun q => hw (by injection q)) ⟨_, rfl, fin _ (nameQ_of (name_of hz (by omega) (by omega) hin hw) (by omega))⟩
theorem ok_lword {f fD : Addr} {fd fdD : FuncData} (F : Fun K "_law_word" "_law_word" sLWord f fd) (mrange : mg "range" = none) (CD : Cal P w K mg base 1 "_law_draw" fD fdD ["_law_stream", "_law_many"] spDraw) : FnOk P w K mg base CX0 2 f fd ["_law_stream"] spWord :=
  (ok_lwordQ F mrange CD).imp fun vs H Q E h => by
    obtain ⟨st, a, n, h1, h2, h3, k⟩ := h
    exact ⟨st, a, n, h1, h2, h3, fun z H' hz => k z H' (nameQ_B hz)⟩
theorem filter_succW {α : Type} (p : α → Bool) {l : List α} {j : Nat} {x : α} (h : l[j]? = some x) : (l.take (j + 1)).filter p = (l.take j).filter p ++ (if p x = true then [x] else []) := by
  rw [List.take_add_one, h, List.filter_append]
  cases hp : p x <;> simp [hp]
def rAddS : R2 := fun x y H Q => ∃ i j, x = .str i ∧ y = .str j ∧ i.length + j.length ≤ sizeLine ∧ Q (.str (i ++ j)) H
def spareW : List Str := (List.range 41).map fun j => ⟨#[97 + j % 26]⟩ ++ ⟨#[97 + j / 26]⟩ ++ "z"
def spWords : Sp := fun vs H Q _ => ∃ (s a : Addr) (n many : Nat), vs = [.ref s, .int (many : Nat)] ∧ StreamAt H s a n ∧ many ≤ 40 ∧ n + 9 * many < 1000000 ∧
  ∀ (L : Addr) (names : List Str) (m : Nat) (H' : Hp), names.Nodup → names.length = many → (∀ x ∈ names, nameB x = true) → n ≤ m → m ≤ n + 9 * many → StreamAt H' s a m → Else2 s a H H' → H L = none → H' L = some (.lst (names.map V.str)) → Q (.ref L) H'
def spWordsQ : Sp := fun vs H Q _ => ∃ (s a : Addr) (n many : Nat), vs = [.ref s, .int (many : Nat)] ∧ StreamAt H s a n ∧ many ≤ 40 ∧ n + 9 * many < 1000000 ∧
  ∀ (L : Addr) (names : List Str) (m : Nat) (H' : Hp), names.Nodup → names.length = many → (∀ x ∈ names, nameQ x = true) → n ≤ m → m ≤ n + 9 * many → StreamAt H' s a m → Else2 s a H H' → H L = none → H' L = some (.lst (names.map V.str)) → Q (.ref L) H'
theorem letter_nat {j : Nat} (h : j < 26) : atI lettersS.cps.toList ((j : Nat) : Int) = some (97 + j) := by
  have e : lettersS.cps.toList = List.range' 97 26 := by decide +kernel
  rw [e]
  unfold atI
  rw [show ixN (List.range' 97 26).length ((j : Nat) : Int) = some j by unfold ixN; simp; omega]
  show (List.range' 97 26)[j]? = _
  rw [List.getElem?_range' h]
  simp
/-- of more than there are there, one is not there -/
theorem pigeon : ∀ {l m : List Str}, l.Nodup → m.length < l.length → ∃ x ∈ l, x ∉ m
  | [], _, _, h => nomatch h
  | x :: l, m, hd, h => by
    rw [List.nodup_cons] at hd
    by_cases c : x ∈ m
    · have hl : (m.erase x).length < l.length := by
        rw [List.length_erase_of_mem c]
        rw [List.length_cons] at h
        have := List.length_pos_of_mem c
        omega
      obtain ⟨y, hy, hn⟩ := pigeon hd.2 hl
      refine ⟨y, List.mem_cons_of_mem _ hy, fun hm => hn ((List.mem_erase_of_ne fun z => hd.1 (by rw [← z]; exact hy)).mpr hm)⟩
    · exact ⟨x, List.mem_cons_self .., c⟩
abbrev lwsN : List Str := ["_law_stream", "_law_many", "_law_letters", "_law_spare", "_law_j", "_law_found", "_law_k", "_law_word_here", "_law_one"]
theorem scLWs : FnScope lwsN ["_law_stream", "_law_many"] (defScope sLWords) := ⟨rfl, rfl, rfl, by decide +kernel, rfl, by decide +kernel, by decide +kernel⟩
theorem ok_lwordsQ {f fW : Addr} {fd fdW : FuncData} (F : Fun K "_law_words" "_law_words" sLWords f fd) (mrange : mg "range" = none) (CW : Cal P w K mg base 2 "_law_word" fW fdW ["_law_stream"] spWordQ) : FnOk P w K mg base CX0 3 f fd ["_law_stream", "_law_many"] spWordsQ := by
  refine F.ok scLWs (fun vs H Q E h => ?_) (fun cdv A outer s H vs Q E hr h => ?_)
  · obtain ⟨_, _, _, _, rfl, _⟩ := h
    rfl
  · obtain ⟨st, a, n, many, rfl, hS, hmany, hn, k⟩ := h
    have hu := hu_of hr
    refine ⟨_, (pss_cons (ps_set (i := 2) scLWs.nd rfl (.inr rfl) pe_str) (pss_cons (ps_setLc (i := 3) (own := [("_law_j", 4)]) (g := gName 4) (tt := tYes) (te := tOp rAddS (tOp rAddS (tOp rIxS (tVar 2) (tOp (rI (fun _ j => 0 < j) fun i j => .int (i % j)) (tVar 4) (tC (.int 26)))) (tOp rIxS (tVar 2) (tOp (rI CDiv fun i j => .int (i / j)) (tVar 4) (tC (.int 26))))) (tC (.str "z"))) rfl scLWs.nd rfl rfl (sw_true rfl rfl rfl (by decide +kernel)) (pi_range1 rfl mrange (pa_cons pe_int pa_nil)) (blkOk_by (own := [("_law_j", 4)]) (N := lwsN) (sc := defScope sLWords) (by decide +kernel)) (fun _ _ _ _ _ => (pg_name (i := 4) scLWs.nd rfl (Or.inl rfl))) (fun _ _ _ _ _ => pts_nil) (fun _ _ _ _ _ => (pe_op op_add_str (pe_op op_add_str (pe_ix (by exact ix_str) (pv 2) (pe_op op_mod (pv 4) pe_int) (fun _ _ => rfl)) (pe_ix (by exact ix_str) (pv 2) (pe_op op_fdiv (pv 4) pe_int) (fun _ _ => rfl))) pe_str))) (pss_cons (ps_set (i := 5) scLWs.nd rfl (.inr rfl) (pe_lst pa_nil)) (pss_cons (ps_for PassesOwn.never rfl (pi_range1 rfl mrange (pa_cons (pv 1) pa_nil)) (pg_name (i := 6) scLWs.nd rfl (.inl rfl)) (pss_cons (ps_set (i := 7) scLWs.nd rfl (.inl rfl) (pe_call CW.ok hr rfl CW.mg CW.kp CW.bi .nil pass0 (pa_cons (pv 0) pa_nil))) (pss_one (ps_expr (pe_bm PySem.F.plainAttrs_list PySem.F.slot_list_append PySem.F.type_list_append mt_append (pv 5) (pa_cons (pe_ifExp (pt_cmpR op_in_seq (pv 7) (pv 5) rfl) (pe_ix ix_list (pe_lc (own := [("_law_one", 8)]) (g := gName 8) (tt := tTest (tOp (rIn K true) (tVar 8) (tVar 5))) (te := tVar 8) rfl scLWs.nd (pi_list (pv 3)) (blkOk_by (own := [("_law_one", 8)]) (N := lwsN) (sc := defScope sLWords) (by decide +kernel)) (fun _ _ _ _ _ => (pg_name (i := 8) scLWs.nd rfl (Or.inl rfl))) (fun _ _ _ _ _ => pts_one (pt_cmpR op_notIn_seq (pv 8) (pv 5) rfl)) (fun _ _ _ _ _ => (pv 8))) pe_int (fun _ _ => rfl)) (pv 7)) pa_nil)))))) (pss_one (ps_ret (pv 5))))))), ?_⟩
    have hls : lettersS.length ≤ sizeLine := by decide +kernel
    refine ⟨41, rfl, by decide, by decide, fun Sq nSq => ?_⟩
    have hsl : spareW.length = 41 := by decide +kernel
    refine lc_it walk_range (fun j Hy => Same H Hy ∧ Hy Sq = some (.lst ((spareW.take j).map V.str))) ⟨same_new nSq, upd_same⟩ (fun _ _ _ _ => trivial) ?_ ?_
    · rintro j x Hy Hy' hj ⟨sy, hq⟩ ⟨rfl, rfl⟩
      have hj : j < 41 := hj
      refine ⟨rfl, ?_⟩
      dsimp only [tYes]
      rw [if_pos rfl]
      have a1 : atI lettersS.cps.toList ((0 + (j : Int)) % 26) = some (97 + j % 26) := by
        rw [show (0 + (j : Int)) % 26 = ((j % 26 : Nat) : Int) by omega]
        exact letter_nat (by omega)
      have a2 : atI lettersS.cps.toList ((0 + (j : Int)) / 26) = some (97 + j / 26) := by
        rw [show (0 + (j : Int)) / 26 = ((j / 26 : Nat) : Int) by omega]
        exact letter_nat (by omega)
      have e1 : spareW.take (j + 1) = spareW.take j ++ [(⟨#[97 + j % 26]⟩ : Str) ++ ⟨#[97 + j / 26]⟩ ++ "z"] := by
        rw [List.take_add_one]
        congr 1
        unfold spareW
        rw [List.getElem?_map, List.getElem?_range hj]
        rfl
      refine ⟨_, rfl, _, rfl, _, _, rfl, rfl, (by show (0 : Int) < 26; decide), lettersS, _, _, rfl, rfl, hls, a1, _, rfl, _, rfl, _, _, rfl, rfl, ⟨by decide, by decide⟩, lettersS, _, _, rfl, rfl, hls, a2, _, _, rfl, rfl, (by show 1 + 1 ≤ sizeLine; decide), _, "z", rfl, rfl, ?_, _, hq, ?_, same_upd sy nSq, ?_⟩
      · exact Nat.le_of_lt (fitR (show 2 + 1 ≤ 3000000 by decide))
      · rw [List.length_map, List.length_take]
        exact fitR (by omega)
      · rw [upd_same, e1, List.map_append]
        rfl
    rintro H1 ⟨s1, hSq⟩
    rw [show Int.toNat 41 = 41 by decide, ← hsl, List.take_length] at hSq
    dsimp only [List.set]
    refine ⟨by show 0 ≤ sizeLine; decide, fun Fd nF => ?_⟩
    have s2 := s1.trans (same_new (o := .lst []) nF)
    have hS2 := same_new (o := .lst []) nF _ _ hSq
    have hF2 := upd_same (H := H1) (a := Fd) (o := .lst [])
    have nFH := s1.free nF
    have nFs : Fd ≠ st := fun z => hS.tr.1 (by rw [← z]; exact nFH)
    have nFa : Fd ≠ a := fun z => hS.tr.2 (by rw [← z]; exact nFH)
    have nQs : Sq ≠ st := fun z => hS.tr.1 (by rw [← z]; exact nSq)
    have nQa : Sq ≠ a := fun z => hS.tr.2 (by rw [← z]; exact nSq)
    have nFQ : Sq ≠ Fd := ne_of_none hSq nF
    generalize upd H1 Fd (.lst []) = H2 at s2 hS2 hF2 ⊢
    refine ⟨_, rfl, many, rfl, by omega, by omega, ?_⟩
    rw [show ((many : Int)).toNat = many by omega]
    refine for_range (lo := 0) (n := many) (fun i σ Hx => ∃ (x4 x6 x7 x8 : Option V) (xs : List Str) (m : Nat), σ = [some (.ref st), some (.int (many : Nat)), some (.str lettersS), some (.ref Sq), x4, some (.ref Fd), x6, x7, x8] ∧ xs.Nodup ∧ xs.length = i ∧ (∀ x ∈ xs, nameQ x = true) ∧ n ≤ m ∧ m ≤ n + 9 * i ∧ StreamAt Hx st a m ∧ Else2 st a H Hx ∧ Hx Sq = some (.lst (spareW.map V.str)) ∧ Hx Fd = some (.lst (xs.map V.str)))
      ⟨none, none, none, none, [], n, rfl, .nil, rfl, (fun _ h => nomatch h), Nat.le_refl _, Nat.le_refl _, hS.same s2, .of_same s2, hS2, hF2⟩ ?_ ?_
    · rintro i σ Hx hi ⟨x4, x6, x7, x8, xs, m, rfl, hnd, hxl, hxn, m0, m1, Sx, ex, hSx, hFx⟩
      refine ⟨_, rfl, st, a, m, rfl, Sx, by omega, fun z H3 hz mv => ?_⟩
      obtain ⟨m', g1, g2, S3, e3⟩ := mv
      have ex3 := ex.trans e3
      have hS3 := e3 _ _ hSx nQs nQa
      have hF3 := e3 _ _ hFx nFs nFa
      refine ⟨_, rfl, .inl ⟨rfl, _, SqL.of hF3⟩, _, rfl, _, rfl, Fd, _, rfl, .inl (SqL.of hF3), rfl, flat_strs _, _, rfl, ?_⟩
      have add : ∀ (y : Str) (Hy : Hp), nameQ y = true → y ∉ xs → Same H3 Hy → Hy Fd = some (.lst (xs.map V.str)) ∧ (xs.map V.str).length < sizeLine ∧ ∃ (xs' : List Str) (m : Nat), xs'.Nodup ∧ xs'.length = i + 1 ∧ (∀ x ∈ xs', nameQ x = true) ∧ n ≤ m ∧ m ≤ n + 9 * (i + 1) ∧ StreamAt (upd Hy Fd (.lst (xs.map V.str ++ [.str y]))) st a m ∧ Else2 st a H (upd Hy Fd (.lst (xs.map V.str ++ [.str y]))) ∧ upd Hy Fd (.lst (xs.map V.str ++ [.str y])) Sq = some (.lst (spareW.map V.str)) ∧ upd Hy Fd (.lst (xs.map V.str ++ [.str y])) Fd = some (.lst (xs'.map V.str)) := fun y Hy hy hn sy => by
        refine ⟨sy _ _ hF3, by rw [List.length_map, hxl]; exact fitR (by omega), xs ++ [y], m', ?_, by rw [List.length_append, hxl]; rfl, fun x hx => ?_, by omega, by omega, (S3.same sy).upd nFs nFa, fun b o hb n1 n2 => ?_, ?_, ?_⟩
        · rw [List.nodup_append]
          refine ⟨hnd, by simp, fun a ha b hb e => hn ?_⟩
          rw [List.mem_singleton.mp hb] at e
          rw [← e]
          exact ha
        · rcases List.mem_append.mp hx with hx | hx
          · exact hxn x hx
          · rw [List.mem_singleton.mp hx]; exact hy
        · rw [upd_ne (fun z => by rw [z, nFH] at hb; cases hb)]
          exact sy _ _ (ex3 _ _ hb n1 n2)
        · rw [upd_ne nFQ]
          exact sy _ _ hS3
        · rw [upd_same, List.map_append]
          rfl
      show if (inV (.str z) (xs.map V.str)) = true then _ else _
      rw [inV_strsR]
      by_cases hin : z ∈ xs
      · refine iteTc (decide_eq_true hin) ?_
        refine ⟨_, rfl, Sq, rfl, ⟨_, SqL.of hS3⟩, fun G nG => ?_⟩
        refine lc_list (K := K) (a := Sq) (xs := spareW.map V.str) (fun j Hy => Same H3 Hy ∧ Hy G = some (.lst (((spareW.take j).filter fun o => decide (o ∉ xs)).map V.str))) ⟨same_new nG, upd_same⟩ (fun j Hy _ q => SqL.of (q.1 _ _ hS3)) ?_ ?_
        · rintro j u Hy hu ⟨sy, hG⟩
          obtain ⟨o, ho, rfl⟩ := mapS_get hu
          refine ⟨rfl, _, rfl, _, rfl, Fd, _, rfl, .inl (SqL.of (sy _ _ hF3)), rfl, flat_strs _, _, rfl, ?_⟩
          have e2 : (spareW.take (j + 1)).filter (fun o => decide (o ∉ xs)) = (spareW.take j).filter (fun o => decide (o ∉ xs)) ++ (if decide (o ∉ xs) = true then [o] else []) := filter_succW _ ho
          have hlo : ((spareW.take j).filter (fun o => decide (o ∉ xs))).length ≤ 41 := by
            have := List.length_filter_le (fun o => decide (o ∉ xs)) (spareW.take j)
            rw [List.length_take] at this
            omega
          show if (!inV (.str o) (xs.map V.str)) = true then _ else _
          rw [inV_strsR, e2]
          by_cases hc : o ∈ xs
          · refine iteFc (by simp [hc]) ⟨sy, ?_⟩
            rw [if_neg (by simp [hc]), List.append_nil]
            exact hG
          · refine iteTc (by simp [hc]) ⟨_, rfl, _, hG, ?_, same_upd sy nG, ?_⟩
            · rw [List.length_map]
              exact fitR (by omega)
            · rw [upd_same, if_pos (by simp [hc]), List.map_append]
              rfl
        · rintro Hy ⟨sy, hG⟩
          rw [List.length_map, List.take_length] at hG
          obtain ⟨y, hy, hyn⟩ := pigeon (l := spareW) (m := xs) (by decide +kernel) (by omega)
          have hym : y ∈ spareW.filter fun o => decide (o ∉ xs) := List.mem_filter.mpr ⟨hy, decide_eq_true hyn⟩
          cases hf : spareW.filter fun o => decide (o ∉ xs) with
          | nil => rw [hf] at hym; cases hym
          | cons u us =>
            have hu : u ∈ spareW.filter fun o => decide (o ∉ xs) := by rw [hf]; exact List.mem_cons_self ..
            obtain ⟨h1, h2⟩ := List.mem_filter.mp hu
            have hun : nameQ u = true := by
              have : ∀ x ∈ spareW, nameQ x = true := by decide +kernel
              exact this u h1
            rw [hf] at hG
            refine ⟨G, _, 0, .str u, rfl, rfl, SqL.of hG, atI_nat (j := 0) rfl, ?_⟩
            obtain ⟨p1, p2, p3⟩ := add u Hy hun (of_decide_eq_true h2) sy
            obtain ⟨xs', m2, r2, r3, r4, r5, r6, r7, r8, r9, r10⟩ := p3
            refine ⟨Fd, _, _, rfl, rfl, p1, p2, _, _, _, _, xs', m2, rfl, r2, r3, r4, r5, r6, r7, r8, r9, r10⟩
      · refine iteFc (decide_eq_false hin) ⟨_, rfl, ?_⟩
        obtain ⟨p1, p2, p3⟩ := add z H3 hz hin (.refl _)
        obtain ⟨xs', m2, r2, r3, r4, r5, r6, r7, r8, r9, r10⟩ := p3
        refine ⟨Fd, _, _, rfl, rfl, p1, p2, _, _, _, _, xs', m2, rfl, r2, r3, r4, r5, r6, r7, r8, r9, r10⟩
    · rintro σ Hx ⟨x4, x6, x7, x8, xs, m, rfl, hnd, hxl, hxn, m0, m1, Sx, ex, hSx, hFx⟩
      exact ⟨_, rfl, k Fd xs m Hx hnd hxl hxn m0 m1 Sx ex nFH hFx⟩
theorem ok_lwords {f fW : Addr} {fd fdW : FuncData} (F : Fun K "_law_words" "_law_words" sLWords f fd) (mrange : mg "range" = none) (CW : Cal P w K mg base 2 "_law_word" fW fdW ["_law_stream"] spWordQ) : FnOk P w K mg base CX0 3 f fd ["_law_stream", "_law_many"] spWords :=
  (ok_lwordsQ F mrange CW).imp fun vs H Q E h => by
    obtain ⟨st, a, n, many, h1, h2, h3, h4, k⟩ := h
    exact ⟨st, a, n, many, h1, h2, h3, h4, fun L names m H' g1 g2 g3 => k L names m H' g1 g2 fun x hx => nameQ_B (g3 x hx)⟩
end
end XE

set_option Elab.async false
set_option linter.all false
set_option maxRecDepth 100000
set_option maxHeartbeats 1000000
/-! XTn: _law_is_name -/
namespace XE
open PySem PySem.Spec PyProof.Rows L2 RZ Rx SX Rc
abbrev sLIsName : Stmt := topS 44
theorem isName_eq (z : Str) (h1 : 1 ≤ z.length) (h2 : z.length ≤ 8) : nameB z = (!decide (z ∈ someW) && (!decide (z = "while") && z.cps.toList.all isLet)) := by
  unfold nameB isName
  rw [S_tl, len_tl, decide_eq_true (show z.length ≤ 8 from h2), decide_eq_true (p := z.cps.toList ≠ []) (by intro q; rw [← len_tl, q] at h1; cases h1), Bool.true_and, Bool.true_and]
  have e : reservedL.contains z = (decide (z ∈ someW) || decide (z = "while")) := by
    by_cases c : z ∈ someW
    · rw [decide_eq_true c, Bool.true_or]
      have : ∀ x ∈ someW, reservedL.contains x = true := by decide +kernel
      exact this z c
    · rw [decide_eq_false c, Bool.false_or]
      by_cases d : z = "while"
      · subst d; decide +kernel
      · rw [decide_eq_false d]
        cases q : reservedL.contains z with
        | false => rfl
        | true =>
          have : ∀ x ∈ reservedL, x ∈ someW ∨ x = "while" ∨ 8 < x.length := by decide +kernel
          rcases this z (List.contains_iff_mem.mp q) with h | h | h
          · exact absurd h c
          · exact absurd h d
          · omega
  rw [e]
  cases decide (z ∈ someW) <;> cases decide (z = "while") <;> rfl
section
variable {P : Program} {w : World} {K : PySem.W.Frag} {mg : Str → Option Value} {base : Heap}
abbrev lnN : List Str := ["_law_thing", "_law_some", "_law_one"]
theorem scLN : FnScope lnN ["_law_thing"] (defScope sLIsName) := ⟨rfl, rfl, rfl, by decide +kernel, rfl, by decide +kernel, by decide +kernel⟩
theorem ok_lisName {f : Addr} {fd : FuncData} (F : Fun K "_law_is_name" "_law_is_name" sLIsName f fd) (misi : mg "isinstance" = none) (mlen : mg "len" = none) (mall : mg "all" = none) (mstr : mg "str" = none) : FnOk P w K mg base CX0 1 f fd ["_law_thing"] (spTestD K isNameD) := by
  refine F.ok scLN (fun vs H Q E h => ?_) (fun cdv A outer s H vs Q E hr h => ?_)
  · obtain ⟨z, d, rfl, _⟩ := h
    rfl
  · obtain ⟨v, d, rfl, hv, hz, k⟩ := h
    refine ⟨_, (pss_cons (ps_if (PW.pt (pw_or (pt_not (pt_val (pe_callB call_isi (by rfl) misi (by decide +kernel) (pa_cons (pv 0) (pa_cons (pe_bltn (v := .ty "str") (by rfl) mstr (by decide +kernel) rfl) pa_nil))))) (pw_or1 (pt_not (pt_chain op_le op_le pe_int (pe_callB call_len_str (by rfl) mlen PySem.boot_len (pa_cons (pv 0) pa_nil)) pe_int))))) (pss_one (ps_ret pe_bl)) pss_nil) (pss_cons (ps_set (i := 1) scLN.nd rfl (.inl rfl) (pe_tup (pa_cons pe_str (pa_cons pe_str (pa_cons pe_str (pa_cons pe_str (pa_cons pe_str (pa_cons pe_str (pa_cons pe_str (pa_cons pe_str (pa_cons pe_str (pa_cons pe_str (pa_cons pe_str (pa_cons pe_str (pa_cons pe_str pa_nil))))))))))))))) (pss_one (ps_ret (pe_and (pe_cmpR op_notIn_seq (pv 0) (pv 1) rfl) (pe_and (pe_cmpR op_ne (pv 0) pe_str (nomark _)) (pe_one (pe_callB (cr_all rfl) (by rfl) mall (by decide +kernel) (pa_cons (pe_lc (own := [("_law_one", 2)]) (g := gName 2) (tt := tYes) rfl scLN.nd (pi_str (pv 0)) (blkOk_by (own := [("_law_one", 2)]) (N := lnN) (sc := defScope sLIsName) (by decide +kernel)) (fun _ _ _ _ _ => (pg_name (i := 2) scLN.nd rfl (Or.inl rfl))) (fun _ _ _ _ _ => pts_nil) (fun _ _ _ _ _ => (pe_cmpR op_in_sign (pv 2) pe_str rfl))) pa_nil))))))))), ?_⟩
    refine ⟨_, rfl, _, _, _, _, _, rfl, .ty "str", dp_tyX hv, kit_str hv, _, rfl, ?_⟩
    have no : isStrD d = false → isNameD d = false := fun e => by cases d <;> first | rfl | cases e
    cases hs : isStrD d with
    | false =>
      refine iteTc rfl ?_
      have := k H (Same.refl H)
      rw [no hs] at this
      exact this
    | true =>
    obtain ⟨z, rfl⟩ : ∃ z, d = .str z := by cases d <;> first | exact ⟨_, rfl⟩ | cases hs
    cases hv
    refine iteFc rfl ?_
    have hz' := hz z rfl
    have nm : isNameD (.str z) = nameB z := rfl
    rw [nm] at k
    refine ⟨_, rfl, z, rfl, Nat.le_trans hz' (by decide), _, _, rfl, rfl, _, rfl, ?_⟩
    by_cases c1 : 1 ≤ z.length
    · refine iteTc (decide_eq_true (by omega)) ⟨_, _, rfl, rfl, _, rfl, ?_⟩
      by_cases c2 : z.length ≤ 8
      · refine iteFc (by rw [decide_eq_true (by omega)]; rfl) ⟨(by show 13 ≤ sizeLine; decide), fun T nT => ?_⟩
        rw [isName_eq z c1 c2] at k
        have s1 := same_new (o := .tup (someW.map V.str)) nT
        have hT := upd_same (H := H) (a := T) (o := .tup (someW.map V.str))
        rw [show (HO.tup [V.str "and", .str "else", .str "end", .str "if", .str "input", .str "mod", .str "not", .str "or", .str "process", .str "receive", .str "send", .str "set", .str "take"]) = .tup (someW.map V.str) from rfl]
        generalize upd H T (.tup (someW.map V.str)) = H1 at s1 hT ⊢
        refine ⟨_, rfl, _, rfl, T, _, rfl, .inr (SqT.of hT), rfl, flat_strs _, ?_⟩
        rw [if_pos rfl, inV_strsR]
        refine ⟨_, rfl, ?_⟩
        cases hw : decide (z ∈ someW) with
        | true =>
          refine iteFc rfl ?_
          have := k H1 s1
          rw [hw] at this
          exact this
        | false =>
          rw [hw] at k
          refine iteTc rfl ⟨_, rfl, rfl, _, rfl, ?_⟩
          have ev : decide (V.str z = V.str "while") = decide (z = ("while" : Str)) := by
            by_cases h : z = "while"
            · subst h; simp
            · rw [decide_eq_false h, decide_eq_false fun q => h (by injection q)]
          rw [ev]
          cases hq : decide (z = ("while" : Str)) with
          | true =>
            refine iteFc rfl ?_
            have := k H1 s1
            rw [hq] at this
            exact this
          | false =>
            rw [hq] at k
            refine iteTc rfl ?_
            refine ⟨_, rfl, z, rfl, fun D hD => ?_⟩
            refine lc_it walk_str (fun i Hx => Hx D = some (.lst (((z.cps.toList.take i).map isLet).map V.bl)) ∧ Same H1 Hx) ⟨upd_same, same_new hD⟩ (fun _ _ _ _ => trivial) ?_ ?_
            · rintro i x Hx H' hi ⟨h1, h2⟩ ⟨rfl, c, hc, rfl⟩
              refine ⟨rfl, ?_⟩
              dsimp only [tYes]
              rw [if_pos rfl]
              refine ⟨_, rfl, c, lettersS, rfl, rfl, _, h1, ?_, ?_, same_upd h2 hD⟩
              · rw [List.length_map, List.length_map, List.length_take]
                exact Nat.lt_of_le_of_lt (Nat.min_le_right _ _) (Nat.lt_of_le_of_lt (by rw [len_tl]; exact hz') (by decide))
              · rw [upd_same, let_mem]
                have hc' : z.cps.toList[i]? = some c := by rw [Array.getElem?_toList]; exact hc
                rw [List.take_add_one, hc', List.map_append, List.map_append]
                rfl
            · rintro Hx ⟨h1, h2⟩
              refine all_read (K := K) (p := isLet) (z := z) ⟨_, h1, ?_⟩ ?_
              · rw [List.take_of_length_le (by simp)]
              · have := k Hx (s1.trans h2)
                simpa using this
      · refine iteTc (by rw [decide_eq_false (by omega)]; rfl) ?_
        have := k H (Same.refl H)
        rw [show nameB z = false from ?_] at this
        · exact this
        · unfold nameB isName
          rw [S_tl, len_tl, decide_eq_false c2, Bool.false_and, Bool.and_false, Bool.and_false]
    · refine iteFc (decide_eq_false (by omega)) ⟨_, rfl, iteTc rfl ?_⟩
      have := k H (Same.refl H)
      rw [show nameB z = false from ?_] at this
      · exact this
      · unfold nameB isName
        rw [S_tl, decide_eq_false (p := z.cps.toList ≠ []) (fun q => q (List.eq_nil_of_length_eq_zero (by rw [len_tl]; omega))), Bool.false_and, Bool.and_false]
end
end XE

set_option Elab.async false
set_option linter.all false
set_option maxRecDepth 100000
set_option maxHeartbeats 1000000
/-! XTa: _law_any -/
namespace XE
open PySem PySem.Spec PyProof.Rows L2 RZ Rx SX Rc
abbrev sLAny : Stmt := topS 43
def anyL : List PyData := [.none, .bool true, .bool false, .str "", .str "a", .str "x", .str "set", .str "A", .int 0, .int 1, .int (-1), .int (bigZ - 1), .tuple [], .tuple [.int 0], .tuple [.str "a", .int 1], .list [], .list [.str "a", .int 1], .list [.int 0],
  .tuple [.str "a"], .tuple [.str "a", .bool true], .tuple [.str "a", .int 0], .tuple [.int 1, .str "a"], .tuple [.tuple [.str "a", .int 1], .tuple [.str "b", .int 1]], .str "ab"]
/-- all that is neither of the two -/
def offS (s a : Addr) (H : Hp) : Hp := fun b => if b = s ∨ b = a then none else H b
def spAny (K : PySem.W.Frag) : Sp := fun vs H Q _ => ∃ (s a : Addr) (n : Nat), vs = [.ref s] ∧ StreamAt H s a n ∧ n < 1000000 ∧ ∀ (v : V) (d : PyData) (H' : Hp), d ∈ anyL → Moved s a H n 1 H' → Dp K (offS s a H') v d → Q v H'
theorem off_at {s a b : Addr} {H : Hp} (h1 : b ≠ s) (h2 : b ≠ a) : offS s a H b = H b := if_neg (by rintro (z | z); exact h1 z; exact h2 z)
theorem off_sub (s a : Addr) (H : Hp) : Same (offS s a H) H := fun b o h => by
  unfold offS at h
  split at h
  · cases h
  · exact h
theorem off_else {s a : Addr} {H H' : Hp} (e : Else2 s a H H') : Same (offS s a H) (offS s a H') := fun b o h => by
  unfold offS at h ⊢
  split at h
  · cases h
  · rename_i c
    rw [if_neg c]
    exact e b o h (fun z => c (.inl z)) (fun z => c (.inr z))
theorem off_same {s a : Addr} {H H' : Hp} (e : Same H H') : Same (offS s a H) (offS s a H') := off_else (.of_same e)
theorem off_new {s a p : Addr} {H : Hp} {n : Nat} {o : HO} (h : StreamAt H s a n) (np : H p = none) : offS s a (upd H p o) p = some o := by
  have h1 : p ≠ s := fun z => h.tr.1 (by rw [← z]; exact np)
  have h2 : p ≠ a := fun z => h.tr.2 (by rw [← z]; exact np)
  rw [off_at h1 h2, upd_same]
theorem dp_off {K : PySem.W.Frag} {s a : Addr} {H : Hp} {n : Nat} (S : StreamAt H s a n) {v : V} {d : PyData} (h : Dp K H v d) (hn : noList d = true) : Dp K (offS s a H) v d := by
  obtain ⟨_, _, _, h1, h2, _⟩ := S
  refine dp_keep (fun b xs q => ?_) (fun b o u q => ?_) h hn
  · rw [off_at (ne_of q h1 (by intro z; cases z)) (ne_of q h2 (by intro z; cases z))]; exact q
  · rw [off_at (ne_of q h1 (by intro z; cases z)) (ne_of q h2 (by intro z; cases z))]; exact q
theorem dpAll_off {K : PySem.W.Frag} {s a : Addr} {H : Hp} {n : Nat} (S : StreamAt H s a n) {vs : List V} {ds : List PyData} (h : DpAll K H vs ds) (hn : noListAll ds = true) : DpAll K (offS s a H) vs ds := by
  obtain ⟨_, _, _, h1, h2, _⟩ := S
  refine dpAll_keep (fun b xs q => ?_) (fun b o u q => ?_) h hn
  · rw [off_at (ne_of q h1 (by intro z; cases z)) (ne_of q h2 (by intro z; cases z))]; exact q
  · rw [off_at (ne_of q h1 (by intro z; cases z)) (ne_of q h2 (by intro z; cases z))]; exact q
section
variable {P : Program} {w : World} {K : PySem.W.Frag} {mg : Str → Option Value} {base : Heap}
abbrev laN : List Str := ["_law_stream", "_law_some"]
theorem scLA : FnScope laN ["_law_stream"] (defScope sLAny) := ⟨rfl, rfl, rfl, by decide +kernel, rfl, by decide +kernel, by decide +kernel⟩
theorem ok_lany {f fD : Addr} {fd fdD : FuncData} (F : Fun K "_law_any" "_law_any" sLAny f fd) (CD : Cal P w K mg base 1 "_law_draw" fD fdD ["_law_stream", "_law_many"] spDraw) : FnOk P w K mg base CX0 2 f fd ["_law_stream"] (spAny K) := by
  refine F.ok scLA (fun vs H Q E h => ?_) (fun cdv A outer s H vs Q E hr h => ?_)
  · obtain ⟨_, _, _, rfl, _⟩ := h
    rfl
  · obtain ⟨st, a, n, rfl, hS, hn, k⟩ := h
    have hr1 : Room 1 _ := hr
    refine ⟨_, (pss_cons (ps_set (i := 1) scLA.nd rfl (.inl rfl) (pe_lst (pa_cons pe_non (pa_cons pe_bl (pa_cons pe_bl (pa_cons pe_str (pa_cons pe_str (pa_cons pe_str (pa_cons pe_str (pa_cons pe_str (pa_cons pe_int (pa_cons pe_int (pa_cons (pe_un un_neg pe_int) (pa_cons (pe_op op_sub (pe_op op_pow pe_int pe_int) pe_int) (pa_cons (pe_tup pa_nil) (pa_cons (pe_tup (pa_cons pe_int pa_nil)) (pa_cons (pe_tup (pa_cons pe_str (pa_cons pe_int pa_nil))) (pa_cons (pe_lst pa_nil) (pa_cons (pe_lst (pa_cons pe_str (pa_cons pe_int pa_nil))) (pa_cons (pe_lst (pa_cons pe_int pa_nil)) pa_nil)))))))))))))))))))) (pss_cons (ps_set (i := 1) scLA.nd rfl (.inl rfl) (pe_op op_cat (pv 1) (pe_lst (pa_cons (pe_tup (pa_cons pe_str pa_nil)) (pa_cons (pe_tup (pa_cons pe_str (pa_cons pe_bl pa_nil))) (pa_cons (pe_tup (pa_cons pe_str (pa_cons pe_int pa_nil))) (pa_cons (pe_tup (pa_cons pe_int (pa_cons pe_str pa_nil))) (pa_cons (pe_tup (pa_cons (pe_tup (pa_cons pe_str (pa_cons pe_int pa_nil))) (pa_cons (pe_tup (pa_cons pe_str (pa_cons pe_int pa_nil))) pa_nil))) (pa_cons pe_str pa_nil))))))))) (pss_one (ps_ret (pe_ix ix_list (pv 1) (pe_call CD.ok hr1 rfl CD.mg CD.kp CD.bi .nil pass0 (pa_cons (pv 0) (pa_cons pe_int pa_nil))) (fun _ _ => rfl)))))), ?_⟩
    refine ⟨_, rfl, _, _, rfl, rfl, ⟨by decide, by decide, by decide⟩, _, _, rfl, rfl, ?_⟩
    refine ⟨(by show 0 ≤ sizeLine; decide), fun t1 n1 => ?_⟩
    have e1 := same_new (o := .tup []) n1
    have f1 := off_new (o := .tup []) hS n1
    have S1 := hS.same e1
    generalize upd H t1 (.tup []) = G1 at e1 S1 f1 ⊢
    refine ⟨(by show 1 ≤ sizeLine; decide), fun t2 n2 => ?_⟩
    have e2 := same_new (o := .tup [.int 0]) n2
    have f2 := off_new (o := .tup [.int 0]) S1 n2
    have S2 := S1.same e2
    replace f1 := off_same e2 _ _ f1
    replace e2 := e1.trans e2
    generalize upd G1 t2 (.tup [.int 0]) = G2 at e2 S2 f1 f2 ⊢
    refine ⟨(by show 2 ≤ sizeLine; decide), fun t3 n3 => ?_⟩
    have e3 := same_new (o := .tup [.str "a", .int 1]) n3
    have f3 := off_new (o := .tup [.str "a", .int 1]) S2 n3
    have S3 := S2.same e3
    replace f1 := off_same e3 _ _ f1
    replace f2 := off_same e3 _ _ f2
    replace e3 := e2.trans e3
    generalize upd G2 t3 (.tup [.str "a", .int 1]) = G3 at e3 S3 f1 f2 f3 ⊢
    refine ⟨(by show 0 ≤ sizeLine; decide), fun t4 n4 => ?_⟩
    have e4 := same_new (o := .lst []) n4
    have f4 := off_new (o := .lst []) S3 n4
    have S4 := S3.same e4
    replace f1 := off_same e4 _ _ f1
    replace f2 := off_same e4 _ _ f2
    replace f3 := off_same e4 _ _ f3
    replace e4 := e3.trans e4
    generalize upd G3 t4 (.lst []) = G4 at e4 S4 f1 f2 f3 f4 ⊢
    refine ⟨(by show 2 ≤ sizeLine; decide), fun t5 n5 => ?_⟩
    have e5 := same_new (o := .lst [.str "a", .int 1]) n5
    have f5 := off_new (o := .lst [.str "a", .int 1]) S4 n5
    have S5 := S4.same e5
    replace f1 := off_same e5 _ _ f1
    replace f2 := off_same e5 _ _ f2
    replace f3 := off_same e5 _ _ f3
    replace f4 := off_same e5 _ _ f4
    replace e5 := e4.trans e5
    generalize upd G4 t5 (.lst [.str "a", .int 1]) = G5 at e5 S5 f1 f2 f3 f4 f5 ⊢
    refine ⟨(by show 1 ≤ sizeLine; decide), fun t6 n6 => ?_⟩
    have e6 := same_new (o := .lst [.int 0]) n6
    have f6 := off_new (o := .lst [.int 0]) S5 n6
    have S6 := S5.same e6
    replace f1 := off_same e6 _ _ f1
    replace f2 := off_same e6 _ _ f2
    replace f3 := off_same e6 _ _ f3
    replace f4 := off_same e6 _ _ f4
    replace f5 := off_same e6 _ _ f5
    replace e6 := e5.trans e6
    generalize upd G5 t6 (.lst [.int 0]) = G6 at e6 S6 f1 f2 f3 f4 f5 f6 ⊢
    refine ⟨(by show 18 ≤ sizeLine; decide), fun t7 n7 => ?_⟩
    have e7 := same_new (o := .lst [.non, .bl true, .bl false, .str "", .str "a", .str "x", .str "set", .str "A", .int 0, .int 1, .int (-1), .int ((10 : Int) ^ Int.toNat 30 - 1), .ref t1, .ref t2, .ref t3, .ref t4, .ref t5, .ref t6]) n7
    have f7 := off_new (o := .lst [.non, .bl true, .bl false, .str "", .str "a", .str "x", .str "set", .str "A", .int 0, .int 1, .int (-1), .int ((10 : Int) ^ Int.toNat 30 - 1), .ref t1, .ref t2, .ref t3, .ref t4, .ref t5, .ref t6]) S6 n7
    have S7 := S6.same e7
    replace f1 := off_same e7 _ _ f1
    replace f2 := off_same e7 _ _ f2
    replace f3 := off_same e7 _ _ f3
    replace f4 := off_same e7 _ _ f4
    replace f5 := off_same e7 _ _ f5
    replace f6 := off_same e7 _ _ f6
    replace e7 := e6.trans e7
    generalize upd G6 t7 (.lst [.non, .bl true, .bl false, .str "", .str "a", .str "x", .str "set", .str "A", .int 0, .int 1, .int (-1), .int ((10 : Int) ^ Int.toNat 30 - 1), .ref t1, .ref t2, .ref t3, .ref t4, .ref t5, .ref t6]) = G7 at e7 S7 f1 f2 f3 f4 f5 f6 f7 ⊢
    refine ⟨_, rfl, ?_⟩
    refine ⟨(by show 1 ≤ sizeLine; decide), fun t8 n8 => ?_⟩
    have e8 := same_new (o := .tup [.str "a"]) n8
    have f8 := off_new (o := .tup [.str "a"]) S7 n8
    have S8 := S7.same e8
    replace f1 := off_same e8 _ _ f1
    replace f2 := off_same e8 _ _ f2
    replace f3 := off_same e8 _ _ f3
    replace f4 := off_same e8 _ _ f4
    replace f5 := off_same e8 _ _ f5
    replace f6 := off_same e8 _ _ f6
    replace f7 := off_same e8 _ _ f7
    replace e8 := e7.trans e8
    generalize upd G7 t8 (.tup [.str "a"]) = G8 at e8 S8 f1 f2 f3 f4 f5 f6 f7 f8 ⊢
    refine ⟨(by show 2 ≤ sizeLine; decide), fun t9 n9 => ?_⟩
    have e9 := same_new (o := .tup [.str "a", .bl true]) n9
    have f9 := off_new (o := .tup [.str "a", .bl true]) S8 n9
    have S9 := S8.same e9
    replace f1 := off_same e9 _ _ f1
    replace f2 := off_same e9 _ _ f2
    replace f3 := off_same e9 _ _ f3
    replace f4 := off_same e9 _ _ f4
    replace f5 := off_same e9 _ _ f5
    replace f6 := off_same e9 _ _ f6
    replace f7 := off_same e9 _ _ f7
    replace f8 := off_same e9 _ _ f8
    replace e9 := e8.trans e9
    generalize upd G8 t9 (.tup [.str "a", .bl true]) = G9 at e9 S9 f1 f2 f3 f4 f5 f6 f7 f8 f9 ⊢
    refine ⟨(by show 2 ≤ sizeLine; decide), fun t10 n10 => ?_⟩
    have e10 := same_new (o := .tup [.str "a", .int 0]) n10
    have f10 := off_new (o := .tup [.str "a", .int 0]) S9 n10
    have S10 := S9.same e10
    replace f1 := off_same e10 _ _ f1
    replace f2 := off_same e10 _ _ f2
    replace f3 := off_same e10 _ _ f3
    replace f4 := off_same e10 _ _ f4
    replace f5 := off_same e10 _ _ f5
    replace f6 := off_same e10 _ _ f6
    replace f7 := off_same e10 _ _ f7
    replace f8 := off_same e10 _ _ f8
    replace f9 := off_same e10 _ _ f9
    replace e10 := e9.trans e10
    generalize upd G9 t10 (.tup [.str "a", .int 0]) = G10 at e10 S10 f1 f2 f3 f4 f5 f6 f7 f8 f9 f10 ⊢
    refine ⟨(by show 2 ≤ sizeLine; decide), fun t11 n11 => ?_⟩
    have e11 := same_new (o := .tup [.int 1, .str "a"]) n11
    have f11 := off_new (o := .tup [.int 1, .str "a"]) S10 n11
    have S11 := S10.same e11
    replace f1 := off_same e11 _ _ f1
    replace f2 := off_same e11 _ _ f2
    replace f3 := off_same e11 _ _ f3
    replace f4 := off_same e11 _ _ f4
    replace f5 := off_same e11 _ _ f5
    replace f6 := off_same e11 _ _ f6
    replace f7 := off_same e11 _ _ f7
    replace f8 := off_same e11 _ _ f8
    replace f9 := off_same e11 _ _ f9
    replace f10 := off_same e11 _ _ f10
    replace e11 := e10.trans e11
    generalize upd G10 t11 (.tup [.int 1, .str "a"]) = G11 at e11 S11 f1 f2 f3 f4 f5 f6 f7 f8 f9 f10 f11 ⊢
    refine ⟨(by show 2 ≤ sizeLine; decide), fun t12 n12 => ?_⟩
    have e12 := same_new (o := .tup [.str "a", .int 1]) n12
    have f12 := off_new (o := .tup [.str "a", .int 1]) S11 n12
    have S12 := S11.same e12
    replace f1 := off_same e12 _ _ f1
    replace f2 := off_same e12 _ _ f2
    replace f3 := off_same e12 _ _ f3
    replace f4 := off_same e12 _ _ f4
    replace f5 := off_same e12 _ _ f5
    replace f6 := off_same e12 _ _ f6
    replace f7 := off_same e12 _ _ f7
    replace f8 := off_same e12 _ _ f8
    replace f9 := off_same e12 _ _ f9
    replace f10 := off_same e12 _ _ f10
    replace f11 := off_same e12 _ _ f11
    replace e12 := e11.trans e12
    generalize upd G11 t12 (.tup [.str "a", .int 1]) = G12 at e12 S12 f1 f2 f3 f4 f5 f6 f7 f8 f9 f10 f11 f12 ⊢
    refine ⟨(by show 2 ≤ sizeLine; decide), fun t13 n13 => ?_⟩
    have e13 := same_new (o := .tup [.str "b", .int 1]) n13
    have f13 := off_new (o := .tup [.str "b", .int 1]) S12 n13
    have S13 := S12.same e13
    replace f1 := off_same e13 _ _ f1
    replace f2 := off_same e13 _ _ f2
    replace f3 := off_same e13 _ _ f3
    replace f4 := off_same e13 _ _ f4
    replace f5 := off_same e13 _ _ f5
    replace f6 := off_same e13 _ _ f6
    replace f7 := off_same e13 _ _ f7
    replace f8 := off_same e13 _ _ f8
    replace f9 := off_same e13 _ _ f9
    replace f10 := off_same e13 _ _ f10
    replace f11 := off_same e13 _ _ f11
    replace f12 := off_same e13 _ _ f12
    replace e13 := e12.trans e13
    generalize upd G12 t13 (.tup [.str "b", .int 1]) = G13 at e13 S13 f1 f2 f3 f4 f5 f6 f7 f8 f9 f10 f11 f12 f13 ⊢
    refine ⟨(by show 2 ≤ sizeLine; decide), fun t14 n14 => ?_⟩
    have e14 := same_new (o := .tup [.ref t12, .ref t13]) n14
    have f14 := off_new (o := .tup [.ref t12, .ref t13]) S13 n14
    have S14 := S13.same e14
    replace f1 := off_same e14 _ _ f1
    replace f2 := off_same e14 _ _ f2
    replace f3 := off_same e14 _ _ f3
    replace f4 := off_same e14 _ _ f4
    replace f5 := off_same e14 _ _ f5
    replace f6 := off_same e14 _ _ f6
    replace f7 := off_same e14 _ _ f7
    replace f8 := off_same e14 _ _ f8
    replace f9 := off_same e14 _ _ f9
    replace f10 := off_same e14 _ _ f10
    replace f11 := off_same e14 _ _ f11
    replace f12 := off_same e14 _ _ f12
    replace f13 := off_same e14 _ _ f13
    replace e14 := e13.trans e14
    generalize upd G13 t14 (.tup [.ref t12, .ref t13]) = G14 at e14 S14 f1 f2 f3 f4 f5 f6 f7 f8 f9 f10 f11 f12 f13 f14 ⊢
    refine ⟨(by show 6 ≤ sizeLine; decide), fun t15 n15 => ?_⟩
    have e15 := same_new (o := .lst [.ref t8, .ref t9, .ref t10, .ref t11, .ref t14, .str "ab"]) n15
    have f15 := off_new (o := .lst [.ref t8, .ref t9, .ref t10, .ref t11, .ref t14, .str "ab"]) S14 n15
    have S15 := S14.same e15
    replace f1 := off_same e15 _ _ f1
    replace f2 := off_same e15 _ _ f2
    replace f3 := off_same e15 _ _ f3
    replace f4 := off_same e15 _ _ f4
    replace f5 := off_same e15 _ _ f5
    replace f6 := off_same e15 _ _ f6
    replace f7 := off_same e15 _ _ f7
    replace f8 := off_same e15 _ _ f8
    replace f9 := off_same e15 _ _ f9
    replace f10 := off_same e15 _ _ f10
    replace f11 := off_same e15 _ _ f11
    replace f12 := off_same e15 _ _ f12
    replace f13 := off_same e15 _ _ f13
    replace f14 := off_same e15 _ _ f14
    replace e15 := e14.trans e15
    generalize upd G14 t15 (.lst [.ref t8, .ref t9, .ref t10, .ref t11, .ref t14, .str "ab"]) = G15 at e15 S15 f1 f2 f3 f4 f5 f6 f7 f8 f9 f10 f11 f12 f13 f14 f15 ⊢
    have g1 := off_sub _ _ _ _ _ f7
    have g2 := off_sub _ _ _ _ _ f15
    refine ⟨t7, t15, _, _, rfl, rfl, g1, g2, (by show 18 + 6 ≤ sizeLine; decide), fun L nL => ?_⟩
    have SS := S15.same (same_new (o := .lst ([V.non, V.bl true, V.bl false, V.str "", V.str "a", V.str "x", V.str "set", V.str "A", V.int 0, V.int 1, V.int (-1), V.int ((10 : Int) ^ Int.toNat 30 - 1), V.ref t1, V.ref t2, V.ref t3, V.ref t4, V.ref t5, V.ref t6] ++ [V.ref t8, V.ref t9, V.ref t10, V.ref t11, V.ref t14, V.str "ab"])) nL)
    have hL := off_new (o := .lst ([V.non, V.bl true, V.bl false, V.str "", V.str "a", V.str "x", V.str "set", V.str "A", V.int 0, V.int 1, V.int (-1), V.int ((10 : Int) ^ Int.toNat 30 - 1), V.ref t1, V.ref t2, V.ref t3, V.ref t4, V.ref t5, V.ref t6] ++ [V.ref t8, V.ref t9, V.ref t10, V.ref t11, V.ref t14, V.str "ab"])) S15 nL
    have eL := same_new (o := .lst ([V.non, V.bl true, V.bl false, V.str "", V.str "a", V.str "x", V.str "set", V.str "A", V.int 0, V.int 1, V.int (-1), V.int ((10 : Int) ^ Int.toNat 30 - 1), V.ref t1, V.ref t2, V.ref t3, V.ref t4, V.ref t5, V.ref t6] ++ [V.ref t8, V.ref t9, V.ref t10, V.ref t11, V.ref t14, V.str "ab"])) nL
    replace f1 := off_same eL _ _ f1
    replace f2 := off_same eL _ _ f2
    replace f3 := off_same eL _ _ f3
    replace f4 := off_same eL _ _ f4
    replace f5 := off_same eL _ _ f5
    replace f6 := off_same eL _ _ f6
    replace f7 := off_same eL _ _ f7
    replace f8 := off_same eL _ _ f8
    replace f9 := off_same eL _ _ f9
    replace f10 := off_same eL _ _ f10
    replace f11 := off_same eL _ _ f11
    replace f12 := off_same eL _ _ f12
    replace f13 := off_same eL _ _ f13
    replace f14 := off_same eL _ _ f14
    replace f15 := off_same eL _ _ f15
    replace eL := e15.trans eL
    generalize upd G15 L _ = HL at SS hL eL f1 f2 f3 f4 f5 f6 f7 f8 f9 f10 f11 f12 f13 f14 f15 ⊢
    refine ⟨_, rfl, _, rfl, st, a, n, 24, rfl, by decide, by decide, SS, hn, fun k2 H2 k20 k21 S2 el2 => ?_⟩
    have oe := off_else el2
    obtain ⟨j, v, hj, hv, hm, rfl⟩ := at_drawn (xs := [V.non, V.bl true, V.bl false, V.str "", V.str "a", V.str "x", V.str "set", V.str "A", V.int 0, V.int 1, V.int (-1), V.int ((10 : Int) ^ Int.toNat 30 - 1), V.ref t1, V.ref t2, V.ref t3, V.ref t4, V.ref t5, V.ref t6] ++ [V.ref t8, V.ref t9, V.ref t10, V.ref t11, V.ref t14, V.str "ab"]) k20 (by show k2 < 24; omega)
    refine ⟨L, _, (j : Nat), v, rfl, rfl, SqL.of (off_sub _ _ _ _ _ (oe _ _ hL)), hv, ?_⟩
    have mv : Moved st a H n 1 H2 := ⟨n + 1, by omega, by omega, S2, (Else2.of_same eL).trans el2⟩
    have bz : (10 : Int) ^ Int.toNat 30 - 1 = bigZ - 1 := rfl
    clear hv hj
    replace f1 := oe _ _ f1
    replace f2 := oe _ _ f2
    replace f3 := oe _ _ f3
    replace f4 := oe _ _ f4
    replace f5 := oe _ _ f5
    replace f6 := oe _ _ f6
    replace f7 := oe _ _ f7
    replace f8 := oe _ _ f8
    replace f9 := oe _ _ f9
    replace f10 := oe _ _ f10
    replace f11 := oe _ _ f11
    replace f12 := oe _ _ f12
    replace f13 := oe _ _ f13
    replace f14 := oe _ _ f14
    replace f15 := oe _ _ f15
    simp only [List.mem_append, List.mem_cons, List.not_mem_nil, or_false] at hm
    rcases hm with (rfl | rfl | rfl | rfl | rfl | rfl | rfl | rfl | rfl | rfl | rfl | rfl | rfl | rfl | rfl | rfl | rfl | rfl) | (rfl | rfl | rfl | rfl | rfl | rfl)
    · exact k _ _ _ (List.mem_of_getElem? (i := 0) (l := anyL) rfl) mv (.non)
    · exact k _ _ _ (List.mem_of_getElem? (i := 1) (l := anyL) rfl) mv (.bl _)
    · exact k _ _ _ (List.mem_of_getElem? (i := 2) (l := anyL) rfl) mv (.bl _)
    · exact k _ _ _ (List.mem_of_getElem? (i := 3) (l := anyL) rfl) mv (.str _)
    · exact k _ _ _ (List.mem_of_getElem? (i := 4) (l := anyL) rfl) mv (.str _)
    · exact k _ _ _ (List.mem_of_getElem? (i := 5) (l := anyL) rfl) mv (.str _)
    · exact k _ _ _ (List.mem_of_getElem? (i := 6) (l := anyL) rfl) mv (.str _)
    · exact k _ _ _ (List.mem_of_getElem? (i := 7) (l := anyL) rfl) mv (.str _)
    · exact k _ _ _ (List.mem_of_getElem? (i := 8) (l := anyL) rfl) mv (.int _)
    · exact k _ _ _ (List.mem_of_getElem? (i := 9) (l := anyL) rfl) mv (.int _)
    · exact k _ _ _ (List.mem_of_getElem? (i := 10) (l := anyL) rfl) mv (.int _)
    · exact k _ _ _ (List.mem_of_getElem? (i := 11) (l := anyL) rfl) mv (.int _)
    · exact k _ _ _ (List.mem_of_getElem? (i := 12) (l := anyL) rfl) mv (.tup (SqT.of f1) (.nil))
    · exact k _ _ _ (List.mem_of_getElem? (i := 13) (l := anyL) rfl) mv (.tup (SqT.of f2) (.cons (.int _) (.nil)))
    · exact k _ _ _ (List.mem_of_getElem? (i := 14) (l := anyL) rfl) mv (.tup (SqT.of f3) (.cons (.str _) (.cons (.int _) (.nil))))
    · exact k _ _ _ (List.mem_of_getElem? (i := 15) (l := anyL) rfl) mv (.lst (SqL.of f4) (.nil))
    · exact k _ _ _ (List.mem_of_getElem? (i := 16) (l := anyL) rfl) mv (.lst (SqL.of f5) (.cons (.str _) (.cons (.int _) (.nil))))
    · exact k _ _ _ (List.mem_of_getElem? (i := 17) (l := anyL) rfl) mv (.lst (SqL.of f6) (.cons (.int _) (.nil)))
    · exact k _ _ _ (List.mem_of_getElem? (i := 18) (l := anyL) rfl) mv (.tup (SqT.of f8) (.cons (.str _) (.nil)))
    · exact k _ _ _ (List.mem_of_getElem? (i := 19) (l := anyL) rfl) mv (.tup (SqT.of f9) (.cons (.str _) (.cons (.bl _) (.nil))))
    · exact k _ _ _ (List.mem_of_getElem? (i := 20) (l := anyL) rfl) mv (.tup (SqT.of f10) (.cons (.str _) (.cons (.int _) (.nil))))
    · exact k _ _ _ (List.mem_of_getElem? (i := 21) (l := anyL) rfl) mv (.tup (SqT.of f11) (.cons (.int _) (.cons (.str _) (.nil))))
    · exact k _ _ _ (List.mem_of_getElem? (i := 22) (l := anyL) rfl) mv (.tup (SqT.of f14) (.cons (.tup (SqT.of f12) (.cons (.str _) (.cons (.int _) .nil))) (.cons (.tup (SqT.of f13) (.cons (.str _) (.cons (.int _) .nil))) .nil)))
    · exact k _ _ _ (List.mem_of_getElem? (i := 23) (l := anyL) rfl) mv (.str _)
end
end XE

set_option Elab.async false
set_option linter.all false
set_option maxRecDepth 100000
set_option maxHeartbeats 1000000
/-! RxFst: the first message that is not due, row by row -/
namespace Rc
open PySem PySem.Spec PyProof.Rows L2 RZ Rx SX
def cntR (es : List Ev) (p : Str) : Nat := (es.filter fun e => decide (e.recvOf.map (·.1) = some p)).length
theorem recvN_app (f g : Flat) (a b : Str) : recvN (f ++ g) a b = recvN f a b + recvN g a b := by
  unfold recvN
  rw [List.filter_append, List.length_append]
theorem recvN_row (n : Str) (p : Str) : ∀ (es : List Ev) (k : Nat), recvN (flatRow n k es) p n = cntR es p
  | [], _ => rfl
  | e :: es, k => by
    have : flatRow n k (e :: es) = [((n, k), e)] ++ flatRow n (k + 1) es := rfl
    rw [this, recvN_app, recvN_row n p es (k + 1)]
    unfold cntR recvN
    rw [List.filter_cons]
    by_cases c : e.recvOf.map (·.1) = some p <;> simp [c] <;> omega
theorem recvN_other {n : Str} {p : Str} : ∀ {fl : Flat}, (∀ x ∈ fl, x.1.1 ≠ n) → recvN fl p n = 0
  | [], _ => rfl
  | x :: fl, h => by
    have : (x :: fl : Flat) = [x] ++ fl := rfl
    rw [this, recvN_app, recvN_other fun y hy => h y (List.mem_cons_of_mem _ hy)]
    unfold recvN
    simp [h x (List.mem_cons_self ..)]
theorem recvN_pre {rs : Rows} (hd : (rs.map (·.1)).Nodup) {i : Nat} {n : Str} {es : List Ev} (h : rs[i]? = some (n, es)) (p : Str) (j : Nat) : recvN (flatR (rs.take i) ++ flatRow n 1 (es.take j)) p n = cntR (es.take j) p := by
  rw [recvN_app, recvN_row, recvN_other fun x hx => ?_, Nat.zero_add]
  intro z
  have hm := flatR_mem hx
  rw [z, List.map_take] at hm
  obtain ⟨k, hk⟩ := List.mem_iff_getElem?.mp hm
  rw [List.getElem?_take] at hk
  split at hk
  · have h2 : (rs.map (·.1))[i]? = some n := by rw [List.getElem?_map, h]; rfl
    have := (List.getElem?_inj (j := i) (List.getElem?_eq_some_iff.mp hk).1 hd).mp (by rw [hk, h2])
    omega
  · cases hk
theorem cntR_succ {es : List Ev} {j : Nat} {e : Ev} (h : es[j]? = some e) (p : Str) : cntR (es.take (j + 1)) p = cntR (es.take j) p + (if e.recvOf.map (·.1) = some p then 1 else 0) := by
  unfold cntR
  rw [List.take_add_one, h, List.filter_append, List.length_append]
  congr 1
  by_cases c : e.recvOf.map (·.1) = some p <;> simp [c]
theorem cut_lo (xs : List V) (k : Nat) : cutV xs (some (k : Int)) none = xs.drop k := by
  unfold cutV
  rw [HT.sIx_nat, HT.sIx_none]
  by_cases h : k ≤ xs.length
  · rw [Nat.min_eq_left h, List.take_of_length_le (by rw [List.length_drop]; exact Nat.le_refl _)]
  · rw [Nat.min_eq_right (by omega), List.drop_length, List.drop_of_length_le (by omega)]; simp
theorem cut_hi (xs : List V) (k : Nat) : cutV xs none (some (k : Int)) = xs.take k := by
  unfold cutV
  rw [HT.sIx_nat, HT.sIx_none, List.drop_zero, Nat.sub_zero]
  by_cases h : k ≤ xs.length
  · rw [Nat.min_eq_left h]
  · rw [Nat.min_eq_right (by omega), List.take_length, List.take_of_length_le (by omega)]
/-- one list item, or none -/
theorem cut_at (xs : List V) (k : Nat) : cutV xs (some (k : Int)) (some ((k : Int) + 1)) = (xs.drop k).take 1 := by
  unfold cutV
  rw [show ((k : Int) + 1) = ((k + 1 : Nat) : Int) from rfl, HT.sIx_nat, HT.sIx_nat]
  by_cases h : k + 1 ≤ xs.length
  · rw [Nat.min_eq_left h, Nat.min_eq_left (by omega)]
    congr 1
    omega
  · rw [Nat.min_eq_right (by omega), Nat.min_eq_right (by omega), List.drop_length, List.drop_of_length_le (by omega)]; simp
theorem take1 {α : Type} (xs : List α) (k : Nat) : (xs.drop k).take 1 = xs[k]?.toList := by
  cases h : xs[k]? with
  | none =>
    rw [List.drop_of_length_le (List.getElem?_eq_none_iff.mp h)]
    rfl
  | some x =>
    obtain ⟨h1, h2⟩ := List.getElem?_eq_some_iff.mp h
    rw [← List.getElem_cons_drop h1, h2]
    rfl
end Rc

set_option Elab.async false
set_option linter.all false
set_option maxRecDepth 100000
set_option maxHeartbeats 1000000
/-! XTo: data that may be no event -/
namespace XE
open PySem PySem.Spec PyProof.Rows L2 RZ Rx SX Rc
theorem at_last3 {xs : List V} {v : V} : atI (xs ++ [v]) (-1) = some v := by
  show (ixN (xs ++ [v]).length (-1)).bind _ = _
  rw [List.length_append, List.length_singleton, ixN_last]
  simp
theorem cut_lo2 (xs : List V) (k : Nat) : cutV xs (some (k : Int)) none = xs.drop k := by
  unfold cutV
  rw [HT.sIx_nat, HT.sIx_none]
  by_cases h : k ≤ xs.length
  · rw [Nat.min_eq_left h, List.take_of_length_le (by rw [List.length_drop]; exact Nat.le_refl _)]
  · rw [Nat.min_eq_right (by omega), List.drop_length, List.drop_of_length_le (by omega)]; simp
theorem cut_hi2 (xs : List V) (k : Nat) : cutV xs none (some (k : Int)) = xs.take k := by
  unfold cutV
  rw [HT.sIx_nat, HT.sIx_none, List.drop_zero, Nat.sub_zero]
  by_cases h : k ≤ xs.length
  · rw [Nat.min_eq_left h]
  · rw [Nat.min_eq_right (by omega), List.take_length, List.take_of_length_le (by omega)]
theorem dpAll_app3 {K : PySem.W.Frag} {H : Hp} : ∀ {xs : List V} {ds : List PyData} {ys : List V} {es : List PyData}, DpAll K H xs ds → DpAll K H ys es → DpAll K H (xs ++ ys) (ds ++ es)
  | _, _, _, _, .nil, h => h
  | _, _, _, _, .cons a r, h => .cons a (dpAll_app3 r h)
theorem dpAll_take3 {K : PySem.W.Frag} {H : Hp} : ∀ {xs : List V} {ds : List PyData} (n : Nat), DpAll K H xs ds → DpAll K H (xs.take n) (ds.take n)
  | _, _, 0, _ => .nil
  | _, _, n + 1, .nil => .nil
  | _, _, n + 1, .cons a r => .cons a (dpAll_take3 n r)
theorem dpAll_drop3 {K : PySem.W.Frag} {H : Hp} : ∀ {xs : List V} {ds : List PyData} (n : Nat), DpAll K H xs ds → DpAll K H (xs.drop n) (ds.drop n)
  | _, _, 0, h => h
  | _, _, n + 1, .nil => .nil
  | _, _, n + 1, .cons a r => dpAll_drop3 n r
theorem dpAll_set3 {K : PySem.W.Frag} {H : Hp} {v : V} {d : PyData} (h : Dp K H v d) : ∀ {xs : List V} {ds : List PyData} (n : Nat), DpAll K H xs ds → DpAll K H (xs.set n v) (ds.set n d)
  | _, _, n, .nil => .nil
  | _, _, 0, .cons a r => .cons h r
  | _, _, n + 1, .cons a r => .cons a (dpAll_set3 h n r)
theorem dpAll_snoc3 {K : PySem.W.Frag} {H : Hp} {v : V} {d : PyData} (h : Dp K H v d) : ∀ {vs : List V} {ds : List PyData}, DpAll K H vs ds → DpAll K H (vs ++ [v]) (ds ++ [d])
  | _, _, .nil => .cons h .nil
  | _, _, .cons a r => .cons a (dpAll_snoc3 h r)
theorem len_szAll : ∀ xs : List PyData, xs.length ≤ szAll xs
  | [] => Nat.le_refl _
  | x :: xs => by
    have := len_szAll xs
    have : 1 ≤ sz x := by cases x <;> simp [sz] <;> omega
    rw [szAll, List.length_cons]
    omega
theorem sz_mem : ∀ {xs : List PyData} {x : PyData}, x ∈ xs → sz x ≤ szAll xs
  | y :: ys, x, h => by
    rw [szAll]
    rcases List.mem_cons.mp h with rfl | h
    · omega
    · have := sz_mem h
      omega
theorem smd_of : ∀ {n : Nat} {d : PyData}, Lay n d → sz d ≤ 1000 → SmD n d
  | n, .none, _, _ => .non
  | n, .bool _, _, _ => .bl _
  | n, .int _, _, _ => .int _
  | n, .str _, _, _ => .str _
  | n, .dict _, h, _ => by have := h.1; simp [PyData.canLay0] at this
  | 0, .list xs, h, _ => by have := h.2; simp [PyData.depth] at this
  | 0, .tuple xs, h, _ => by have := h.2; simp [PyData.depth] at this
  | n + 1, .list xs, h, hz => by
    have hz : 2 + szAll xs ≤ 1000 := hz
    refine .lst (by have := len_szAll xs; omega) fun x hx => smd_of ⟨PyData.canLay0_of_mem xs x (by have := h.1; simpa [PyData.canLay0] using this) hx, ?_⟩ (by have := sz_mem hx; omega)
    have h1 := depthAll_le hx
    have h2 := h.2
    simp only [PyData.depth] at h2
    omega
  | n + 1, .tuple xs, h, hz => by
    have hz : 2 + szAll xs ≤ 1000 := hz
    refine .tup (by have := len_szAll xs; omega) fun x hx => smd_of ⟨PyData.canLay0_of_mem xs x (by have := h.1; simpa [PyData.canLay0] using this) hx, ?_⟩ (by have := sz_mem hx; omega)
    have h1 := depthAll_le hx
    have h2 := h.2
    simp only [PyData.depth] at h2
    omega
/-- a small part of an event -/
structure PartOk (p : PyData) : Prop where
  ly : Lay 1 p
  sm : smD p = true
  sz : sz p ≤ 4
/-- an event, or what stands for one -/
structure EvD (m : Nat) (d : PyData) : Prop where
  ly : Lay 2 d
  sm : smD d = true
  sz : sz d ≤ 2 + 4 * m
  ps : ∀ xs, d = .tuple xs → xs.length ≤ m ∧ ∀ p ∈ xs, PartOk p
theorem part_str {z : Str} (h : PyData.strOk z = true) (hl : z.length ≤ 100000) : PartOk (.str z) := ⟨lay_str h, decide_eq_true hl, by show 1 ≤ 4; decide⟩
theorem part_name {z : Str} (h : nameB z = true) : PartOk (.str z) := part_str (name_strOk h) (Nat.le_trans (name_short h) (by decide))
theorem part_int (i : Int) : PartOk (.int i) := ⟨lay_int, rfl, by show 1 ≤ 4; decide⟩
theorem szAll_parts : ∀ {xs : List PyData}, (∀ p ∈ xs, PartOk p) → szAll xs ≤ 4 * xs.length
  | [], _ => Nat.le_refl _
  | x :: xs, h => by
    have h1 := (h x (List.mem_cons_self ..)).sz
    have h2 := szAll_parts fun p hp => h p (List.mem_cons_of_mem _ hp)
    rw [szAll, List.length_cons]
    omega
theorem ev_parts {m : Nat} {xs : List PyData} (hl : xs.length ≤ m) (h : ∀ p ∈ xs, PartOk p) : EvD m (.tuple xs) ∧ EvD m (.list xs) := by
  have hz := szAll_parts h
  have hs : smAll xs = true := smAll_of fun p hp => (h p hp).sm
  have hy : ∀ p ∈ xs, Lay 1 p := fun p hp => (h p hp).ly
  refine ⟨⟨lay_tup hy, by simpa [smD] using hs, by show 2 + szAll xs ≤ _; omega, fun ys e => ?_⟩, ⟨lay_lst hy, by simpa [smD] using hs, by show 2 + szAll xs ≤ _; omega, fun ys e => by cases e⟩⟩
  injection e with e
  subst e
  exact ⟨hl, h⟩
theorem ev_leaf {m : Nat} {p : PyData} (h : PartOk p) (hm : 1 ≤ m) (hn : ∀ xs, p ≠ .tuple xs) : EvD m p := ⟨h.ly.mono (by decide), h.sm, by have := h.sz; omega, fun xs e => absurd e (hn xs)⟩
theorem any_ev {m : Nat} (hm : 4 ≤ m) : ∀ d ∈ anyL, EvD m d := by
  have sok : ∀ z ∈ (["", "a", "x", "set", "A", "ab", "b"] : List Str), PyData.strOk z = true ∧ z.length ≤ 100000 := by decide +kernel
  have S : ∀ z, z ∈ (["", "a", "x", "set", "A", "ab", "b"] : List Str) → PartOk (.str z) := fun z hz => part_str (sok z hz).1 (sok z hz).2
  have B : ∀ b, PartOk (.bool b) := fun b => ⟨⟨by simp [PyData.canLay0], by simp [PyData.depth]⟩, rfl, by show 1 ≤ 4; decide⟩
  have N : PartOk .none := ⟨⟨by simp [PyData.canLay0], by simp [PyData.depth]⟩, rfl, by show 1 ≤ 4; decide⟩
  have two : ∀ x y : PyData, Lay 0 x → Lay 0 y → smD x = true → smD y = true → Rx.sz x = 1 → Rx.sz y = 1 → PartOk (.tuple [x, y]) := fun x y h1 h2 h3 h4 h5 h6 =>
    ⟨lay_tup fun d hd => by
      simp only [List.mem_cons, List.not_mem_nil, or_false] at hd
      rcases hd with rfl | rfl
      · exact h1
      · exact h2, by show (smD x && (smD y && true)) = true; rw [h3, h4]; rfl, by show 2 + (Rx.sz x + (Rx.sz y + 0)) ≤ 4; omega⟩
  have tup : ∀ xs, xs.length ≤ 4 → (∀ p ∈ xs, PartOk p) → EvD m (.tuple xs) := fun xs hl h => (ev_parts (Nat.le_trans hl hm) h).1
  have lst : ∀ xs, xs.length ≤ 4 → (∀ p ∈ xs, PartOk p) → EvD m (.list xs) := fun xs hl h => (ev_parts (Nat.le_trans hl hm) h).2
  have a1 : PartOk (.tuple [.str "a", .int 1]) := two _ _ (lay_str (sok "a" (by simp)).1) lay_int (S "a" (by simp)).sm rfl rfl rfl
  have b1 : PartOk (.tuple [.str "b", .int 1]) := two _ _ (lay_str (sok "b" (by simp)).1) lay_int (S "b" (by simp)).sm rfl rfl rfl
  have nil : ∀ p ∈ ([] : List PyData), PartOk p := fun _ h => nomatch h
  have one : ∀ {x : PyData}, PartOk x → ∀ p ∈ [x], PartOk p := fun h p hp => by rw [List.mem_singleton.mp hp]; exact h
  have pr : ∀ {x y : PyData}, PartOk x → PartOk y → ∀ p ∈ [x, y], PartOk p := fun h k p hp => by
    simp only [List.mem_cons, List.not_mem_nil, or_false] at hp
    rcases hp with rfl | rfl
    · exact h
    · exact k
  have A := S "a" (by simp)
  intro d hd
  simp only [anyL, List.mem_cons, List.not_mem_nil, or_false] at hd
  rcases hd with rfl | rfl | rfl | rfl | rfl | rfl | rfl | rfl | rfl | rfl | rfl | rfl | rfl | rfl | rfl | rfl | rfl | rfl | rfl | rfl | rfl | rfl | rfl | rfl
  · exact ev_leaf N (by omega) (by intro _ h; cases h)
  · exact ev_leaf (B _) (by omega) (by intro _ h; cases h)
  · exact ev_leaf (B _) (by omega) (by intro _ h; cases h)
  · exact ev_leaf (S _ (by simp)) (by omega) (by intro _ h; cases h)
  · exact ev_leaf (S _ (by simp)) (by omega) (by intro _ h; cases h)
  · exact ev_leaf (S _ (by simp)) (by omega) (by intro _ h; cases h)
  · exact ev_leaf (S _ (by simp)) (by omega) (by intro _ h; cases h)
  · exact ev_leaf (S _ (by simp)) (by omega) (by intro _ h; cases h)
  · exact ev_leaf (part_int _) (by omega) (by intro _ h; cases h)
  · exact ev_leaf (part_int _) (by omega) (by intro _ h; cases h)
  · exact ev_leaf (part_int _) (by omega) (by intro _ h; cases h)
  · exact ev_leaf (part_int _) (by omega) (by intro _ h; cases h)
  · exact tup _ (by simp) nil
  · exact tup _ (by simp) (one (part_int _))
  · exact tup _ (by simp) (pr A (part_int _))
  · exact lst _ (by simp) nil
  · exact lst _ (by simp) (pr A (part_int _))
  · exact lst _ (by simp) (one (part_int _))
  · exact tup _ (by simp) (one A)
  · exact tup _ (by simp) (pr A (B _))
  · exact tup _ (by simp) (pr A (part_int _))
  · exact tup _ (by simp) (pr (part_int _) A)
  · exact tup _ (by simp) (pr a1 b1)
  · exact ev_leaf (S _ (by simp)) (by omega) (by intro _ h; cases h)
theorem slA_read2 {K : PySem.W.Frag} {H : Hp} {b : Addr} {us : List V} {lo hi : Option Int} {Q : VK} (hb : SqT K H b us) (k : ∀ p H', Same H H' → SqT K H' p (cutV us lo hi) → Q (.ref p) H') : rSlA K (.ref b) lo hi H Q := by
  refine ⟨b, us, rfl, hb, fun h => k b H (.refl H) ?_, fun _ p np => k p _ (same_new np) (SqT.of upd_same)⟩
  have : cutV us lo hi = us := by
    unfold cutV
    rw [h.1, h.2, List.drop_zero, Nat.sub_zero, List.take_length]
  rw [this]
  exact hb
theorem catA_read2 {K : PySem.W.Frag} {H : Hp} {a b : Addr} {xs ys : List V} {Q : VK} (ha : SqT K H a xs) (hb : SqT K H b ys) (hl : xs.length + ys.length ≤ sizeLine) (k : ∀ p H', Same H H' → SqT K H' p (xs ++ ys) → Q (.ref p) H') : rCatA K (.ref a) (.ref b) H Q := by
  refine ⟨a, b, xs, ys, rfl, rfl, ha, hb, hl, fun h => k b H (.refl H) (by rw [h]; exact hb), fun _ h => k a H (.refl H) (by rw [h, List.append_nil]; exact ha), fun _ _ p np => k p _ (same_new np) (SqT.of upd_same)⟩
theorem EvD.mono {m n : Nat} {d : PyData} (h : EvD m d) (e : m ≤ n) : EvD n d := ⟨h.ly, h.sm, Nat.le_trans h.sz (by omega), fun xs q => ⟨Nat.le_trans (h.ps xs q).1 e, (h.ps xs q).2⟩⟩
theorem fixAll_lay {n : Nat} (ih : ∀ {d : PyData}, Lay n d → Lay n (fix d)) : ∀ {xs : List PyData}, (∀ x ∈ xs, Lay n x) → ∀ x ∈ fixAll xs, Lay n x := fun {xs} h x hx => by
  rw [fixAll_map] at hx
  obtain ⟨y, hy, rfl⟩ := List.mem_map.mp hx
  exact ih (h y hy)
theorem lay_parts {n : Nat} {xs : List PyData} (h : Lay (n + 1) (.tuple xs)) : ∀ x ∈ xs, Lay n x := fun x hx => ⟨PyData.canLay0_of_mem xs x (by have := h.1; simpa [PyData.canLay0] using this) hx, by
  have h1 := depthAll_le hx
  have h2 := h.2
  simp only [PyData.depth] at h2
  omega⟩
theorem lay_partsL {n : Nat} {xs : List PyData} (h : Lay (n + 1) (.list xs)) : ∀ x ∈ xs, Lay n x := fun x hx => ⟨PyData.canLay0_of_mem xs x (by have := h.1; simpa [PyData.canLay0] using this) hx, by
  have h1 := depthAll_le hx
  have h2 := h.2
  simp only [PyData.depth] at h2
  omega⟩
theorem lay_fix : ∀ {n : Nat} {d : PyData}, Lay n d → Lay n (fix d)
  | _, .none, h => h
  | _, .bool _, h => h
  | _, .int _, h => h
  | _, .str _, h => h
  | _, .dict _, h => h
  | 0, .list xs, h => by have := h.2; simp [PyData.depth] at this
  | 0, .tuple xs, h => by have := h.2; simp [PyData.depth] at this
  | n + 1, .list xs, h => by
    rw [fix]
    exact lay_tup (fixAll_lay (fun k => lay_fix k) (lay_partsL h))
  | n + 1, .tuple xs, h => by
    rw [fix]
    exact lay_tup (fixAll_lay (fun k => lay_fix k) (lay_parts h))
mutual
theorem smD_fix : ∀ d : PyData, smD (fix d) = smD d
  | .none => rfl
  | .bool _ => rfl
  | .int _ => rfl
  | .str _ => rfl
  | .dict _ => rfl
  | .list xs => by rw [fix]; simp only [smD]; exact smAll_fix xs
  | .tuple xs => by rw [fix]; simp only [smD]; exact smAll_fix xs
theorem smAll_fix : ∀ xs : List PyData, smAll (fixAll xs) = smAll xs
  | [] => rfl
  | x :: xs => by rw [fixAll, smAll, smAll, smD_fix x, smAll_fix xs]
end
theorem gd_fix {n : Nat} {d : PyData} (h : Lay n d) (hn : n ≤ 64) (hs : smD d = true) : Gd (fix d) := ⟨(lay_fix h).shaped hn, by rw [smD_fix]; exact hs⟩
theorem szAll_le {c : Nat} : ∀ {xs : List PyData}, (∀ x ∈ xs, sz x ≤ c) → szAll xs ≤ c * xs.length
  | [], _ => Nat.le_refl _
  | x :: xs, h => by
    have h1 := h x (List.mem_cons_self ..)
    have h2 := szAll_le fun y hy => h y (List.mem_cons_of_mem x hy)
    rw [szAll, List.length_cons, Nat.mul_add]
    omega
theorem sqT_off {s a b : Addr} {n : Nat} {K : PySem.W.Frag} {H : Hp} {us : List V} (S : StreamAt H s a n) (h : SqT K H b us) : SqT K (offS s a H) b us := by
  obtain ⟨_, _, _, h1, h2, _⟩ := S
  refine sqT_keep (fun b xs q => ?_) (fun b o u q => ?_) h
  · rw [off_at (ne_of q h1 (by intro z; cases z)) (ne_of q h2 (by intro z; cases z))]; exact q
  · rw [off_at (ne_of q h1 (by intro z; cases z)) (ne_of q h2 (by intro z; cases z))]; exact q
theorem rowP_at {K : PySem.W.Frag} {H : Hp} {xs : List V} {rs : List (Str × List PyData)} (h : DpAll K H xs (rs.map rowP)) {i : Nat} {x : V} (hx : xs[i]? = some x) : ∃ r q b us, rs[i]? = some r ∧ x = .ref q ∧ SqT K H q [.str r.1, .ref b] ∧ SqT K H b us ∧ DpAll K H us r.2 := by
  obtain ⟨d, hd, hp⟩ := dpAll_at h hx
  rw [List.getElem?_map] at hd
  cases hr : rs[i]? with
  | none => rw [hr] at hd; cases hd
  | some r =>
    rw [hr] at hd
    injection hd with hd
    subst hd
    obtain ⟨q, vs, rfl, h1, h2⟩ := dpT_inv (show Dp K H x (.tuple [.str r.1, .tuple r.2]) from hp)
    obtain ⟨v1, v2, rfl⟩ : ∃ a b, vs = [a, b] := by
      have := dpAll_len h2
      match vs, this with
      | [a, b], _ => exact ⟨_, _, rfl⟩
    cases h2 with
    | cons g1 g2 =>
    cases g2 with
    | cons g2 g3 =>
    have := dpS g1
    subst this
    obtain ⟨b, us, rfl, h3, h4⟩ := dpT_inv g2
    exact ⟨r, q, b, us, rfl, rfl, h1, h3, h4⟩
def evR (rs : Rows) : List (Str × List PyData) := rs.map fun r => (r.1, r.2.map Ev.data)
theorem evR_rows (rs : Rows) : (evR rs).map rowP = rs.map rowE := by
  unfold evR
  rw [List.map_map]
  rfl
theorem rowE_at {K : PySem.W.Frag} {H : Hp} {xs : List V} {rs : Rows} (h : DpAll K H xs (rs.map rowE)) {i : Nat} {x : V} (hx : xs[i]? = some x) : ∃ r q b us, rs[i]? = some r ∧ x = .ref q ∧ SqT K H q [.str r.1, .ref b] ∧ SqT K H b us ∧ DpAll K H us (r.2.map Ev.data) := by
  rw [← evR_rows] at h
  obtain ⟨r, q, b, us, h1, h2, h3, h4, h5⟩ := rowP_at h hx
  unfold evR at h1
  rw [List.getElem?_map] at h1
  cases hr : rs[i]? with
  | none => rw [hr] at h1; cases h1
  | some z =>
    rw [hr] at h1
    injection h1 with h1
    subst h1
    exact ⟨z, q, b, us, rfl, h2, h3, h4, h5⟩
end XE

set_option Elab.async false
set_option linter.all false
set_option maxRecDepth 100000
set_option maxHeartbeats 1000000
/-! XTw: _law_first (rows) -/
namespace XE
open PySem PySem.Spec PyProof.Rows L2 RZ Rx SX Rc
abbrev sLFirst : Stmt := topS 47
def RowDue (ds : List PyData) (v : V) : Prop := v = match rowDue (fixAll ds) with | none => .non | some i => .int (i : Nat)
theorem fix_kids {d : PyData} {xs : List PyData} (h : kids d = some xs) : fix d = .tuple (fixAll xs) := by
  cases d <;> first | (injection h with h; subst h; rfl) | cases h
theorem rowOf_leaf {d : PyData} (h : kids d = none) : rowOf (fix d) = none := by
  cases d <;> first | rfl | cases h
theorem rowOf_len {xs : List PyData} (h : xs.length ≠ 2) : rowOf (.tuple xs) = none := by
  match xs, h with
  | [], _ => rfl
  | [x], _ => exact (by cases x <;> rfl)
  | [_, _], h => exact absurd rfl h
  | _ :: _ :: _ :: _, _ => unfold rowOf; split <;> first | rfl | (rename_i q; injection q with q; injection q with _ q; injection q with _ q; cases q)
theorem rowOf_nm {n e : PyData} (h : isNameD n = false) : rowOf (.tuple [fix n, fix e]) = none := by
  cases n with
  | str z =>
    cases e <;> first | rfl | exact if_neg (by rw [show nameB z = false from h]; decide)
  | _ => rfl
theorem rowOf_ev {n e : PyData} (h : kids e = none) : rowOf (.tuple [fix n, fix e]) = none := by
  cases e <;> first | (cases h; done) | (cases n <;> rfl)
theorem rowOf_ok {z : Str} {e : PyData} {xs : List PyData} (h : nameB z = true) (he : kids e = some xs) : rowOf (.tuple [fix (.str z), fix e]) = some (z, fixAll xs) := by
  rw [fix_kids he]
  exact if_pos h
theorem rowBad_no {d : PyData} {ds : List PyData} {ks : List Str} {i : Nat} (h : rowOf d = none) : rowBad ks i (d :: ds) = some i := by
  simp only [rowBad, h]
theorem rowBad_ok {d : PyData} {ds : List PyData} {ks : List Str} {i : Nat} {z : Str} {xs : List PyData} (h : rowOf d = some (z, xs)) : rowBad ks i (d :: ds) = if i = 40 ∨ z ∈ ks then some i else rowBad (ks ++ [z]) (i + 1) ds := by
  simp only [rowBad, h]
theorem rowBad_40 {d : PyData} {ds : List PyData} {ks : List Str} : rowBad ks 40 (d :: ds) = some 40 := by
  cases h : rowOf d with
  | none => exact rowBad_no h
  | some x => obtain ⟨z, xs⟩ := x; rw [rowBad_ok h, if_pos (.inl rfl)]
def spFirstR (K : PySem.W.Frag) : Sp := fun vs H Q _ => ∃ (l : Addr) (xs : List V) (ds : List PyData), vs = [.ref l] ∧ SqL K H l xs ∧ DpAll K H xs ds ∧ (∀ d ∈ ds, smD d = true ∧ Lay 4 d) ∧ ds.length ≤ 41 ∧ ∀ v H', Same H H' → RowDue ds v → Q v H'
section
variable {P : Program} {w : World} {K : PySem.W.Frag} {mg : Str → Option Value} {base : Heap}
abbrev frN : List Str := ["_law_rows_here", "_law_known", "_law_k", "_law_row"]
theorem scFr : FnScope frN ["_law_rows_here"] (defScope sLFirst) := ⟨rfl, rfl, rfl, by decide +kernel, rfl, by decide +kernel, by decide +kernel⟩
theorem ok_lfirstR {f fN : Addr} {fd fdN : FuncData} (F : Fun K "_law_first" "_law_first" sLFirst f fd) (mlen : mg "len" = none) (mrange : mg "range" = none) (misi : mg "isinstance" = none) (mlist : mg "list" = none) (mtup : mg "tuple" = none) (CN : Cal P w K mg base 1 "_law_is_name" fN fdN ["_law_thing"] (spTestD K isNameD)) :
    FnOk P w K mg base CX0 2 f fd ["_law_rows_here"] (spFirstR K) := by
  refine F.ok scFr (fun vs H Q E h => ?_) (fun cdv A outer s H vs Q E hr h => ?_)
  · obtain ⟨_, _, _, rfl, _⟩ := h
    rfl
  · obtain ⟨l, xs, ds, rfl, hL, hD, hd, hlen, k⟩ := h
    have hr1 : Room 1 _ := hr
    refine ⟨_, (pss_cons (ps_set (i := 1) scFr.nd rfl (.inl rfl) (pe_lst pa_nil)) (pss_cons (ps_for PassesOwn.never rfl (pi_range1 rfl mrange (pa_cons (pe_callB call_len_seq (by rfl) mlen PySem.boot_len (pa_cons (pv 0) pa_nil)) pa_nil)) (pg_name (i := 2) scFr.nd rfl (.inl rfl)) (pss_cons (ps_set (i := 3) scFr.nd rfl (.inl rfl) (pe_ix ix_list (pv 0) (pv 2) (fun _ _ => rfl))) (pss_cons (ps_if (PW.pt (pw_or (pt_cmpR op_eq (pv 2) pe_int (nomark _)) (pw_or (pt_not (pt_val (pe_callB call_isiT (by rfl) misi (by decide +kernel) (pa_cons (pv 3) (pa_cons (pe_tup (pa_cons (pe_bltn (v := .ty "list") (by rfl) mlist (by decide +kernel) rfl) (pa_cons (pe_bltn (v := .ty "tuple") (by rfl) mtup (by decide +kernel) rfl) pa_nil))) pa_nil))))) (pw_or1 (pt_cmpR op_ne (pe_callB call_len_seq (by rfl) mlen PySem.boot_len (pa_cons (pv 3) pa_nil)) pe_int (nomark _)))))) (pss_one (ps_ret (pv 2))) pss_nil) (pss_cons (ps_if (PW.pt (pw_or (pt_not (pt_val (pe_call CN.ok hr1 rfl CN.mg CN.kp CN.bi .nil pass0 (pa_cons (pe_ix ix_seq (pv 3) pe_int (fun _ _ => rfl)) pa_nil)))) (pw_or (pt_cmpR op_in_seq (pe_ix ix_seq (pv 3) pe_int (fun _ _ => rfl)) (pv 1) rfl) (pw_or1 (pt_not (pt_val (pe_callB call_isiT (by rfl) misi (by decide +kernel) (pa_cons (pe_ix ix_seq (pv 3) pe_int (fun _ _ => rfl)) (pa_cons (pe_tup (pa_cons (pe_bltn (v := .ty "list") (by rfl) mlist (by decide +kernel) rfl) (pa_cons (pe_bltn (v := .ty "tuple") (by rfl) mtup (by decide +kernel) rfl) pa_nil))) pa_nil))))))))) (pss_one (ps_ret (pv 2))) pss_nil) (pss_one (ps_expr (pe_bm PySem.F.plainAttrs_list PySem.F.slot_list_append PySem.F.type_list_append mt_append (pv 1) (pa_cons (pe_ix ix_seq (pv 3) pe_int (fun _ _ => rfl)) pa_nil)))))))) (pss_one (ps_ret (pe_ifExp (pt_cmpR (op_eqD hr.units) (pv 0) (pe_lst pa_nil) (nomark _)) pe_int pe_non))))), ?_⟩
    have hln : xs.length = ds.length := dpAll_len hD
    refine ⟨(by show 0 ≤ sizeLine; decide), fun kn nkn => ?_⟩
    have s1 := same_new (o := .lst []) nkn
    have hkn := upd_same (H := H) (a := kn) (o := .lst [])
    generalize upd H kn (.lst []) = H1 at s1 hkn ⊢
    have hL1 := sqL_same s1 hL
    refine ⟨_, rfl, l, xs, rfl, .inl hL1, _, rfl, by omega, by omega, ?_⟩
    refine for_range (lo := 0) (n := xs.length) (fun i σ Hx => ∃ (x2 x3 : Option V) (ks : List Str), σ = [some (.ref l), some (.ref kn), x2, x3] ∧ Same H Hx ∧ Hx kn = some (.lst (ks.map V.str)) ∧ ks.length = i ∧ rowBad [] 0 (fixAll ds) = rowBad ks i (fixAll (ds.drop i))) ⟨_, _, [], rfl, s1, hkn, rfl, rfl⟩ ?_ ?_
    · rintro i σ Hx hi ⟨x2, x3, ks, rfl, sx, hk, hkl, hrb⟩
      rw [show (0 + (i : Int)) = (i : Int) by omega]
      obtain ⟨v, hv⟩ : ∃ v, xs[i]? = some v := ⟨xs[i]'hi, by simp⟩
      obtain ⟨d, hdi, hve⟩ := dpAll_at hD hv
      have hdd := hd d (List.mem_of_getElem? hdi)
      have hdrop : ds.drop i = d :: ds.drop (i + 1) := by
        have h := List.getElem?_eq_some_iff.mp hdi
        rw [← h.2, List.getElem_cons_drop]
      rw [hdrop, fixAll] at hrb
      have hne : fixAll ds ≠ [] := fun z => by
        rw [fixAll_map] at z
        have z := congrArg List.length z
        rw [List.length_map, List.length_nil] at z
        omega
      have bad : rowBad ks i (fix d :: fixAll (ds.drop (i + 1))) = some i → ∀ Hy, Same H Hy → Q (.int (i : Nat)) Hy := fun e Hy sy => k _ _ sy (by unfold RowDue rowDue; rw [if_neg hne, hrb, e])
      refine ⟨_, rfl, _, rfl, l, xs, _, _, rfl, rfl, sqL_same sx hL, atI_nat hv, _, rfl, rfl, _, rfl, ?_⟩
      by_cases c40 : i = 40
      · subst c40
        exact iteTc rfl ⟨_, rfl, bad rowBad_40 _ sx⟩
      refine iteFc (decide_eq_false fun z => c40 (by injection z with z; omega)) ⟨_, rfl, (by show 2 ≤ sizeLine; decide), fun q nq => ?_⟩
      have s2 := sx.trans (same_new (o := .tup [.ty "list", .ty "tuple"]) nq)
      have hq := upd_same (H := Hx) (a := q) (o := .tup [.ty "list", .ty "tuple"])
      have hk2 := same_new (o := .tup [.ty "list", .ty "tuple"]) nq _ _ hk
      generalize upd Hx q (.tup [.ty "list", .ty "tuple"]) = H2 at s2 hq hk2 ⊢
      have hv2 := dp_same s2 hve
      obtain ⟨ty, tx, tk⟩ := ty_dp hv2
      refine ⟨_, q, _, ty, _, _, rfl, hq, .cons (.ty "list") (.cons (.ty "tuple") .nil), tx, tk, _, rfl, ?_⟩
      cases hkd : kids d with
      | none => exact iteTc rfl ⟨_, rfl, bad (rowBad_no (rowOf_leaf hkd)) _ s2⟩
      | some ps =>
      rw [fix_kids hkd] at hrb bad
      obtain ⟨a, us, hva, hsq, hus⟩ : ∃ a us, v = .ref a ∧ (SqL K H2 a us ∨ SqT K H2 a us) ∧ DpAll K H2 us ps := by
        cases hv2 with
        | lst h1 h2 => injection hkd with hkd; subst hkd; exact ⟨_, _, rfl, .inl h1, h2⟩
        | tup h1 h2 => injection hkd with hkd; subst hkd; exact ⟨_, _, rfl, .inr h1, h2⟩
        | _ => cases hkd
      subst hva
      have hsx : smAll ps = true := by
        have := hdd.1
        cases d <;> first | (injection hkd with hkd; subst hkd; simpa [smD] using this) | cases hkd
      have hul := dpAll_len hus
      have ix : ∀ {Hx : Hp} {i : Int} {u : V} {Q : VK}, Same H2 Hx → atI us i = some u → Q u Hx → rIx K (.ref a) (.int i) Hx Q := fun {Hx i u Q} s hi q => by
        rcases hsq with h | h
        · exact .inl ⟨a, us, i, u, rfl, rfl, sqL_same s h, hi, q⟩
        · exact .inr (.inl ⟨a, us, i, u, rfl, rfl, sqT_same s h, hi, q⟩)
      refine iteFc rfl ⟨_, rfl, a, us, rfl, hsq, rfl, _, rfl, ?_⟩
      by_cases c2 : us.length ≠ 2
      · exact iteTc (by rw [decide_eq_false (fun z => c2 (by injection z with z; omega))]; rfl) ⟨_, rfl, bad (rowBad_no (rowOf_len (by rw [fixAll_map, List.length_map]; omega))) _ s2⟩
      have c2' : us.length = 2 := by omega
      refine iteFc (by rw [c2']; rfl) ⟨_, rfl, ?_⟩
      obtain ⟨v0, v1, rfl⟩ : ∃ x y, us = [x, y] := by
        match us, c2' with
        | [x, y], _ => exact ⟨_, _, rfl⟩
      obtain ⟨d0, d1, rfl⟩ : ∃ x y, ps = [x, y] := by
        match ps, hul with
        | [x, y], _ => exact ⟨_, _, rfl⟩
      obtain ⟨h0, h1⟩ : Dp K H2 v0 d0 ∧ Dp K H2 v1 d1 := by
        cases hus with
        | cons h0 hus =>
        cases hus with
        | cons h1 _ => exact ⟨h0, h1⟩
      simp only [smAll, Bool.and_eq_true] at hsx
      refine ix (.refl _) (atI_nat (j := 0) rfl) ⟨v0, d0, rfl, h0, fun z hz => by subst hz; simpa [smD] using hsx.1, fun H3 s3 => ⟨_, rfl, ?_⟩⟩
      rw [show fixAll [d0, d1] = [fix d0, fix d1] from rfl] at hrb bad
      have hk3 := s3 _ _ hk2
      replace s2 := s2.trans s3
      cases hn : isNameD d0 with
      | false => exact iteTc rfl ⟨_, rfl, bad (rowBad_no (rowOf_nm hn)) _ s2⟩
      | true =>
      obtain ⟨z, rfl⟩ : ∃ z, d0 = .str z := by
        cases d0 <;> first | exact ⟨_, rfl⟩ | cases hn
      have e0 := dpS h0
      subst e0
      refine iteFc rfl ⟨_, rfl, ix s3 (atI_nat (j := 0) rfl) ⟨_, rfl, kn, _, rfl, .inl (SqL.of hk3), rfl, flat_strs _, _, rfl, ?_⟩⟩
      rw [if_neg (by decide), inV_strsR]
      by_cases hin : z ∈ ks
      · refine iteTc (decide_eq_true hin) ⟨_, rfl, bad ?_ _ s2⟩
        cases hk1 : kids d1 with
        | none => exact rowBad_no (rowOf_ev hk1)
        | some es => rw [rowBad_ok (rowOf_ok hn hk1), if_pos (.inr hin)]
      refine iteFc (decide_eq_false hin) ⟨_, rfl, ix s3 (atI_nat (j := 1) rfl) ⟨(by show 2 ≤ sizeLine; decide), fun q2 nq2 => ?_⟩⟩
      have s4 := same_new (o := .tup [.ty "list", .ty "tuple"]) nq2
      have hq2 := upd_same (H := H3) (a := q2) (o := .tup [.ty "list", .ty "tuple"])
      have hk4 := s4 _ _ hk3
      generalize upd H3 q2 (.tup [.ty "list", .ty "tuple"]) = H4 at s4 hq2 hk4 ⊢
      have h14 := dp_same (s3.trans s4) h1
      obtain ⟨ty1, tx1, tk1⟩ := ty_dp h14
      refine ⟨_, q2, _, ty1, _, _, rfl, hq2, .cons (.ty "list") (.cons (.ty "tuple") .nil), tx1, tk1, _, rfl, ?_⟩
      cases hk1 : kids d1 with
      | none => exact iteTc rfl ⟨_, rfl, bad (rowBad_no (rowOf_ev hk1)) _ (s2.trans s4)⟩
      | some es =>
      have s5 := s3.trans s4
      refine iteFc rfl ⟨_, rfl, .inl ⟨rfl, _, SqL.of hk4⟩, _, rfl, ix s5 (atI_nat (j := 0) rfl) ⟨kn, _, _, rfl, rfl, hk4, ?_, ?_⟩⟩
      · rw [List.length_map, hkl]
        exact fitR (by omega)
      · refine ⟨_, _, ks ++ [z], rfl, same_upd (s2.trans s4) nkn, ?_, by rw [List.length_append, hkl]; rfl, ?_⟩
        · rw [upd_same, List.map_append]; rfl
        · rw [hrb, rowBad_ok (rowOf_ok hn hk1), if_neg]
          rintro (h | h)
          · exact c40 h
          · exact hin h
    · rintro σ Hx ⟨x2, x3, ks, rfl, sx, hk, hkl, hrb⟩
      refine ⟨_, rfl, (by show 0 ≤ sizeLine; decide), fun e ne => ?_⟩
      have s2 := sx.trans (same_new (o := .lst []) ne)
      refine ⟨.list ds, .list [], .lst (sqL_same s2 hL) (dpAll_same s2 hD), .lst (SqL.of upd_same) .nil, (lay_lst fun d hd' => (hd d hd').2).shaped (n := 5) (by decide), (lay_lst (n := 0) (xs := []) (by simp)).shaped (by decide), _, rfl, ?_⟩
      rw [hln, List.drop_length] at hrb
      cases ds with
      | nil => exact iteTc rfl (k _ _ s2 rfl)
      | cons d0 ds0 =>
        refine iteFc rfl (k _ _ s2 ?_)
        unfold RowDue rowDue
        rw [if_neg (by rw [fixAll]; simp), hrb]
        rfl
end
end XE

set_option Elab.async false
set_option linter.all false
set_option maxRecDepth 100000
set_option maxHeartbeats 1000000
/-! XTx: _law_spoilt (rows) -/
namespace XE
open PySem PySem.Spec PyProof.Rows L2 RZ Rx SX Rc
abbrev sLSpoilt : Stmt := topS 48
/-- what may stand as a row -/
structure RowD (d : PyData) : Prop where
  ly : Lay 4 d
  sm : smD d = true
  sz : sz d ≤ 100
/-- a row of a drawn record -/
structure RowG (r : Str × List Ev) : Prop where
  nm : nameB r.1 = true
  ly : Lay 2 (.tuple (r.2.map Ev.data))
  sm : smD (.tuple (r.2.map Ev.data)) = true
  sz : sz (.tuple (r.2.map Ev.data)) ≤ 50
def spSpRow (K : PySem.W.Frag) : Sp := fun vs H Q _ => ∃ (s a L : Addr) (n : Nat) (xs : List V) (rs : Rows), vs = [.ref s, .ref L] ∧ StreamAt H s a n ∧ n + 3 < 1000000 ∧ H L = some (.lst xs) ∧ L ≠ s ∧ L ≠ a ∧ DpAll K H xs (rs.map rowE) ∧ rs ≠ [] ∧ rs.length ≤ 1000 ∧ (∀ r ∈ rs, RowG r) ∧
  ∀ (v : V) (d : PyData) (H' : Hp), RowD d → Dp K (offS s a H') v d → Moved s a H n 3 H' → Q v H'
theorem part_row {p : PyData} (h : PartOk p) : RowD p := ⟨h.ly.mono (by decide), h.sm, by have := h.sz; omega⟩
theorem evs_row {r : Str × List Ev} (h : RowG r) : RowD (.tuple (r.2.map Ev.data)) := ⟨h.ly.mono (by decide), h.sm, by have := h.sz; omega⟩
/-- a tuple of small things -/
theorem tup_row {xs : List PyData} (h : ∀ x ∈ xs, Lay 2 x ∧ smD x = true) (hz : szAll xs ≤ 98) : RowD (.tuple xs) := ⟨(lay_tup fun x hx => (h x hx).1).mono (by decide), by show smAll xs = true; exact smAll_of fun x hx => (h x hx).2, by show 2 + szAll xs ≤ 100; omega⟩
theorem pair_row {p : PyData} {r : Str × List Ev} (hp : PartOk p) (hg : RowG r) : RowD (.tuple [p, .tuple (r.2.map Ev.data)]) := by
  refine tup_row (fun x hx => ?_) ?_
  · simp only [List.mem_cons, List.not_mem_nil, or_false] at hx
    rcases hx with rfl | rfl
    · exact ⟨hp.ly.mono (by decide), hp.sm⟩
    · exact ⟨hg.ly, hg.sm⟩
  · have h1 := hp.sz
    have h2 := hg.sz
    show sz p + (sz (.tuple (r.2.map Ev.data)) + 0) ≤ 98
    omega
theorem small_row {p q : PyData} (hp : PartOk p) (hq : PartOk q) : RowD (.tuple [p, q]) := by
  refine tup_row (fun x hx => ?_) ?_
  · simp only [List.mem_cons, List.not_mem_nil, or_false] at hx
    rcases hx with rfl | rfl
    · exact ⟨hp.ly.mono (by decide), hp.sm⟩
    · exact ⟨hq.ly.mono (by decide), hq.sm⟩
  · have h1 := hp.sz
    have h2 := hq.sz
    show sz p + (sz q + 0) ≤ 98
    omega
section
variable {P : Program} {w : World} {K : PySem.W.Frag} {mg : Str → Option Value} {base : Heap}
abbrev srN : List Str := ["_law_stream", "_law_rows_here", "_law_name", "_law_events", "_law_way", "_law_some"]
theorem scSr : FnScope srN ["_law_stream", "_law_rows_here"] (defScope sLSpoilt) := ⟨rfl, rfl, rfl, by decide +kernel, rfl, by decide +kernel, by decide +kernel⟩
theorem ok_lsprow {f fD fA : Addr} {fd fdD fdA : FuncData} (F : Fun K "_law_spoilt" "_law_spoilt" sLSpoilt f fd) (mlen : mg "len" = none) (CD : Cal P w K mg base 1 "_law_draw" fD fdD ["_law_stream", "_law_many"] spDraw) (CA : Cal P w K mg base 2 "_law_any" fA fdA ["_law_stream"] (spAny K)) :
    FnOk P w K mg base CX0 3 f fd ["_law_stream", "_law_rows_here"] (spSpRow K) := by
  refine F.ok scSr (fun vs H Q E h => ?_) (fun cdv A outer s H vs Q E hr h => ?_)
  · obtain ⟨_, _, _, _, _, _, rfl, _⟩ := h
    rfl
  · obtain ⟨st, a, L, n, xs, rs, rfl, hS, hn, hL, Ls, La, hD, hne, hrl, hG, k⟩ := h
    have hr1 : Room 1 _ := hr.mono (by decide)
    have hr2 : Room 2 _ := hr
    refine ⟨_, (pss_cons (ps_asg (pe_ix ix_list (pv 1) (pe_call CD.ok hr1 rfl CD.mg CD.kp CD.bi .nil pass0 (pa_cons (pv 0) (pa_cons (pe_callB call_len_seq (by rfl) mlen PySem.boot_len (pa_cons (pv 1) pa_nil)) pa_nil))) (fun _ _ => rfl)) (pg_tup rfl (pgs_cons (pg_name (i := 2) scSr.nd rfl (.inl rfl)) (pgs_cons (pg_name (i := 3) scSr.nd rfl (.inl rfl)) pgs_nil)))) (pss_cons (ps_set (i := 4) scSr.nd rfl (.inl rfl) (pe_call CD.ok hr1 rfl CD.mg CD.kp CD.bi .nil pass0 (pa_cons (pv 0) (pa_cons pe_int pa_nil)))) (pss_cons (ps_if (pt_cmpR op_eq (pv 4) pe_int (nomark _)) (pss_one (ps_ret (pe_call CA.ok hr2 rfl CA.mg CA.kp CA.bi .nil pass0 (pa_cons (pv 0) pa_nil)))) pss_nil) (pss_cons (ps_if (pt_cmpR op_eq (pv 4) pe_int (nomark _)) (pss_one (ps_ret (pe_ix ix_list (pe_lst (pa_cons (pe_tup (pa_cons (pv 2) pa_nil)) (pa_cons (pe_tup (pa_cons (pv 2) (pa_cons (pv 3) (pa_cons (pe_tup pa_nil) pa_nil)))) (pa_cons (pe_tup (pa_cons (pv 3) (pa_cons (pv 2) pa_nil))) (pa_cons (pv 2) pa_nil))))) (pe_call CD.ok hr1 rfl CD.mg CD.kp CD.bi .nil pass0 (pa_cons (pv 0) (pa_cons pe_int pa_nil))) (fun _ _ => rfl)))) pss_nil) (pss_cons (ps_if (pt_cmpR op_eq (pv 4) pe_int (nomark _)) (pss_cons (ps_set (i := 5) scSr.nd rfl (.inl rfl) (pe_lst (pa_cons pe_str (pa_cons pe_str (pa_cons pe_str (pa_cons pe_str (pa_cons pe_str (pa_cons pe_str (pa_cons pe_str (pa_cons pe_str (pa_cons pe_int (pa_cons pe_non (pa_cons (pe_tup (pa_cons pe_str pa_nil)) (pa_cons pe_str pa_nil)))))))))))))) (pss_one (ps_ret (pe_tup (pa_cons (pe_ix ix_list (pv 5) (pe_call CD.ok hr1 rfl CD.mg CD.kp CD.bi .nil pass0 (pa_cons (pv 0) (pa_cons pe_int pa_nil))) (fun _ _ => rfl)) (pa_cons (pv 3) pa_nil)))))) pss_nil) (pss_cons (ps_if (pt_cmpR op_eq (pv 4) pe_int (nomark _)) (pss_one (ps_ret (pe_tup (pa_cons (pv 2) (pa_cons (pe_ix ix_list (pe_lst (pa_cons pe_str (pa_cons pe_str (pa_cons pe_int (pa_cons pe_non (pa_cons pe_bl pa_nil)))))) (pe_call CD.ok hr1 rfl CD.mg CD.kp CD.bi .nil pass0 (pa_cons (pv 0) (pa_cons pe_int pa_nil))) (fun _ _ => rfl)) pa_nil))))) pss_nil) (pss_cons (ps_if (pt_cmpR op_eq (pv 4) pe_int (nomark _)) (pss_one (ps_ret (pe_tup (pa_cons (pv 2) (pa_cons (pe_tup (pa_cons (pe_tup (pa_cons pe_str pa_nil)) (pa_cons pe_int pa_nil))) pa_nil))))) pss_nil) (pss_one (ps_ret (pe_tup (pa_cons (pv 2) (pa_cons (pv 3) pa_nil)))))))))))), ?_⟩
    have hxl : xs.length = rs.length := by rw [dpAll_len hD, List.length_map]
    have hpos : 0 < rs.length := List.length_pos_iff.mpr hne
    have hDo := dpAll_off hS hD (rows_noList _)
    refine ⟨_, rfl, _, rfl, _, rfl, L, xs, rfl, .inl (SqL.of hL), st, a, n, (xs.length : Nat), rfl, by omega, by omega, hS, by omega, fun k1 H1 k10 k11 S1 el1 => ?_⟩
    obtain ⟨j1, rfl⟩ := Int.eq_ofNat_of_zero_le k10
    have hj1 : j1 < xs.length := by omega
    have hx1 : xs[j1]? = some (xs[j1]'hj1) := List.getElem?_eq_getElem hj1
    have o1 := off_else el1
    obtain ⟨r, q, b, us, hr1', hxe, hq, hb, hus⟩ := rowE_at (dpAll_same o1 hDo) hx1
    rw [hxe] at hx1
    obtain ⟨nm, es⟩ := r
    have hg : RowG (nm, es) := hG _ (List.mem_of_getElem? hr1')
    have hL1 := el1 _ _ hL Ls La
    refine ⟨L, _, _, _, rfl, rfl, SqL.of hL1, atI_nat hx1, q, _, rfl, sqT_same (off_sub st a H1) hq, rfl, _, _, rfl, _, _, rfl, rfl, ?_⟩
    refine ⟨_, rfl, st, a, n + 1, 9, rfl, by decide, by decide, S1, by omega, fun k2 H2 k20 k21 S2 el2 => ?_⟩
    have o2 := off_else el2
    have hev2 : Dp K (offS st a H2) (.ref b) (.tuple (es.map Ev.data)) := .tup (sqT_same o2 hb) (dpAll_same o2 hus)
    have el02 := el1.trans el2
    have sok : ∀ z ∈ (["", "A", "a1", "set", "while", "checkpoint", "abcdefghi", "a b", "aB", "a"] : List Str), PyData.strOk z = true ∧ z.length ≤ 100000 := by decide +kernel
    have sS : ∀ z, z ∈ (["", "A", "a1", "set", "while", "checkpoint", "abcdefghi", "a b", "aB", "a"] : List Str) → PartOk (.str z) := fun z hz => part_str (sok z hz).1 (sok z hz).2
    have pBl : ∀ b, PartOk (.bool b) := fun b => ⟨⟨by simp [PyData.canLay0], by simp [PyData.depth]⟩, rfl, by show 1 ≤ 4; decide⟩
    have pNon : PartOk .none := ⟨⟨by simp [PyData.canLay0], by simp [PyData.depth]⟩, rfl, by show 1 ≤ 4; decide⟩
    refine ⟨_, rfl, rfl, _, rfl, ite2 (fun _ => ?_) (fun _ => ?_)⟩
    · refine ⟨_, rfl, st, a, n + 2, rfl, S2, by omega, fun v d H3 hd mv hv => ?_⟩
      obtain ⟨m3, m30, m31, S3, el3⟩ := mv
      have hE := any_ev (m := 4) (by decide) d hd
      exact k v d H3 ⟨hE.ly.mono (by decide), hE.sm, by have := hE.sz; omega⟩ hv ⟨m3, by omega, by omega, S3, el02.trans el3⟩
    refine ⟨_, rfl, rfl, _, rfl, ite2 (fun _ => ?_) (fun _ => ?_)⟩
    · refine ⟨_, rfl, (by show 1 ≤ sizeLine; decide), fun t1 nt1 => ?_⟩
      have et1 := same_new (o := .tup [.str nm]) nt1
      have ft1 := off_new (o := .tup [.str nm]) S2 nt1
      have St1 := S2.same et1
      have Et1 := et1
      generalize upd H2 t1 (.tup [.str nm]) = Gt1 at et1 ft1 St1 Et1  ⊢
      refine ⟨_, rfl, _, rfl, (by show 0 ≤ sizeLine; decide), fun t2 nt2 => ?_⟩
      have et2 := same_new (o := .tup []) nt2
      have ft2 := off_new (o := .tup []) St1 nt2
      have St2 := St1.same et2
      replace ft1 := off_same et2 _ _ ft1
      have Et2 := Et1.trans et2
      generalize upd Gt1 t2 (.tup []) = Gt2 at et2 ft2 St2 Et2 ft1 ⊢
      refine ⟨(by show 3 ≤ sizeLine; decide), fun t3 nt3 => ?_⟩
      have et3 := same_new (o := .tup [.str nm, .ref b, .ref t2]) nt3
      have ft3 := off_new (o := .tup [.str nm, .ref b, .ref t2]) St2 nt3
      have St3 := St2.same et3
      replace ft1 := off_same et3 _ _ ft1
      replace ft2 := off_same et3 _ _ ft2
      have Et3 := Et2.trans et3
      generalize upd Gt2 t3 (.tup [.str nm, .ref b, .ref t2]) = Gt3 at et3 ft3 St3 Et3 ft1 ft2 ⊢
      refine ⟨_, rfl, _, rfl, (by show 2 ≤ sizeLine; decide), fun t4 nt4 => ?_⟩
      have et4 := same_new (o := .tup [.ref b, .str nm]) nt4
      have ft4 := off_new (o := .tup [.ref b, .str nm]) St3 nt4
      have St4 := St3.same et4
      replace ft1 := off_same et4 _ _ ft1
      replace ft2 := off_same et4 _ _ ft2
      replace ft3 := off_same et4 _ _ ft3
      have Et4 := Et3.trans et4
      generalize upd Gt3 t4 (.tup [.ref b, .str nm]) = Gt4 at et4 ft4 St4 Et4 ft1 ft2 ft3 ⊢
      refine ⟨_, rfl, (by show 4 ≤ sizeLine; decide), fun t5 nt5 => ?_⟩
      have et5 := same_new (o := .lst [.ref t1, .ref t3, .ref t4, .str nm]) nt5
      have ft5 := off_new (o := .lst [.ref t1, .ref t3, .ref t4, .str nm]) St4 nt5
      have St5 := St4.same et5
      replace ft1 := off_same et5 _ _ ft1
      replace ft2 := off_same et5 _ _ ft2
      replace ft3 := off_same et5 _ _ ft3
      replace ft4 := off_same et5 _ _ ft4
      have Et5 := Et4.trans et5
      generalize upd Gt4 t5 (.lst [.ref t1, .ref t3, .ref t4, .str nm]) = Gt5 at et5 ft5 St5 Et5 ft1 ft2 ft3 ft4 ⊢
      refine ⟨_, rfl, st, a, n + 2, 4, rfl, by decide, by decide, St5, by omega, fun k3 H3 k30 k31 S3 el3 => ?_⟩
      obtain ⟨j, v, hj, hv, hm, rfl⟩ := at_drawn (xs := [V.ref t1, V.ref t3, V.ref t4, V.str nm]) k30 (by show k3 < 4; omega)
      have o3 := off_else el3
      refine ⟨t5, _, (j : Nat), v, rfl, rfl, SqL.of (off_sub _ _ _ _ _ (o3 _ _ ft5)), hv, ?_⟩
      have mv : Moved st a H n 3 H3 := ⟨n + 3, by omega, by omega, S3, el02.trans ((Else2.of_same Et5).trans el3)⟩
      have hev3 := dp_same ((off_same Et5).trans o3) hev2
      have pn : Lay 2 (.str nm) ∧ smD (.str nm) = true := ⟨(part_name hg.nm).ly.mono (by decide), (part_name hg.nm).sm⟩
      have pe : Lay 2 (.tuple (es.map Ev.data)) ∧ smD (.tuple (es.map Ev.data)) = true := ⟨hg.ly, hg.sm⟩
      have p0 : Lay 2 (.tuple []) ∧ smD (.tuple []) = true := ⟨lay_tup (n := 1) (by simp), rfl⟩
      have zE : sz (.tuple (es.map Ev.data)) ≤ 50 := hg.sz
      simp only [List.mem_cons, List.not_mem_nil, or_false] at hm
      rcases hm with rfl | rfl | rfl | rfl
      · exact k _ _ H3 (tup_row (fun x hx => by rw [List.mem_singleton.mp hx]; exact pn) (by show 1 + 0 ≤ 98; decide)) (.tup (SqT.of (o3 _ _ ft1)) (.cons (.str nm) .nil)) mv
      · refine k _ _ H3 (tup_row (xs := [.str nm, .tuple (es.map Ev.data), .tuple []]) (fun x hx => ?_) (by show 1 + (sz (.tuple (es.map Ev.data)) + (2 + 0 + 0)) ≤ 98; omega)) (.tup (SqT.of (o3 _ _ ft3)) (.cons (.str nm) (.cons hev3 (.cons (.tup (SqT.of (o3 _ _ ft2)) .nil) .nil)))) mv
        simp only [List.mem_cons, List.not_mem_nil, or_false] at hx
        rcases hx with rfl | rfl | rfl
        · exact pn
        · exact pe
        · exact p0
      · refine k _ _ H3 (tup_row (xs := [.tuple (es.map Ev.data), .str nm]) (fun x hx => ?_) (by show sz (.tuple (es.map Ev.data)) + (1 + 0) ≤ 98; omega)) (.tup (SqT.of (o3 _ _ ft4)) (.cons hev3 (.cons (.str nm) .nil))) mv
        simp only [List.mem_cons, List.not_mem_nil, or_false] at hx
        rcases hx with rfl | rfl
        · exact pe
        · exact pn
      · exact k _ _ H3 (part_row (part_name hg.nm)) (.str nm) mv
    refine ⟨_, rfl, rfl, _, rfl, ite2 (fun _ => ?_) (fun _ => ?_)⟩
    · refine ⟨(by show 1 ≤ sizeLine; decide), fun t1 nt1 => ?_⟩
      have et1 := same_new (o := .tup [.str "a"]) nt1
      have ft1 := off_new (o := .tup [.str "a"]) S2 nt1
      have St1 := S2.same et1
      have Et1 := et1
      generalize upd H2 t1 (.tup [.str "a"]) = Gt1 at et1 ft1 St1 Et1  ⊢
      refine ⟨(by show 12 ≤ sizeLine; decide), fun t2 nt2 => ?_⟩
      have et2 := same_new (o := .lst [V.str "", V.str "A", V.str "a1", V.str "set", V.str "while", V.str "checkpoint", V.str "abcdefghi", V.str "a b", V.int 0, V.non, V.ref t1, V.str "aB"]) nt2
      have ft2 := off_new (o := .lst [V.str "", V.str "A", V.str "a1", V.str "set", V.str "while", V.str "checkpoint", V.str "abcdefghi", V.str "a b", V.int 0, V.non, V.ref t1, V.str "aB"]) St1 nt2
      have St2 := St1.same et2
      replace ft1 := off_same et2 _ _ ft1
      have Et2 := Et1.trans et2
      generalize upd Gt1 t2 (.lst [V.str "", V.str "A", V.str "a1", V.str "set", V.str "while", V.str "checkpoint", V.str "abcdefghi", V.str "a b", V.int 0, V.non, V.ref t1, V.str "aB"]) = Gt2 at et2 ft2 St2 Et2 ft1 ⊢
      refine ⟨_, rfl, _, rfl, st, a, n + 2, 12, rfl, by decide, by decide, St2, by omega, fun k3 H3 k30 k31 S3 el3 => ?_⟩
      obtain ⟨j, v, hj, hv, hm, rfl⟩ := at_drawn (xs := [V.str "", V.str "A", V.str "a1", V.str "set", V.str "while", V.str "checkpoint", V.str "abcdefghi", V.str "a b", V.int 0, V.non, V.ref t1, V.str "aB"]) k30 (by show k3 < 12; omega)
      have o3 := off_else el3
      have E3 := el02.trans ((Else2.of_same Et2).trans el3)
      have hev3 := dp_same ((off_same Et2).trans o3) hev2
      obtain ⟨p, hp, hvp⟩ : ∃ p, PartOk p ∧ Dp K (offS st a H3) v p := by
        have f3 := o3 _ _ ft1
        clear hv hj el3 E3 hev3 o3
        simp only [List.mem_cons, List.not_mem_nil, or_false] at hm
        rcases hm with rfl | rfl | rfl | rfl | rfl | rfl | rfl | rfl | rfl | rfl | rfl | rfl
        · exact ⟨_, sS _ (by simp), .str _⟩
        · exact ⟨_, sS _ (by simp), .str _⟩
        · exact ⟨_, sS _ (by simp), .str _⟩
        · exact ⟨_, sS _ (by simp), .str _⟩
        · exact ⟨_, sS _ (by simp), .str _⟩
        · exact ⟨_, sS _ (by simp), .str _⟩
        · exact ⟨_, sS _ (by simp), .str _⟩
        · exact ⟨_, sS _ (by simp), .str _⟩
        · exact ⟨_, part_int 0, .int 0⟩
        · exact ⟨_, pNon, .non⟩
        · exact ⟨.tuple [.str "a"], ⟨lay_tup (n := 0) (fun d hd => by rw [List.mem_singleton.mp hd]; exact lay_str (sok "a" (by simp)).1), by decide +kernel, by decide⟩, .tup (SqT.of f3) (.cons (.str "a") .nil)⟩
        · exact ⟨_, sS _ (by simp), .str _⟩
      refine ⟨t2, _, (j : Nat), v, rfl, rfl, SqL.of (off_sub _ _ _ _ _ (o3 _ _ ft2)), hv, _, rfl, (by show 2 ≤ sizeLine; decide), fun T nT => ?_⟩
      have sT := same_new (o := .tup [v, .ref b]) nT
      exact k _ _ _ (pair_row hp hg) (.tup (SqT.of (off_new S3 nT)) (.cons (dp_same (off_same sT) hvp) (.cons (dp_same (off_same sT) hev3) .nil))) ⟨n + 3, by omega, by omega, S3.same sT, E3.trans (.of_same sT)⟩
    refine ⟨_, rfl, rfl, _, rfl, ite2 (fun _ => ?_) (fun _ => ?_)⟩
    · refine ⟨_, rfl, (by show 5 ≤ sizeLine; decide), fun t1 nt1 => ?_⟩
      have et1 := same_new (o := .lst [V.str "", V.str "checkpoint", V.int 0, V.non, V.bl true]) nt1
      have ft1 := off_new (o := .lst [V.str "", V.str "checkpoint", V.int 0, V.non, V.bl true]) S2 nt1
      have St1 := S2.same et1
      have Et1 := et1
      generalize upd H2 t1 (.lst [V.str "", V.str "checkpoint", V.int 0, V.non, V.bl true]) = Gt1 at et1 ft1 St1 Et1  ⊢
      refine ⟨_, rfl, st, a, n + 2, 5, rfl, by decide, by decide, St1, by omega, fun k3 H3 k30 k31 S3 el3 => ?_⟩
      obtain ⟨j, v, hj, hv, hm, rfl⟩ := at_drawn (xs := [V.str "", V.str "checkpoint", V.int 0, V.non, V.bl true]) k30 (by show k3 < 5; omega)
      have o3 := off_else el3
      have E3 := el02.trans ((Else2.of_same Et1).trans el3)
      obtain ⟨p, hp, hvp⟩ : ∃ p, PartOk p ∧ ∀ Hx, Dp K Hx v p := by
        clear hv hj el3 E3 o3
        simp only [List.mem_cons, List.not_mem_nil, or_false] at hm
        rcases hm with rfl | rfl | rfl | rfl | rfl
        · exact ⟨_, sS _ (by simp), fun _ => .str _⟩
        · exact ⟨_, sS _ (by simp), fun _ => .str _⟩
        · exact ⟨_, part_int 0, fun _ => .int 0⟩
        · exact ⟨_, pNon, fun _ => .non⟩
        · exact ⟨_, pBl true, fun _ => .bl true⟩
      refine ⟨t1, _, (j : Nat), v, rfl, rfl, SqL.of (off_sub _ _ _ _ _ (o3 _ _ ft1)), hv, (by show 2 ≤ sizeLine; decide), fun T nT => ?_⟩
      have sT := same_new (o := .tup [.str nm, v]) nT
      exact k _ _ _ (small_row (part_name hg.nm) hp) (.tup (SqT.of (off_new S3 nT)) (.cons (.str nm) (.cons (hvp _) .nil))) ⟨n + 3, by omega, by omega, S3.same sT, E3.trans (.of_same sT)⟩
    refine ⟨_, rfl, rfl, _, rfl, ite2 (fun _ => ?_) (fun _ => ?_)⟩
    · refine ⟨_, rfl, (by show 1 ≤ sizeLine; decide), fun t1 nt1 => ?_⟩
      have et1 := same_new (o := .tup [.str "none"]) nt1
      have ft1 := off_new (o := .tup [.str "none"]) S2 nt1
      have St1 := S2.same et1
      have Et1 := et1
      generalize upd H2 t1 (.tup [.str "none"]) = Gt1 at et1 ft1 St1 Et1  ⊢
      refine ⟨(by show 2 ≤ sizeLine; decide), fun t2 nt2 => ?_⟩
      have et2 := same_new (o := .tup [.ref t1, .int 5]) nt2
      have ft2 := off_new (o := .tup [.ref t1, .int 5]) St1 nt2
      have St2 := St1.same et2
      replace ft1 := off_same et2 _ _ ft1
      have Et2 := Et1.trans et2
      generalize upd Gt1 t2 (.tup [.ref t1, .int 5]) = Gt2 at et2 ft2 St2 Et2 ft1 ⊢
      refine ⟨(by show 2 ≤ sizeLine; decide), fun t3 nt3 => ?_⟩
      have et3 := same_new (o := .tup [.str nm, .ref t2]) nt3
      have ft3 := off_new (o := .tup [.str nm, .ref t2]) St2 nt3
      have St3 := St2.same et3
      replace ft1 := off_same et3 _ _ ft1
      replace ft2 := off_same et3 _ _ ft2
      have Et3 := Et2.trans et3
      generalize upd Gt2 t3 (.tup [.str nm, .ref t2]) = Gt3 at et3 ft3 St3 Et3 ft1 ft2 ⊢
      refine k _ _ _ (tup_row (xs := [.str nm, .tuple [.tuple [.str "none"], .int 5]]) (fun x hx => ?_) (by show 1 + (2 + (2 + (1 + 0) + (1 + 0)) + 0) ≤ 98; decide)) (.tup (SqT.of ft3) (.cons (.str nm) (.cons (.tup (SqT.of ft2) (.cons (.tup (SqT.of ft1) (.cons (.str "none") .nil)) (.cons (.int 5) .nil))) .nil))) ⟨n + 2, by omega, by omega, St3, el02.trans (.of_same Et3)⟩
      simp only [List.mem_cons, List.not_mem_nil, or_false] at hx
      rcases hx with rfl | rfl
      · exact ⟨(part_name hg.nm).ly.mono (by decide), (part_name hg.nm).sm⟩
      · refine ⟨lay_tup (n := 1) (fun d hd => ?_), by decide +kernel⟩
        simp only [List.mem_cons, List.not_mem_nil, or_false] at hd
        rcases hd with rfl | rfl
        · exact lay_tup (n := 0) (fun d hd => by rw [List.mem_singleton.mp hd]; exact lay_str (by decide +kernel))
        · exact lay_int
    refine ⟨_, rfl, _, rfl, (by show 2 ≤ sizeLine; decide), fun T nT => ?_⟩
    have sT := same_new (o := .tup [.str nm, .ref b]) nT
    exact k _ _ _ (pair_row (part_name hg.nm) hg) (.tup (SqT.of (off_new S2 nT)) (.cons (.str nm) (.cons (dp_same (off_same sT) hev2) .nil))) ⟨n + 2, by omega, by omega, S2.same sT, el02.trans (.of_same sT)⟩
end
end XE

set_option Elab.async false
set_option linter.all false
set_option maxRecDepth 100000
set_option maxHeartbeats 1000000
/-! XTr: _law_reserved -/
namespace XE
open PySem PySem.Spec PyProof.Rows L2 RZ Rx SX Rc
abbrev sLReserved : Stmt := topS 46
def reservedL : List Str := ["and", "checkpoint", "else", "end", "if", "input", "mod", "not", "or", "process", "receive", "send", "set", "take", "while"]
def spReserved (K : PySem.W.Frag) : Sp := fun vs H Q _ => vs = [] ∧ ∀ (L : Addr) (H' : Hp), Same H H' → SqL K H' L (reservedL.map V.str) → Q (.ref L) H'
section
variable {P : Program} {w : World} {K : PySem.W.Frag} {mg : Str → Option Value} {base : Heap}
abbrev lrvN : List Str := ["_law_found"]
theorem scLRv : FnScope lrvN [] (defScope sLReserved) := ⟨rfl, rfl, rfl, by decide +kernel, rfl, by decide +kernel, by decide +kernel⟩
theorem ok_lreserved {f : Addr} {fd : FuncData} (F : Fun K "_law_reserved" "_law_reserved" sLReserved f fd) : FnOk P w K mg base CX0 1 f fd [] (spReserved K) := by
  refine F.ok scLRv (fun vs H Q E h => ?_) (fun cdv A outer s H vs Q E hr h => ?_)
  · rw [h.1]; rfl
  · obtain ⟨rfl, k⟩ := h
    refine ⟨_, (pss_cons (ps_set (i := 0) scLRv.nd rfl (.inl rfl) (pe_lst (pa_cons pe_str (pa_cons pe_str (pa_cons pe_str (pa_cons pe_str (pa_cons pe_str (pa_cons pe_str (pa_cons pe_str (pa_cons pe_str (pa_cons pe_str (pa_cons pe_str (pa_cons pe_str (pa_cons pe_str (pa_cons pe_str pa_nil))))))))))))))) (pss_one (ps_ret (pe_op op_cat (pv 0) (pe_lst (pa_cons pe_str (pa_cons pe_str pa_nil))))))), ?_⟩
    refine ⟨(by show 13 ≤ sizeLine; decide), fun L1 n1 => ?_⟩
    have e1 := same_new (o := .lst [.str "and", .str "checkpoint", .str "else", .str "end", .str "if", .str "input", .str "mod", .str "not", .str "or", .str "process", .str "receive", .str "send", .str "set"]) n1
    have h1 := upd_same (H := H) (a := L1) (o := .lst [.str "and", .str "checkpoint", .str "else", .str "end", .str "if", .str "input", .str "mod", .str "not", .str "or", .str "process", .str "receive", .str "send", .str "set"])
    refine ⟨_, rfl, (by show 2 ≤ sizeLine; decide), fun L2 n2 => ?_⟩
    have e2 := e1.trans (same_new (o := .lst [.str "take", .str "while"]) n2)
    have h2 := upd_same (H := upd H L1 (.lst [.str "and", .str "checkpoint", .str "else", .str "end", .str "if", .str "input", .str "mod", .str "not", .str "or", .str "process", .str "receive", .str "send", .str "set"])) (a := L2) (o := .lst [.str "take", .str "while"])
    have h1' := same_new (o := .lst [.str "take", .str "while"]) n2 _ _ h1
    refine ⟨L1, L2, _, _, rfl, rfl, h1', h2, (by show 13 + 2 ≤ sizeLine; decide), fun L n => ?_⟩
    exact k L _ (e2.trans (same_new n)) (SqL.of upd_same)
end
end XE

set_option Elab.async false
set_option linter.all false
set_option maxRecDepth 100000
set_option maxHeartbeats 1000000
/-! XS2: drawn events -/
namespace XE
open PySem PySem.Spec PyProof.Rows L2 RZ Rx SX Rc
abbrev sLEvent : Stmt := topS 37
/-- the messages under way, by channel -/
structure QuAt (H : Hp) (s a D : Addr) (R : RunL) (kvs : List (List Key × V)) : Prop where
  at_ : H D = some (.dT kvs)
  few : kvs.length ≤ R.length
  val : ∀ x y, (valV kvs (chK x y) = none ∧ pend R x y = []) ∨ ∃ L, valV kvs (chK x y) = some (.ref L) ∧ H L = some (.lst ((pend R x y).map V.int)) ∧ L ≠ s ∧ L ≠ a
/-- all but three stay -/
def Else3 (s a d : Addr) (H H' : Hp) : Prop := ∀ b o, H b = some o → b ≠ s → b ≠ a → b ≠ d → H' b = some o
def spEvent (K : PySem.W.Frag) : Sp := fun vs H Q _ => ∃ (s a N D : Addr) (n i : Nat) (names : List Str) (nm : Str) (R : RunL) (kvs : List (List Key × V)), vs = [.ref s, .ref N, .int (i : Nat), .ref D] ∧ StreamAt H s a n ∧ n + 10 < 1000000 ∧
  H N = some (.lst (names.map V.str)) ∧ N ≠ s ∧ N ≠ a ∧ names.Nodup ∧ names.length ≤ 41 ∧ names[i]? = some nm ∧ (∀ x ∈ names, nameB x = true) ∧ QuAt H s a D R kvs ∧ RunOk names R ∧ R.length ≤ 400 ∧
  ∀ (m : Nat) (e : Ev) (v : V) (kvs' : List (List Key × V)) (H' : Hp), RunOk names (R ++ [(nm, e)]) → n ≤ m → m ≤ n + 10 → StreamAt H' s a m → Else3 s a D H H' → QuAt H' s a D (R ++ [(nm, e)]) kvs' → (∀ x y L, valV kvs' (chK x y) = some (.ref L) → valV kvs (chK x y) = some (.ref L) ∨ H L = none) → Dp K H' v e.data → Q v H'
theorem put_fr {H : Hp} {kvs : List (List Key × V)} {u v : Str} {W : Addr} (hW : H W = none) : ∀ x y L, valV (putK kvs (chK u v) (.ref W)) (chK x y) = some (.ref L) → valV kvs (chK x y) = some (.ref L) ∨ H L = none := fun x y L h => by
  rw [valV_put] at h
  split at h
  · injection h with h
    injection h with h
    subst h
    exact .inr hW
  · exact .inl h
theorem QuAt.else2 {H H' : Hp} {s a D : Addr} {R : RunL} {kvs : List (List Key × V)} (q : QuAt H s a D R kvs) (h1 : D ≠ s) (h2 : D ≠ a) (e : Else2 s a H H') : QuAt H' s a D R kvs := by
  refine ⟨e _ _ q.at_ h1 h2, q.few, fun x y => ?_⟩
  rcases q.val x y with h | ⟨L, g1, g2, g3, g4⟩
  · exact .inl h
  · exact .inr ⟨L, g1, e _ _ g2 g3 g4, g3, g4⟩
theorem QuAt.same {H H' : Hp} {s a D : Addr} {R : RunL} {kvs : List (List Key × V)} (q : QuAt H s a D R kvs) (e : Same H H') : QuAt H' s a D R kvs := by
  refine ⟨e _ _ q.at_, q.few, fun x y => ?_⟩
  rcases q.val x y with h | ⟨L, g1, g2, g3, g4⟩
  · exact .inl h
  · exact .inr ⟨L, g1, e _ _ g2, g3, g4⟩
theorem QuAt.skip {H : Hp} {s a D : Addr} {R : RunL} {kvs : List (List Key × V)} (q : QuAt H s a D R kvs) {x : Str × Ev} (hp : ∀ u v, pend (R ++ [x]) u v = pend R u v) : QuAt H s a D (R ++ [x]) kvs := by
  refine ⟨q.at_, Nat.le_trans q.few (by simp), fun u v => ?_⟩
  rw [hp]
  exact q.val u v
theorem QuAt.put {H : Hp} {s a D L : Addr} {R : RunL} {kvs : List (List Key × V)} (q : QuAt H s a D R kvs) {x : Str × Ev} {u v : Str} (hL : H L = some (.lst ((pend (R ++ [x]) u v).map V.int))) (h1 : L ≠ s) (h2 : L ≠ a) (hp : ∀ u' v', ¬ (u' = u ∧ v' = v) → pend (R ++ [x]) u' v' = pend R u' v') :
    QuAt (upd H D (.dT (putK kvs (chK u v) (.ref L)))) s a D (R ++ [x]) (putK kvs (chK u v) (.ref L)) := by
  have kp : ∀ b ys, H b = some (.lst ys) → upd H D (.dT (putK kvs (chK u v) (.ref L))) b = some (.lst ys) := fun b ys e => by
    rw [upd_ne (ne_of e q.at_ (by intro z; cases z))]
    exact e
  refine ⟨upd_same, ?_, fun u' v' => ?_⟩
  · have := length_putK kvs (chK u v) (V.ref L)
    have := q.few
    rw [List.length_append, List.length_singleton]
    omega
  · rw [valV_put]
    by_cases c : u' = u ∧ v' = v
    · obtain ⟨rfl, rfl⟩ := c
      rw [if_pos rfl]
      exact .inr ⟨L, rfl, kp _ _ hL, h1, h2⟩
    · rw [if_neg (fun z => c (chK_eq.mp z)), hp _ _ c]
      rcases q.val u' v' with h | ⟨M, g1, g2, g3, g4⟩
      · exact .inl h
      · exact .inr ⟨M, g1, kp _ _ g2, g3, g4⟩
/-- the list that is got, or a new empty one -/
theorem QuAt.got {H : Hp} {s a D O : Addr} {R : RunL} {kvs : List (List Key × V)} (q : QuAt H s a D R kvs) (u v : Str) (hO : H O = some (.lst [])) : ∃ L, (valV kvs (chK u v)).getD (.ref O) = .ref L ∧ H L = some (.lst ((pend R u v).map V.int)) := by
  rcases q.val u v with ⟨h1, h2⟩ | ⟨L, h1, h2, _⟩
  · exact ⟨O, by rw [h1]; rfl, by rw [h2]; exact hO⟩
  · exact ⟨L, by rw [h1]; rfl, h2⟩
theorem cut_one1 (x : V) (xs : List V) : cutV (x :: xs) (some 1) none = xs := by
  unfold cutV HT.sIx
  simp
theorem pair_inj {o p : Str} {u v : Int} (h : some (o, u) = some (p, v)) : o = p ∧ u = v := by
  simpa using h
theorem filter_succ {α : Type} (p : α → Bool) {l : List α} {j : Nat} {x : α} (h : l[j]? = some x) : (l.take (j + 1)).filter p = (l.take j).filter p ++ (if p x = true then [x] else []) := by
  rw [List.take_add_one, h, List.filter_append]
  cases hp : p x <;> simp [hp]
theorem othersL_cons (n m : Str) (ns : List Str) : othersL (m :: ns) n = if m = n then othersL ns n else m :: othersL ns n := by
  unfold othersL
  rw [List.filter_cons]
  by_cases c : m = n <;> simp [c]
theorem othersL_none {names : List Str} {n : Str} (h : n ∉ names) : othersL names n = names := List.filter_eq_self.mpr fun x hx => decide_eq_true fun z => h (by rw [← z]; exact hx)
theorem othersL_len {names : List Str} {n : Str} (hd : names.Nodup) (h : n ∈ names) : (othersL names n).length + 1 = names.length := by
  induction names with
  | nil => cases h
  | cons m ns ih =>
    rw [List.nodup_cons] at hd
    rw [othersL_cons]
    by_cases c : m = n
    · subst c
      rw [if_pos rfl, othersL_none hd.1]
      rfl
    · rw [if_neg c, List.length_cons, List.length_cons, ih hd.2 ((List.mem_cons.mp h).resolve_left fun z => c z.symm)]
section
variable {P : Program} {w : World} {K : PySem.W.Frag} {mg : Str → Option Value} {base : Heap}
abbrev leN : List Str := ["_law_stream", "_law_names", "_law_at", "_law_queues", "_law_name", "_law_way", "_law_value_here", "_law_variable", "_law_full", "_law_other", "_law_one"]
theorem scLE : FnScope leN ["_law_stream", "_law_names", "_law_at", "_law_queues"] (defScope sLEvent) := ⟨rfl, rfl, rfl, by decide +kernel, rfl, by decide +kernel, by decide +kernel⟩
theorem ok_levent {f fD fV : Addr} {fd fdD fdV : FuncData} (F : Fun K "_law_event" "_law_event" sLEvent f fd) (mlen : mg "len" = none) (CD : Cal P w K mg base 1 "_law_draw" fD fdD ["_law_stream", "_law_many"] spDraw) (CV : Cal P w K mg base 2 "_law_value" fV fdV ["_law_stream"] spValue) :
    FnOk P w K mg base CX0 3 f fd ["_law_stream", "_law_names", "_law_at", "_law_queues"] (spEvent K) := by
  refine F.ok scLE (fun vs H Q E h => ?_) (fun cdv A outer s H vs Q E hr h => ?_)
  · obtain ⟨_, _, _, _, _, _, _, _, _, _, rfl, _⟩ := h
    rfl
  · obtain ⟨st, a, N, D, n, i, names, nm, R, kvs, rfl, hS, hn, hN, nNs, nNa, hnd, hnl, hni, hnb, QA, RO, hRl, k⟩ := h
    have hu := hu_of hr
    have hun := Nat.lt_of_le_of_lt (Nat.le_add_right _ 64) hr.units
    have hr1 : Room 1 _ := hr.mono (by decide)
    refine ⟨_, (pss_cons (ps_set (i := 4) scLE.nd rfl (.inr rfl) (pe_ix ix_list (pv 1) (pv 2) (fun _ _ => rfl))) (pss_cons (ps_set (i := 5) scLE.nd rfl (.inl rfl) (pe_call CD.ok hr1 rfl CD.mg CD.kp CD.bi .nil pass0 (pa_cons (pv 0) (pa_cons pe_int pa_nil)))) (pss_cons (ps_set (i := 6) scLE.nd rfl (.inl rfl) (pe_call CV.ok hr rfl CV.mg CV.kp CV.bi .nil pass0 (pa_cons (pv 0) pa_nil))) (pss_cons (ps_set (i := 7) scLE.nd rfl (.inl rfl) (pe_ix ix_list (pe_lst (pa_cons pe_str (pa_cons pe_str pa_nil))) (pe_call CD.ok hr1 rfl CD.mg CD.kp CD.bi .nil pass0 (pa_cons (pv 0) (pa_cons pe_int pa_nil))) (fun _ _ => rfl))) (pss_cons (ps_setLc (i := 8) (own := [("_law_other", 9)]) (g := gName 9) (tt := tTest (tOp (rNeNil K) (tDGet2 (tVar 3) (tTup (tCons (tVar 9) (tCons (tVar 4) tNil))) (tLst tNil)) (tLst tNil))) (te := tVar 9) rfl scLE.nd rfl rfl (sw_true rfl rfl rfl (by decide +kernel)) (pi_list (pv 1)) (blkOk_by (own := [("_law_other", 9)]) (N := leN) (sc := defScope sLEvent) (by decide +kernel)) (fun _ _ _ _ _ => (pg_name (i := 9) scLE.nd rfl (Or.inl rfl))) (fun _ _ _ _ _ => pts_one (pt_cmpR (op_neNil (by exact hun)) (pe_dget2 hu (pv 3) (pe_tup (pa_cons (pv 9) (pa_cons (pv 4) pa_nil))) (pe_lst pa_nil) ⟨rfl, rfl, rfl, rfl⟩) (pe_lst pa_nil) (nomark _))) (fun _ _ _ _ _ => (pv 9))) (C8.pss_cut (ps_if (PW.pt (pw_and (pt_cmpR op_lt (pv 5) pe_int (nomark _)) (pw_and1 (pt_cmpR op_gt (pe_callB call_len_seq (by rfl) mlen PySem.boot_len (pa_cons (pv 1) pa_nil)) pe_int (nomark _))))) (pss_cons (ps_set (i := 9) scLE.nd rfl (.inl rfl) (pe_ix ix_list (pe_lc (own := [("_law_one", 10)]) (g := gName 10) (tt := tTest (tOp rNe (tVar 10) (tVar 4))) (te := tVar 10) rfl scLE.nd (pi_list (pv 1)) (blkOk_by (own := [("_law_one", 10)]) (N := leN) (sc := defScope sLEvent) (by decide +kernel)) (fun _ _ _ _ _ => (pg_name (i := 10) scLE.nd rfl (Or.inl rfl))) (fun _ _ _ _ _ => pts_one (pt_cmpR op_ne (pv 10) (pv 4) (nomark _))) (fun _ _ _ _ _ => (pv 10))) (pe_call CD.ok hr1 rfl CD.mg CD.kp CD.bi .nil pass0 (pa_cons (pv 0) (pa_cons (pe_op op_sub (pe_callB call_len_seq (by rfl) mlen PySem.boot_len (pa_cons (pv 1) pa_nil)) pe_int) pa_nil))) (fun _ _ => rfl))) (pss_cons (ps_dput hu (pv 3) (pe_tup (pa_cons (pv 4) (pa_cons (pv 9) pa_nil))) (pe_op op_cat (pe_dget2 hu (pv 3) (pe_tup (pa_cons (pv 4) (pa_cons (pv 9) pa_nil))) (pe_lst pa_nil) ⟨rfl, rfl, rfl, rfl⟩) (pe_lst (pa_cons (pv 6) pa_nil))) rfl) (pss_one (ps_ret (pe_tup (pa_cons pe_str (pa_cons (pv 9) (pa_cons (pv 6) pa_nil)))))))) pss_nil) (C8.pss_cut (ps_if (PW.pt (pw_and (pt_cmpR op_lt (pv 5) pe_int (nomark _)) (pw_and1 (pt_cmpR (op_neNil hun) (pv 8) (pe_lst pa_nil) (nomark _))))) (pss_cons (ps_set (i := 9) scLE.nd rfl (.inl rfl) (pe_ix ix_list (pv 8) (pe_call CD.ok hr1 rfl CD.mg CD.kp CD.bi .nil pass0 (pa_cons (pv 0) (pa_cons (pe_callB call_len_seq (by rfl) mlen PySem.boot_len (pa_cons (pv 8) pa_nil)) pa_nil))) (fun _ _ => rfl))) (pss_cons (ps_set (i := 6) scLE.nd rfl (.inl rfl) (pe_ix ix_list (pe_dget hu (pv 3) (pe_tup (pa_cons (pv 9) (pa_cons (pv 4) pa_nil))) (fun _ _ => rfl)) pe_int (fun _ _ => rfl))) (pss_cons (ps_dput hu (pv 3) (pe_tup (pa_cons (pv 9) (pa_cons (pv 4) pa_nil))) (pe_slice sl_list (pe_dget hu (pv 3) (pe_tup (pa_cons (pv 9) (pa_cons (pv 4) pa_nil))) (fun _ _ => rfl)) (po_some pe_int) po_none) rfl) (pss_one (ps_ret (pe_tup (pa_cons (pe_ix ix_list (pe_lst (pa_cons pe_str (pa_cons pe_str pa_nil))) (pe_call CD.ok hr1 rfl CD.mg CD.kp CD.bi .nil pass0 (pa_cons (pv 0) (pa_cons pe_int pa_nil))) (fun _ _ => rfl)) (pa_cons (pv 9) (pa_cons (pv 7) (pa_cons (pv 6) pa_nil)))))))))) pss_nil) (pss_cons (ps_if (pt_cmpR op_eq (pv 5) pe_int (nomark _)) (pss_one (ps_ret (pe_tup (pa_cons pe_str pa_nil)))) pss_nil) (pss_one (ps_ret (pe_tup (pa_cons (pe_ix ix_list (pe_lst (pa_cons pe_str (pa_cons pe_str pa_nil))) (pe_call CD.ok hr1 rfl CD.mg CD.kp CD.bi .nil pass0 (pa_cons (pv 0) (pa_cons pe_int pa_nil))) (fun _ _ => rfl)) (pa_cons (pv 7) (pa_cons (pv 6) pa_nil)))))))))))))), ?_⟩
    have hDs : D ≠ st := by
      obtain ⟨_, _, _, h1, _⟩ := hS
      exact ne_of QA.at_ h1 (by intro z; cases z)
    have hDa : D ≠ a := by
      obtain ⟨_, _, _, _, h1, _⟩ := hS
      exact ne_of QA.at_ h1 (by intro z; cases z)
    have hnm : nm ∈ names := List.mem_of_getElem? hni
    refine ⟨_, rfl, _, rfl, N, _, (i : Nat), .str nm, rfl, rfl, SqL.of hN, atI_nat (by rw [List.getElem?_map, hni]; rfl), ?_⟩
    refine ⟨_, rfl, st, a, n, 8, rfl, by decide, by decide, hS, by omega, fun w1 H1 w10 w11 S1 el1 => ?_⟩
    refine ⟨_, rfl, st, a, n + 1, rfl, S1, by omega, fun v H2 hv mv => ?_⟩
    obtain ⟨m2, m20, m21, S2, el2⟩ := mv
    have el12 := el1.trans el2
    have hmB1 : n ≤ m2 + 1 + 1 + 1 := by omega
    have hmB2 : m2 + 1 + 1 + 1 ≤ n + 10 := by omega
    refine ⟨by show 2 ≤ sizeLine; decide, fun L nL => ?_⟩
    have nLs : L ≠ st := fun z => S2.tr.1 (by rw [← z]; exact nL)
    have nLa : L ≠ a := fun z => S2.tr.2 (by rw [← z]; exact nL)
    refine ⟨_, rfl, st, a, m2, 2, rfl, by decide, by decide, S2.same (same_new nL), by omega, fun w2 H3 w20 w21 S3 el3 => ?_⟩
    have hL3 := el3 _ _ upd_same nLs nLa
    obtain ⟨j2, xv, hj2, hxv, hm2, rfl⟩ := at_drawn (xs := [V.str "x", .str "y"]) w20 (by show w2 < 2; omega)
    obtain ⟨x, rfl, hx⟩ : ∃ x, xv = .str x ∧ nameB x = true := by
      simp only [List.mem_cons, List.not_mem_nil, or_false] at hm2
      rcases hm2 with h | h
      · exact ⟨_, h, by decide +kernel⟩
      · exact ⟨_, h, by decide +kernel⟩
    have e3 : Else2 st a H H3 := (el12.trans (else_new nL)).trans el3
    refine ⟨L, _, (j2 : Nat), .str x, rfl, rfl, SqL.of hL3, hxv, ?_⟩
    clear el3 hL3 hm2 hxv hj2 nLs nLa nL el2 el12 S2 el1 S1
    have Q3 := QA.else2 hDs hDa e3
    have hN3 := e3 _ _ hN nNs nNa
    refine ⟨_, rfl, N, rfl, ⟨_, SqL.of hN3⟩, fun Fl nF => ?_⟩
    refine lc_list (K := K) (a := N) (xs := names.map V.str) (fun j Hy => Same H3 Hy ∧ Hy Fl = some (.lst (((names.take j).filter fun o => !(pend R o nm).isEmpty).map V.str))) ⟨same_new nF, upd_same⟩ (fun j Hy _ q => SqL.of (q.1 _ _ hN3)) ?_ ?_
    · rintro j z Hy hz ⟨sy, hF⟩
      obtain ⟨o, ho, rfl⟩ := mapS_get hz
      have Qy := Q3.same sy
      refine ⟨rfl, _, rfl, D, rfl, .inr ⟨_, .inl Qy.at_⟩, _, rfl, _, rfl, (by show 2 ≤ sizeLine; decide), fun U nU => ⟨(by show 0 ≤ sizeLine; decide), fun O nO => ?_⟩⟩
      have sU := same_new (o := .tup [.str o, .str nm]) nU
      have hU0 : upd Hy U (.tup [.str o, .str nm]) U = some (.tup ((chK o nm).map kV)) := upd_same
      have sO := same_new (o := .lst []) nO
      have hO0 := upd_same (H := upd Hy U (.tup [.str o, .str nm])) (a := O) (o := .lst [])
      have hU1 := sO _ _ hU0
      have sUO := sU.trans sO
      generalize upd (upd Hy U (.tup [.str o, .str nm])) O (.lst []) = Hz at hO0 hU1 sUO ⊢
      have Qz := Qy.same sUO
      obtain ⟨Lq, hLq, hLq2⟩ := Qz.got o nm hO0
      refine ⟨_, DGet.t Qz.at_ hU1, ?_⟩
      rw [hLq]
      refine ⟨(by show 0 ≤ sizeLine; decide), fun O2 nO2 => ⟨Lq, O2, _, rfl, rfl, SqL.of (same_new nO2 _ _ hLq2), SqL.of upd_same, _, rfl, ?_⟩⟩
      have sA := (sy.trans sUO).trans (same_new (o := .lst []) nO2)
      have hFA := same_new (o := .lst []) nO2 _ _ (sUO _ _ hF)
      generalize upd Hz O2 (.lst []) = Hw at sA hFA ⊢
      have e4 : (names.take (j + 1)).filter (fun o => !(pend R o nm).isEmpty) = (names.take j).filter (fun o => !(pend R o nm).isEmpty) ++ (if (!(pend R o nm).isEmpty) = true then [o] else []) := filter_succ _ ho
      have hfl : ((names.take j).filter fun o => !(pend R o nm).isEmpty).length ≤ 41 := by
        have := List.length_filter_le (fun o => !(pend R o nm).isEmpty) (names.take j)
        rw [List.length_take] at this
        omega
      have e5 : (!((pend R o nm).map V.int).isEmpty) = !(pend R o nm).isEmpty := by rw [List.isEmpty_map]
      rw [e5, e4]
      cases hpe : (!(pend R o nm).isEmpty) with
      | false =>
        refine iteFc rfl ⟨sA, ?_⟩
        rw [if_neg (by decide), List.append_nil]
        exact hFA
      | true =>
        refine iteTc rfl ⟨_, rfl, _, hFA, ?_, same_upd sA nF, ?_⟩
        · rw [List.length_map]
          exact fitR (by omega)
        · rw [upd_same, if_pos rfl, List.map_append]
          rfl
    rintro H4 ⟨s4, hF⟩
    rw [List.length_map, List.take_length] at hF
    have Q4 := Q3.same s4
    have S4 := S3.same s4
    have hN4 := s4 _ _ hN3
    have e4 : Else2 st a H H4 := e3.trans (.of_same s4)
    have nFs : Fl ≠ st := fun z => S3.tr.1 (by rw [← z]; exact nF)
    have nFa : Fl ≠ a := fun z => S3.tr.2 (by rw [← z]; exact nF)
    clear s4 nF S3 hN3 Q3 e3
    have fin : ∀ (e : Ev) (v' : V) (kvs' : List (List Key × V)) (H' : Hp) (m : Nat), e.ok (othersL names nm) = true → (∀ p u, e.recvOf = some (p, u) → (sentV R p nm)[recvV R p nm]? = some u) → n ≤ m → m ≤ n + 10 → StreamAt H' st a m → Else3 st a D H H' → QuAt H' st a D (R ++ [(nm, e)]) kvs' → (∀ x y L, valV kvs' (chK x y) = some (.ref L) → valV kvs (chK x y) = some (.ref L) ∨ H L = none) → Dp K H' v' e.data → Q v' H' := fun e v' kvs' H' m h1 h2 h3 h4 h5 h6 h7 hfr h8 => k m e v' kvs' H' (.snoc RO hnm h1 h2) h3 h4 h5 h6 h7 hfr h8
    have hnl2 := hnl
    refine ⟨fun σ Hx => ∃ x9 x10 : Option V, σ = [some (.ref st), some (.ref N), some (.int (i : Nat)), some (.ref D), some (.str nm), some (.int w1), some (.int v), some (.str x), some (.ref Fl), x9, x10] ∧ Hx = H4, ?_, ?_⟩
    · refine ⟨_, rfl, _, _, rfl, rfl, _, rfl, ite2 (fun _ => ?_) (fun _ => iteFc rfl ⟨_, _, rfl, rfl⟩)⟩
      refine ⟨_, rfl, N, _, rfl, .inl (SqL.of hN4), _, _, rfl, rfl, _, rfl, ?_⟩
      rw [List.length_map]
      by_cases hl1 : 1 < names.length
      · refine iteTc (decide_eq_true (by omega)) ?_
        refine ⟨_, rfl, N, rfl, ⟨_, SqL.of hN4⟩, fun Gl nG => ?_⟩
        refine lc_list (K := K) (a := N) (xs := names.map V.str) (fun j Hy => Same H4 Hy ∧ Hy Gl = some (.lst ((othersL (names.take j) nm).map V.str))) ⟨same_new nG, upd_same⟩ (fun j Hy _ q => SqL.of (q.1 _ _ hN4)) ?_ ?_
        · rintro j z Hy hz ⟨sy, hG⟩
          obtain ⟨o, ho, rfl⟩ := mapS_get hz
          refine ⟨rfl, _, rfl, _, rfl, rfl, _, rfl, ?_⟩
          have e1 : (!decide (V.str o = V.str nm)) = decide (o ≠ nm) := by
            by_cases h : o = nm
            · subst h; simp
            · have : V.str o ≠ V.str nm := fun z => h (by injection z)
              simp [this, h]
          have e2 : othersL (names.take (j + 1)) nm = othersL (names.take j) nm ++ (if decide (o ≠ nm) = true then [o] else []) := filter_succ (fun o => decide (o ≠ nm)) ho
          have hlo : (othersL (names.take j) nm).length ≤ 41 := by
            have := List.length_filter_le (fun o => decide (o ≠ nm)) (names.take j)
            rw [List.length_take] at this
            show (List.filter _ _).length ≤ 41
            omega
          rw [e1, e2]
          cases hdo : decide (o ≠ nm) with
          | false =>
            refine iteFc rfl ⟨sy, ?_⟩
            rw [if_neg (by decide), List.append_nil]
            exact hG
          | true =>
            refine iteTc rfl ⟨_, rfl, _, hG, ?_, same_upd sy nG, ?_⟩
            · rw [List.length_map]
              exact fitR (by omega)
            · rw [upd_same, if_pos rfl, List.map_append]
              rfl
        rintro H5 ⟨s5, hG⟩
        rw [List.length_map, List.take_length] at hG
        have S5 := S4.same s5
        have Q5 := Q4.same s5
        have nGs : Gl ≠ st := fun z => S4.tr.1 (by rw [← z]; exact nG)
        have nGa : Gl ≠ a := fun z => S4.tr.2 (by rw [← z]; exact nG)
        have hol := othersL_len hnd hnm
        refine ⟨_, rfl, _, rfl, N, _, rfl, .inl (SqL.of (s5 _ _ hN4)), _, _, rfl, rfl, ?_⟩
        rw [List.length_map]
        refine ⟨st, a, _, (names.length : Int) - 1, rfl, by omega, by omega, S5, by omega, fun w3 H6 w30 w31 S6 el6 => ?_⟩
        obtain ⟨j3, ov, hj3, hov, _, rfl⟩ := at_drawn (xs := (othersL names nm).map V.str) w30 (by rw [List.length_map]; omega)
        obtain ⟨o, ho, rfl⟩ := mapS_get hj3
        have hom := List.mem_of_getElem? ho
        have e6 := (e4.trans (.of_same s5)).trans el6
        refine ⟨Gl, _, (j3 : Nat), .str o, rfl, rfl, SqL.of (el6 _ _ hG nGs nGa), hov, ?_⟩
        have Q6 := Q5.else2 hDs hDa el6
        clear Q5 S5 hG el6 hov hj3 Q4 S4 hN4 e4 s5
        refine ⟨_, rfl, D, rfl, .inr ⟨_, .inl Q6.at_⟩, _, rfl, _, rfl, (by show 2 ≤ sizeLine; decide), fun U nU => ⟨(by show 0 ≤ sizeLine; decide), fun O nO => ?_⟩⟩
        have hU0 : upd H6 U (.tup [.str nm, .str o]) U = some (.tup ((chK nm o).map kV)) := upd_same
        have sUO := (same_new (o := .tup [.str nm, .str o]) nU).trans (same_new (o := .lst []) nO)
        have hU1 := same_new (o := .lst []) nO _ _ hU0
        have hO0 := upd_same (H := upd H6 U (.tup [.str nm, .str o])) (a := O) (o := .lst [])
        generalize upd (upd H6 U (.tup [.str nm, .str o])) O (.lst []) = H7 at hO0 hU1 sUO ⊢
        have Q7 := Q6.same sUO
        have S7 := S6.same sUO
        have e7 := e6.trans (.of_same sUO)
        obtain ⟨Lq, hLq, hLq2⟩ := Q7.got nm o hO0
        refine ⟨_, DGet.t Q7.at_ hU1, ?_⟩
        rw [hLq]
        refine ⟨_, rfl, (by show 1 ≤ sizeLine; decide), fun V1 nV1 => ?_⟩
        have s8 := same_new (o := .lst [.int v]) nV1
        have hpl : (pend R nm o).length ≤ 400 := by
          unfold pend
          rw [List.length_drop]
          have : (sentV R nm o).length ≤ R.length := List.length_filterMap_le ..
          omega
        refine ⟨Lq, V1, _, _, rfl, rfl, s8 _ _ hLq2, upd_same, ?_, fun W nW => ?_⟩
        · rw [List.length_map, List.length_singleton]
          exact Nat.le_of_lt (fitR (by omega))
        have s9 := s8.trans (same_new (o := .lst ((pend R nm o).map V.int ++ [.int v])) nW)
        have hW := upd_same (H := upd H7 V1 (.lst [.int v])) (a := W) (o := .lst ((pend R nm o).map V.int ++ [.int v]))
        have nWs : W ≠ st := fun z => (S7.same s8).tr.1 (by rw [← z]; exact nW)
        have nWa : W ≠ a := fun z => (S7.same s8).tr.2 (by rw [← z]; exact nW)
        have hWH : H W = none := (S7.live e7).none (s8.free nW)
        generalize upd (upd H7 V1 (.lst [.int v])) W (.lst ((pend R nm o).map V.int ++ [.int v])) = H8 at s9 hW ⊢
        have Q8 := Q7.same s9
        have S8 := S7.same s9
        have e8 := e7.trans (.of_same s9)
        refine ⟨_, rfl, _, rfl, _, rfl, (by show 2 ≤ sizeLine; decide), fun U2 nU2 => ?_⟩
        have s10 := same_new (o := .tup [.str nm, .str o]) nU2
        have hU2 : upd H8 U2 (.tup [.str nm, .str o]) U2 = some (.tup ((chK nm o).map kV)) := upd_same
        generalize upd H8 U2 (.tup [.str nm, .str o]) = H9 at s10 hU2 ⊢
        have Q9 := Q8.same s10
        have S9 := S8.same s10
        have e9 := e8.trans (.of_same s10)
        have hpe : pend (R ++ [(nm, Ev.send o v)]) nm o = pend R nm o ++ [v] := by rw [pend_send RO, if_pos ⟨rfl, rfl⟩]
        have QA' := Q9.put (x := (nm, .send o v)) (u := nm) (v := o) (L := W) (by rw [hpe, List.map_append]; exact s10 _ _ hW) nWs nWa fun u' v' hn => by rw [pend_send RO, if_neg hn]
        refine ⟨D, _, rfl, DPut.t Q9.at_ hU2 (fitR (Nat.le_trans Q9.few (by omega))), ?_⟩
        have SA' := S9.upd (b := D) (o := .dT (putK kvs (chK nm o) (.ref W))) hDs hDa
        have eA' : Else3 st a D H (upd H9 D (.dT (putK kvs (chK nm o) (.ref W)))) := fun b o h n1 n2 n3 => by rw [upd_ne n3]; exact e9 _ _ h n1 n2
        generalize upd H9 D (.dT (putK kvs (chK nm o) (.ref W))) = HA at QA' SA' eA' ⊢
        refine ⟨_, rfl, _, rfl, (by show 3 ≤ sizeLine; decide), fun T nT => ?_⟩
        have sT := same_new (o := .tup [.str "send", .str o, .int v]) nT
        refine fin (.send o v) _ _ _ _ ?_ (fun p u h => nomatch h) ?_ ?_ (SA'.same sT) (fun b o h n1 n2 n3 => sT _ _ (eA' _ _ h n1 n2 n3)) (QA'.same sT) (put_fr hWH) (.tup (SqT.of upd_same) (.cons (.str _) (.cons (.str _) (.cons (.int _) .nil))))
        · show (decide (o ∈ othersL names nm) && valB v) = true
          rw [decide_eq_true hom, hv]
          rfl
        · omega
        · omega
      · exact iteFc (decide_eq_false (by omega)) ⟨_, _, rfl, rfl⟩
    rintro σ Hx ⟨x9, x10, rfl, rfl⟩
    refine ⟨fun σ Hy => ∃ (x6 x9 x10 : Option V), σ = [some (.ref st), some (.ref N), some (.int (i : Nat)), some (.ref D), some (.str nm), some (.int w1), some (.int v), some (.str x), some (.ref Fl), x9, x10] ∧ Same Hx Hy, ?_, ?_⟩
    · refine ⟨_, rfl, _, _, rfl, rfl, _, rfl, ite2 (fun _ => ?_) (fun _ => iteFc rfl ⟨none, _, _, rfl, .refl _⟩)⟩
      refine ⟨_, rfl, (by show 0 ≤ sizeLine; decide), fun O1 nO1 => ⟨Fl, O1, _, rfl, rfl, SqL.of (same_new nO1 _ _ hF), SqL.of upd_same, _, rfl, ?_⟩⟩
      have s5 := same_new (o := .lst []) nO1
      generalize upd Hx O1 (.lst []) = H5 at s5 ⊢
      have hF5 := s5 _ _ hF
      rw [List.isEmpty_map]
      generalize hfl : (names.filter fun o => !(pend R o nm).isEmpty) = fl at hF hF5
      cases hemp : fl.isEmpty with
      | true => exact iteFc rfl ⟨none, _, _, rfl, s5⟩
      | false =>
        refine iteTc rfl ?_
        have hflen : 0 < fl.length := by
          cases fl with
          | nil => cases hemp
          | cons => exact Nat.succ_pos _
        have hfl40 : fl.length ≤ 41 := by
          have := List.length_filter_le (fun o => !(pend R o nm).isEmpty) names
          rw [hfl] at this
          omega
        have S5 := S4.same s5
        have Q5 := Q4.same s5
        have e5 := e4.trans (.of_same s5)
        refine ⟨_, rfl, _, rfl, _, rfl, Fl, _, rfl, .inl (SqL.of hF5), ?_⟩
        rw [List.length_map]
        refine ⟨st, a, _, (fl.length : Int), rfl, by omega, by omega, S5, by omega, fun w3 H6 w30 w31 S6 el6 => ?_⟩
        obtain ⟨j3, ov, hj3, hov, _, rfl⟩ := at_drawn (xs := fl.map V.str) w30 (by rw [List.length_map]; omega)
        obtain ⟨o, ho, rfl⟩ := mapS_get hj3
        have hom : o ∈ names ∧ (!(pend R o nm).isEmpty) = true := by
          have := List.mem_of_getElem? ho
          rw [← hfl] at this
          exact List.mem_filter.mp this
        have e6 := e5.trans el6
        refine ⟨Fl, _, (j3 : Nat), .str o, rfl, rfl, SqL.of (el6 _ _ hF5 nFs nFa), hov, ?_⟩
        have Q6 := Q5.else2 hDs hDa el6
        clear Q5 S5 el6 hov hj3
        obtain ⟨u, tl, hpu⟩ : ∃ u tl, pend R o nm = u :: tl := by
          cases hp : pend R o nm with
          | nil => rw [hp] at hom; cases hom.2
          | cons u tl => exact ⟨u, tl, rfl⟩
        have hrv := pend_head hpu
        have hQo : ∀ {Hz : Hp}, QuAt Hz st a D R kvs → ∃ L, valV kvs (chK o nm) = some (.ref L) ∧ Hz L = some (.lst ((u :: tl).map V.int)) := fun q => by
          rcases q.val o nm with ⟨_, h⟩ | ⟨L, g1, g2, _⟩
          · rw [hpu] at h; cases h
          · exact ⟨L, g1, by rw [← hpu]; exact g2⟩
        refine ⟨_, rfl, _, rfl, _, rfl, (by show 2 ≤ sizeLine; decide), fun U nU => ?_⟩
        have sU := same_new (o := .tup [.str o, .str nm]) nU
        have hU : upd H6 U (.tup [.str o, .str nm]) U = some (.tup ((chK o nm).map kV)) := upd_same
        generalize upd H6 U (.tup [.str o, .str nm]) = H7 at sU hU ⊢
        have Q7 := Q6.same sU
        obtain ⟨Lq, hLq, hLq2⟩ := hQo Q7
        refine ⟨D, .ref Lq, rfl, by have := DGet.t Q7.at_ hU; rw [hLq] at this; exact this, Lq, _, 0, .int u, rfl, rfl, SqL.of hLq2, atI_nat (j := 0) rfl, ?_⟩
        refine ⟨_, rfl, _, rfl, _, rfl, (by show 2 ≤ sizeLine; decide), fun U2 nU2 => ?_⟩
        have sU2 := same_new (o := .tup [.str o, .str nm]) nU2
        have hU2 : upd H7 U2 (.tup [.str o, .str nm]) U2 = some (.tup ((chK o nm).map kV)) := upd_same
        generalize upd H7 U2 (.tup [.str o, .str nm]) = H8 at sU2 hU2 ⊢
        have Q8 := Q7.same sU2
        have hLq8 := sU2 _ _ hLq2
        have S8 := (S6.same sU).same sU2
        have e8 := (e6.trans (.of_same sU)).trans (.of_same sU2)
        refine ⟨D, .ref Lq, rfl, by have := DGet.t Q8.at_ hU2; rw [hLq] at this; exact this, _, rfl, Lq, _, rfl, SqL.of hLq8, fun W nW => ?_⟩
        rw [show ((u :: tl).map V.int) = V.int u :: tl.map V.int from rfl, cut_one1]
        have s9 := same_new (o := .lst (tl.map V.int)) nW
        have hW := upd_same (H := H8) (a := W) (o := .lst (tl.map V.int))
        have nWs : W ≠ st := fun z => S8.tr.1 (by rw [← z]; exact nW)
        have nWa : W ≠ a := fun z => S8.tr.2 (by rw [← z]; exact nW)
        have hWH : H W = none := (S8.live e8).none nW
        generalize upd H8 W (.lst (tl.map V.int)) = H9 at s9 hW ⊢
        refine ⟨_, rfl, _, rfl, _, rfl, (by show 2 ≤ sizeLine; decide), fun U3 nU3 => ?_⟩
        have s10 := s9.trans (same_new (o := .tup [.str o, .str nm]) nU3)
        have hU3 : upd H9 U3 (.tup [.str o, .str nm]) U3 = some (.tup ((chK o nm).map kV)) := upd_same
        have hW10 := same_new (o := .tup [.str o, .str nm]) nU3 _ _ hW
        generalize upd H9 U3 (.tup [.str o, .str nm]) = H10 at s10 hU3 hW10 ⊢
        have Q10 := Q8.same s10
        have S10 := S8.same s10
        have e10 := e8.trans (.of_same s10)
        have hpe : ∀ e : Ev, e.recvOf = some (o, u) → pend (R ++ [(nm, e)]) o nm = tl := fun e he => by
          rw [pend_recv he (recv_send he), if_pos ⟨rfl, rfl⟩, hpu]
          rfl
        have QA' : ∀ e : Ev, e.recvOf = some (o, u) → QuAt (upd H10 D (.dT (putK kvs (chK o nm) (.ref W)))) st a D (R ++ [(nm, e)]) (putK kvs (chK o nm) (.ref W)) := fun e he => Q10.put (x := (nm, e)) (u := o) (v := nm) (L := W) (by rw [hpe e he]; exact hW10) nWs nWa fun u' v' hn => by rw [pend_recv he (recv_send he), if_neg hn]
        refine ⟨D, _, rfl, DPut.t Q10.at_ hU3 (fitR (Nat.le_trans Q10.few (by omega))), ?_⟩
        have SA' := S10.upd (b := D) (o := .dT (putK kvs (chK o nm) (.ref W))) hDs hDa
        have eA' : Else3 st a D H (upd H10 D (.dT (putK kvs (chK o nm) (.ref W)))) := fun b o h n1 n2 n3 => by rw [upd_ne n3]; exact e10 _ _ h n1 n2
        generalize upd H10 D (.dT (putK kvs (chK o nm) (.ref W))) = HA at QA' SA' eA' ⊢
        refine ⟨(by show 2 ≤ sizeLine; decide), fun V2 nV2 => ?_⟩
        have nVs : V2 ≠ st := fun z => SA'.tr.1 (by rw [← z]; exact nV2)
        have nVa : V2 ≠ a := fun z => SA'.tr.2 (by rw [← z]; exact nV2)
        refine ⟨_, rfl, st, a, _, 2, rfl, by decide, by decide, SA'.same (same_new nV2), by omega, fun w4 HB w40 w41 SB elB => ?_⟩
        have hV2 := elB _ _ upd_same nVs nVa
        obtain ⟨j4, wv, hj4, hwv, hm4, rfl⟩ := at_drawn (xs := [V.str "receive", .str "take"]) w40 (by show w4 < 2; omega)
        refine ⟨V2, _, (j4 : Nat), wv, rfl, rfl, SqL.of hV2, hwv, ?_⟩
        have eB := (else_new (s := st) (a := a) (o := .lst [V.str "receive", .str "take"]) nV2).trans elB
        have eBf : Else3 st a D H HB := fun b o h n1 n2 n3 => eB _ _ (eA' _ _ h n1 n2 n3) n1 n2
        have QB : ∀ e : Ev, e.recvOf = some (o, u) → QuAt HB st a D (R ++ [(nm, e)]) _ := fun e he => (QA' e he).else2 hDs hDa eB
        refine ⟨_, rfl, _, rfl, _, rfl, (by show 4 ≤ sizeLine; decide), fun T nT => ?_⟩
        have okr : (decide (o ∈ othersL names nm) && nameB x && valB u) = true := by
          have h1 : o ∈ othersL names nm := List.mem_filter.mpr ⟨hom.1, decide_eq_true fun z => ?_⟩
          · have h2 := RO.vals hrv
            rw [decide_eq_true h1, hx, h2]
            rfl
          · subst z
            exact RO.self hrv
        simp only [List.mem_cons, List.not_mem_nil, or_false] at hm4
        rcases hm4 with rfl | rfl
        · have sT := same_new (o := .tup [.str "receive", .str o, .str x, .int u]) nT
          refine fin (.recv o x u) _ _ _ _ okr (fun p v h => ?_) ?_ ?_ (SB.same sT) (fun b o h n1 n2 n3 => sT _ _ (eBf _ _ h n1 n2 n3)) ((QB _ rfl).same sT) (put_fr hWH) (.tup (SqT.of upd_same) (.cons (.str _) (.cons (.str _) (.cons (.str _) (.cons (.int _) .nil)))))
          · obtain ⟨rfl, rfl⟩ := pair_inj (show some (o, u) = some (p, v) from h)
            exact hrv
          · exact hmB1
          · exact hmB2
        · have sT := same_new (o := .tup [.str "take", .str o, .str x, .int u]) nT
          refine fin (.take o x u) _ _ _ _ okr (fun p v h => ?_) ?_ ?_ (SB.same sT) (fun b o h n1 n2 n3 => sT _ _ (eBf _ _ h n1 n2 n3)) ((QB _ rfl).same sT) (put_fr hWH) (.tup (SqT.of upd_same) (.cons (.str _) (.cons (.str _) (.cons (.str _) (.cons (.int _) .nil)))))
          · obtain ⟨rfl, rfl⟩ := pair_inj (show some (o, u) = some (p, v) from h)
            exact hrv
          · exact hmB1
          · exact hmB2
    rintro σ Hy ⟨_, x9, x10, rfl, s5⟩
    have S5 := S4.same s5
    have Q5 := Q4.same s5
    have e5 := e4.trans (.of_same s5)
    refine ⟨_, rfl, rfl, _, rfl, ite2 (fun _ => ?_) (fun _ => ?_)⟩
    · refine ⟨(by show 1 ≤ sizeLine; decide), fun T nT => ?_⟩
      have sT := same_new (o := .tup [.str "checkpoint"]) nT
      exact fin .chk _ _ _ _ rfl (fun p v h => nomatch h) (by omega) (by omega) (S5.same sT) (fun b o h n1 n2 _ => sT _ _ (e5 _ _ h n1 n2)) ((Q5.same sT).skip (pend_else rfl rfl)) (fun _ _ _ h => .inl h) (.tup (SqT.of upd_same) (.cons (.str _) .nil))
    · refine ⟨(by show 2 ≤ sizeLine; decide), fun V2 nV2 => ?_⟩
      have nVs : V2 ≠ st := fun z => S5.tr.1 (by rw [← z]; exact nV2)
      have nVa : V2 ≠ a := fun z => S5.tr.2 (by rw [← z]; exact nV2)
      refine ⟨_, rfl, st, a, _, 2, rfl, by decide, by decide, S5.same (same_new nV2), by omega, fun w4 HB w40 w41 SB elB => ?_⟩
      have hV2 := elB _ _ upd_same nVs nVa
      obtain ⟨j4, wv, hj4, hwv, hm4, rfl⟩ := at_drawn (xs := [V.str "set", .str "input"]) w40 (by show w4 < 2; omega)
      refine ⟨V2, _, (j4 : Nat), wv, rfl, rfl, SqL.of hV2, hwv, ?_⟩
      have eB := (e5.trans (else_new (s := st) (a := a) (o := .lst [V.str "set", .str "input"]) nV2)).trans elB
      have QB := (Q5.same (same_new nV2)).else2 hDs hDa elB
      refine ⟨_, rfl, _, rfl, (by show 3 ≤ sizeLine; decide), fun T nT => ?_⟩
      have okr : (nameB x && valB v) = true := by rw [hx, hv]; rfl
      simp only [List.mem_cons, List.not_mem_nil, or_false] at hm4
      rcases hm4 with rfl | rfl
      · have sT := same_new (o := .tup [.str "set", .str x, .int v]) nT
        exact fin (.set x v) _ _ _ _ okr (fun p v h => nomatch h) (by omega) (by omega) (SB.same sT) (fun b o h n1 n2 _ => sT _ _ (eB _ _ h n1 n2)) ((QB.same sT).skip (pend_else rfl rfl)) (fun _ _ _ h => .inl h) (.tup (SqT.of upd_same) (.cons (.str _) (.cons (.str _) (.cons (.int _) .nil))))
      · have sT := same_new (o := .tup [.str "input", .str x, .int v]) nT
        exact fin (.inp x v) _ _ _ _ okr (fun p v h => nomatch h) (by omega) (by omega) (SB.same sT) (fun b o h n1 n2 _ => sT _ _ (eB _ _ h n1 n2)) ((QB.same sT).skip (pend_else rfl rfl)) (fun _ _ _ h => .inl h) (.tup (SqT.of upd_same) (.cons (.str _) (.cons (.str _) (.cons (.int _) .nil))))
end
end XE

set_option Elab.async false
set_option linter.all false
set_option maxRecDepth 100000
set_option maxHeartbeats 1000000
/-! XS3: drawn rows -/
namespace XE
open PySem PySem.Spec PyProof.Rows L2 RZ Rx SX Rc
abbrev sLRows : Stmt := topS 38
/-- the rows under way: at L a list of tuples of a name and a list -/
structure RwAt (K : PySem.W.Frag) (H0 H : Hp) (L : Addr) (names : List Str) (R : RunL) (ts ls : List Addr) : Prop where
  at_ : H L = some (.lst (ts.map V.ref))
  tl : ts.length = names.length
  ll : ls.length = names.length
  nd : ls.Nodup
  new : ∀ l ∈ ls, H0 l = none ∧ l ≠ L
  row : ∀ (i : Nat) (nm : Str), names[i]? = some nm → ∃ t l vs, ts[i]? = some t ∧ ls[i]? = some l ∧ H t = some (.tup [.str nm, .ref l]) ∧ H l = some (.lst vs) ∧ DpAll K H vs ((ofP R nm).map Ev.data)
theorem RwAt.keep {K : PySem.W.Frag} {H0 H H' : Hp} {L : Addr} {names : List Str} {R : RunL} {ts ls : List Addr} (h : RwAt K H0 H L names R ts ls) (k : Keeps H H') (hl : ∀ l ∈ ls, H' l = H l) (hL : H' L = H L) : RwAt K H0 H' L names R ts ls := by
  refine ⟨by rw [hL]; exact h.at_, h.tl, h.ll, h.nd, h.new, fun i nm hn => ?_⟩
  obtain ⟨t, l, vs, g1, g2, g3, g4, g5⟩ := h.row i nm hn
  exact ⟨t, l, vs, g1, g2, k.1 _ _ g3, by rw [hl l (List.mem_of_getElem? g2)]; exact g4, dpAll_keep k.1 k.2 g5 (evs_noList _)⟩
theorem keeps_else2 {H H' : Hp} {s a : Addr} {n : Nat} (S : StreamAt H s a n) (e : Else2 s a H H') : Keeps H H' := by
  obtain ⟨_, _, _, h1, h2, _⟩ := S
  exact ⟨fun b xs q => e _ _ q (ne_of q h1 (by intro z; cases z)) (ne_of q h2 (by intro z; cases z)), fun b o u q => e _ _ q (ne_of q h1 (by intro z; cases z)) (ne_of q h2 (by intro z; cases z))⟩
theorem keeps_else3 {H H' : Hp} {s a d : Addr} {n : Nat} {kvs : List (List Key × V)} (S : StreamAt H s a n) (hd : H d = some (.dT kvs)) (e : Else3 s a d H H') : Keeps H H' := by
  obtain ⟨_, _, _, h1, h2, _⟩ := S
  exact ⟨fun b xs q => e _ _ q (ne_of q h1 (by intro z; cases z)) (ne_of q h2 (by intro z; cases z)) (ne_of q hd (by intro z; cases z)), fun b o u q => e _ _ q (ne_of q h1 (by intro z; cases z)) (ne_of q h2 (by intro z; cases z)) (ne_of q hd (by intro z; cases z))⟩
theorem dpAll_snocR {K : PySem.W.Frag} {H : Hp} {v : V} {d : PyData} (h : Dp K H v d) : ∀ {vs : List V} {ds : List PyData}, DpAll K H vs ds → DpAll K H (vs ++ [v]) (ds ++ [d])
  | _, _, .nil => .cons h .nil
  | _, _, .cons a r => .cons a (dpAll_snocR h r)
theorem RwAt.snoc {K : PySem.W.Frag} {H0 H : Hp} {L t l : Addr} {names : List Str} {nm : Str} {ts ls : List Addr} (h : RwAt K H0 H L names [] ts ls) (nl : H l = none) (nl0 : H0 l = none) (nt : upd H l (.lst []) t = none) :
    RwAt K H0 (upd (upd (upd H l (.lst [])) t (.tup [.str nm, .ref l])) L (.lst (ts.map V.ref ++ [.ref t]))) L (names ++ [nm]) [] (ts ++ [t]) (ls ++ [l]) := by
  have hl1 := same_new (o := .tup [.str nm, .ref l]) nt _ _ (upd_same (H := H) (a := l) (o := .lst []))
  have ht1 := upd_same (H := upd H l (.lst [])) (a := t) (o := .tup [.str nm, .ref l])
  have s2 := (same_new (o := .lst []) nl).trans (same_new (o := .tup [.str nm, .ref l]) nt)
  have lL : l ≠ L := fun z => by rw [z, h.at_] at nl; cases nl
  have hL2 := s2 _ _ h.at_
  generalize upd (upd H l (.lst [])) t (.tup [.str nm, .ref l]) = H2 at hl1 ht1 s2 hL2 ⊢
  have kk : Keeps H2 (upd H2 L (.lst (ts.map V.ref ++ [.ref t]))) := keeps_lst hL2
  have lk : ∀ b ys, H b = some (.lst ys) → b ≠ L → upd H2 L (.lst (ts.map V.ref ++ [.ref t])) b = some (.lst ys) := fun b ys e n => by rw [upd_ne n]; exact s2 _ _ e
  refine ⟨by rw [upd_same, List.map_append]; rfl, by rw [List.length_append, List.length_append, h.tl]; rfl, by rw [List.length_append, List.length_append, h.ll]; rfl, ?_, fun l' hl' => ?_, fun i m hm => ?_⟩
  · rw [List.nodup_append]
    refine ⟨h.nd, by simp, fun x hx y hy z => ?_⟩
    rw [List.mem_singleton.mp hy] at z
    subst z
    obtain ⟨j, hj⟩ := List.mem_iff_getElem?.mp hx
    have hjl := (List.getElem?_eq_some_iff.mp hj).1
    have hj2 : j < names.length := by rw [← h.ll]; exact hjl
    obtain ⟨t', l', vs, _, g2, _, g4, _⟩ := h.row j (names[j]'hj2) (List.getElem?_eq_getElem hj2)
    rw [hj] at g2
    injection g2 with g2
    rw [← g2, nl] at g4
    cases g4
  · rcases List.mem_append.mp hl' with hl' | hl'
    · exact h.new l' hl'
    · rw [List.mem_singleton.mp hl']
      exact ⟨nl0, lL⟩
  · by_cases c : i < names.length
    · rw [List.getElem?_append_left c] at hm
      obtain ⟨t', l', vs, g1, g2, g3, g4, g5⟩ := h.row i m hm
      exact ⟨t', l', vs, by rw [List.getElem?_append_left (by rw [h.tl]; exact c)]; exact g1, by rw [List.getElem?_append_left (by rw [h.ll]; exact c)]; exact g2, kk.1 _ _ (s2 _ _ g3), lk _ _ g4 (h.new _ (List.mem_of_getElem? g2)).2, dpAll_keep kk.1 kk.2 (dpAll_same s2 g5) (evs_noList _)⟩
    · have hi : i = names.length := by
        have := (List.getElem?_eq_some_iff.mp hm).1
        rw [List.length_append, List.length_singleton] at this
        omega
      subst hi
      rw [List.getElem?_append_right (Nat.le_refl _), Nat.sub_self] at hm
      injection hm with hm
      subst hm
      refine ⟨t, l, [], ?_, ?_, kk.1 _ _ ht1, by rw [upd_ne lL]; exact hl1, .nil⟩
      · rw [← h.tl, List.getElem?_append_right (Nat.le_refl _), Nat.sub_self]
        rfl
      · rw [← h.ll, List.getElem?_append_right (Nat.le_refl _), Nat.sub_self]
        rfl
theorem RwAt.push {K : PySem.W.Frag} {H0 H : Hp} {L l : Addr} {names : List Str} {nm : Str} {R : RunL} {ts ls : List Addr} {i : Nat} {vs : List V} {v : V} {e : Ev} (h : RwAt K H0 H L names R ts ls) (hnd : names.Nodup) (hi : names[i]? = some nm) (hl : ls[i]? = some l) (hv : H l = some (.lst vs)) (hd : DpAll K H vs ((ofP R nm).map Ev.data)) (hve : Dp K H v e.data) :
    RwAt K H0 (upd H l (.lst (vs ++ [v]))) L names (R ++ [(nm, e)]) ts ls := by
  have kk : Keeps H (upd H l (.lst (vs ++ [v]))) := keeps_lst hv
  refine ⟨by rw [upd_ne (h.new l (List.mem_of_getElem? hl)).2.symm]; exact h.at_, h.tl, h.ll, h.nd, h.new, fun j m hj => ?_⟩
  obtain ⟨t', l', vs', g1, g2, g3, g4, g5⟩ := h.row j m hj
  rw [ofP_snoc]
  by_cases c : j = i
  · subst c
    rw [hi] at hj
    injection hj with hj
    subst hj
    rw [hl] at g2
    injection g2 with g2
    subst g2
    rw [if_pos rfl, List.map_append]
    refine ⟨t', l, _, g1, hl, kk.1 _ _ g3, upd_same, dpAll_snocR (dp_keep kk.1 kk.2 hve (ev_noList e)) (dpAll_keep kk.1 kk.2 hd (evs_noList _))⟩
  · have hnm : nm ≠ m := fun z => c ((List.getElem?_inj (j := i) (List.getElem?_eq_some_iff.mp hj).1 hnd).mp (by rw [hj, hi, z]))
    have hll : l' ≠ l := fun z => c ((List.getElem?_inj (j := i) (List.getElem?_eq_some_iff.mp g2).1 h.nd).mp (by rw [g2, hl, z]))
    rw [if_neg hnm, List.append_nil]
    exact ⟨t', l', vs', g1, g2, kk.1 _ _ g3, by rw [upd_ne hll]; exact g4, dpAll_keep kk.1 kk.2 g5 (evs_noList _)⟩
def rTupOf (K : PySem.W.Frag) : List V → Hp → VK → Prop := fun xs H Q => ∃ p ys, xs = [V.ref p] ∧ ((SqL K H p ys ∧ ∀ l, H l = none → Q (.ref l) (upd H l (.tup ys))) ∨ SqT K H p ys ∧ Q (.ref p) H)
def spRowsL (K : PySem.W.Frag) : Sp := fun vs H Q _ => ∃ (s a N : Addr) (n many : Nat) (names : List Str), vs = [.ref s, .ref N, .int (many : Nat)] ∧ StreamAt H s a n ∧ many ≤ 400 ∧ n + 11 * many < 1000000 ∧
  H N = some (.lst (names.map V.str)) ∧ N ≠ s ∧ N ≠ a ∧ names.Nodup ∧ names.length ≤ 41 ∧ 0 < names.length ∧ (∀ x ∈ names, nameB x = true) ∧
  ∀ (R : RunL) (m : Nat) (L : Addr) (xs : List V) (H' : Hp), RunOk names R → R.length = many → n ≤ m → m ≤ n + 11 * many → StreamAt H' s a m → Else2 s a H H' → H L = none → H' L = some (.lst xs) → DpAll K H' xs ((runRows names R).map rowE) → Q (.ref L) H'
section
variable {P : Program} {w : World} {K : PySem.W.Frag} {mg : Str → Option Value} {base : Heap}
abbrev lrN : List Str := ["_law_stream", "_law_names", "_law_many", "_law_rows_here", "_law_name", "_law_queues", "_law_turn", "_law_at", "_law_event_here", "_law_events"]
theorem scLR : FnScope lrN ["_law_stream", "_law_names", "_law_many"] (defScope sLRows) := ⟨rfl, rfl, rfl, by decide +kernel, rfl, by decide +kernel, by decide +kernel⟩
theorem ok_lrows {f fD fE : Addr} {fd fdD fdE : FuncData} (F : Fun K "_law_rows" "_law_rows" sLRows f fd) (mlen : mg "len" = none) (mtup : mg "tuple" = none) (mrange : mg "range" = none) (CD : Cal P w K mg base 1 "_law_draw" fD fdD ["_law_stream", "_law_many"] spDraw) (CE : Cal P w K mg base 3 "_law_event" fE fdE ["_law_stream", "_law_names", "_law_at", "_law_queues"] (spEvent K)) :
    FnOk P w K mg base CX0 4 f fd ["_law_stream", "_law_names", "_law_many"] (spRowsL K) := by
  refine F.ok scLR (fun vs H Q E h => ?_) (fun cdv A outer s H vs Q E hr h => ?_)
  · obtain ⟨_, _, _, _, _, _, rfl, _⟩ := h
    rfl
  · obtain ⟨st, a, N, n, many, names, rfl, hS, hmany, hn, hN, nNs, nNa, hnd, hnl, hn0, hnb, k⟩ := h
    have hu := hu_of hr
    have hr1 : Room 1 _ := hr.mono (by decide)
    refine ⟨_, (pss_cons (ps_setLc (i := 3) (own := [("_law_name", 4)]) (g := gName 4) (tt := tYes) (te := tTup (tCons (tVar 4) (tCons (tLst tNil) tNil))) rfl scLR.nd rfl rfl (sw_true rfl rfl rfl (by decide +kernel)) (pi_list (pv 1)) (blkOk_by (own := [("_law_name", 4)]) (N := lrN) (sc := defScope sLRows) (by decide +kernel)) (fun _ _ _ _ _ => (pg_name (i := 4) scLR.nd rfl (Or.inl rfl))) (fun _ _ _ _ _ => pts_nil) (fun _ _ _ _ _ => (pe_tup (pa_cons (pv 4) (pa_cons (pe_lst pa_nil) pa_nil))))) (pss_cons (ps_set (i := 5) scLR.nd rfl (.inl rfl) pe_dnewT) (pss_cons (ps_for PassesOwn.never rfl (pi_range1 rfl mrange (pa_cons (pv 2) pa_nil)) (pg_name (i := 6) scLR.nd rfl (.inl rfl)) (pss_cons (ps_set (i := 7) scLR.nd rfl (.inl rfl) (pe_call CD.ok hr1 rfl CD.mg CD.kp CD.bi .nil pass0 (pa_cons (pv 0) (pa_cons (pe_callB call_len_seq (by rfl) mlen PySem.boot_len (pa_cons (pv 1) pa_nil)) pa_nil)))) (pss_cons (ps_set (i := 8) scLR.nd rfl (.inl rfl) (pe_call CE.ok hr rfl CE.mg CE.kp CE.bi .nil pass0 (pa_cons (pv 0) (pa_cons (pv 1) (pa_cons (pv 7) (pa_cons (pv 5) pa_nil)))))) (pss_one (ps_expr (pe_bm PySem.F.plainAttrs_list PySem.F.slot_list_append PySem.F.type_list_append mt_append (pe_ix ix_tup (pe_ix ix_list (pv 3) (pv 7) (fun _ _ => rfl)) pe_int (fun _ _ => rfl)) (pa_cons (pv 8) pa_nil))))))) (pss_one (ps_ret (pe_lc (own := [("_law_name", 4), ("_law_events", 9)]) (g := gTup K 2 (gCons (gName 4) (gCons (gName 9) gNil))) (tt := tYes) (te := tTup (tCons (tVar 4) (tCons (tCB (rTupOf K) (tCons (tVar 9) tNil)) tNil))) rfl scLR.nd (pi_list (pv 3)) (blkOk_by (own := [("_law_name", 4), ("_law_events", 9)]) (N := lrN) (sc := defScope sLRows) (by decide +kernel)) (fun _ _ _ _ _ => (pg_tup rfl (pgs_cons (pg_name (i := 4) scLR.nd rfl (Or.inl rfl)) (pgs_cons (pg_name (i := 9) scLR.nd rfl (Or.inl rfl)) pgs_nil)))) (fun _ _ _ _ _ => pts_nil) (fun _ _ _ _ _ => (pe_tup (pa_cons (pv 4) (pa_cons (pe_callTy call_tuple_of (by rfl) mtup (by decide +kernel) (pa_cons (pv 9) pa_nil)) pa_nil)))))))))), ?_⟩
    refine ⟨_, rfl, N, rfl, ⟨_, SqL.of hN⟩, fun Lr nL => ?_⟩
    refine lc_list (K := K) (a := N) (xs := names.map V.str) (fun j Hy => Same H Hy ∧ ∃ ts ls, RwAt K H Hy Lr (names.take j) [] ts ls) ⟨same_new nL, [], [], upd_same, rfl, rfl, .nil, (fun _ h => nomatch h), fun i nm h => nomatch h⟩ (fun j Hy _ q => SqL.of (q.1 _ _ hN)) ?_ ?_
    · rintro j z Hy hz ⟨sy, ts, ls, RW⟩
      obtain ⟨o, ho, rfl⟩ := mapS_get hz
      refine ⟨rfl, ?_⟩
      dsimp only [tYes]
      rw [if_pos rfl]
      refine ⟨_, rfl, (by show 0 ≤ sizeLine; decide), fun l nl => ⟨(by show 2 ≤ sizeLine; decide), fun t nt => ?_⟩⟩
      have s2 := (same_new (o := .lst []) nl).trans (same_new (o := .tup [.str o, .ref l]) nt)
      refine ⟨_, s2 _ _ RW.at_, ?_, same_upd (sy.trans s2) nL, ts ++ [t], ls ++ [l], ?_⟩
      · rw [List.length_map, RW.tl, List.length_take]
        exact fitR (by omega)
      · rw [List.take_add_one, ho]
        exact RW.snoc nl (sy.free nl) nt
    rintro H1 ⟨s1, ts, ls, RW⟩
    rw [List.length_map, List.take_length] at RW
    dsimp only [List.set]
    refine fun D nD => ?_
    have sD := same_new (o := .dT []) nD
    have nDH := s1.free nD
    have RW2 : RwAt K H (upd H1 D (.dT [])) Lr names [] ts ls := RW.keep (keeps_new nD) (fun l hl => upd_ne fun z => by
      obtain ⟨j, hj⟩ := List.mem_iff_getElem?.mp hl
      have hjl := (List.getElem?_eq_some_iff.mp hj).1
      have hj2 : j < names.length := by rw [← RW.ll]; exact hjl
      obtain ⟨t', l', vs, _, g2, _, g4, _⟩ := RW.row j (names[j]'hj2) (List.getElem?_eq_getElem hj2)
      rw [hj] at g2
      injection g2 with g2
      rw [← g2, z, nD] at g4
      cases g4) (upd_ne fun z => by
      have := RW.at_
      rw [z, nD] at this
      cases this)
    have Q2 : QuAt (upd H1 D (.dT [])) st a D [] [] := ⟨upd_same, Nat.le_refl _, fun x y => .inl ⟨rfl, rfl⟩⟩
    have s2 := s1.trans sD
    generalize upd H1 D (.dT []) = H2 at s2 RW2 Q2 ⊢
    refine ⟨_, rfl, many, rfl, by omega, by omega, ?_⟩
    rw [show ((many : Int)).toNat = many by omega]
    refine for_range (lo := 0) (n := many) (fun i σ Hx => ∃ (x4 x6 x7 x8 x9 : Option V) (R : RunL) (kvs : List (List Key × V)) (ts ls : List Addr) (m : Nat), σ = [some (.ref st), some (.ref N), some (.int (many : Nat)), some (.ref Lr), x4, some (.ref D), x6, x7, x8, x9] ∧ RunOk names R ∧ R.length = i ∧ n ≤ m ∧ m ≤ n + 11 * i ∧ StreamAt Hx st a m ∧ Else2 st a H Hx ∧ QuAt Hx st a D R kvs ∧ RwAt K H Hx Lr names R ts ls ∧ ∀ x y L, valV kvs (chK x y) = some (.ref L) → L ∉ ls)
      ⟨_, _, _, _, _, [], [], ts, ls, n, rfl, .nil, rfl, Nat.le_refl _, Nat.le_refl _, hS.same s2, .of_same s2, Q2, RW2, fun x y L h => nomatch h⟩ ?_ ?_
    · rintro i σ Hx hi ⟨x4, x6, x7, x8, x9, R, kvs, ts, ls, m, rfl, RO, hRl, m0, m1, Sx, ex, Qx, RWx, hap⟩
      have hNx := ex _ _ hN nNs nNa
      refine ⟨_, rfl, _, rfl, N, _, rfl, .inl (SqL.of hNx), ?_⟩
      rw [List.length_map]
      refine ⟨st, a, m, (names.length : Int), rfl, by omega, by omega, Sx, by omega, fun w1 H3 w10 w11 S3 el3 => ?_⟩
      obtain ⟨j, rfl⟩ := Int.eq_ofNat_of_zero_le w10
      have hj : j < names.length := by omega
      obtain ⟨nm, hnm⟩ : ∃ nm, names[j]? = some nm := ⟨names[j]'hj, by simp⟩
      have hDs : D ≠ st := by
        obtain ⟨_, _, _, h1, _⟩ := Sx
        exact ne_of Qx.at_ h1 (by intro z; cases z)
      have hDa : D ≠ a := by
        obtain ⟨_, _, _, _, h1, _⟩ := Sx
        exact ne_of Qx.at_ h1 (by intro z; cases z)
      have nst : ∀ {b}, H b = none → b ≠ st ∧ b ≠ a := fun h => ⟨fun z => hS.tr.1 (by rw [← z]; exact h), fun z => hS.tr.2 (by rw [← z]; exact h)⟩
      have hlb : ∀ l ∈ ls, ∃ vs, Hx l = some (.lst vs) := fun l hl => by
        obtain ⟨j, hj⟩ := List.mem_iff_getElem?.mp hl
        have hjl := (List.getElem?_eq_some_iff.mp hj).1
        have hj2 : j < names.length := by rw [← RWx.ll]; exact hjl
        obtain ⟨t', l', vs, _, g2, _, g4, _⟩ := RWx.row j (names[j]'hj2) (List.getElem?_eq_getElem hj2)
        rw [hj] at g2
        injection g2 with g2
        exact ⟨vs, by rw [g2]; exact g4⟩
      have RW3 := RWx.keep (keeps_else2 Sx el3) (fun l hl => by
        obtain ⟨vs, hvs⟩ := hlb l hl
        obtain ⟨n1, n2⟩ := nst (RWx.new l hl).1
        rw [hvs]
        exact el3 _ _ hvs n1 n2) (by rw [RWx.at_]; exact el3 _ _ RWx.at_ (nst nL).1 (nst nL).2)
      have e3 := ex.trans el3
      refine ⟨_, rfl, _, rfl, _, rfl, _, rfl, st, a, N, D, m + 1, j, names, nm, R, kvs, rfl, S3, by omega, e3 _ _ hN nNs nNa, nNs, nNa, hnd, hnl, hnm, hnb, Qx.else2 hDs hDa el3, RO, by omega, fun m' e v kvs' H4 RO' h1 h2 S4 e4 Q4 hfr hv => ?_⟩
      have Q3 := Qx.else2 hDs hDa el3
      have RW4 := RW3.keep (keeps_else3 S3 Q3.at_ e4) (fun l hl => by
        obtain ⟨vs, hvs⟩ := hlb l hl
        obtain ⟨n1, n2⟩ := nst (RWx.new l hl).1
        have hvs3 := el3 _ _ hvs n1 n2
        rw [hvs3]
        exact e4 _ _ hvs3 n1 n2 (ne_of hvs3 Q3.at_ (by intro z; cases z))) (by rw [RW3.at_]; exact e4 _ _ RW3.at_ (nst nL).1 (nst nL).2 (ne_of RW3.at_ Q3.at_ (by intro z; cases z)))
      obtain ⟨t, l, vs, g1, g2, g3, g4, g5⟩ := RW4.row j nm hnm
      refine ⟨_, rfl, _, rfl, Lr, _, (j : Nat), .ref t, rfl, rfl, SqL.of RW4.at_, atI_nat (by rw [List.getElem?_map, g1]; rfl), t, _, 1, .ref l, rfl, rfl, SqT.of g3, atI_nat (j := 1) rfl, .inl ⟨rfl, _, SqL.of g4⟩, _, rfl, l, _, _, rfl, rfl, g4, ?_, ?_⟩
      · have := dpAll_len g5
        rw [this, List.length_map]
        have : (ofP R nm).length ≤ R.length := List.length_filterMap_le ..
        exact fitR (by omega)
      · have RW5 := RW4.push hnd hnm g2 g4 g5 hv
        have nl := (RW4.new l (List.mem_of_getElem? g2)).1
        obtain ⟨n1, n2⟩ := nst nl
        have hap' : ∀ x y L, valV kvs' (chK x y) = some (.ref L) → L ∉ ls := fun x y L h hm => by
          rcases hfr x y L h with h | h
          · exact hap x y L h hm
          · obtain ⟨vs, hvs⟩ := hlb L hm
            obtain ⟨n1, n2⟩ := nst (RWx.new L hm).1
            rw [el3 _ _ hvs n1 n2] at h
            cases h
        refine ⟨_, _, _, _, _, R ++ [(nm, e)], kvs', ts, ls, m', rfl, RO', by rw [List.length_append, hRl]; rfl, by omega, by omega, S4.upd n1 n2, fun b o hb c1 c2 => ?_, ⟨by rw [upd_ne (ne_of Q4.at_ g4 (by intro z; cases z))]; exact Q4.at_, Q4.few, fun x y => ?_⟩, RW5, hap'⟩
        · rw [upd_ne (fun z => by rw [z, nl] at hb; cases hb)]
          have hb3 := e3 _ _ hb c1 c2
          exact e4 _ _ hb3 c1 c2 (fun z => by rw [z, nDH] at hb; cases hb)
        · rcases Q4.val x y with h | ⟨L, q1, q2, q3, q4⟩
          · exact .inl h
          · exact .inr ⟨L, q1, by rw [upd_ne fun z => hap' x y L q1 (by rw [z]; exact List.mem_of_getElem? g2)]; exact q2, q3, q4⟩
    · rintro σ Hx ⟨x4, x6, x7, x8, x9, R, kvs, ts, ls, m, rfl, RO, hRl, m0, m1, Sx, ex, Qx, RWx, hap⟩
      have hrl : (ts.map V.ref).length = names.length := by rw [List.length_map, RWx.tl]
      refine ⟨_, rfl, Lr, rfl, ⟨_, SqL.of RWx.at_⟩, fun M nM => ?_⟩
      refine lc_list (K := K) (a := Lr) (xs := ts.map V.ref) (fun j Hy => Same Hx Hy ∧ ∃ xs, Hy M = some (.lst xs) ∧ xs.length = j ∧ DpAll K Hy xs ((runRows (names.take j) R).map rowE)) ⟨same_new nM, [], upd_same, rfl, .nil⟩ (fun j Hy _ q => SqL.of (q.1 _ _ RWx.at_)) ?_ ?_
      · rintro j z Hy hz ⟨sy, xs, hM, hxl, hD⟩
        have hj : j < names.length := by
          have := (List.getElem?_eq_some_iff.mp hz).1
          omega
        obtain ⟨nm, hnm⟩ : ∃ nm, names[j]? = some nm := ⟨names[j]'hj, by simp⟩
        obtain ⟨t, l, vs, g1, g2, g3, g4, g5⟩ := RWx.row j nm hnm
        rw [List.getElem?_map, g1] at hz
        injection hz with hz
        subst hz
        refine ⟨t, _, rfl, SqT.of (sy _ _ g3), rfl, _, _, rfl, _, _, rfl, rfl, rfl, ?_⟩
        dsimp only [tYes]
        rw [if_pos rfl]
        refine ⟨_, rfl, _, rfl, l, vs, rfl, .inl ⟨SqL.of (sy _ _ g4), fun T nT => ⟨(by show 2 ≤ sizeLine; decide), fun U nU => ?_⟩⟩⟩
        have s2 := (same_new (o := .tup vs) nT).trans (same_new (o := .tup [.str nm, .ref T]) nU)
        have hT := same_new (o := .tup [.str nm, .ref T]) nU _ _ (upd_same (H := Hy) (a := T) (o := .tup vs))
        have hU := upd_same (H := upd Hy T (.tup vs)) (a := U) (o := .tup [.str nm, .ref T])
        generalize upd (upd Hy T (.tup vs)) U (.tup [.str nm, .ref T]) = H2 at s2 hT hU ⊢
        have hM2 := s2 _ _ hM
        have kk : Keeps H2 (upd H2 M (.lst (xs ++ [.ref U]))) := keeps_lst hM2
        refine ⟨xs, hM2, fitR (by omega), same_upd (sy.trans s2) nM, _, upd_same, by rw [List.length_append, hxl]; rfl, ?_⟩
        have e1 : (runRows (names.take (j + 1)) R).map rowE = (runRows (names.take j) R).map rowE ++ [rowE (nm, ofP R nm)] := by
          unfold runRows
          rw [List.take_add_one, hnm, List.map_append, List.map_append]
          rfl
        rw [e1]
        exact dpAll_snocR (.tup (SqT.of (kk.1 _ _ hU)) (.cons (.str nm) (.cons (.tup (SqT.of (kk.1 _ _ hT)) (dpAll_keep kk.1 kk.2 (dpAll_same (sy.trans s2) g5) (evs_noList _))) .nil))) (dpAll_keep kk.1 kk.2 (dpAll_same s2 hD) (rows_noList _))
      · rintro Hy ⟨sy, xs, hM, hxl, hD⟩
        rw [hrl, List.take_length] at hD
        exact k R m M xs Hy RO hRl m0 m1 (Sx.same sy) (ex.trans (.of_same sy)) ((Sx.live ex).none nM) hM hD
end
end XE

set_option Elab.async false
set_option linter.all false
set_option maxRecDepth 100000
set_option maxHeartbeats 1000000
/-! RxMkS: an instance made by an __init__ that may raise -/
namespace RxM
open PySem PySem.Spec PyProof.Rows L2
section
variable {X : Cx} {CX : CXT} {k : Nat} {f C : Addr} {fd : FuncData} {ps : List Str} {sp : Sp} {E : L2.St → XK} {x m : Str} {p pos apos : Pos} {e o : Expr} {es : List Expr} {ta : TE} {t : TA}
def tMakeS (C : Addr) (sp : Sp) (E : L2.St → XK) (t : TA) : TE := fun σ H Q => t σ H fun vs H1 => ∀ x dx, H1 x = none → H1 dx = none → dx ≠ x →
  sp (.ref x :: vs) (upd (upd H1 dx (.own x)) x (.ins C dx [])) (fun v H2 => v = .non ∧ Q (.ref x) H2) (E σ)
theorem run_makeS {pins : List (Addr × Obj)} {σ : L2.St} {H : Hp} {s : Shared} {Q : VK} {us : List Value} {vs : List V} (M : Mk X.K C f) (F : FnOk X.prog X.w X.K X.mg X.base CX k f fd ps sp) (hr : Room (k + 1) X.A) (hb : Binds X.K fd ps [])
    (hx : ∀ σ, PassesAt CX X σ (E σ)) (I : Inv X pins σ H s) (r : Vals vs us)
    (h : ∀ x dx, H x = none → H dx = none → dx ≠ x → sp (.ref x :: vs) (upd (upd H dx (.own x)) x (.ins C dx [])) (fun v H2 => v = .non ∧ Q (.ref x) H2) (E σ)) :
    wpAny (model X.prog X.w) X.A (call (.ref C) us) (EP X pins σ Q) X.xe s := by
  have hq := h (s.heap.objs.size + 1) s.heap.objs.size (I.hok.fresh (Nat.le_succ _)) (I.hok.fresh (Nat.le_refl _)) (Nat.ne_of_lt (Nat.lt_succ_self _))
  have I2 := Inv.made (C := C) I
  have r2 : Vals (V.ref (s.heap.objs.size + 1) :: vs) (Value.ref (s.heap.objs.size + 1) :: us) := .cons rfl r
  have hl : (Value.ref (s.heap.objs.size + 1) :: us).length = ps.length := by
    have e := r2.length
    rw [F.len _ _ _ _ hq] at e
    exact e.symm
  have b := hb _ (Value.ref (s.heap.objs.size + 1) :: us) I2.kIn (by rw [List.append_nil]; exact hl)
  rw [List.append_nil] at b
  refine wpAny_call (make_map (f := f) I.kIn M.makes M.init (beq_iff_eq.mp M.fn) (codeAny_mono (F.run _ X.stack _ _ ⟨Value.ref (s.heap.objs.size + 1) :: us, []⟩ (Value.ref (s.heap.objs.size + 1) :: us) _ _ (E σ) (hr.make C us [])
    (I2.env0.make C us []) b r2 hq) fun r s' hq' => ?_))
  cases r with
  | error e => exact hx σ pins _ _ e s' I2 hq'
  | ok fl =>
    cases fl with
    | ret u =>
      obtain ⟨v, H', I3, rv, ev, q3⟩ := I2.after hq'
      subst ev
      exact ⟨rv, ⟨V.ref (s.heap.objs.size + 1), H', I3, rfl, q3⟩⟩
    | next => exact False.elim hq'
    | brk => exact False.elim hq'
    | cont => exact False.elim hq'
theorem pe_makeS' (M : Mk X.K C f) (F : FnOk X.prog X.w X.K X.mg X.base CX k f fd ps sp) (hr : Room (k + 1) X.A) (hg : Gl X x) (hm : X.mg x = some (.ref C)) (hb : Binds X.K fd ps []) (hx : ∀ σ, PassesAt CX X σ (E σ))
    (ha : PA X (e :: es) t) (hdb : (x == ("__debug__" : Str)) = false := by decide) (he : starEach (e :: es) X.env = (false, eval e X.env) :: starEach es X.env := by rfl) (hpl : (backTo pos (starEach es X.env)).any (·.1) = false := by rfl) :
    PE X (.Call (.Name x p) (e :: es) [] pos) (tMakeS C sp E t) := by
  refine ⟨fun pins s σ H Q I h => ?_⟩
  refine wpAny_Call_Name_kw (ld_glob I hg hm ?_ hdb)
  refine PySem.W.callWith_K (h₀ := X.base) I.ok.mod.kin M.kp (thn (ha.run pos pins s σ H _ I h) fun us s1 ⟨vs, H1, I1, r, q⟩ => ⟨I1.kIn, ?_⟩) he hpl
  exact run_makeS M F hr hb hx I1 r q
theorem pe_makeS0' (M : Mk X.K C f) (F : FnOk X.prog X.w X.K X.mg X.base CX k f fd ps sp) (hr : Room (k + 1) X.A) (hg : Gl X x) (hm : X.mg x = some (.ref C)) (hb : Binds X.K fd ps []) (hx : ∀ σ, PassesAt CX X σ (E σ))
    (hdb : (x == ("__debug__" : Str)) = false := by decide) : PE X (.Call (.Name x p) [] [] pos) (tMakeS C sp E tNil) := by
  refine ⟨fun pins s σ H Q I h => ?_⟩
  refine wpAny_Call_Name_kw (ld_glob I hg hm ?_ hdb)
  exact PySem.W.callWith_K0 I.kIn M.kp (run_makeS (us := []) M F hr hb hx I .nil h)
end
end RxM

set_option Elab.async false
set_option linter.all false
set_option maxRecDepth 100000
set_option maxHeartbeats 4000000
namespace Rx
open PySem PySem.Spec PyProof.Rows L2
/-! ### a call by a method within a try; what a caught exception is -/
theorem passF {P : Program} {w : World} {X : Cx} {σ : L2.St} : PassesAt (L2.CX P w) X σ (fun _ _ _ => False) := fun pins H s e s' I h => by
  obtain ⟨_, _, _, _, _, _, _, _, _, _, _, _, h⟩ := h
  exact h.elim
theorem passFA {P : Program} {w : World} {X : Cx} : Passes (L2.CX P w) X (fun _ _ _ => False) := fun pins σ H s e s' I h => by
  obtain ⟨_, _, _, _, _, _, _, _, _, _, _, _, h⟩ := h
  exact h.elim
def tMethS (C : Addr) (m : Str) (sp : Sp) (E : L2.St → XK) (ta : TE) (t : TA) : TE :=
  fun σ H Q => ta σ H fun x H1 => ∃ a dx fs, x = .ref a ∧ H1 a = some (.ins C dx fs) ∧ List.lookup m fs = none ∧ t σ H1 fun vs H2 => sp (x :: vs) H2 Q (E σ)
theorem pe_methS {X : Cx} {CX : CXT} {k : Nat} {f C : Addr} {fd : FuncData} {ps : List Str} {sp : Sp} {E : L2.St → XK} {m : Str} {pos apos : Pos} {e o : Expr} {es : List Expr} {ta : TE} {t : TA} {pl : Sem Bool}
    (he : PE X o ta) (c : Cls X.K C) (hm : Meth X.K C m f) (F : FnOk X.prog X.w X.K X.mg X.base CX k f fd ps sp) (hr : Room k X.A) (hb : L2.Binds X.K fd ps []) (hx : ∀ σ, PassesAt CX X σ (E σ)) (ha : PA X (e :: es) t)
    (hst : starEach (e :: es) X.env = (false, eval e X.env) :: starEach es X.env := by rfl)
    (hpl : ((backTo pos (starEach es X.env)).any fun x => x.fst) = false := by rfl)
    (ht : eval ((o.Attribute m apos).Call (e :: es) [] pos) X.env = (do
      let ov ← eval o X.env
      standAt apos.atName
      let __x ← holding [ov] (getMethod ov m pl)
      match __x with
        | (f, first) => callWith pos f first (backTo pos (starEach (e :: es) X.env)) (backToKw pos (keywordEach [] X.env))) := by rfl) :
    PE X ((o.Attribute m apos).Call (e :: es) [] pos) (tMethS C m sp E ta t) := by
  refine ⟨fun pins s σ H Q I h => PySem.W.methodCall_KW (thn (he.run pins s σ H _ I h) fun u s1 x => ?_) ht⟩
  obtain ⟨x, H1, I1, rx, a, dx, fs, rfl, ea, l, q⟩ := x
  cases (show u = Value.ref a from rx)
  refine getmeth_ok I1 ea c hm l (PySem.W.callWith_K I.ok.mod.kin hm.kp (thn (ha.run pos pins s1 σ H1 _ I1 q) fun us s2 x => ?_) hst hpl)
  obtain ⟨vs, H2, I2, r, q2⟩ := x
  exact ⟨Inv.kIn I2, run_fnS F hr hb (hx σ) I2 (Paired.cons (show L2.RelV (V.ref a) (Value.ref a) from rfl) r) q2⟩
/-- isinstance(e, c) of a caught exception with fields -/
def rIsXd (K : PySem.W.Frag) (a : Addr) (cls : Value) (d : Option Addr) (C : Addr) : List V → Hp → VK → Prop := fun xs H Q => ∃ (c : V) (u : Value) (b : Bool) (dd : Addr) (fs : List (Str × V)), xs = [.ref a, c] ∧ cls = .ref C ∧ d = some dd ∧ ClsV c u ∧ H dd = some (.xd fs) ∧ PySem.W.kitOne K (.ref C) u = some b ∧ Q (.bl b) H
theorem call_isXd {X : Cx} {a C : Addr} {oe : Obj} {cls : Value} {d : Option Addr} {pn : List (Addr × Obj)} (T : ErrC X.K C) (D : ClsD X.K) (hz : Zc cls d oe) (hf : ∃ vs, oe.data = .fields vs) : CallR (X.suite a ((a, oe) :: pn)) (.builtin "isinstance") (rIsXd X.K a cls d C) := by
  intro pins s σ H xs us Q I r h
  obtain ⟨c, u, b, dd, fs, rfl, rfl, rfl, k, ed, e, q⟩ := h
  obtain ⟨u1, u2, rfl, r1, r2⟩ := vals2 r
  cases (show u1 = Value.ref a from r1)
  cases k.eq r2
  obtain ⟨ha, _⟩ := I.pin (a, oe) (List.mem_append_left pins List.mem_cons_self)
  obtain ⟨mA, hns, _⟩ := I.hok dd (HO.xd fs) ed
  obtain ⟨od, hod, hl⟩ := lookIn_ns hns
  obtain ⟨vs, hv⟩ := hf
  obtain ⟨hz1, hz2⟩ := hz
  have J : PySem.W.InstAt s.heap a oe C (some od) := ⟨ha, hz1, by unfold PySem.W.notCls; rw [hv], by rw [hz2]; exact hod⟩
  exact PySem.W.kia_one (PySem.W.kitx_exc T.hcl T.hga T.hgt T.hsb T.hac D.hn D.ht T.hmo) I.kIn J e (fun z => nomatch z) fun tk => ⟨.bl b, H, I.tok tk, rfl, q⟩
end Rx

set_option Elab.async false
set_option linter.all false
set_option maxRecDepth 100000
set_option maxHeartbeats 1000000
/-! XS7: _law_bad_record -/
namespace XE
open PySem PySem.Spec PyProof.Rows L2 RZ Rx SX Rc RxM
abbrev sLBad : Stmt := topS 45
/-- what the law's own try finds -/
def spBad (K : PySem.W.Frag) : Sp := fun vs H Q _ => ∃ (ds : List PyData) (a : Addr) (xs : List V), vs = [.ref a] ∧ (SqL K H a xs ∨ SqT K H a xs) ∧ DpAll K H xs ds ∧ szAll ds ≤ 4900 ∧ (∀ d ∈ fixAll ds, Gd d) ∧ ds.length ≤ 1000 ∧ (∀ r ∈ rowsOfD (fixAll ds), r.2.length ≤ 1000) ∧
  (∀ i : Nat, rowDue (fixAll ds) = some i → ∀ v H', Same H H' → Dp K H' v (.list [.str "row", .none, .int (i : Nat)]) → Q v H') ∧
  (rowDue (fixAll ds) = none → ∀ (n : Str) (k : Nat), evsBad ((rowsOfD (fixAll ds)).map (·.1)) (rowsOfD (fixAll ds)) = some (n, k) → ∀ v H', Same H H' → Dp K H' v (.list [.str "event", .str n, .int (k : Nat)]) → Q v H') ∧
  (rowDue (fixAll ds) = none → evsBad ((rowsOfD (fixAll ds)).map (·.1)) (rowsOfD (fixAll ds)) = none → ∀ x : EvId, matchR (rowsTy ((rowsOfD (fixAll ds)).map (·.1)) (rowsOfD (fixAll ds))) = .error x → ∀ v H', Same H H' → Dp K H' v (.list [.str "message", .str x.1, .int (x.2 : Nat)]) → Q v H') ∧
  (∀ rs ms, GoodR (fixAll ds) rs ms → ∀ ids, ExecOk (rs.map (·.1)) (lnOf rs) (causesF ms) ids →
    (orderF (rs.map (·.1)) (lnOf rs) (reachF ids) = none → ∀ H', Same H H' → Q .non H') ∧
    ∀ n, orderF (rs.map (·.1)) (lnOf rs) (reachF ids) = some n → ∀ v H', Same H H' → Dp K H' v (.list [.str "order", .str n, .int (reachF ids n + 1 : Nat)]) → Q v H')
section
variable {P : Program} {w : World} {K : PySem.W.Frag} {mg : Str → Option Value} {base : Heap} {C CR CE CQ : Addr}
abbrev lbN : List Str := ["_law_rows_here", "_law_found", "e"]
theorem scLB : FnScope lbN ["_law_rows_here"] (defScope sLBad) := ⟨rfl, rfl, rfl, by decide +kernel, rfl, by decide +kernel, by decide +kernel⟩
theorem ok_lbad {f fI : Addr} {fd fdI : FuncData} (F : Fun K "_law_bad_record" "_law_bad_record" sLBad f fd) (misi : mg "isinstance" = none) (mR : mg "RerunError" = some (.ref CR)) (mV : mg "ValueError" = none) (mE : mg "BadEvent" = some (.ref CE)) (TB : RaiT P w K mg base "BadRecord" CQ ["reason", "name", "number"]) (TEB : ErrT P w K mg base "BadRecord" CQ ["reason", "name", "number"]) (cd : ClsD K)
    (kR : PySem.W.kitOne K (.ref CQ) (.ref CR) = some true) (kV : PySem.W.kitOne K (.ref CQ) (.type "ValueError") = some true) (kE : PySem.W.kitOne K (.ref CQ) (.ref CE) = some false)
    (MQ : Mk K C fI) (mgQ : mg "Record" = some (.ref C)) (GQ : FnOk P w K mg base (L2.CX P w) 6 fI fdI ["self", "rows"] (spRInit K C CQ)) (bQ : Binds K fdI ["self", "rows"] []) : FnOk P w K mg base CX0 8 f fd ["_law_rows_here"] (spBad K) := by
  refine F.ok scLB (fun vs H Q E h => ?_) (fun cdv A outer s H vs Q E hr h => ?_)
  · obtain ⟨_, _, _, rfl, _⟩ := h
    rfl
  · obtain ⟨ds, a, xs, rfl, hA, hD, hsz, hG, hdl, hrl, qR, qE, qM, qO⟩ := h
    have hr0 : Room 7 _ := hr
    refine ⟨_, (pss_cons (ps_set (i := 1) scLB.nd rfl (.inl rfl) pe_non) (pss_cons (ps_try_as (i := 2) rfl rfl scLB.nd rfl rfl ⟨rfl, by decide, .inl TB.mgx⟩ takes0 (fun W pn xe tk _ => (pss_one (ps_expr (pe_makeS' MQ GQ hr rfl mgQ bQ (fun σ => passAt tk σ) (pa_cons (pv 0) pa_nil))))) (fun a oe cls d pn hz hf => (pss_cons (ps_set (i := 1) scLB.nd rfl (.inl rfl) (pe_lst (pa_cons (pe_xf TB.xf (TB.no "reason" (by simp)) hz hf (pv 2)) (pa_cons (pe_xf TB.xf (TB.no "name" (by simp)) hz hf (pv 2)) (pa_cons (pe_xf TB.xf (TB.no "number" (by simp)) hz hf (pv 2)) pa_nil))))) (pss_one (ps_if (PW.pt (pw_or (pt_not (pt_val (pe_callB (call_isXd TEB.err cd hz hf) (by rfl) misi (by decide +kernel) (pa_cons (pv 2) (pa_cons (pe_glob (v := .ref CR) rfl mR rfl) pa_nil))))) (pw_or (pt_not (pt_val (pe_callB (call_isXd TEB.err cd hz hf) (by rfl) misi (by decide +kernel) (pa_cons (pv 2) (pa_cons (pe_bltn (v := .ty "ValueError") (by rfl) mV (by decide +kernel) rfl) pa_nil))))) (pw_or1 (pt_val (pe_callB (call_isXd TEB.err cd hz hf) (by rfl) misi (by decide +kernel) (pa_cons (pv 2) (pa_cons (pe_glob (v := .ref CE) rfl mE rfl) pa_nil)))))))) (pss_one (ps_set (i := 1) scLB.nd rfl (.inl rfl) (pe_lst (pa_cons pe_bl pa_nil)))) pss_nil))))) (pss_one (ps_ret (pv 1))))), ?_⟩
    refine ⟨_, rfl, fun p dx np ndx ndp => ?_⟩
    have s1 : Same H (upd (upd H dx (.own p)) p (.ins C dx [])) := (same_new ndx).trans (same_new (by rw [upd_ne (Ne.symm ndp)]; exact np))
    have hp1 : upd (upd H dx (.own p)) p (.ins C dx []) p = some (.ins C dx []) := upd_same
    generalize upd (upd H dx (.own p)) p (.ins C dx []) = H1 at s1 hp1 ⊢
    have hA1 := sq_same hA s1
    have hD1 := dpAll_same s1 hD
    have sT : ∀ {H' : Hp}, (∀ b o, H1 b = some o → b ≠ p → H' b = some o) → Same H H' := fun h b o e => h _ _ (s1 _ _ e) (fun z => by rw [z, np] at e; cases e)
    refine ⟨p, dx, ds, a, xs, rfl, hp1, hA1, hD1, hsz, hG, hdl, hrl, fun i hi H' dx' sm hd hx => ?_, fun h1 n k h2 H' dx' sm hd hx => ?_, fun h1 h2 x h3 H' dx' sm hd hx => ?_, fun rs ms GR ids ok => ⟨fun ho H' sm _ => ⟨rfl, _, rfl, (qO rs ms GR ids ok).1 ho H' (sT sm)⟩, fun n ho H' dx' sm hd hx => ?_⟩⟩
    · refine ⟨true, TB.self, (fun _ ea hea => ?_), fun z => by cases z⟩
      refine ⟨_, rfl, rfl, rfl, dx', _, _, rfl, hx, rfl, _, rfl, rfl, rfl, dx', _, _, rfl, hx, rfl, _, rfl, rfl, rfl, dx', _, _, rfl, hx, rfl, (by show 3 ≤ sizeLine; decide), fun q nq => ?_⟩
      have sq := same_new (o := .lst [.str "row", .non, .int (i : Nat)]) nq
      have hx2 := sq _ _ hx
      refine ⟨_, rfl, _, _, _, dx', _, rfl, rfl, rfl, .own _, hx2, kR, _, rfl, iteFc rfl ?_⟩
      refine ⟨_, rfl, _, _, _, dx', _, rfl, rfl, rfl, .ty _, hx2, kV, _, rfl, iteFc rfl ?_⟩
      refine ⟨_, rfl, _, _, _, dx', _, rfl, rfl, rfl, .own _, hx2, kE, _, rfl, iteFc rfl ?_⟩
      exact ⟨_, rfl, qR i hi _ _ ((sT sm).trans sq) (.lst (SqL.of upd_same) (.cons (.str _) (.cons .non (.cons (.int _) .nil))))⟩
    · refine ⟨true, TB.self, (fun _ ea hea => ?_), fun z => by cases z⟩
      refine ⟨_, rfl, rfl, rfl, dx', _, _, rfl, hx, rfl, _, rfl, rfl, rfl, dx', _, _, rfl, hx, rfl, _, rfl, rfl, rfl, dx', _, _, rfl, hx, rfl, (by show 3 ≤ sizeLine; decide), fun q nq => ?_⟩
      have sq := same_new (o := .lst [.str "event", .str n, .int (k : Nat)]) nq
      have hx2 := sq _ _ hx
      refine ⟨_, rfl, _, _, _, dx', _, rfl, rfl, rfl, .own _, hx2, kR, _, rfl, iteFc rfl ?_⟩
      refine ⟨_, rfl, _, _, _, dx', _, rfl, rfl, rfl, .ty _, hx2, kV, _, rfl, iteFc rfl ?_⟩
      refine ⟨_, rfl, _, _, _, dx', _, rfl, rfl, rfl, .own _, hx2, kE, _, rfl, iteFc rfl ?_⟩
      exact ⟨_, rfl, qE h1 n k h2 _ _ ((sT sm).trans sq) (.lst (SqL.of upd_same) (.cons (.str _) (.cons (.str _) (.cons (.int _) .nil))))⟩
    · refine ⟨true, TB.self, (fun _ ea hea => ?_), fun z => by cases z⟩
      refine ⟨_, rfl, rfl, rfl, dx', _, _, rfl, hx, rfl, _, rfl, rfl, rfl, dx', _, _, rfl, hx, rfl, _, rfl, rfl, rfl, dx', _, _, rfl, hx, rfl, (by show 3 ≤ sizeLine; decide), fun q nq => ?_⟩
      have sq := same_new (o := .lst [.str "message", .str x.1, .int (x.2 : Nat)]) nq
      have hx2 := sq _ _ hx
      refine ⟨_, rfl, _, _, _, dx', _, rfl, rfl, rfl, .own _, hx2, kR, _, rfl, iteFc rfl ?_⟩
      refine ⟨_, rfl, _, _, _, dx', _, rfl, rfl, rfl, .ty _, hx2, kV, _, rfl, iteFc rfl ?_⟩
      refine ⟨_, rfl, _, _, _, dx', _, rfl, rfl, rfl, .own _, hx2, kE, _, rfl, iteFc rfl ?_⟩
      exact ⟨_, rfl, qM h1 h2 x h3 _ _ ((sT sm).trans sq) (.lst (SqL.of upd_same) (.cons (.str _) (.cons (.str _) (.cons (.int _) .nil))))⟩
    · refine ⟨true, TB.self, (fun _ ea hea => ?_), fun z => by cases z⟩
      refine ⟨_, rfl, rfl, rfl, dx', _, _, rfl, hx, rfl, _, rfl, rfl, rfl, dx', _, _, rfl, hx, rfl, _, rfl, rfl, rfl, dx', _, _, rfl, hx, rfl, (by show 3 ≤ sizeLine; decide), fun q nq => ?_⟩
      have sq := same_new (o := .lst [.str "order", .str n, .int (reachF ids n + 1 : Nat)]) nq
      have hx2 := sq _ _ hx
      refine ⟨_, rfl, _, _, _, dx', _, rfl, rfl, rfl, .own _, hx2, kR, _, rfl, iteFc rfl ?_⟩
      refine ⟨_, rfl, _, _, _, dx', _, rfl, rfl, rfl, .ty _, hx2, kV, _, rfl, iteFc rfl ?_⟩
      refine ⟨_, rfl, _, _, _, dx', _, rfl, rfl, rfl, .own _, hx2, kE, _, rfl, iteFc rfl ?_⟩
      exact ⟨_, rfl, (qO rs ms GR ids ok).2 n ho _ _ ((sT sm).trans sq) (.lst (SqL.of upd_same) (.cons (.str _) (.cons (.str _) (.cons (.int _) .nil))))⟩
end
end XE

set_option Elab.async false
set_option linter.all false
set_option maxRecDepth 100000
set_option maxHeartbeats 1000000
/-! XK29: the law -/
namespace XE
open PySem PySem.Spec PyProof.Rows L2 RZ Rx SX Rc
abbrev sLaw : Stmt := topS 49
def spLaw (K : PySem.W.Frag) : Sp := fun vs H Q _ => ∃ (a : Addr) (ns : List Int), vs = [.ref a] ∧ SqL K H a (ns.map V.int) ∧ ∀ H', Q (.bl true) H'
theorem rowG_of {names : List Str} {R : RunL} (hR : RunOk names R) (hl : R.length ≤ 8) (h0 : 0 < names.length) (hn : ∀ x ∈ names, nameB x = true) : ∀ r ∈ runRows names R, RowG r := fun r hr => by
  obtain ⟨n, hn2, rfl⟩ := List.mem_map.mp hr
  have ok : ∀ e ∈ ofP R n, e.ok (othersL names n) = true := fun e he => (hR.names _ (ofP_mem he)).2
  have hle := ofP_len R n
  refine ⟨hn n hn2, lay_tup fun d hd => ?_, ?_, ?_⟩
  · obtain ⟨e, he, rfl⟩ := List.mem_map.mp hd
    exact ev_lay hn (ok e he)
  · show smAll _ = true
    refine smAll_of fun d hd => ?_
    obtain ⟨e, he, rfl⟩ := List.mem_map.mp hd
    exact ev_sm hn (ok e he)
  · have := szAll_evs (ofP R n)
    show 2 + szAll ((ofP R n).map Ev.data) ≤ 50
    omega
theorem rowD_E {r : Str × List Ev} (h : RowG r) : RowD (rowE r) := pair_row (part_name h.nm) h
mutual
theorem sz_fixR : ∀ d : PyData, sz (fix d) = sz d
  | .none => rfl
  | .bool _ => rfl
  | .int _ => rfl
  | .str _ => rfl
  | .dict _ => rfl
  | .list xs => by rw [fix]; simp only [sz]; rw [szAll_fixR xs]
  | .tuple xs => by rw [fix]; simp only [sz]; rw [szAll_fixR xs]
theorem szAll_fixR : ∀ xs : List PyData, szAll (fixAll xs) = szAll xs
  | [] => rfl
  | x :: xs => by rw [fixAll, szAll, szAll, sz_fixR x, szAll_fixR xs]
end
theorem rowOf_few {d : PyData} {r : Str × List PyData} (h : rowOf d = some r) : r.2.length ≤ sz d := by
  unfold rowOf at h
  split at h
  · split at h
    · injection h with h
      subst h
      rename_i es _
      have := len_szAll es
      show es.length ≤ 2 + (1 + (2 + szAll es + 0))
      omega
    · cases h
  · cases h
theorem rows_few {ds : List PyData} (h : ∀ d ∈ ds, RowD d) : ∀ r ∈ rowsOfD (fixAll ds), r.2.length ≤ 1000 := fun r hr => by
  obtain ⟨d, hd, hr⟩ := List.mem_filterMap.mp hr
  rw [fixAll_map] at hd
  obtain ⟨e, he, rfl⟩ := List.mem_map.mp hd
  have h1 := rowOf_few hr
  rw [sz_fixR] at h1
  have h2 := (h e he).sz
  omega
theorem rows_gd {ds : List PyData} (h : ∀ d ∈ ds, RowD d) : ∀ d ∈ fixAll ds, Gd d := fun d hd => by
  rw [fixAll_map] at hd
  obtain ⟨e, he, rfl⟩ := List.mem_map.mp hd
  exact gd_fix (h e he).ly (by decide) (h e he).sm
theorem rows_sz {ds : List PyData} (h : ∀ d ∈ ds, RowD d) (hl : ds.length ≤ 41) : szAll ds ≤ 4900 := by
  have := szAll_le (c := 100) (xs := ds) fun d hd => (h d hd).sz
  omega
theorem rows_smd {ds : List PyData} (h : ∀ d ∈ ds, RowD d) (hl : ds.length ≤ 41) : SmD 5 (.list ds) := .lst (by omega) fun d hd => smd_of (h d hd).ly (by have := (h d hd).sz; omega)
theorem res_no : ∀ w ∈ reservedL, nameB w = false ∧ PyData.strOk w = true ∧ w.length ≤ 100000 := by decide +kernel
def resD (w : Str) : PyData := .list [.tuple [.str w, .tuple []]]
def handS : List PyData := [.list [], .tuple []] ++ reservedL.map resD
theorem handS_ok : ∀ d ∈ handS, ∃ es, kids d = some es ∧ (∀ e ∈ es, RowD e) ∧ es.length ≤ 41 ∧ rowDue (fixAll es) = some 0 := fun d hd => by
  rcases List.mem_append.mp hd with hd | hd
  · simp only [List.mem_cons, List.not_mem_nil, or_false] at hd
    rcases hd with rfl | rfl
    · exact ⟨[], rfl, by simp, by decide, rfl⟩
    · exact ⟨[], rfl, by simp, by decide, rfl⟩
  · obtain ⟨w, hw, rfl⟩ := List.mem_map.mp hd
    obtain ⟨h1, h2, h3⟩ := res_no w hw
    refine ⟨_, rfl, fun e he => ?_, by show 1 ≤ 41; decide, ?_⟩
    · rw [List.mem_singleton.mp he]
      refine tup_row (fun x hx => ?_) (by show 1 + (2 + 0 + 0) ≤ 98; decide)
      simp only [List.mem_cons, List.not_mem_nil, or_false] at hx
      rcases hx with rfl | rfl
      · exact ⟨lay_str h2, decide_eq_true h3⟩
      · exact ⟨lay_tup (n := 1) (by simp), rfl⟩
    · have : rowOf (.tuple [fix (.str w), fix (.tuple [])]) = none := rowOf_nm h1
      show (if ([PyData.tuple [fix (.str w), fix (.tuple [])]] = []) then some 0 else rowBad [] 0 [.tuple [fix (.str w), fix (.tuple [])]]) = some 0
      rw [if_neg (by simp), rowBad_no this]
section
variable {P : Program} {w : World} {K : PySem.W.Frag} {mg : Str → Option Value} {base : Heap}
abbrev lawN : List Str := ["_law_script", "_law_stream", "_law_many", "_law_names", "_law_good", "_law_rows_here", "_law_turn", "_law_at", "_law_first_here", "_law_handed", "_law_found", "_law_some", "_law_word_here"]
theorem scLw : FnScope lawN ["_law_script"] (defScope sLaw) := ⟨rfl, rfl, rfl, by decide +kernel, rfl, by decide +kernel, by decide +kernel⟩
theorem ok_law {fD fW fR fP fF fL fB fS fV f : Addr} {fd fdD fdW fdR fdP fdF fdL fdB fdS fdV : FuncData} (F : Fun K "law" "law" sLaw f fd) (mlen : mg "len" = none) (mlist : mg "list" = none) (mrange : mg "range" = none) (mtup : mg "tuple" = none) (mall : mg "all" = none) (mmin : mg "min" = none)
    (CD : Cal P w K mg base 1 "_law_draw" fD fdD ["_law_stream", "_law_many"] spDraw) (CW : Cal P w K mg base 3 "_law_words" fW fdW ["_law_stream", "_law_many"] spWordsQ) (CR : Cal P w K mg base 4 "_law_rows" fR fdR ["_law_stream", "_law_names", "_law_many"] (spRowsL K))
    (CP : Cal P w K mg base 3 "_law_spoilt" fP fdP ["_law_stream", "_law_rows_here"] (spSpRow K)) (CF : Cal P w K mg base 2 "_law_first" fF fdF ["_law_rows_here"] (spFirstR K)) (CL : Cal P w K mg base 7 "_law_lists_of" fL fdL ["_law_thing"] (spLists K 5))
    (CB : Cal P w K mg base 8 "_law_bad_record" fB fdB ["_law_rows_here"] (spBad K)) (CS : Cal P w K mg base 6 "_law_same" fS fdS ["_law_found", "_law_due"] (spSame K 4)) (CV : Cal P w K mg base 1 "_law_reserved" fV fdV [] (spReserved K)) :
    FnG P w K mg base 10 f fd ["_law_script"] (spLaw K) := by
  refine fnG_of F scLw (fun vs H Q E h => ?_) (fun cdv A outer s H vs Q hg hr h => ?_)
  · obtain ⟨a, ns, rfl, _⟩ := h
    rfl
  · obtain ⟨sc, ns, rfl, hsc, k⟩ := h
    have hu := hu_of hr
    have hr1 : Room 1 _ := hr.mono (by decide)
    have hr2 : Room 2 _ := hr.mono (by decide)
    have hr3 : Room 3 _ := hr.mono (by decide)
    have hr4 : Room 4 _ := hr.mono (by decide)
    have hr6 : Room 6 _ := hr.mono (by decide)
    have hr7 : Room 7 _ := hr.mono (by decide)
    have hr8 : Room 8 _ := hr.mono (by decide)
    refine ⟨_, (pss_cons (ps_set (i := 1) scLw.nd rfl (.inl rfl) (pe_lst (pa_cons (pe_callTy call_list_of (by rfl) mlist (by decide +kernel) (pa_cons (pv 0) pa_nil)) (pa_cons pe_int (pa_cons pe_int (pa_cons pe_int pa_nil)))))) (C8.pss_cut (ps_set (i := 2) scLw.nd rfl (.inl rfl) (pe_ix ix_list (pe_lst (pa_cons (pe_op op_add pe_int (pe_call CD.ok hr1 rfl CD.mg CD.kp CD.bi .nil pass0 (pa_cons (pv 1) (pa_cons pe_int pa_nil)))) (pa_cons pe_int (pa_cons pe_int pa_nil)))) (pe_ix ix_list (pe_lst (pa_cons pe_int (pa_cons pe_int (pa_cons pe_int (pa_cons pe_int (pa_cons pe_int (pa_cons pe_int (pa_cons pe_int (pa_cons pe_int pa_nil))))))))) (pe_call CD.ok hr1 rfl CD.mg CD.kp CD.bi .nil pass0 (pa_cons (pv 1) (pa_cons pe_int pa_nil))) (fun _ _ => rfl)) (fun _ _ => rfl))) (pss_cons (ps_set (i := 3) scLw.nd rfl (.inl rfl) (pe_slice sl_list (pe_op op_cat (pe_call CW.ok hr3 rfl CW.mg CW.kp CW.bi .nil pass0 (pa_cons (pv 1) (pa_cons (pe_callB (call_min2 rfl) (by rfl) mmin (by decide +kernel) (pa_cons (pv 2) (pa_cons pe_int pa_nil))) pa_nil))) (pe_lst (pa_cons pe_str pa_nil))) po_none (po_some (pv 2)))) (pss_cons (ps_set (i := 4) scLw.nd rfl (.inl rfl) (pe_call CR.ok hr4 rfl CR.mg CR.kp CR.bi .nil pass0 (pa_cons (pv 1) (pa_cons (pv 3) (pa_cons (pe_call CD.ok hr1 rfl CD.mg CD.kp CD.bi .nil pass0 (pa_cons (pv 1) (pa_cons pe_int pa_nil))) pa_nil))))) (pss_cons (ps_set (i := 5) scLw.nd rfl (.inl rfl) (pe_callTy call_list_of (by rfl) mlist (by decide +kernel) (pa_cons (pv 4) pa_nil))) (C8.pss_cut (ps_for PassesOwn.never rfl (pi_range1 rfl mrange (pa_cons (pe_call CD.ok hr1 rfl CD.mg CD.kp CD.bi .nil pass0 (pa_cons (pv 1) (pa_cons pe_int pa_nil))) pa_nil)) (pg_name (i := 6) scLw.nd rfl (.inl rfl)) (pss_cons (ps_set (i := 7) scLw.nd rfl (.inl rfl) (pe_call CD.ok hr1 rfl CD.mg CD.kp CD.bi .nil pass0 (pa_cons (pv 1) (pa_cons (pe_callB call_len_seq (by rfl) mlen PySem.boot_len (pa_cons (pv 5) pa_nil)) pa_nil)))) (pss_one (ps_set (i := 5) scLw.nd rfl (.inl rfl) (pe_op op_cat (pe_op op_cat (pe_slice sl_list (pv 5) po_none (po_some (pv 7))) (pe_lst (pa_cons (pe_call CP.ok hr3 rfl CP.mg CP.kp CP.bi .nil pass0 (pa_cons (pv 1) (pa_cons (pv 4) pa_nil))) pa_nil))) (pe_slice sl_list (pv 5) (po_some (pe_op op_add (pv 7) pe_int)) po_none)))))) (pss_cons (ps_set (i := 8) scLw.nd rfl (.inl rfl) (pe_call CF.ok hr2 rfl CF.mg CF.kp CF.bi .nil pass0 (pa_cons (pv 5) pa_nil))) (C8.pss_cut (ps_for PassesOwn.never rfl (pi_tup (pe_tup (pa_cons (pv 5) (pa_cons (pe_callTy call_tuple_of (by rfl) mtup (by decide +kernel) (pa_cons (pv 5) pa_nil)) (pa_cons (pe_call CL.ok hr7 rfl CL.mg CL.kp CL.bi .nil pass0 (pa_cons (pv 5) pa_nil)) pa_nil))))) (pg_name (i := 9) scLw.nd rfl (.inl rfl)) (pss_cons (ps_set (i := 10) scLw.nd rfl (.inl rfl) (pe_call CB.ok hr8 rfl CB.mg CB.kp CB.bi .nil pass0 (pa_cons (pv 9) pa_nil))) (pss_cons (ps_if (PW.pt (pw_and (pt_cmpR op_notN (pv 8) pe_non (nomark _)) (pw_and1 (pt_not (pt_val (pe_call CS.ok hr6 rfl CS.mg CS.kp CS.bi .nil pass0 (pa_cons (pv 10) (pa_cons (pe_lst (pa_cons pe_str (pa_cons pe_non (pa_cons (pv 8) pa_nil)))) pa_nil)))))))) (pss_one (ps_ret pe_bl)) pss_nil) (pss_one (ps_if (PW.pt (pw_and (pt_cmpR op_isN (pv 8) pe_non (nomark _)) (pw_and (pt_cmpR op_notN (pv 10) pe_non (nomark _)) (pw_and1 (pt_cmpR op_notIn_seq (pe_ix ix_list (pv 10) pe_int (fun _ _ => rfl)) (pe_tup (pa_cons pe_str (pa_cons pe_str (pa_cons pe_str pa_nil)))) rfl))))) (pss_one (ps_ret pe_bl)) pss_nil))))) (pss_cons (ps_set (i := 11) scLw.nd rfl (.inl rfl) (pe_op op_cat (pe_lst (pa_cons (pe_lst pa_nil) (pa_cons (pe_tup pa_nil) pa_nil))) (pe_lc (own := [("_law_word_here", 12)]) (g := gName 12) (tt := tYes) (te := tLst (tCons (tTup (tCons (tVar 12) (tCons (tTup tNil) tNil))) tNil)) rfl scLw.nd (pi_list (pe_call0 CV.ok hr1 (by rfl) CV.mg CV.kp CV.bi .nil pass0)) (blkOk_by (own := [("_law_word_here", 12)]) (N := lawN) (sc := defScope sLaw) (by decide +kernel)) (fun _ _ _ _ _ => (pg_name (i := 12) scLw.nd rfl (Or.inl rfl))) (fun _ _ _ _ _ => pts_nil) (fun _ _ _ _ _ => (pe_lst (pa_cons (pe_tup (pa_cons (pv 12) (pa_cons (pe_tup pa_nil) pa_nil))) pa_nil)))))) (pss_one (ps_ret (pe_callB (cr_all rfl) (by rfl) mall (by decide +kernel) (pa_cons (pe_lc (own := [("_law_handed", 9)]) (g := gName 9) (tt := tYes) (te := tCall (spSame K 4) [] E0 (tCons (tCall (spBad K) [] E0 (tCons (tVar 9) tNil)) (tCons (tLst (tCons (tC (.str "row")) (tCons (tC .non) (tCons (tC (.int 0)) tNil)))) tNil))) rfl scLw.nd (pi_list (pv 11)) (blkOk_by (own := [("_law_handed", 9)]) (N := lawN) (sc := defScope sLaw) (by decide +kernel)) (fun _ _ _ _ _ => (pg_name (i := 9) scLw.nd rfl (Or.inl rfl))) (fun _ _ _ _ _ => pts_nil) (fun _ _ _ _ _ => (pe_call CS.ok hr6 rfl CS.mg CS.kp CS.bi .nil pass0 (pa_cons (pe_call CB.ok hr8 rfl CB.mg CB.kp CB.bi .nil pass0 (pa_cons (pv 9) pa_nil)) (pa_cons (pe_lst (pa_cons pe_str (pa_cons pe_non (pa_cons pe_int pa_nil)))) pa_nil))))) pa_nil))))))))))))), ?_⟩
    refine ⟨_, rfl, sc, _, rfl, .inl hsc, fun a1 n1 => ⟨(by show 4 ≤ sizeLine; decide), fun st nst => ?_⟩⟩
    have st1 : a1 ≠ st := fun z => by rw [← z, upd_same] at nst; cases nst
    have S0 : StreamAt (upd (upd H a1 (.lst (ns.map V.int))) st (.lst [.ref a1, .int 0, .int 0, .int 0])) st a1 0 := ⟨ns, 0, 0, by rw [upd_same]; rfl, by rw [upd_ne st1, upd_same], by decide, by decide⟩
    generalize upd (upd H a1 (.lst (ns.map V.int))) st (.lst [.ref a1, .int 0, .int 0, .int 0]) = H0 at S0 ⊢
    refine ⟨fun σ Hx => ∃ m : Nat, σ = [some (.ref sc), some (.ref st), some (.int (m : Nat)), none, none, none, none, none, none, none, none, none, none] ∧ StreamAt Hx st a1 2 ∧ 1 ≤ m ∧ m ≤ 41, ?_, ?_⟩
    · refine ⟨_, rfl, st, a1, 0, 6, rfl, by decide, by decide, S0, by decide, fun k1 H1 k10 k11 S1 el1 => ?_⟩
      obtain ⟨j1, rfl⟩ := Int.eq_ofNat_of_zero_le k10
      refine ⟨_, _, rfl, rfl, (by show 3 ≤ sizeLine; decide), fun l1 nl1 => ?_⟩
      have h1 := upd_same (H := H1) (a := l1) (o := .lst [.int (1 + (j1 : Nat)), .int 41, .int 40])
      have e1 := same_new (o := .lst [.int (1 + (j1 : Nat)), .int 41, .int 40]) nl1
      have l1s : l1 ≠ st := fun z => S1.tr.1 (by rw [← z]; exact nl1)
      have l1a : l1 ≠ a1 := fun z => S1.tr.2 (by rw [← z]; exact nl1)
      generalize upd H1 l1 (.lst [.int (1 + (j1 : Nat)), .int 41, .int 40]) = G1 at h1 e1 ⊢
      refine ⟨(by show 8 ≤ sizeLine; decide), fun l2 nl2 => ?_⟩
      have S1' := S1.same e1
      have h2 := upd_same (H := G1) (a := l2) (o := .lst [.int 0, .int 0, .int 0, .int 0, .int 0, .int 0, .int 1, .int 2])
      have e2 := same_new (o := .lst [.int 0, .int 0, .int 0, .int 0, .int 0, .int 0, .int 1, .int 2]) nl2
      have l2s : l2 ≠ st := fun z => S1'.tr.1 (by rw [← z]; exact nl2)
      have l2a : l2 ≠ a1 := fun z => S1'.tr.2 (by rw [← z]; exact nl2)
      generalize upd G1 l2 (.lst [.int 0, .int 0, .int 0, .int 0, .int 0, .int 0, .int 1, .int 2]) = G2 at h2 e2 ⊢
      refine ⟨_, rfl, st, a1, 1, 8, rfl, by decide, by decide, S1'.same e2, by decide, fun k2 H2 k20 k21 S2 el2 => ?_⟩
      obtain ⟨j, v, hj, hv, hm, rfl⟩ := at_drawn (xs := [V.int 0, .int 0, .int 0, .int 0, .int 0, .int 0, .int 1, .int 2]) k20 (by show k2 < 8; omega)
      refine ⟨l2, _, (j : Nat), v, rfl, rfl, SqL.of (el2 _ _ h2 l2s l2a), hv, ?_⟩
      have hl1 := el2 _ _ (e2 _ _ h1) l1s l1a
      clear hv hj
      obtain ⟨i, m, rfl, him, m1, m41⟩ : ∃ (i m : Nat), v = .int (i : Nat) ∧ ([V.int (1 + (j1 : Nat)), .int 41, .int 40])[i]? = some (.int (m : Nat)) ∧ 1 ≤ m ∧ m ≤ 41 := by
        simp only [List.mem_cons, List.not_mem_nil, or_false] at hm
        have z0 : v = .int 0 → ∃ (i m : Nat), v = .int (i : Nat) ∧ ([V.int (1 + (j1 : Nat)), .int 41, .int 40])[i]? = some (.int (m : Nat)) ∧ 1 ≤ m ∧ m ≤ 41 := fun h => ⟨0, 1 + j1, h, by show some (V.int (1 + (j1 : Nat))) = some (V.int ((1 + j1 : Nat) : Int)); congr 2, by omega, by omega⟩
        rcases hm with h | h | h | h | h | h | h | h
        · exact z0 h
        · exact z0 h
        · exact z0 h
        · exact z0 h
        · exact z0 h
        · exact z0 h
        · exact ⟨1, 41, h, rfl, by decide, by decide⟩
        · exact ⟨2, 40, h, rfl, by decide, by decide⟩
      refine ⟨l1, _, (i : Nat), _, rfl, rfl, SqL.of hl1, atI_nat him, ?_⟩
      exact ⟨m, rfl, S2, m1, m41⟩
    rintro σ H3 ⟨m, rfl, S3, m1, m41⟩
    obtain ⟨c, hcm, hc1, hc40⟩ : ∃ c : Nat, (if (40 : Int) < (m : Nat) then (40 : Int) else (m : Nat)) = (c : Nat) ∧ m ≤ c + 1 ∧ c ≤ 40 := by
      by_cases h : m ≤ 40
      · exact ⟨m, by rw [if_neg (by omega)], by omega, h⟩
      · exact ⟨40, by rw [if_pos (by omega)]; rfl, by omega, by decide⟩
    refine ⟨_, rfl, _, rfl, _, _, rfl, st, a1, 2, c, ?_, S3, hc40, by omega, fun N0 ns0 m4 H4 hnd hnl hnq m40 m41' S4 el4 nN0 hN0 => ?_⟩
    · show [V.ref st, V.int _] = _
      rw [hcm]
    refine ⟨(by show 1 ≤ sizeLine; decide), fun q nq => ?_⟩
    have eq := same_new (o := .lst [.str "qqqqq"]) nq
    have hq := upd_same (H := H4) (a := q) (o := .lst [.str "qqqqq"])
    have hN05 := eq _ _ hN0
    generalize upd H4 q (.lst [.str "qqqqq"]) = G5 at eq hq hN05 ⊢
    refine ⟨N0, q, _, _, rfl, rfl, hN05, hq, (by rw [List.length_map]; exact Nat.le_of_lt (fitR (by show _ + 1 ≤ 3000000; omega))), fun N1 nN1 => ?_⟩
    have eN1 := same_new (o := .lst (ns0.map V.str ++ [.str "qqqqq"])) nN1
    have hN1 := upd_same (H := G5) (a := N1) (o := .lst (ns0.map V.str ++ [.str "qqqqq"]))
    generalize upd G5 N1 (.lst (ns0.map V.str ++ [.str "qqqqq"])) = G6 at eN1 hN1 ⊢
    dsimp only [tNoPart]
    refine ⟨_, rfl, _, rfl, N1, _, rfl, SqL.of hN1, fun N nN => ?_⟩
    rw [cut_hi2]
    have S6 := (S4.same eq).same eN1
    have Ns : N ≠ st := fun z => S6.tr.1 (by rw [← z]; exact nN)
    have Na : N ≠ a1 := fun z => S6.tr.2 (by rw [← z]; exact nN)
    obtain ⟨names, hnames, hnm, hnd', hnb⟩ : ∃ names : List Str, (ns0.map V.str ++ [V.str "qqqqq"]).take m = names.map V.str ∧ names.length = m ∧ names.Nodup ∧ ∀ x ∈ names, nameB x = true := by
      refine ⟨(ns0 ++ [("qqqqq" : Str)]).take m, by rw [List.map_take, List.map_append]; rfl, by rw [List.length_take, List.length_append, hnl, List.length_singleton]; omega, ?_, fun x hx => ?_⟩
      · refine (List.nodup_append.mpr ⟨hnd, by simp, fun x hx y hy z => ?_⟩).sublist (List.take_sublist ..)
        rw [List.mem_singleton.mp hy] at z
        exact nameQ_ne (hnq x hx) z
      · rcases List.mem_append.mp (List.mem_of_mem_take hx) with hx | hx
        · exact nameQ_B (hnq x hx)
        · rw [List.mem_singleton.mp hx]; decide +kernel
    rw [hnames]
    have hN7 := upd_same (H := G6) (a := N) (o := .lst (names.map V.str))
    have S7 := S6.same (same_new (o := .lst (names.map V.str)) nN)
    generalize upd G6 N (.lst (names.map V.str)) = H7 at hN7 S7 ⊢
    refine ⟨_, rfl, _, rfl, _, rfl, st, a1, m4, 9, rfl, by decide, by decide, S7, by omega, fun k8 H8 k80 k81 S8 el8 => ?_⟩
    obtain ⟨j8, rfl⟩ := Int.eq_ofNat_of_zero_le k80
    have hN8 := el8 _ _ hN7 Ns Na
    refine ⟨st, a1, N, m4 + 1, j8, names, rfl, S8, by omega, by omega, hN8, Ns, Na, hnd', by omega, by omega, hnb, fun R m9 G gxs H9 hR hRl m90 m91 S9 el9 nG hG hgxs => ?_⟩
    have Gs : G ≠ st := fun z => S8.tr.1 (by rw [← z]; exact nG)
    have Ga : G ≠ a1 := fun z => S8.tr.2 (by rw [← z]; exact nG)
    have hRG := rowG_of hR (by omega) (by omega) hnb
    have hrl : (runRows names R).length = m := by unfold runRows; rw [List.length_map]; exact hnm
    generalize runRows names R = rs at hgxs hRG hrl
    have hgl : gxs.length = m := by rw [dpAll_len hgxs, List.length_map, hrl]
    refine ⟨_, rfl, G, _, rfl, .inl (SqL.of hG), fun L nL => ?_⟩
    have eL := same_new (o := .lst gxs) nL
    have hL := upd_same (H := H9) (a := L) (o := .lst gxs)
    have hG10 := eL _ _ hG
    have hg10 := dpAll_same eL hgxs
    have S10 := S9.same eL
    have Ls : L ≠ st := fun z => S9.tr.1 (by rw [← z]; exact nL)
    have La : L ≠ a1 := fun z => S9.tr.2 (by rw [← z]; exact nL)
    generalize upd H9 L (.lst gxs) = H10 at hL hG10 hg10 S10 ⊢
    refine ⟨fun σ Hx => ∃ (x6 x7 x8 x9 x10 x11 x12 : Option V) (L : Addr) (xs : List V) (ds : List PyData) (c : Nat), σ = [some (.ref sc), some (.ref st), some (.int (m : Nat)), some (.ref N), some (.ref G), some (.ref L), x6, x7, x8, x9, x10, x11, x12] ∧ StreamAt Hx st a1 c ∧ c ≤ 1000 ∧ Hx G = some (.lst gxs) ∧ DpAll K Hx gxs (rs.map rowE) ∧ Hx L = some (.lst xs) ∧ L ≠ st ∧ L ≠ a1 ∧ DpAll K (offS st a1 Hx) xs ds ∧ ds.length = m ∧ ∀ d ∈ ds, RowD d, ?_, ?_⟩
    · refine ⟨_, rfl, st, a1, m9, 3, rfl, by decide, by decide, S10, by omega, fun k5 H5 k50 k51 S5 el5 => ?_⟩
      obtain ⟨j5, rfl⟩ := Int.eq_ofNat_of_zero_le k50
      have kk5 := keeps_else2 S10 el5
      refine ⟨j5, rfl, by omega, by omega, for_range (lo := 0) (n := j5) (fun i σ Hx => ∃ (x6 x7 x8 x9 x10 x11 x12 : Option V) (L : Addr) (xs : List V) (ds : List PyData) (c : Nat), σ = [some (.ref sc), some (.ref st), some (.int (m : Nat)), some (.ref N), some (.ref G), some (.ref L), x6, x7, x8, x9, x10, x11, x12] ∧ StreamAt Hx st a1 c ∧ c ≤ 900 + 10 * i ∧ Hx G = some (.lst gxs) ∧ DpAll K Hx gxs (rs.map rowE) ∧ Hx L = some (.lst xs) ∧ L ≠ st ∧ L ≠ a1 ∧ DpAll K (offS st a1 Hx) xs ds ∧ ds.length = m ∧ ∀ d ∈ ds, RowD d)
        ⟨none, none, none, none, none, none, none, L, gxs, rs.map rowE, m9 + 1, rfl, S5, by omega, el5 _ _ hG10 Gs Ga, dpAll_keep kk5.1 kk5.2 hg10 (rows_noList _), el5 _ _ hL Ls La, Ls, La, dpAll_same (off_else el5) (dpAll_off S10 hg10 (rows_noList _)), by rw [List.length_map, hrl], fun d hd => by
          obtain ⟨r, hr, rfl⟩ := List.mem_map.mp hd
          exact rowD_E (hRG r hr)⟩ ?_ ?_⟩
      · rintro i σ Hx hi ⟨x6, x7, x8, x9, x10, x11, x12, L, xs, ds, c, rfl, SA, hc, hGx, hgx, hLx, Ls, La, hD, hdl, hRD⟩
        have hxl : xs.length = m := by rw [dpAll_len hD, hdl]
        refine ⟨_, rfl, _, rfl, L, xs, rfl, .inl (SqL.of hLx), st, a1, c, (xs.length : Nat), rfl, by omega, by omega, SA, by omega, fun k6 H6 k60 k61 S6 el6 => ?_⟩
        obtain ⟨j6, rfl⟩ := Int.eq_ofNat_of_zero_le k60
        have kk6 := keeps_else2 SA el6
        have hL6 := el6 _ _ hLx Ls La
        have hG6 := el6 _ _ hGx Gs Ga
        have hg6 := dpAll_keep kk6.1 kk6.2 hgx (rows_noList _)
        have hD6 := dpAll_same (off_else el6) hD
        have hj6 : j6 < xs.length := by omega
        refine ⟨_, rfl, _, rfl, _, rfl, L, xs, rfl, SqL.of hL6, fun p1 np1 => ?_⟩
        rw [show cutV xs none (some ((j6 : Nat) : Int)) = xs.take j6 from cut_hi2 xs j6]
        have s7 := same_new (o := .lst (xs.take j6)) np1
        have hp1 := upd_same (H := H6) (a := p1) (o := .lst (xs.take j6))
        have p1s : p1 ≠ st := fun z => S6.tr.1 (by rw [← z]; exact np1)
        have p1a : p1 ≠ a1 := fun z => S6.tr.2 (by rw [← z]; exact np1)
        generalize upd H6 p1 (.lst (xs.take j6)) = H7 at s7 hp1 ⊢
        have S7 := S6.same s7
        refine ⟨_, rfl, _, rfl, st, a1, G, c + 1, gxs, rs, rfl, S7, by omega, s7 _ _ hG6, Gs, Ga, dpAll_same s7 hg6, (fun z => by rw [z] at hrl; simp at hrl; omega), by omega, hRG, fun v d H8 hRd hv mv => ?_⟩
        obtain ⟨m8, m80, m81, S8, el8⟩ := mv
        have kk8 := keeps_else2 S7 el8
        have hL8 := el8 _ _ (s7 _ _ hL6) Ls La
        have hG8 := el8 _ _ (s7 _ _ hG6) Gs Ga
        have hg8 := dpAll_keep kk8.1 kk8.2 (dpAll_same s7 hg6) (rows_noList _)
        have hp18 := el8 _ _ hp1 p1s p1a
        have hD8 := dpAll_same (off_else el8) (dpAll_same (off_same s7) hD6)
        refine ⟨(by show 1 ≤ sizeLine; decide), fun tl ntl => ?_⟩
        have s9 := same_new (o := .lst [v]) ntl
        have htl := upd_same (H := H8) (a := tl) (o := .lst [v])
        show rCat (V.ref p1) (V.ref tl) (upd H8 tl (.lst [v])) _
        generalize upd H8 tl (.lst [v]) = H9' at s9 htl ⊢
        refine ⟨p1, tl, _, _, rfl, rfl, s9 _ _ hp18, htl, (by rw [List.length_take]; exact Nat.le_of_lt (fitR (by show _ + 1 ≤ 3000000; omega))), fun p2 np2 => ?_⟩
        have s10 := s9.trans (same_new (o := .lst (xs.take j6 ++ [v])) np2)
        have hp2 := upd_same (H := H9') (a := p2) (o := .lst (xs.take j6 ++ [v]))
        generalize upd H9' p2 (.lst (xs.take j6 ++ [v])) = H10' at s10 hp2 ⊢
        refine ⟨_, rfl, _, rfl, _, _, rfl, rfl, _, rfl, ?_⟩
        dsimp only [tNoPart]
        refine ⟨L, xs, rfl, SqL.of (s10 _ _ hL8), fun p3 np3 => ?_⟩
        rw [show ((j6 : Int) + 1) = ((j6 + 1 : Nat) : Int) from rfl, cut_lo2]
        have s11 := s10.trans (same_new (o := .lst (xs.drop (j6 + 1))) np3)
        have hp3 := upd_same (H := H10') (a := p3) (o := .lst (xs.drop (j6 + 1)))
        have hp2' := same_new (o := .lst (xs.drop (j6 + 1))) np3 _ _ hp2
        generalize upd H10' p3 (.lst (xs.drop (j6 + 1))) = H11 at s11 hp3 hp2' ⊢
        refine ⟨p2, p3, _, _, rfl, rfl, hp2', hp3, (by rw [List.length_append, List.length_take, List.length_drop]; exact Nat.le_of_lt (fitR (by show _ + 1 + _ ≤ 3000000; omega))), fun p4 np4 => ?_⟩
        have s12 := s11.trans (same_new (o := .lst (xs.take j6 ++ [v] ++ xs.drop (j6 + 1))) np4)
        have hp4 := upd_same (H := H11) (a := p4) (o := .lst (xs.take j6 ++ [v] ++ xs.drop (j6 + 1)))
        have S11 := S8.same s11
        have p4s : p4 ≠ st := fun z => S11.tr.1 (by rw [← z]; exact np4)
        have p4a : p4 ≠ a1 := fun z => S11.tr.2 (by rw [← z]; exact np4)
        generalize upd H11 p4 (.lst (xs.take j6 ++ [v] ++ xs.drop (j6 + 1))) = H12 at s12 hp4 ⊢
        have D8 := dpAll_same (off_same s12) hD8
        refine ⟨_, _, _, _, _, _, _, p4, _, ds.take j6 ++ [d] ++ ds.drop (j6 + 1), m8, rfl, S8.same s12, by omega, s12 _ _ hG8, dpAll_same s12 hg8, hp4, p4s, p4a, dpAll_app3 (dpAll_app3 (dpAll_take3 _ D8) (.cons (dp_same (off_same s12) hv) .nil)) (dpAll_drop3 _ D8), ?_, fun e he => ?_⟩
        · rw [List.length_append, List.length_append, List.length_take, List.length_drop, List.length_singleton]
          omega
        · simp only [List.mem_append, List.mem_singleton] at he
          rcases he with (he | rfl) | he
          · exact hRD e (List.mem_of_mem_take he)
          · exact hRd
          · exact hRD e (List.mem_of_mem_drop he)
      · rintro σ Hx ⟨x6, x7, x8, x9, x10, x11, x12, L, xs, ds, c, rfl, SA, hc, hGx, hgx, hLx, Ls, La, hD, hdl, hRD⟩
        exact ⟨_, _, _, _, _, _, _, L, xs, ds, c, rfl, SA, by omega, hGx, hgx, hLx, Ls, La, hD, hdl, hRD⟩
    rintro σ Hx ⟨x6, x7, x8, x9, x10, x11, x12, L, xs, ds, c, rfl, SA, hc, hGx, hgx, hLx, Ls, La, hDo, hdl, hRD⟩
    have hD := dpAll_same (off_sub st a1 Hx) hDo
    refine ⟨_, rfl, L, xs, ds, rfl, SqL.of hLx, hD, fun d hd => ⟨(hRD d hd).sm, (hRD d hd).ly⟩, by omega, fun due H2 s2 hdue => ?_⟩
    have hL2 := s2 _ _ hLx
    have hD2 := dpAll_same s2 hD
    refine ⟨fun σ Hy => ∃ x9 x10 : Option V, σ = [some (.ref sc), some (.ref st), some (.int (m : Nat)), some (.ref N), some (.ref G), some (.ref L), x6, x7, some due, x9, x10, x11, x12], ?_, ?_⟩
    · refine ⟨_, rfl, _, rfl, L, xs, rfl, .inl ⟨SqL.of hL2, fun R nR => ?_⟩⟩
      have s3 := same_new (o := .tup xs) nR
      have hR := upd_same (H := H2) (a := R) (o := .tup xs)
      generalize upd H2 R (.tup xs) = H3 at s3 hR ⊢
      have hL3 := s3 _ _ hL2
      have hD3 := dpAll_same s3 hD2
      refine ⟨_, rfl, .ref L, .list ds, rfl, .lst (SqL.of hL3) hD3, rows_smd hRD (by omega), fun lv H4 s4 hlv => ⟨(by show 3 ≤ sizeLine; decide), fun T nT => ?_⟩⟩
      have s5 := s4.trans (same_new (o := .tup [.ref L, .ref R, lv]) nT)
      have hT := upd_same (H := H4) (a := T) (o := .tup [.ref L, .ref R, lv])
      have hlv5 := dp_same ((nwIn_same H3 H4).trans (same_new (o := .tup [.ref L, .ref R, lv]) nT)) hlv
      have hR5 := s5 _ _ hR
      have hL5 := s5 _ _ hL3
      have hD5 := dpAll_same s5 hD3
      generalize upd H4 T (.tup [.ref L, .ref R, lv]) = H5 at s5 hT hlv5 hR5 hL5 hD5 ⊢
      have hsz := rows_sz hRD (by omega)
      have hand : ∀ (i : Nat) (v : V), ([V.ref L, V.ref R, lv])[i]? = some v → ∃ es a ys, v = .ref a ∧ (SqL K H5 a ys ∨ SqT K H5 a ys) ∧ DpAll K H5 ys es ∧ fixAll es = fixAll ds ∧ szAll es ≤ 4900 ∧ es.length ≤ 1000 := by
        intro i v hv
        have hl : ds.length ≤ 1000 := by omega
        match i, hv with
        | 0, hv =>
          injection hv with hv
          subst hv
          exact ⟨_, L, xs, rfl, .inl (SqL.of hL5), hD5, rfl, hsz, hl⟩
        | 1, hv =>
          injection hv with hv
          subst hv
          exact ⟨_, R, xs, rfl, .inr (SqT.of hR5), hD5, rfl, hsz, hl⟩
        | 2, hv =>
          injection hv with hv
          subst hv
          obtain ⟨a, ys, h1, h2, h3⟩ := dpL_inv (show Dp K H5 lv (.list (lsAll ds)) from hlv5)
          exact ⟨_, a, ys, h1, .inl h2, h3, fixAll_ls _, by rw [szAll_ls]; exact hsz, by rw [lsAll_map, List.length_map]; exact hl⟩
      refine ⟨T, rfl, ⟨_, SqT.of hT⟩, ?_⟩
      refine for_tup (K := K) (a := T) (xs := [.ref L, .ref R, lv]) (fun i σ Hx => ∃ x9 x10 : Option V, σ = [some (.ref sc), some (.ref st), some (.int (m : Nat)), some (.ref N), some (.ref G), some (.ref L), x6, x7, some due, x9, x10, x11, x12] ∧ Same H5 Hx) ⟨_, _, rfl, .refl _⟩ (fun i σ Hx _ ⟨_, _, _, sx⟩ => SqT.of (sx _ _ hT)) ?_ ?_
      · rintro i v σ Hx hv ⟨x9, x10, rfl, sx⟩
        obtain ⟨es, a, ys, rfl, hys, hds, hfx, hsz2, hel⟩ := hand i v hv
        have hys' : SqL K Hx a ys ∨ SqT K Hx a ys := by
          rcases hys with h | h
          · exact .inl (sqL_same sx h)
          · exact .inr (sqT_same sx h)
        have gd := rows_gd hRD
        have fe := rows_few hRD
        unfold RowDue at hdue
        rw [← hfx] at gd fe hdue
        have inD : rowDue (fixAll es) = none → due = .non := fun h => by rw [hdue, h]
        refine ⟨_, rfl, es, a, ys, rfl, hys', dpAll_same sx hds, hsz2, gd, hel, fe, fun i hi v Hy sy hv => ?_, fun hno n k hnk v Hy sy hv => ?_, fun hno hno2 x hx v Hy sy hv => ?_, fun rs' ms GR ids ok => ?_⟩
        · rw [hi] at hdue
          replace hdue : due = .int (i : Nat) := hdue
          subst hdue
          refine ⟨_, rfl, rfl, _, rfl, iteTc (by simp) ?_⟩
          refine ⟨_, rfl, _, rfl, (by show 3 ≤ sizeLine; decide), fun D nD => ?_⟩
          have sD := same_new (o := .lst [.str "row", .non, .int (i : Nat)]) nD
          refine ⟨v, .ref D, .list [.str "row", .none, .int (i : Nat)], rfl, dp_same sD hv, .lst (SqL.of upd_same) (.cons (.str _) (.cons .non (.cons (.int _) .nil))), .lst (by simp) (fun d hd => ?_), fun H' s' => ⟨_, rfl, iteFc rfl ?_⟩⟩
          · simp only [List.mem_cons, List.not_mem_nil, or_false] at hd
            rcases hd with rfl | rfl | rfl
            · exact .str _
            · exact .non
            · exact .int _
          refine ⟨_, rfl, rfl, _, rfl, iteFc (by simp) ?_⟩
          exact ⟨_, _, rfl, (sx.trans sy).trans (sD.trans s')⟩
        · have hdn := inD hno
          subst hdn
          obtain ⟨q, vs, rfl, hq, hvs⟩ := dpL_inv hv
          cases hvs with
          | cons g1 g2 =>
          have e := dpS g1
          subst e
          refine ⟨_, rfl, rfl, _, rfl, iteFc rfl ⟨_, rfl, rfl, _, rfl, iteTc rfl ⟨_, rfl, rfl, _, rfl, iteTc (by simp) ?_⟩⟩⟩
          refine ⟨_, rfl, q, _, 0, _, rfl, rfl, hq, atI_nat (j := 0) rfl, (by show 3 ≤ sizeLine; decide), fun T1 nT1 => ?_⟩
          refine ⟨T1, _, rfl, .inr (SqT.of upd_same), rfl, rfl, _, rfl, iteFc (by decide +kernel) ?_⟩
          exact ⟨_, _, rfl, (sx.trans sy).trans (same_new nT1)⟩
        · have hdn := inD hno
          subst hdn
          obtain ⟨q, vs, rfl, hq, hvs⟩ := dpL_inv hv
          cases hvs with
          | cons g1 g2 =>
          have e := dpS g1
          subst e
          refine ⟨_, rfl, rfl, _, rfl, iteFc rfl ⟨_, rfl, rfl, _, rfl, iteTc rfl ⟨_, rfl, rfl, _, rfl, iteTc (by simp) ?_⟩⟩⟩
          refine ⟨_, rfl, q, _, 0, _, rfl, rfl, hq, atI_nat (j := 0) rfl, (by show 3 ≤ sizeLine; decide), fun T1 nT1 => ?_⟩
          refine ⟨T1, _, rfl, .inr (SqT.of upd_same), rfl, rfl, _, rfl, iteFc (by decide +kernel) ?_⟩
          exact ⟨_, _, rfl, (sx.trans sy).trans (same_new nT1)⟩
        · have hdn := inD GR.due
          subst hdn
          refine ⟨fun ho H' s' => ?_, fun n ho v Hy sy hv => ?_⟩
          · refine ⟨_, rfl, rfl, _, rfl, iteFc rfl ⟨_, rfl, rfl, _, rfl, iteTc rfl ⟨_, rfl, rfl, _, rfl, iteFc rfl ?_⟩⟩⟩
            exact ⟨_, _, rfl, sx.trans s'⟩
          · obtain ⟨q, vs, rfl, hq, hvs⟩ := dpL_inv hv
            cases hvs with
            | cons g1 g2 =>
            have e := dpS g1
            subst e
            refine ⟨_, rfl, rfl, _, rfl, iteFc rfl ⟨_, rfl, rfl, _, rfl, iteTc rfl ⟨_, rfl, rfl, _, rfl, iteTc (by simp) ?_⟩⟩⟩
            refine ⟨_, rfl, q, _, 0, _, rfl, rfl, hq, atI_nat (j := 0) rfl, (by show 3 ≤ sizeLine; decide), fun T1 nT1 => ?_⟩
            refine ⟨T1, _, rfl, .inr (SqT.of upd_same), rfl, rfl, _, rfl, iteFc (by decide +kernel) ?_⟩
            exact ⟨_, _, rfl, (sx.trans sy).trans (same_new nT1)⟩
      · rintro σ Hx ⟨x9, x10, rfl, sx⟩
        exact ⟨x9, x10, rfl⟩
    rintro σ Hy ⟨x9, x10, rfl⟩
    refine ⟨(by show 0 ≤ sizeLine; decide), fun l0 nl0 => ?_⟩
    have f0 := upd_same (H := Hy) (a := l0) (o := .lst [])
    generalize upd Hy l0 (.lst []) = G1 at f0 ⊢
    refine ⟨(by show 0 ≤ sizeLine; decide), fun t0 nt0 => ?_⟩
    have g1 := same_new (o := .tup []) nt0
    have ft := upd_same (H := G1) (a := t0) (o := .tup [])
    replace f0 := g1 _ _ f0
    generalize upd G1 t0 (.tup []) = G2 at f0 ft ⊢
    refine ⟨(by show 2 ≤ sizeLine; decide), fun S nS => ?_⟩
    have g2 := same_new (o := .lst [.ref l0, .ref t0]) nS
    have fS := upd_same (H := G2) (a := S) (o := .lst [.ref l0, .ref t0])
    replace f0 := g2 _ _ f0
    replace ft := g2 _ _ ft
    generalize upd G2 S (.lst [.ref l0, .ref t0]) = G3 at f0 ft fS ⊢
    refine ⟨rfl, fun RL Hz sz hRL => ⟨RL, rfl, ⟨_, hRL⟩, fun M nM => ?_⟩⟩
    have aM : ∀ {b : Addr} {o : HO} {Hx : Hp}, Hx b = some o → b ≠ M → offS M M Hx b = some o := fun h n => by rw [off_at n n]; exact h
    refine lc_list (K := K) (a := RL) (xs := reservedL.map V.str) (fun j Hx => Same Hz Hx ∧ ∃ ys, Hx M = some (.lst ys) ∧ ys.length = j ∧ DpAll K (offS M M Hx) ys ((reservedL.take j).map resD)) ⟨same_new nM, [], upd_same, rfl, .nil⟩ (fun j Hx _ q => sqL_same q.1 hRL) ?_ ?_
    · rintro j z Hx hz' ⟨sx, ys, hM, hyl, hD⟩
      obtain ⟨wd, hw, rfl⟩ := mapS_get hz'
      have hj := (List.getElem?_eq_some_iff.mp hw).1
      have hrl15 : reservedL.length = 15 := rfl
      refine ⟨rfl, ?_⟩
      dsimp only [tYes]
      rw [if_pos rfl]
      refine ⟨_, rfl, (by show 0 ≤ sizeLine; decide), fun u0 nu0 => ?_⟩
      have b0 := upd_same (H := Hx) (a := u0) (o := .tup [])
      have e0 := same_new (o := .tup []) nu0
      generalize upd Hx u0 (.tup []) = B0 at b0 e0 ⊢
      refine ⟨(by show 2 ≤ sizeLine; decide), fun u1 nu1 => ?_⟩
      have b1 := upd_same (H := B0) (a := u1) (o := .tup [.str wd, .ref u0])
      have e1 := same_new (o := .tup [.str wd, .ref u0]) nu1
      generalize upd B0 u1 (.tup [.str wd, .ref u0]) = B1 at b1 e1 ⊢
      refine ⟨(by show 1 ≤ sizeLine; decide), fun u2 nu2 => ?_⟩
      have b2 := upd_same (H := B1) (a := u2) (o := .lst [.ref u1])
      have e2 := same_new (o := .lst [.ref u1]) nu2
      have n0 : u0 ≠ M := fun z => by rw [z, hM] at nu0; cases nu0
      have n1 : u1 ≠ M := fun z => by rw [z, e0 _ _ hM] at nu1; cases nu1
      have n2 : u2 ≠ M := fun z => by rw [z, e1 _ _ (e0 _ _ hM)] at nu2; cases nu2
      generalize upd B1 u2 (.lst [.ref u1]) = B2 at b2 e2 ⊢
      have e3 := e0.trans (e1.trans e2)
      have hM2 := e3 _ _ hM
      have k3 : Same (offS M M B2) (offS M M (upd B2 M (.lst (ys ++ [.ref u2])))) := off_else fun b o h m1 _ => by rw [upd_ne m1]; exact h
      refine ⟨ys, hM2, fitR (by omega), same_upd (sx.trans e3) nM, _, upd_same, by rw [List.length_append, hyl]; rfl, ?_⟩
      rw [List.take_add_one, hw, List.map_append]
      refine dpAll_snoc3 (.lst (SqL.of (k3 _ _ (aM b2 n2))) (.cons (.tup (SqT.of (k3 _ _ (aM (e2 _ _ b1) n1))) (.cons (.str wd) (.cons (.tup (SqT.of (k3 _ _ (aM (e2 _ _ (e1 _ _ b0)) n0))) .nil) .nil))) .nil)) (dpAll_same ((off_same e3).trans k3) hD)
    rintro Hx ⟨sx, ys, hM, hyl, hD⟩
    rw [List.length_map, List.take_length] at hD
    rw [List.length_map] at hyl
    have hD' := dpAll_same (off_sub M M Hx) hD
    have s3 := sz.trans sx
    refine ⟨S, M, _, _, rfl, rfl, s3 _ _ fS, hM, (by rw [hyl]; show 2 + 15 ≤ sizeLine; decide), fun A1 nA1 => ?_⟩
    have hA := upd_same (H := Hx) (a := A1) (o := .lst ([.ref l0, .ref t0] ++ ys))
    have eA := same_new (o := .lst ([.ref l0, .ref t0] ++ ys)) nA1
    have hds : DpAll K (upd Hx A1 (.lst ([.ref l0, .ref t0] ++ ys))) ([.ref l0, .ref t0] ++ ys) handS := dpAll_app3 (.cons (.lst (SqL.of (eA _ _ (s3 _ _ f0))) .nil) (.cons (.tup (SqT.of (eA _ _ (s3 _ _ ft))) .nil) .nil)) (dpAll_same eA hD')
    generalize upd Hx A1 (.lst ([.ref l0, .ref t0] ++ ys)) = HA at hA hds ⊢
    generalize [.ref l0, .ref t0] ++ ys = vs at hA hds
    have hvl : vs.length = 17 := by rw [dpAll_len hds]; rfl
    refine ⟨_, rfl, A1, rfl, ⟨_, SqL.of hA⟩, fun B nB => ?_⟩
    refine lc_list (K := K) (a := A1) (xs := vs) (fun j Hx => Same HA Hx ∧ Hx B = some (.lst ((List.replicate j true).map V.bl))) ⟨same_new nB, upd_same⟩ (fun j Hx _ q => SqL.of (q.1 _ _ hA)) ?_ ?_
    · rintro j z Hy hz' ⟨sy, hB⟩
      have hj := (List.getElem?_eq_some_iff.mp hz').1
      obtain ⟨d, hd, hzd⟩ := dpAll_at (dpAll_same sy hds) hz'
      obtain ⟨es, hk, hRe, hel, hdue0⟩ := handS_ok d (List.mem_of_getElem? hd)
      obtain ⟨a, us, rfl, hsq, hus⟩ : ∃ a us, z = .ref a ∧ (SqL K Hy a us ∨ SqT K Hy a us) ∧ DpAll K Hy us es := by
        cases hzd with
        | lst h1 h2 => injection hk with hk; subst hk; exact ⟨_, _, rfl, .inl h1, h2⟩
        | tup h1 h2 => injection hk with hk; subst hk; exact ⟨_, _, rfl, .inr h1, h2⟩
        | _ => cases hk
      refine ⟨rfl, ?_⟩
      dsimp only [tYes]
      rw [if_pos rfl]
      refine ⟨_, rfl, es, a, us, rfl, hsq, hus, rows_sz hRe hel, rows_gd hRe, by omega, rows_few hRe, fun i hi v Hv sv hv => ?_, fun hno => ?_, fun hno => ?_, fun rs' ms GR => ?_⟩
      · rw [hdue0] at hi
        injection hi with hi
        subst hi
        refine ⟨(by show 3 ≤ sizeLine; decide), fun D nD => ?_⟩
        have sD := same_new (o := .lst [.str "row", .non, .int 0]) nD
        refine ⟨v, .ref D, .list [.str "row", .none, .int 0], rfl, dp_same sD hv, .lst (SqL.of upd_same) (.cons (.str _) (.cons .non (.cons (.int _) .nil))), .lst (by simp) (fun d hd => ?_), fun H' s' => ?_⟩
        · simp only [List.mem_cons, List.not_mem_nil, or_false] at hd
          rcases hd with rfl | rfl | rfl
          · exact .str _
          · exact .non
          · exact .int _
        have sf := sv.trans (sD.trans s')
        have hBf := sf _ _ hB
        refine ⟨_, hBf, ?_, same_upd (sy.trans sf) nB, ?_⟩
        · rw [List.length_map, List.length_replicate]
          exact fitR (by omega)
        · rw [upd_same, List.replicate_succ', List.map_append]
          rfl
      · rw [hdue0] at hno; cases hno
      · rw [hdue0] at hno; cases hno
      · have := GR.due
        rw [hdue0] at this; cases this
    · rintro Hy ⟨sy, hB⟩
      refine ⟨B, _, rfl, SqL.of hB, ?_⟩
      have : (List.replicate vs.length true).all id = true := by simp
      rw [this]
      exact k _
end
end XE

set_option Elab.async false
set_option linter.all false
set_option maxRecDepth 100000
set_option maxHeartbeats 4000000
namespace XE
open PySem PySem.Spec PyProof.Rows L2 Rx SX
section
variable {P : Program} {w : World} {K : PySem.W.Frag} {mg : Str → Option Value} {base : Heap}
abbrev cBadEvent : Stmt := topS 17
abbrev sBadEvent : Stmt := inClass cBadEvent 0
theorem scBadEvent : ScopeS ["self", "event"] ["self", "event"] (defScope sBadEvent) := ⟨rfl, rfl, rfl, by decide +kernel, rfl, by decide +kernel, by decide +kernel, by decide +kernel, rfl, rfl⟩
theorem okBadEvent {f C cda cc fF : Addr} {fd fdF : FuncData} (F : SupFn K "BadEvent.__init__" sBadEvent f cda cc fd) (T : SupC P K C cda cc) (CF : Cal P w K mg base 1 "frozen" fF fdF ["thing"] (spFrozen K)) (no : ∀ g ∈ (["event"] : List Str), PySem.W.findIn K (.ref C) g = some none) :
    FnOk P w K mg base CX0 2 f fd ["self", "event"] (spInit K C ["event"]) := by
  refine F.ok scBadEvent T rfl rfl rfl spInit_len spInit_self (fun _ => rfl) (fun _ => rfl) (fun _ => ⟨_, rfl⟩) (fun A outer s H vs Q E hr h => ?_)
  obtain ⟨a, ws, ds, rfl, hl, ha, hd, hz, k⟩ := h
  refine ⟨_, pss_one (ps_ost (pv 0) (pe_call CF.ok hr rfl CF.mg CF.kp CF.bi .nil pass0 (pa_cons (pv 1) pa_nil))), ?_⟩
  match ws, ds, hl, hd with
  | [v0], _, _, @DpAll.cons _ _ _ _ d0 _ h0 (.nil) =>
    have z0 : sz d0 ≤ 1000 := hz _ (by simp)
    refine ⟨_, rfl, v0, d0, rfl, h0, z0, fun G0 u0 s0 r0 => ⟨_, rfl, a, C, rfl, T.oex, no _ (by simp), .inl ⟨s0 _ _ ha, fun dx hdx nda => ?_⟩⟩⟩
    have e0 : ∀ b o, H b = some o → b ≠ a → upd (upd G0 dx (exd dx [("event", u0)])) a (exo a C (some dx)) b = some o := fun b o e nb => by rw [upd_ne nb, upd_ne (ne_of_none (s0 _ _ e) hdx)]; exact s0 _ _ e
    have k0 : Keeps G0 (upd (upd G0 dx (exd dx [("event", u0)])) a (exo a C (some dx))) := (keeps_new hdx).trans (keeps_ext (φ := _) (by rw [upd_ne nda.symm]; exact s0 _ _ ha))
    have r0' := dp_keep k0.1 k0.2 r0 (fix_noList _)
    have ax : upd (upd G0 dx (exd dx [("event", u0)])) a (exo a C (some dx)) a = some (exo a C (some dx)) := upd_same
    have dxx : upd (upd G0 dx (exd dx [("event", u0)])) a (exo a C (some dx)) dx = some (exd dx [("event", u0)]) := by rw [upd_ne nda, upd_same]
    have hdn : H dx = none := s0.free hdx
    generalize upd (upd G0 dx (exd dx [("event", u0)])) a (exo a C (some dx)) = L0 at e0 r0' ax dxx ⊢
    exact k L0 dx [u0] hdn ax dxx (.cons r0' (.nil)) e0 rfl
theorem biBadEvent {f cda cc : Addr} {fd : FuncData} (F : SupFn K "BadEvent.__init__" sBadEvent f cda cc fd) : Binds K fd ["self", "event"] [] := by
  obtain ⟨oc, od, kV, doc, pm, an, ct, osl, rfl, _, _⟩ := F.ex
  exact .all (fun us hl => match us, hl with | [_, _], _ => rfl)
theorem bpBadEvent {f cda cc : Addr} {fd : FuncData} (F : SupFn K "BadEvent.__init__" sBadEvent f cda cc fd) : KBn K fd ("self" :: ["event"]) ((["event"] : List Str).length + 1) [] gB gB := by
  obtain ⟨oc, od, kV, doc, pm, an, ct, osl, rfl, _, _⟩ := F.ex
  exact ⟨fun s us ws _ l1 l2 => match us, ws, l1, l2 with | [_, _], [], _, _ => .of_eq rfl, gB_rel⟩
theorem bkBadEvent {f cda cc : Addr} {fd : FuncData} (F : SupFn K "BadEvent.__init__" sBadEvent f cda cc fd) : KBn K fd ("self" :: ["event"]) 1 (["event"] : List Str).reverse gB gB := by
  obtain ⟨oc, od, kV, doc, pm, an, ct, osl, rfl, _, _⟩ := F.ex
  exact ⟨fun s us ws _ l1 l2 => match us, ws, l1, l2 with | [_], [_], _, _ => .of_eq rfl, gB_rel⟩
end
end XE

set_option Elab.async false
set_option linter.all false
set_option maxRecDepth 100000
set_option maxHeartbeats 4000000
namespace XE
open PySem PySem.Spec PyProof.Rows L2 RZ Rx SX Rc
structure DefF (K : PySem.W.Frag) (x : Str) (st : Stmt) (f : Addr) (fd : FuncData) : Prop where
  at_ : PySem.W.nsIn K mainGlobals x = some (some (.ref f))
  fn : Fun K x x st f fd
theorem def_mk {K : PySem.W.Frag} {x : Str} {st : Stmt} {f : Addr} {oc kV dc pm cd ct : Value} {od an : Option Addr} {sl : Array (Option Value)} (a : PySem.W.nsIn K mainGlobals x = some (some (.ref f)))
    (l : K.lookup f = some ⟨oc, od, .func (PySem.W.fnOf x x (defArgs st) (defBody st) (defScope st) .none kV dc pm an cd ct), sl⟩) (c : PySem.W.codeIn K cd x = true) (k : PySem.W.keepIn K (.ref f) = true) : ∃ f fd, DefF K x st f fd :=
  ⟨_, _, a, fun_mk (st := st) l c k⟩
structure MetF (K : PySem.W.Frag) (C : Addr) (x qual : Str) (st : Stmt) (f : Addr) (fd : FuncData) : Prop where
  me : Meth K C x f
  fn : Fun K x qual st f fd
theorem met_mk {K : PySem.W.Frag} {C : Addr} {x qual : Str} {st : Stmt} {f : Addr} {oc kV dc pm cd ct : Value} {od an : Option Addr} {sl : Array (Option Value)} (a : PySem.W.findIn K (.ref C) x = some (some (.ref f))) (i : PySem.W.isFn K (.ref f) = true)
    (l : K.lookup f = some ⟨oc, od, .func (PySem.W.fnOf x qual (defArgs st) (defBody st) (defScope st) .none kV dc pm an cd ct), sl⟩) (c : PySem.W.codeIn K cd qual = true) (k : PySem.W.keepIn K (.ref f) = true) : ∃ f fd, MetF K C x qual st f fd :=
  ⟨_, _, ⟨a, i, k⟩, fun_mk (st := st) l c k⟩
theorem tup_mk {K : PySem.W.Frag} {x : Str} {xs : List V} {a : Addr} {od : Option Addr} {its : Array Value} {n : Nat} {sl : Array (Option Value)} (h : PySem.W.nsIn K mainGlobals x = some (some (.ref a))) (l : K.lookup a = some ⟨.type "tuple", od, .seq its n, sl⟩) (z : its.size ≤ sizeLine) (v : Vals xs its.toList) : ∃ a, PySem.W.nsIn K mainGlobals x = some (some (.ref a)) ∧ KTup K a xs :=
  ⟨a, h, _, its, n, l, rfl, rfl, z, v⟩
theorem no3 {K : PySem.W.Frag} {C : Addr} {a b c : Str} (h : PySem.W.findIn K (.ref C) a = some none) (k : PySem.W.findIn K (.ref C) b = some none) (l : PySem.W.findIn K (.ref C) c = some none) : ∀ g ∈ ([a, b, c] : List Str), PySem.W.findIn K (.ref C) g = some none := fun g hg => by
  simp only [List.mem_cons, List.not_mem_nil, or_false] at hg
  rcases hg with rfl | rfl | rfl
  · exact h
  · exact k
  · exact l
theorem tab_mk {K : PySem.W.Frag} {w : World} {a : Addr} {es : Array DictEntry} {n : Nat} (h : PySem.W.nsIn K mainGlobals "SHAPES" = some (some (.ref a))) (l : K.lookup a = some ⟨.type "dict", none, .dict es n, #[]⟩) (kB : PySem.W.KeysLit w.params es.toList) (wB : (a == sysModules) = false) (v : Paired (fun (p : Str × List Str) (e : DictEntry) => (∃ t, e.key = .str p.1 t) ∧ ∃ b, e.val = .ref b ∧ KTup K b (p.2.map V.str)) shapeL es.toList) : ∃ a, PySem.W.nsIn K mainGlobals "SHAPES" = some (some (.ref a)) ∧ KTab K w a shapeL :=
  ⟨a, h, es, n, ⟨l, kB, wB⟩, v⟩
theorem ktup_mk {K : PySem.W.Frag} {xs : List V} {a : Addr} {od : Option Addr} {its : Array Value} {n : Nat} {sl : Array (Option Value)} (l : K.lookup a = some ⟨.type "tuple", od, .seq its n, sl⟩) (z : its.size ≤ sizeLine) (v : Vals xs its.toList) : KTup K a xs :=
  ⟨_, its, n, l, rfl, rfl, z, v⟩
theorem all_mk {l : PySem.W.OpenLaw} {w : World} {K : PySem.W.Frag} {h : Heap} {mg : Str → Option Value} {fa R NR CQ : Addr} (X : K.In h) (G : h.Ns mainGlobals mg) (hfa : mg "law" = some (.ref fa))
    {bsR subR : List Value} {snR : List Str} {abR : Bool} {colR : Option Bool} {ddR : Option Addr} {r0 r1 r2 r3 r5 : Option Value}
    (D0 : ∃ f fd, DefF K "is_name" sIsName f fd)
    (D1 : ∃ f fd, DefF K "is_integer" sIsInteger f fd)
    (D2 : ∃ f fd, DefF K "is_value" sIsValue f fd)
    (D3 : ∃ f fd, DefF K "frozen" sFrozen f fd)
    (D4 : ∃ f fd, DefF K "check_rows" sCheckRows f fd)
    (D5 : ∃ f fd, DefF K "is_row" sIsRow f fd)
    (D6 : ∃ f fd, DefF K "check_events" sCheckEvents f fd)
    (D7 : ∃ f fd, DefF K "has_shape" sHasShape f fd)
    (D8 : ∃ f fd, DefF K "fits_in" sFitsIn f fd)
    (D9 : ∃ f fd, DefF K "matched_messages" sMatched f fd)
    (D10 : ∃ f fd, DefF K "sends_by_channel" sSendsBy f fd)
    (D11 : ∃ f fd, DefF K "partners_by_event" sPartnersBy f fd)
    (D12 : ∃ f fd, DefF K "check_order" sCheckOrder f fd)
    (D13 : ∃ f fd, DefF K "causes_by_event" sCausesBy f fd)
    (D14 : ∃ f fd, DefF K "execution" sExecution f fd)
    (D15 : ∃ f fd, DefF K "lacking" sLacking f fd)
    (D16 : ∃ f fd, DefF K "numbers_reached" sReached f fd)
    (D17 : ∃ f fd, DefF K "_law_draw" sDraw f fd)
    (D18 : ∃ f fd, DefF K "_law_value" sLValue f fd)
    (D19 : ∃ f fd, DefF K "_law_event" sLEvent f fd)
    (D20 : ∃ f fd, DefF K "_law_rows" sLRows f fd)
    (D21 : ∃ f fd, DefF K "_law_word" sLWord f fd)
    (D22 : ∃ f fd, DefF K "_law_words" sLWords f fd)
    (D23 : ∃ f fd, DefF K "_law_same" sLSame f fd)
    (D24 : ∃ f fd, DefF K "_law_lists_of" sLLists f fd)
    (D25 : ∃ f fd, DefF K "_law_any" sLAny f fd)
    (D26 : ∃ f fd, DefF K "_law_is_name" sLIsName f fd)
    (D27 : ∃ f fd, DefF K "_law_bad_record" sLBad f fd)
    (D28 : ∃ f fd, DefF K "_law_reserved" sLReserved f fd)
    (D29 : ∃ f fd, DefF K "_law_first" sLFirst f fd)
    (D30 : ∃ f fd, DefF K "_law_spoilt" sLSpoilt f fd)
    (D31 : ∃ f fd, DefF K "law" sLaw f fd)
    (aQ : PySem.W.nsIn K mainGlobals "Record" = some (some (.ref CQ))) (pgQ : PySem.W.plainGet K CQ Str.empty = true) (hdQ : PySem.W.hasDictIn K CQ = true) (poQ : PySem.W.plainOver K CQ = true) (saQ : PySem.W.findIn K (.ref CQ) "__setattr__" = some (some (.builtin "object.__setattr__"))) (mkQ : PySem.W.makesIn K CQ = true) (kcQ : PySem.W.keepIn K (.ref CQ) = true) (nQ0 : PySem.W.findIn K (.ref CQ) "rows" = some none) (nQ1 : PySem.W.findIn K (.ref CQ) "histories" = some none) (nQ2 : PySem.W.findIn K (.ref CQ) "messages" = some none) (nQ3 : PySem.W.findIn K (.ref CQ) "partners" = some none)
    (MQ0 : ∃ f fd, MetF K CQ "__init__" "Record.__init__" sRInit f fd)
    (SH : ∃ a, PySem.W.nsIn K mainGlobals "SHAPES" = some (some (.ref a)) ∧ KTab K w a shapeL)
    (U0 : ∃ a, PySem.W.nsIn K mainGlobals "RESERVED" = some (some (.ref a)) ∧ KTup K a (reservedL.map V.str))
    (U1 : ∃ a, PySem.W.nsIn K mainGlobals "RECEIVING" = some (some (.ref a)) ∧ KTup K a ((["receive", "take"] : List Str).map V.str))
    {tl0 : Tok} (I0 : PySem.W.nsIn K mainGlobals "LETTERS" = some (some (.str lettersS tl0)))
    {tl1 : Tok} (I1 : PySem.W.nsIn K mainGlobals "NAME_LENGTH" = some (some (.int (8) tl1)))
    {tl2 : Tok} (I2 : PySem.W.nsIn K mainGlobals "TOO_LARGE" = some (some (.int (1000000000000000000000000000000) tl2)))
    {tl3 : Tok} (I3 : PySem.W.nsIn K mainGlobals "MOST_PROCESSES" = some (some (.int (40) tl3)))
    (z0 : PySem.W.nsIn K mainGlobals "len" = some none)
    (z1 : PySem.W.nsIn K mainGlobals "isinstance" = some none)
    (z2 : PySem.W.nsIn K mainGlobals "all" = some none)
    (z3 : PySem.W.nsIn K mainGlobals "int" = some none)
    (z4 : PySem.W.nsIn K mainGlobals "str" = some none)
    (z5 : PySem.W.nsIn K mainGlobals "bool" = some none)
    (z6 : PySem.W.nsIn K mainGlobals "abs" = some none)
    (z7 : PySem.W.nsIn K mainGlobals "tuple" = some none)
    (z8 : PySem.W.nsIn K mainGlobals "list" = some none)
    (z9 : PySem.W.nsIn K mainGlobals "enumerate" = some none)
    (z10 : PySem.W.nsIn K mainGlobals "zip" = some none)
    (z11 : PySem.W.nsIn K mainGlobals "range" = some none)
    (z12 : PySem.W.nsIn K mainGlobals "ValueError" = some none)
    (z13 : PySem.W.nsIn K mainGlobals "min" = some none)
    (aR : PySem.W.nsIn K mainGlobals "RerunError" = some (some (.ref R))) (xR : K.lookup R = some (excClassObj "RerunError" "RerunError" R NR bsR veT true snR subR abR colR ddR r0 r1 r2 r3 r5 "ValueError.__new__"))
    (sp : PySem.W.nsIn K mainGlobals "super" = some none) (opq : PySem.W.nsIn K cStatics "thirdparty.any" = some none) (ht : (l.prog.main.scope.names.lookup ("super" : Str)).isSome = false) (hn : PySem.W.specialIn K (.builtin "object.__class__") "__get__" = some (some (.builtin "getset_descriptor.__get__"))) (htk : PySem.W.takesIn K (.builtin "object.__class__") = some true)
    (E0 : ∃ (C f cda cc : Addr) (fd : FuncData), ClsF l.prog K "BadRecord" "BadRecord.__init__" sBadRecord R C f cda cc fd ["reason", "name", "number"])
    (E1 : ∃ (C f cda cc : Addr) (fd : FuncData), ClsF l.prog K "BadEvent" "BadEvent.__init__" sBadEvent R C f cda cc fd ["event"])
    : ∃ fd : FuncData, (∀ (s : Shared) (v : Value), BindsTo s fd ⟨[v], []⟩ [("_law_script", v)]) ∧ ∀ base : Heap, K.In base → base.Ns mainGlobals mg → FnG l.prog w K mg base 10 fa fd ["_law_script"] (spLaw K) := by
  obtain ⟨f0, fd0, D0⟩ := D0
  have b0 := D0.fn.binds (ps := ["thing"]) fun _ _ _ _ _ _ us hl => match us, hl with | [_], _ => rfl
  obtain ⟨f1, fd1, D1⟩ := D1
  have b1 := D1.fn.binds (ps := ["thing"]) fun _ _ _ _ _ _ us hl => match us, hl with | [_], _ => rfl
  obtain ⟨f2, fd2, D2⟩ := D2
  have b2 := D2.fn.binds (ps := ["thing"]) fun _ _ _ _ _ _ us hl => match us, hl with | [_], _ => rfl
  obtain ⟨f3, fd3, D3⟩ := D3
  have b3 := D3.fn.binds (ps := ["thing"]) fun _ _ _ _ _ _ us hl => match us, hl with | [_], _ => rfl
  obtain ⟨f4, fd4, D4⟩ := D4
  have b4 := D4.fn.binds (ps := ["rows"]) fun _ _ _ _ _ _ us hl => match us, hl with | [_], _ => rfl
  obtain ⟨f5, fd5, D5⟩ := D5
  have b5 := D5.fn.binds (ps := ["row"]) fun _ _ _ _ _ _ us hl => match us, hl with | [_], _ => rfl
  obtain ⟨f6, fd6, D6⟩ := D6
  have b6 := D6.fn.binds (ps := ["rows"]) fun _ _ _ _ _ _ us hl => match us, hl with | [_], _ => rfl
  obtain ⟨f7, fd7, D7⟩ := D7
  have b7 := D7.fn.binds (ps := ["event", "others"]) fun _ _ _ _ _ _ us hl => match us, hl with | [_, _], _ => rfl
  obtain ⟨f8, fd8, D8⟩ := D8
  have b8 := D8.fn.binds (ps := ["kind", "part", "others"]) fun _ _ _ _ _ _ us hl => match us, hl with | [_, _, _], _ => rfl
  obtain ⟨f9, fd9, D9⟩ := D9
  have b9 := D9.fn.binds (ps := ["rows"]) fun _ _ _ _ _ _ us hl => match us, hl with | [_], _ => rfl
  obtain ⟨f10, fd10, D10⟩ := D10
  have b10 := D10.fn.binds (ps := ["rows"]) fun _ _ _ _ _ _ us hl => match us, hl with | [_], _ => rfl
  obtain ⟨f11, fd11, D11⟩ := D11
  have b11 := D11.fn.binds (ps := ["messages"]) fun _ _ _ _ _ _ us hl => match us, hl with | [_], _ => rfl
  obtain ⟨f12, fd12, D12⟩ := D12
  have b12 := D12.fn.binds (ps := ["histories", "messages"]) fun _ _ _ _ _ _ us hl => match us, hl with | [_, _], _ => rfl
  obtain ⟨f13, fd13, D13⟩ := D13
  have b13 := D13.fn.binds (ps := ["pairs"]) fun _ _ _ _ _ _ us hl => match us, hl with | [_], _ => rfl
  obtain ⟨f14, fd14, D14⟩ := D14
  have b14 := D14.fn.binds (ps := ["histories", "causes"]) fun _ _ _ _ _ _ us hl => match us, hl with | [_, _], _ => rfl
  obtain ⟨f15, fd15, D15⟩ := D15
  have b15 := D15.fn.binds (ps := ["events", "executed"]) fun _ _ _ _ _ _ us hl => match us, hl with | [_, _], _ => rfl
  obtain ⟨f16, fd16, D16⟩ := D16
  have b16 := D16.fn.binds (ps := ["histories", "events"]) fun _ _ _ _ _ _ us hl => match us, hl with | [_, _], _ => rfl
  obtain ⟨f17, fd17, D17⟩ := D17
  have b17 := D17.fn.binds (ps := ["_law_stream", "_law_many"]) fun _ _ _ _ _ _ us hl => match us, hl with | [_, _], _ => rfl
  obtain ⟨f18, fd18, D18⟩ := D18
  have b18 := D18.fn.binds (ps := ["_law_stream"]) fun _ _ _ _ _ _ us hl => match us, hl with | [_], _ => rfl
  obtain ⟨f19, fd19, D19⟩ := D19
  have b19 := D19.fn.binds (ps := ["_law_stream", "_law_names", "_law_at", "_law_queues"]) fun _ _ _ _ _ _ us hl => match us, hl with | [_, _, _, _], _ => rfl
  obtain ⟨f20, fd20, D20⟩ := D20
  have b20 := D20.fn.binds (ps := ["_law_stream", "_law_names", "_law_many"]) fun _ _ _ _ _ _ us hl => match us, hl with | [_, _, _], _ => rfl
  obtain ⟨f21, fd21, D21⟩ := D21
  have b21 := D21.fn.binds (ps := ["_law_stream"]) fun _ _ _ _ _ _ us hl => match us, hl with | [_], _ => rfl
  obtain ⟨f22, fd22, D22⟩ := D22
  have b22 := D22.fn.binds (ps := ["_law_stream", "_law_many"]) fun _ _ _ _ _ _ us hl => match us, hl with | [_, _], _ => rfl
  obtain ⟨f23, fd23, D23⟩ := D23
  have b23 := D23.fn.binds (ps := ["_law_found", "_law_due"]) fun _ _ _ _ _ _ us hl => match us, hl with | [_, _], _ => rfl
  obtain ⟨f24, fd24, D24⟩ := D24
  have b24 := D24.fn.binds (ps := ["_law_thing"]) fun _ _ _ _ _ _ us hl => match us, hl with | [_], _ => rfl
  obtain ⟨f25, fd25, D25⟩ := D25
  have b25 := D25.fn.binds (ps := ["_law_stream"]) fun _ _ _ _ _ _ us hl => match us, hl with | [_], _ => rfl
  obtain ⟨f26, fd26, D26⟩ := D26
  have b26 := D26.fn.binds (ps := ["_law_thing"]) fun _ _ _ _ _ _ us hl => match us, hl with | [_], _ => rfl
  obtain ⟨f27, fd27, D27⟩ := D27
  have b27 := D27.fn.binds (ps := ["_law_rows_here"]) fun _ _ _ _ _ _ us hl => match us, hl with | [_], _ => rfl
  obtain ⟨f28, fd28, D28⟩ := D28
  have b28 := D28.fn.binds (ps := []) fun _ _ _ _ _ _ us hl => match us, hl with | [], _ => rfl
  obtain ⟨f29, fd29, D29⟩ := D29
  have b29 := D29.fn.binds (ps := ["_law_rows_here"]) fun _ _ _ _ _ _ us hl => match us, hl with | [_], _ => rfl
  obtain ⟨f30, fd30, D30⟩ := D30
  have b30 := D30.fn.binds (ps := ["_law_stream", "_law_rows_here"]) fun _ _ _ _ _ _ us hl => match us, hl with | [_, _], _ => rfl
  obtain ⟨f31, fd31, D31⟩ := D31
  obtain ⟨gQ0, gdQ0, MQ0⟩ := MQ0
  have cQ0 := MQ0.fn.binds (ps := ["self", "rows"]) fun _ _ _ _ _ _ us hl => match us, hl with | [_, _], _ => rfl
  have TG : TxtRc K CQ := ⟨⟨pgQ, hdQ, poQ, saQ⟩, nQ0, nQ1, nQ2, nQ3⟩
  obtain ⟨u0, U0, V0⟩ := U0
  obtain ⟨u1, U1, V1⟩ := U1
  obtain ⟨aSH, SH, VSH⟩ := SH
  have SHt : ∃ a, mg "SHAPES" = some (.ref a) ∧ KTab K w a shapeL := ⟨aSH, PySem.W.mg_of X G SH, VSH⟩
  obtain ⟨CBadRecord, fIBadRecord, caBadRecord, ccBadRecord, fdBadRecord, E0⟩ := E0
  obtain ⟨CBadEvent, fIBadEvent, caBadEvent, ccBadEvent, fdBadEvent, E1⟩ := E1
  have hR : ClsAt K "RerunError" R veT := ⟨NR, bsR, snR, subR, abR, colR, ddR, r0, r1, r2, r3, r5, xR⟩
  have e := hfa.symm.trans (PySem.W.mg_of X G D31.at_)
  cases e
  have TBi : TxtB mg := ⟨PySem.W.mg_none_of X G z0, PySem.W.mg_none_of X G z7, PySem.W.mg_none_of X G z8, PySem.W.mg_none_of X G z1⟩
  refine ⟨fd31, ?_, fun base _ _ => ?_⟩
  · obtain ⟨oc, od, kV, doc, pm, an, cdv, ct, osl, rfl, _, _⟩ := D31.fn.ex
    exact fun s v => .of_eq rfl
  have CFZ : Cal l.prog w K mg base 1 "frozen" f3 fd3 ["thing"] (spFrozen K) := ⟨ok_frozen D3.fn TBi, PySem.W.mg_of X G D3.at_, D3.fn.kp, b3⟩
  have okBadRecord_ := okBadRecord (P := l.prog) (w := w) (base := base) E0.fn (E0.supC sp opq ht) CFZ E0.no
  have TRBadRecord : RaiT l.prog w K mg base "BadRecord" CBadRecord ["reason", "name", "number"] := E0.raiT X G okBadRecord_ (biBadRecord E0.fn)
  have TEBadRecord : ErrT l.prog w K mg base "BadRecord" CBadRecord ["reason", "name", "number"] := E0.errT X G okBadRecord_ (bpBadRecord E0.fn) (bkBadRecord E0.fn)
  have okBadEvent_ := okBadEvent (P := l.prog) (w := w) (base := base) E1.fn (E1.supC sp opq ht) CFZ E1.no
  have TRBadEvent : RaiT l.prog w K mg base "BadEvent" CBadEvent ["event"] := E1.raiT X G okBadEvent_ (biBadEvent E1.fn)
  have TEBadEvent : ErrT l.prog w K mg base "BadEvent" CBadEvent ["event"] := E1.errT X G okBadEvent_ (bpBadEvent E1.fn) (bkBadEvent E1.fn)
  have hbig : bigZ = 1000000000000000000000000000000 := by decide +kernel
  have TN : TxtN K mg := ⟨⟨_, PySem.W.mg_of X G I0⟩, ⟨_, PySem.W.mg_of X G I1⟩, ⟨u0, PySem.W.mg_of X G U0, V0⟩, ⟨_, by rw [hbig]; exact PySem.W.mg_of X G I2⟩, PySem.W.mg_none_of X G z0, PySem.W.mg_none_of X G z1, PySem.W.mg_none_of X G z2, PySem.W.mg_none_of X G z3, PySem.W.mg_none_of X G z4, PySem.W.mg_none_of X G z5, PySem.W.mg_none_of X G z7, PySem.W.mg_none_of X G z6⟩
  have CFN : Cal l.prog w K mg base 1 "frozen" f3 fd3 ["thing"] (spFrozenN K 5000) := ⟨ok_frozenN 5000 (by decide +kernel) D3.fn TBi, PySem.W.mg_of X G D3.at_, D3.fn.kp, b3⟩
  have CIN : Cal l.prog w K mg base 1 "is_name" f0 fd0 ["thing"] (spTestD K isNameD) := ⟨ok_isNameD D0.fn TN, PySem.W.mg_of X G D0.at_, D0.fn.kp, b0⟩
  have CII : Cal l.prog w K mg base 1 "is_integer" f1 fd1 ["thing"] (spTestD K isIntegerD) := ⟨ok_isInteger D1.fn TN, PySem.W.mg_of X G D1.at_, D1.fn.kp, b1⟩
  have CIV : Cal l.prog w K mg base 2 "is_value" f2 fd2 ["thing"] (spTestD K isValueD) := ⟨ok_isValue D2.fn TN CII, PySem.W.mg_of X G D2.at_, D2.fn.kp, b2⟩
  have CIR : Cal l.prog w K mg base 2 "is_row" f5 fd5 ["row"] (spTestG K isRowD) := ⟨ok_isRow D5.fn TN CIN, PySem.W.mg_of X G D5.at_, D5.fn.kp, b5⟩
  have CFI : Cal l.prog w K mg base 3 "fits_in" f8 fd8 ["kind", "part", "others"] (spFits K) := ⟨ok_fitsIn D8.fn TN CIN CIV, PySem.W.mg_of X G D8.at_, D8.fn.kp, b8⟩
  have CHS : Cal l.prog w K mg base 4 "has_shape" f7 fd7 ["event", "others"] (spHas K) := ⟨ok_hasShape D7.fn TN (PySem.W.mg_none_of X G z10) SHt CFI, PySem.W.mg_of X G D7.at_, D7.fn.kp, b7⟩
  have CKR : CalY l.prog w K mg base 4 "check_rows" f4 fd4 ["rows"] (spCheckR K CBadRecord) := ⟨ok_checkRows D4.fn (PySem.W.mg_none_of X G z9) (PySem.W.mg_of X G I3) TRBadRecord CIR, PySem.W.mg_of X G D4.at_, D4.fn.kp, b4⟩
  have CKE : CalY l.prog w K mg base 5 "check_events" f6 fd6 ["rows"] (spCheckE K CBadRecord) := ⟨ok_checkEvents D6.fn (PySem.W.mg_none_of X G z9) TRBadRecord CHS, PySem.W.mg_of X G D6.at_, D6.fn.kp, b6⟩
  have CSB : Cal l.prog w K mg base 1 "sends_by_channel" f10 fd10 ["rows"] (spSends K) := ⟨ok_sendsBy D10.fn (PySem.W.mg_none_of X G z9), PySem.W.mg_of X G D10.at_, D10.fn.kp, b10⟩
  have CMM : CalY l.prog w K mg base 4 "matched_messages" f9 fd9 ["rows"] (spMatched K CBadRecord) := ⟨ok_matched D9.fn (PySem.W.mg_none_of X G z9) (PySem.W.mg_none_of X G z0) (PySem.W.mg_none_of X G z7) ⟨u1, PySem.W.mg_of X G U1, V1⟩ TRBadRecord CSB, PySem.W.mg_of X G D9.at_, D9.fn.kp, b9⟩
  have CPB : Cal l.prog w K mg base 1 "partners_by_event" f11 fd11 ["messages"] (spPartners K) := ⟨ok_partnersBy D11.fn, PySem.W.mg_of X G D11.at_, D11.fn.kp, b11⟩
  have CCB : Cal l.prog w K mg base 1 "causes_by_event" f13 fd13 ["pairs"] (spCauses K) := ⟨ok_causesBy D13.fn, PySem.W.mg_of X G D13.at_, D13.fn.kp, b13⟩
  have CLK : Cal l.prog w K mg base 1 "lacking" f15 fd15 ["events", "executed"] (spLacking K) := ⟨ok_lacking D15.fn, PySem.W.mg_of X G D15.at_, D15.fn.kp, b15⟩
  have CEX : Cal l.prog w K mg base 2 "execution" f14 fd14 ["histories", "causes"] (spExecution K) := ⟨ok_execution D14.fn (PySem.W.mg_none_of X G z0) CLK, PySem.W.mg_of X G D14.at_, D14.fn.kp, b14⟩
  have CNR : Cal l.prog w K mg base 1 "numbers_reached" f16 fd16 ["histories", "events"] (spReached K) := ⟨ok_reached D16.fn, PySem.W.mg_of X G D16.at_, D16.fn.kp, b16⟩
  have CCO : CalY l.prog w K mg base 4 "check_order" f12 fd12 ["histories", "messages"] (spOrder K CBadRecord) := ⟨ok_checkOrder D12.fn (PySem.W.mg_none_of X G z0) TRBadRecord CCB CEX CNR, PySem.W.mg_of X G D12.at_, D12.fn.kp, b12⟩
  have GRI := ok_rinit (P := l.prog) (w := w) (mg := mg) (base := base) MQ0.fn TG (PySem.W.mg_none_of X G z8) CFN CKR CKE CMM CCO CPB
  have MKQ : Mk K CQ gQ0 := ⟨mkQ, MQ0.me.at_, MQ0.me.fn, kcQ⟩
  have CD : Cal l.prog w K mg base 1 "_law_draw" f17 fd17 ["_law_stream", "_law_many"] spDraw := ⟨ok_draw D17.fn, PySem.W.mg_of X G D17.at_, D17.fn.kp, b17⟩
  have CV : Cal l.prog w K mg base 2 "_law_value" f18 fd18 ["_law_stream"] spValue := ⟨ok_lvalue D18.fn CD, PySem.W.mg_of X G D18.at_, D18.fn.kp, b18⟩
  have CE : Cal l.prog w K mg base 3 "_law_event" f19 fd19 ["_law_stream", "_law_names", "_law_at", "_law_queues"] (spEvent K) := ⟨ok_levent D19.fn (PySem.W.mg_none_of X G z0) CD CV, PySem.W.mg_of X G D19.at_, D19.fn.kp, b19⟩
  have CR : Cal l.prog w K mg base 4 "_law_rows" f20 fd20 ["_law_stream", "_law_names", "_law_many"] (spRowsL K) := ⟨ok_lrows D20.fn (PySem.W.mg_none_of X G z0) (PySem.W.mg_none_of X G z7) (PySem.W.mg_none_of X G z11) CD CE, PySem.W.mg_of X G D20.at_, D20.fn.kp, b20⟩
  have CW1 : Cal l.prog w K mg base 2 "_law_word" f21 fd21 ["_law_stream"] spWordQ := ⟨ok_lwordQ D21.fn (PySem.W.mg_none_of X G z11) CD, PySem.W.mg_of X G D21.at_, D21.fn.kp, b21⟩
  have CW : Cal l.prog w K mg base 3 "_law_words" f22 fd22 ["_law_stream", "_law_many"] spWordsQ := ⟨ok_lwordsQ D22.fn (PySem.W.mg_none_of X G z11) CW1, PySem.W.mg_of X G D22.at_, D22.fn.kp, b22⟩
  have CS := fun n => ok_lsame (P := l.prog) (w := w) (base := base) D23.fn (PySem.W.mg_none_of X G z1) (PySem.W.mg_none_of X G z0) (PySem.W.mg_none_of X G z2) (PySem.W.mg_none_of X G z10) (PySem.W.mg_none_of X G z8) (PySem.W.mg_none_of X G z7) (PySem.W.mg_none_of X G z3) (PySem.W.mg_none_of X G z5) (PySem.W.mg_of X G D23.at_) b23 n
  have CLO := fun n => ok_lists (P := l.prog) (w := w) (base := base) D24.fn (PySem.W.mg_none_of X G z1) (PySem.W.mg_none_of X G z8) (PySem.W.mg_none_of X G z7) (PySem.W.mg_of X G D24.at_) b24 n
  have CBR : Cal l.prog w K mg base 8 "_law_bad_record" f27 fd27 ["_law_rows_here"] (spBad K) := ⟨ok_lbad D27.fn (PySem.W.mg_none_of X G z1) (PySem.W.mg_of X G aR) (PySem.W.mg_none_of X G z12) (PySem.W.mg_of X G E1.aC) TRBadRecord TEBadRecord ⟨hn, htk⟩ (E0.kitR hR) E0.kitV (E0.kitN E1 hR (by decide) (by decide)) MKQ (PySem.W.mg_of X G aQ) GRI cQ0, PySem.W.mg_of X G D27.at_, D27.fn.kp, b27⟩
  have CAN : Cal l.prog w K mg base 2 "_law_any" f25 fd25 ["_law_stream"] (spAny K) := ⟨ok_lany D25.fn CD, PySem.W.mg_of X G D25.at_, D25.fn.kp, b25⟩
  have CLN : Cal l.prog w K mg base 1 "_law_is_name" f26 fd26 ["_law_thing"] (spTestD K isNameD) := ⟨ok_lisName D26.fn (PySem.W.mg_none_of X G z1) (PySem.W.mg_none_of X G z0) (PySem.W.mg_none_of X G z2) (PySem.W.mg_none_of X G z4), PySem.W.mg_of X G D26.at_, D26.fn.kp, b26⟩
  have CRS : Cal l.prog w K mg base 1 "_law_reserved" f28 fd28 [] (spReserved K) := ⟨ok_lreserved D28.fn, PySem.W.mg_of X G D28.at_, D28.fn.kp, b28⟩
  have CFR : Cal l.prog w K mg base 2 "_law_first" f29 fd29 ["_law_rows_here"] (spFirstR K) := ⟨ok_lfirstR D29.fn (PySem.W.mg_none_of X G z0) (PySem.W.mg_none_of X G z11) (PySem.W.mg_none_of X G z1) (PySem.W.mg_none_of X G z8) (PySem.W.mg_none_of X G z7) CLN, PySem.W.mg_of X G D29.at_, D29.fn.kp, b29⟩
  have CSR : Cal l.prog w K mg base 3 "_law_spoilt" f30 fd30 ["_law_stream", "_law_rows_here"] (spSpRow K) := ⟨ok_lsprow D30.fn (PySem.W.mg_none_of X G z0) CD CAN, PySem.W.mg_of X G D30.at_, D30.fn.kp, b30⟩
  exact ok_law D31.fn (PySem.W.mg_none_of X G z0) (PySem.W.mg_none_of X G z8) (PySem.W.mg_none_of X G z11) (PySem.W.mg_none_of X G z7) (PySem.W.mg_none_of X G z2) (PySem.W.mg_none_of X G z13) CD CW CR CSR CFR (CLO 5) CBR (CS 4) CRS
theorem walk {l : PySem.W.OpenLaw} {q : Program} {loose : List Str} {XP : (Str → Option Value) → Heap → Prop} {YP : World → Heap → Prop} {d : DefRec} {K : Params → PySem.W.Frag} (hn : l.most = some 63) (hdf : d.params.defaults = []) (hY : ∀ (w : World) (h : Heap), YP w h → (K w.params).In h)
    (F : ∀ (w : World) (mg : Str → Option Value) (fa : Addr) (h : Heap), (K w.params).In h → h.Ns mainGlobals mg → mg d.name = some (.ref fa) →
      ∃ fd : FuncData, (∀ (s : Shared) (u : Value), BindsTo s fd ⟨[u], []⟩ [("_law_script", u)]) ∧ ∀ base : Heap, (K w.params).In base → base.Ns mainGlobals mg → FnG l.prog w (K w.params) mg base 10 fa fd ["_law_script"] (spLaw (K w.params))) :
    PySem.W.WalkO q loose XP YP l.row.toRowW d [] (fun f vs => PySem.call f vs) :=
  walk_ofG (n := 63) (k := 10) (x := "_law_script") (sp := spLaw) hn (by decide) hdf ⟨rfl, by decide, by decide⟩ hY F (fun K H a ns _ _ hS => ⟨a, ns, rfl, hS, fun _ => rfl⟩)
end XE

set_option Elab.async false
open PySem PySem.W PyProof.Rows
set_option maxRecDepth 100000 in
set_option maxHeartbeats 0 in
theorem PySem.Challenge.cw_rerunrein_k29_rows_refused_holds : PySem.Challenge.rw_rerunrein_k29_rows_refused.Holds := by
  w_on; o_law; k_head; (case hw => w_witness2)
  k_fill
  refine XE.walk (l := PySem.Challenge.rw_rerunrein_k29_rows_refused) rfl rfl (fun w h Y => PySem.W.kIn_of Y) ?F
  case F =>
    intro w mg fa h KX G hmg
    refine' XE.all_mk KX G hmg ?D0 ?D1 ?D2 ?D3 ?D4 ?D5 ?D6 ?D7 ?D8 ?D9 ?D10 ?D11 ?D12 ?D13 ?D14 ?D15 ?D16 ?D17 ?D18 ?D19 ?D20 ?D21 ?D22 ?D23 ?D24 ?D25 ?D26 ?D27 ?D28 ?D29 ?D30 ?D31 ?aQ ?pgQ ?hdQ ?poQ ?saQ ?mkQ ?kcQ ?nQ0 ?nQ1 ?nQ2 ?nQ3 ?MQ0 ?SH ?U0 ?U1 ?I0 ?I1 ?I2 ?I3 ?z0 ?z1 ?z2 ?z3 ?z4 ?z5 ?z6 ?z7 ?z8 ?z9 ?z10 ?z11 ?z12 ?z13 ?aR ?xR ?sp ?opq ?ht ?hn ?htk ?E0 ?E1
    (case D0 =>
      refine' XE.def_mk ?a ?l ?c ?k
      (case a => k_is)
      (case l => k_is)
      (case c => k_is)
      (case k => k_is))
    (case D1 =>
      refine' XE.def_mk ?a ?l ?c ?k
      (case a => k_is)
      (case l => k_is)
      (case c => k_is)
      (case k => k_is))
    (case D2 =>
      refine' XE.def_mk ?a ?l ?c ?k
      (case a => k_is)
      (case l => k_is)
      (case c => k_is)
      (case k => k_is))
    (case D3 =>
      refine' XE.def_mk ?a ?l ?c ?k
      (case a => k_is)
      (case l => k_is)
      (case c => k_is)
      (case k => k_is))
    (case D4 =>
      refine' XE.def_mk ?a ?l ?c ?k
      (case a => k_is)
      (case l => k_is)
      (case c => k_is)
      (case k => k_is))
    (case D5 =>
      refine' XE.def_mk ?a ?l ?c ?k
      (case a => k_is)
      (case l => k_is)
      (case c => k_is)
      (case k => k_is))
    (case D6 =>
      refine' XE.def_mk ?a ?l ?c ?k
      (case a => k_is)
      (case l => k_is)
      (case c => k_is)
      (case k => k_is))
    (case D7 =>
      refine' XE.def_mk ?a ?l ?c ?k
      (case a => k_is)
      (case l => k_is)
      (case c => k_is)
      (case k => k_is))
    (case D8 =>
      refine' XE.def_mk ?a ?l ?c ?k
      (case a => k_is)
      (case l => k_is)
      (case c => k_is)
      (case k => k_is))
    (case D9 =>
      refine' XE.def_mk ?a ?l ?c ?k
      (case a => k_is)
      (case l => k_is)
      (case c => k_is)
      (case k => k_is))
    (case D10 =>
      refine' XE.def_mk ?a ?l ?c ?k
      (case a => k_is)
      (case l => k_is)
      (case c => k_is)
      (case k => k_is))
    (case D11 =>
      refine' XE.def_mk ?a ?l ?c ?k
      (case a => k_is)
      (case l => k_is)
      (case c => k_is)
      (case k => k_is))
    (case D12 =>
      refine' XE.def_mk ?a ?l ?c ?k
      (case a => k_is)
      (case l => k_is)
      (case c => k_is)
      (case k => k_is))
    (case D13 =>
      refine' XE.def_mk ?a ?l ?c ?k
      (case a => k_is)
      (case l => k_is)
      (case c => k_is)
      (case k => k_is))
    (case D14 =>
      refine' XE.def_mk ?a ?l ?c ?k
      (case a => k_is)
      (case l => k_is)
      (case c => k_is)
      (case k => k_is))
    (case D15 =>
      refine' XE.def_mk ?a ?l ?c ?k
      (case a => k_is)
      (case l => k_is)
      (case c => k_is)
      (case k => k_is))
    (case D16 =>
      refine' XE.def_mk ?a ?l ?c ?k
      (case a => k_is)
      (case l => k_is)
      (case c => k_is)
      (case k => k_is))
    (case D17 =>
      refine' XE.def_mk ?a ?l ?c ?k
      (case a => k_is)
      (case l => k_is)
      (case c => k_is)
      (case k => k_is))
    (case D18 =>
      refine' XE.def_mk ?a ?l ?c ?k
      (case a => k_is)
      (case l => k_is)
      (case c => k_is)
      (case k => k_is))
    (case D19 =>
      refine' XE.def_mk ?a ?l ?c ?k
      (case a => k_is)
      (case l => k_is)
      (case c => k_is)
      (case k => k_is))
    (case D20 =>
      refine' XE.def_mk ?a ?l ?c ?k
      (case a => k_is)
      (case l => k_is)
      (case c => k_is)
      (case k => k_is))
    (case D21 =>
      refine' XE.def_mk ?a ?l ?c ?k
      (case a => k_is)
      (case l => k_is)
      (case c => k_is)
      (case k => k_is))
    (case D22 =>
      refine' XE.def_mk ?a ?l ?c ?k
      (case a => k_is)
      (case l => k_is)
      (case c => k_is)
      (case k => k_is))
    (case D23 =>
      refine' XE.def_mk ?a ?l ?c ?k
      (case a => k_is)
      (case l => k_is)
      (case c => k_is)
      (case k => k_is))
    (case D24 =>
      refine' XE.def_mk ?a ?l ?c ?k
      (case a => k_is)
      (case l => k_is)
      (case c => k_is)
      (case k => k_is))
    (case D25 =>
      refine' XE.def_mk ?a ?l ?c ?k
      (case a => k_is)
      (case l => k_is)
      (case c => k_is)
      (case k => k_is))
    (case D26 =>
      refine' XE.def_mk ?a ?l ?c ?k
      (case a => k_is)
      (case l => k_is)
      (case c => k_is)
      (case k => k_is))
    (case D27 =>
      refine' XE.def_mk ?a ?l ?c ?k
      (case a => k_is)
      (case l => k_is)
      (case c => k_is)
      (case k => k_is))
    (case D28 =>
      refine' XE.def_mk ?a ?l ?c ?k
      (case a => k_is)
      (case l => k_is)
      (case c => k_is)
      (case k => k_is))
    (case D29 =>
      refine' XE.def_mk ?a ?l ?c ?k
      (case a => k_is)
      (case l => k_is)
      (case c => k_is)
      (case k => k_is))
    (case D30 =>
      refine' XE.def_mk ?a ?l ?c ?k
      (case a => k_is)
      (case l => k_is)
      (case c => k_is)
      (case k => k_is))
    (case D31 =>
      refine' XE.def_mk ?a ?l ?c ?k
      (case a => k_is)
      (case l => k_is)
      (case c => k_is)
      (case k => k_is))
    (case aQ => k_is)
    (case pgQ => k_is)
    (case hdQ => k_is)
    (case poQ => k_is)
    (case saQ => k_is)
    (case mkQ => k_is)
    (case kcQ => k_is)
    (case nQ0 => k_is)
    (case nQ1 => k_is)
    (case nQ2 => k_is)
    (case nQ3 => k_is)
    (case MQ0 =>
      refine' XE.met_mk ?a ?i ?l ?c ?k
      (case a => k_is)
      (case i => k_is)
      (case l => k_is)
      (case c => k_is)
      (case k => k_is))
    (case SH =>
      refine' XE.tab_mk ?h ?l ?kb ?wb ?v
      (case h => k_is)
      (case l => k_is)
      (case wb => rfl)
      (case kb => exact ⟨⟨_, _, rfl, rfl⟩, ⟨⟨_, _, rfl, rfl⟩, ⟨⟨_, _, rfl, rfl⟩, ⟨⟨_, _, rfl, rfl⟩, ⟨⟨_, _, rfl, rfl⟩, ⟨⟨_, _, rfl, rfl⟩, trivial⟩⟩⟩⟩⟩⟩)
      (case v =>
        refine' .cons ⟨⟨_, rfl⟩, _, rfl, ?s0⟩ (.cons ⟨⟨_, rfl⟩, _, rfl, ?s1⟩ (.cons ⟨⟨_, rfl⟩, _, rfl, ?s2⟩ (.cons ⟨⟨_, rfl⟩, _, rfl, ?s3⟩ (.cons ⟨⟨_, rfl⟩, _, rfl, ?s4⟩ (.cons ⟨⟨_, rfl⟩, _, rfl, ?s5⟩ (.nil))))))
        (case s0 =>
          refine' XE.ktup_mk ?kl0 ?kz0 ?kv0
          (case kl0 => k_is)
          (case kz0 => show 2 ≤ _; decide)
          (case kv0 => exact .cons ⟨_, rfl⟩ (.cons ⟨_, rfl⟩ (.nil))))
        (case s1 =>
          refine' XE.ktup_mk ?kl1 ?kz1 ?kv1
          (case kl1 => k_is)
          (case kz1 => show 2 ≤ _; decide)
          (case kv1 => exact .cons ⟨_, rfl⟩ (.cons ⟨_, rfl⟩ (.nil))))
        (case s2 =>
          refine' XE.ktup_mk ?kl2 ?kz2 ?kv2
          (case kl2 => k_is)
          (case kz2 => show 3 ≤ _; decide)
          (case kv2 => exact .cons ⟨_, rfl⟩ (.cons ⟨_, rfl⟩ (.cons ⟨_, rfl⟩ (.nil)))))
        (case s3 =>
          refine' XE.ktup_mk ?kl3 ?kz3 ?kv3
          (case kl3 => k_is)
          (case kz3 => show 3 ≤ _; decide)
          (case kv3 => exact .cons ⟨_, rfl⟩ (.cons ⟨_, rfl⟩ (.cons ⟨_, rfl⟩ (.nil)))))
        (case s4 =>
          refine' XE.ktup_mk ?kl4 ?kz4 ?kv4
          (case kl4 => k_is)
          (case kz4 => show 2 ≤ _; decide)
          (case kv4 => exact .cons ⟨_, rfl⟩ (.cons ⟨_, rfl⟩ (.nil))))
        (case s5 =>
          refine' XE.ktup_mk ?kl5 ?kz5 ?kv5
          (case kl5 => k_is)
          (case kz5 => show 0 ≤ _; decide)
          (case kv5 => exact .nil))))
    (case U0 =>
      refine' XE.tup_mk ?h ?l ?z ?v
      (case h => k_is)
      (case l => k_is)
      (case z => show 15 ≤ _; decide)
      (case v => exact .cons ⟨_, rfl⟩ (.cons ⟨_, rfl⟩ (.cons ⟨_, rfl⟩ (.cons ⟨_, rfl⟩ (.cons ⟨_, rfl⟩ (.cons ⟨_, rfl⟩ (.cons ⟨_, rfl⟩ (.cons ⟨_, rfl⟩ (.cons ⟨_, rfl⟩ (.cons ⟨_, rfl⟩ (.cons ⟨_, rfl⟩ (.cons ⟨_, rfl⟩ (.cons ⟨_, rfl⟩ (.cons ⟨_, rfl⟩ (.cons ⟨_, rfl⟩ (.nil)))))))))))))))))
    (case U1 =>
      refine' XE.tup_mk ?h ?l ?z ?v
      (case h => k_is)
      (case l => k_is)
      (case z => show 2 ≤ _; decide)
      (case v => exact .cons ⟨_, rfl⟩ (.cons ⟨_, rfl⟩ (.nil))))
    (case I0 => k_is)
    (case I1 => k_is)
    (case I2 => k_is)
    (case I3 => k_is)
    (case z0 => k_is)
    (case z1 => k_is)
    (case z2 => k_is)
    (case z3 => k_is)
    (case z4 => k_is)
    (case z5 => k_is)
    (case z6 => k_is)
    (case z7 => k_is)
    (case z8 => k_is)
    (case z9 => k_is)
    (case z10 => k_is)
    (case z11 => k_is)
    (case z12 => k_is)
    (case z13 => k_is)
    (case aR => k_is)
    (case xR => k_is)
    (case sp => k_is)
    (case opq => k_is)
    (case ht => rfl)
    (case hn => k_is)
    (case htk => k_is)
    (case E0 =>
      refine' ⟨_, _, _, _, _, Rx.cls_mk ?aC ?xL ?sa ?ga ?gg ?ac ?kC (XE.no3 ?n0 ?n1 ?n2) ?ini ?lk ?cd ?tf ?lc ?hv ?hf ?ll ?sup⟩
      (case aC => k_is)
      (case xL => k_is)
      (case sa => k_is)
      (case ga => k_is)
      (case gg => k_is)
      (case ac => k_is)
      (case kC => k_is)
      (case n0 => k_is)
      (case n1 => k_is)
      (case n2 => k_is)
      (case ini => k_is)
      (case lk => k_is)
      (case cd => k_is)
      (case tf => k_is)
      (case lc => k_is)
      (case hv => rfl)
      (case hf => decide +kernel)
      (case ll => k_is)
      (case sup => ks_is))
    (case E1 =>
      refine' ⟨_, _, _, _, _, Rx.cls_mk ?aC ?xL ?sa ?ga ?gg ?ac ?kC (Rx.no1 ?n0) ?ini ?lk ?cd ?tf ?lc ?hv ?hf ?ll ?sup⟩
      (case aC => k_is)
      (case xL => k_is)
      (case sa => k_is)
      (case ga => k_is)
      (case gg => k_is)
      (case ac => k_is)
      (case kC => k_is)
      (case n0 => k_is)
      (case ini => k_is)
      (case lk => k_is)
      (case cd => k_is)
      (case tf => k_is)
      (case lc => k_is)
      (case hv => rfl)
      (case hf => decide +kernel)
      (case ll => k_is)
      (case sup => ks_is))
