import PyProof.Rows.All
import Wide.All
import OpenK.AllK
import Wide.FinOn
import HandS.ForMost
import HandS.Walk
import HandS.Wide
import HandS.Deep
import HandS.IsInst
import HandS.Style
import HandS.CallSlots
import HandS.ForExc
import HandS.MakeKw
import PyProof.ReprRoads
import HandS.ExcCtx
import HandS.Hot
import HandS.HotCalls
import HandS.ExcIs
import KE.KExcIs
import PySem.Challenge.RW_bothplans_k00_errors_and_what_they_keep
import HandS.Ends
set_option Elab.async false
set_option linter.all false
set_option maxRecDepth 100000
set_option maxHeartbeats 4000000
namespace VL
open PySem L2 PySem.Spec PyProof.Rows
/-! ### defs, where nothing is being shown -/
structure RoomG (k : Nat) (A : Around) : Prop where
  r : Room k A
  gs : A.guards = some []
theorem RoomG.mono {j k : Nat} {A : Around} (r : RoomG k A) (h : j ≤ k) : RoomG j A := ⟨r.r.mono h, r.gs⟩
theorem RoomG.deeper {k : Nat} {A : Around} (r : RoomG (k + 1) A) (env : Env) : RoomG k (A.deeper env) := ⟨r.r.deeper env, r.gs⟩
theorem make_guards {A : Around} {C : Addr} {us : List Value} {kw : List (Str × Value)} : (A.under (.builtin "type.__call__" ⟨.ref C :: us, kw⟩)).guards = A.guards := by
  have e : (Code.builtin "type.__call__" ⟨.ref C :: us, kw⟩).guards = [] := by
    first | rfl | simp [Code.guards, Code.isGuard, guardIds]
  have e2 : (A.under (.builtin "type.__call__" ⟨.ref C :: us, kw⟩)).guards = pushGuards (Code.builtin "type.__call__" ⟨.ref C :: us, kw⟩).guards A.guards := by
    first | rfl | simp [Around.under]
  rw [e2, e]
  cases A.guards <;> simp [pushGuards]
theorem RoomG.make {k : Nat} {A : Around} (r : RoomG (k + 1) A) (C : Addr) (us : List Value) (kw : List (Str × Value)) : RoomG k (A.under (.builtin "type.__call__" ⟨.ref C :: us, kw⟩)) :=
  ⟨r.r.make C us kw, make_guards.trans r.gs⟩
structure FnG (P : Program) (w : World) (K : PySem.W.Frag) (mg : Str → Option Value) (base : Heap) (CX : CXT) (k : Nat) (f : Addr) (fd : FuncData) (ps : List Str) (sp : Sp) : Prop where
  len : ∀ vs H Q E, sp vs H Q E → vs.length = ps.length
  run : ∀ (A : Around) (outer : List Env) (s : Shared) (H : Hp) (args : Args) (us : List Value) (vs : List V) (Q : VK) (E : XK), RoomG k A → Env0 P w K mg base A outer s H → BindsTo s fd args (ps.zip us) → Vals vs us → sp vs H Q E →
    codeAny (model P w) A (.call (.ref f) args) (CR CX outer P w H s Q E) s
theorem FnG.imp {P : Program} {w : World} {K : PySem.W.Frag} {mg : Str → Option Value} {base : Heap} {CX : CXT} {k : Nat} {f : Addr} {fd : FuncData} {ps : List Str} {sp sp' : Sp} (F : FnG P w K mg base CX k f fd ps sp)
    (h : ∀ vs H Q E, sp' vs H Q E → sp vs H Q E) : FnG P w K mg base CX k f fd ps sp' :=
  ⟨fun vs H Q E q => F.len vs H Q E (h _ _ _ _ q), fun A outer s H args us vs Q E hr he hb hv hs => F.run A outer s H args us vs Q E hr he hb hv (h _ _ _ _ hs)⟩
theorem FnG.mono {P : Program} {w : World} {K : PySem.W.Frag} {mg : Str → Option Value} {base : Heap} {CX : CXT} {j k : Nat} {f : Addr} {fd : FuncData} {ps : List Str} {sp : Sp} (F : FnG P w K mg base CX j f fd ps sp) (h : j ≤ k) :
    FnG P w K mg base CX k f fd ps sp := ⟨F.len, fun A outer s H args us vs Q E hr => F.run A outer s H args us vs Q E (hr.mono h)⟩
theorem _root_.L2.FnOk.g {P : Program} {w : World} {K : PySem.W.Frag} {mg : Str → Option Value} {base : Heap} {CX : CXT} {k : Nat} {f : Addr} {fd : FuncData} {ps : List Str} {sp : Sp} (F : FnOk P w K mg base CX k f fd ps sp) : FnG P w K mg base CX k f fd ps sp :=
  ⟨F.len, fun A outer s H args us vs Q E hr => F.run A outer s H args us vs Q E hr.r⟩
theorem fng_of {CX : CXT} {P : Program} {w : World} {K : PySem.W.Frag} {mg : Str → Option Value} {base : Heap} {k : Nat} {f : Addr} {name qual : Str} {params : Arguments} {body : List Stmt} {scope : Scope} {dV kV doc pm cdv ct oc : Value} {an od : Option Addr}
    {osl : Array (Option Value)} {N ps : List Str} {sp : Sp} (lk : K.lookup f = some ⟨oc, od, .func (PySem.W.fnOf name qual params body scope dV kV doc pm an cdv ct), osl⟩) (hcd : PySem.W.codeIn K cdv qual = true) (S : FnScope N ps scope)
    (len : ∀ vs H Q E, sp vs H Q E → vs.length = ps.length)
    (hbody : ∀ (A : Around) (outer : List Env) (s : Shared) (H : Hp) (vs : List V) (Q : VK) (E : XK), RoomG k (A.deeper (envOfC qual scope s.heap.objs.size f cdv)) → sp vs H Q E →
      ∃ t, PSs (cxOf CX P w K mg base N qual scope f cdv A outer s H E) body t ∧ t { nx := fun _ H' => Q .non H', rt := Q } (L2.start N vs) H) :
    FnG P w K mg base CX (k + 1) f (PySem.W.fnOf name qual params body scope dV kV doc pm an cdv ct) ps sp := by
  refine ⟨len, fun A outer s H args us vs Q E hr e0 hb r hsp => ?_⟩
  have hl := len _ _ _ _ hsp
  have KX : K.In s.heap := e0.mod.kin.keeps fun b o e => (e0.bs b o e).1
  have lim : s.heap.NoLimit := e0.mod.nolimit.keeps fun b o e => (e0.bs b o e).1
  have hkind : ∀ y ∈ ps.zip us, scope.names.lookup y.1 = some .local ∨ (scope.names.lookup y.1 = some .cell ∧ ((cellsFrom (s.heap.objs.size + 1) scope.names []).lookup y.1).isSome = true) := fun ⟨n, v⟩ hy => by
    rcases S.par n (List.of_mem_zip hy).1 with q | q
    · exact .inl q
    · exact .inr ⟨q, PySem.W.cellsFrom_some _ _ _ (.inl q)⟩
  refine codeAny_call_function hr.r.depth (KX _ _ lk) rfl S.co S.gen rfl (PySem.W.codeRec_of KX hcd) (hb _ _ _ _ ?_)
  refine wpAny_newFunctionEnv_cells S.kind hkind fun env he s1 x => ?_
  subst he
  refine ⟨lim.keeps x.toInCall.keep, codeAny_func ?_⟩
  obtain ⟨t, ht, hq⟩ := hbody A outer s H vs Q E (hr.deeper _) hsp
  have I : Inv (cxOf CX P w K mg base N qual scope f cdv A outer s H E) [] (L2.start N vs) H s1 := inv_start S hr.r.hd e0 hl r x
  refine wpAny_mono (ht.run [] s1 (L2.start N vs) H _ I hq) (fun fl s' hs => ?_) fun e s' hs => hs
  have fin : ∀ {σ' : L2.St} {H' : Hp} {v : V} {u : Value}, Inv (cxOf CX P w K mg base N qual scope f cdv A outer s H E) [] σ' H' s' → RelV v u → Q v H' → CE outer P w H s Q u s' :=
    fun {σ' H' v u} J rv q => ⟨v, H', J.os, J.bare, J.base, J.hok, rv, q⟩
  cases fl with
  | ret u =>
    obtain ⟨v, σ', H', J, rv, q⟩ := hs
    exact fin J rv q
  | next =>
    obtain ⟨σ', H', J, q⟩ := hs
    exact fin (v := V.non) (u := Value.none) J rfl q
  | brk =>
    obtain ⟨_, _, _, q⟩ := hs
    exact False.elim q
  | cont =>
    obtain ⟨_, _, _, q⟩ := hs
    exact False.elim q
section
variable {X : Cx} {CX : CXT} {k : Nat} {f C : Addr} {fd : FuncData} {ps ks : List Str} {sp : Sp} {E : L2.St → XK} {x : Str} {p pos : Pos} {e : Expr} {es : List Expr} {kws : List Keyword} {t tk : TA} {g : List Value → List Value → List Value} {gV : List V → List V → List V}
/-- f(..), what is raised wished for at the caller's slots -/
def tCallG (sp : Sp) (E : L2.St → XK) (t : TA) : TE := fun σ H Q => t σ H fun vs H1 => sp vs H1 Q (E σ)
theorem run_fng {pins : List (Addr × Obj)} {σ : L2.St} {H : Hp} {s : Shared} {Q : VK} {us : List Value} {vs : List V} (F : FnG X.prog X.w X.K X.mg X.base CX k f fd ps sp) (hr : RoomG k X.A) (hb : Binds X.K fd ps []) (hx : PassesAt CX X σ (E σ))
    (I : Inv X pins σ H s) (r : Vals vs us) (h : sp vs H Q (E σ)) : wpAny (model X.prog X.w) X.A (call (.ref f) us) (EP X pins σ Q) X.xe s := by
  have hl : (us ++ []).length = ps.length := by rw [List.append_nil, ← r.length]; exact F.len _ _ _ _ h
  refine wpAny_call (codeAny_mono (F.run X.A X.stack s H ⟨us, []⟩ us vs Q (E σ) hr I.env0 (by have := hb s us I.kIn hl; rwa [List.append_nil] at this) r h) fun r s' hq => ?_)
  cases r with
  | error e => exact hx pins H s e s' I hq
  | ok fl =>
    cases fl with
    | ret u => exact I.after hq
    | next => exact False.elim hq
    | brk => exact False.elim hq
    | cont => exact False.elim hq
theorem pe_callG (F : FnG X.prog X.w X.K X.mg X.base CX k f fd ps sp) (hr : RoomG k X.A) (hg : Gl X x) (hm : X.mg x = some (.ref f)) (hk : PySem.W.keepIn X.K (.ref f) = true) (hb : Binds X.K fd ps []) (hx : ∀ σ, PassesAt CX X σ (E σ))
    (ha : PA X (e :: es) t) (hdb : (x == ("__debug__" : Str)) = false := by decide) (he : starEach (e :: es) X.env = (false, eval e X.env) :: starEach es X.env := by rfl) (hpl : (backTo pos (starEach es X.env)).any (·.1) = false := by rfl) :
    PE X (.Call (.Name x p) (e :: es) [] pos) (tCallG sp E t) := by
  refine ⟨fun pins s σ H Q I h => ?_⟩
  refine wpAny_Call_Name_kw (ld_glob I hg hm ?_ hdb)
  refine PySem.W.callWith_K (h₀ := X.base) I.ok.mod.kin hk (thn (ha.run pos pins s σ H _ I h) fun us s1 ⟨vs, H1, I1, r, q⟩ => ⟨I1.kIn, ?_⟩) he hpl
  exact run_fng F hr hb (hx σ) I1 r q
end
end VL


/-! own errors whose __init__ keeps one thing, made by place or by name -/
namespace PySem
namespace ErK
open PySem.W PySem.Calls PyProof.Rows PySem.HandSPX
section
variable {prog : Program} {w : World} {A : Around} {E : Value → Shared → Prop} {R : Result → Shared → Prop} {h : Heap} {g : Array GenState} {d : Drawn} {t : Nat} {os : OsState}
variable {nm q : Str} {C N : Addr} {bs bm bmB : List Value} {hdct : Bool} {sn : List Str} {sub : List Value} {ab : Bool} {col : Option Bool} {dd : Option Addr} {k0 k1 k2 k3 k5 : Option Value} {B newId initId : String} {us : List Value} {kw : List (Str × Value)}
theorem newCheck {M : Model} {Q : Unit → Shared → Prop} (F : ExcBaseFacts B newId initId bmB) (hT : ∀ X : String, bm.contains (.type X) = bmB.contains (.type X))
    (o : h.get? C = some (excClassObj nm q C N bs bm hdct sn sub ab col dd k0 k1 k2 k3 k5 newId)) (z : Q () ⟨h, g, d, t, os⟩) : wpAny M A (checkBuiltinCall newId ⟨.ref C :: us, kw⟩) Q E ⟨h, g, d, t, os⟩ := by
  have inB : (Value.ref C :: bm).contains (.type B) = true := by
    rw [List.contains_cons, hT, F.hasB]
    exact Bool.or_true _
  have ns := F.noStar
  simp only [checkBuiltinCall, F.newKind, F.newSplit, F.newRow]
  repeat (first
    | refine wpAny_loadPart_at o ?_
    | (refine wpAny_isSubtype_exc o ?_; rw [inB])
    | refine wpAny_staticBase_exc o ?_
    | refine wpAny_madeBy_exc o ?_
    | simp only [bne_self_eq_false, Bool.false_eq_true, if_false]
    | wp_step)
  exact z
theorem newK (F : ExcBaseFacts B newId initId bmB) (hT : ∀ X : String, bm.contains (.type X) = bmB.contains (.type X))
    (o : h.get? C = some (excClassObj nm q C N bs bm hdct sn sub ab col dd k0 k1 k2 k3 k5 newId)) (hu : us.length ≤ sizeLine)
    (z : R (.ok (.ret (.ref (h.objs.size + 1)))) ⟨(h.push (kdv_tup us)).push (excO C h.objs.size), g, d, t, os⟩) :
    codeAny (model prog w) A (.builtin newId ⟨.ref C :: us, kw⟩) R ⟨h, g, d, t, os⟩ := by
  have en := F.ends
  have inB : (Value.ref C :: bm).contains (.type B) = true := by
    rw [List.contains_cons, hT, F.hasB]
    exact Bool.or_true _
  have noA : (Value.ref C :: bm).contains (.type "AttributeError") = false := by
    rw [List.contains_cons, hT, F.noAttr]
    rfl
  have noN : (Value.ref C :: bm).contains (.type "NameError") = false := by
    rw [List.contains_cons, hT, F.noName]
    rfl
  refine codeAny_builtinAt F.entry ?_
  unfold Builtin.«BaseException.__new__»
  refine wpAt_bind ?_
  show wpAt _ _ _ (stack >>= _) _ _ _
  refine wpAt_bind (wpAt_stack fun p below => wpAt_of_wpAny ?_)
  wp_walk
  refine wpAt_of_wpAny ?_
  rw [F.owner]
  repeat (first
    | with_reducible refine wpAny_madeHere_exc F.canon o ?_
    | with_reducible refine wpAny_loadPart_at o ?_
    | (with_reducible refine wpAny_isSubtype_exc o ?_; first | rw [inB] | rw [noA] | rw [noN])
    | wp_step)
  show R _ _
  rw [Heap.size_push]
  exact z
theorem typeK {fI : Addr} {Q : Fin → Shared → Prop} (F : ExcBaseFacts B newId initId bmB) (hT : ∀ X : String, bm.contains (.type X) = bmB.contains (.type X))
    (o : h.get? C = some (excClassObj nm q C N bs bm hdct sn sub ab col dd k0 k1 k2 k3 k5 newId))
    (hi : W.Looks (model prog w) h (typeLookup (.ref C) "__init__") (some (.ref fI))) (hb : ∀ self, W.Looks (model prog w) h (bindSpecial (.ref fI) self) (.ref fI, [self])) (hu : us.length ≤ sizeLine)
    (z : codeAny (model prog w) A (.call (.ref fI) ⟨.ref (h.objs.size + 1) :: us, kw⟩)
      (fun r s' => match r with | .ok (.ret v) => v = .none ∧ Q (.done (.ret (.ref (h.objs.size + 1)))) s' | .ok _ => False | .error e => E e s') ⟨(h.push (kdv_tup us)).push (excO C h.objs.size), g, d, t, os⟩) :
    wpAny (model prog w) A (Builtin.«type.__call__» ⟨.ref C :: us, kw⟩) Q E ⟨h, g, d, t, os⟩ := by
  repeat (first
    | with_reducible refine wpAny_loadPart_at o ?_
    | with_reducible refine wpAny_madeBy_exc o ?_
    | wp_step)
  refine codeAny_call_builtin_code (Code.quiet_builtin _ F.quiet) (newCheck F hT o ?_)
  refine newK F hT o hu ?_
  show wpAny _ _ _ _ _ _
  have k : ∀ b x, h.get? b = some x → ((h.push (kdv_tup us)).push (excO C h.objs.size)).get? b = some x := fun b x e => Heap.get?_push_of_some _ (Heap.get?_push_of_some _ e)
  have o1 := k _ _ o
  have at1 : ((h.push (kdv_tup us)).push (excO C h.objs.size)).get? (h.objs.size + 1) = some (excO C h.objs.size) := by heap_get
  have own : (Value.ref C :: bm).contains (.ref C) = true := by simp
  have i1 := hi.keeps k
  have b1 := (hb (.ref (h.objs.size + 1))).keeps k
  unfold isInstance
  repeat (first
    | with_reducible refine wpAny_loadPart_at at1 ?_
    | (with_reducible refine wpAny_isSubtype_exc o1 ?_; rw [own])
    | wp_step)
  show wpAny _ _ (typeLookup (.ref C) _) _ _ _
  refine i1.at ?_
  refine wpAny_holding (wpAny_bind (b1.at ?_))
  refine wpAny_bind (wpAny_call (codeAny_mono z fun r s' y => ?_))
  rcases r with e | (v | _ | _ | _) <;> first
    | exact y
    | exact False.elim y
    | skip
  obtain ⟨e0, y⟩ := y
  subst e0
  first
    | exact wpAny_pure (wpAny_pure y)
    | (wp_walk; exact y)
theorem callCheck {M : Model} {Q : Unit → Shared → Prop} (o : h.get? C = some (excClassObj nm q C N bs bm hdct sn sub ab col dd k0 k1 k2 k3 k5 newId)) (z : Q () ⟨h, g, d, t, os⟩) :
    wpAny M A (checkBuiltinCall "type.__call__" ⟨.ref C :: us, kw⟩) Q E ⟨h, g, d, t, os⟩ := by
  have f3 := tc_sub
  have ty : (⟨h, g, d, t, os⟩ : Shared).TypeIs (.ref C) "type" := ⟨_, o, rfl⟩
  simp only [checkBuiltinCall, tc_kind, tc_split]
  repeat (any_goals (first
    | assumption
    | with_reducible refine wpAny_loadPart_at o ?_
    | with_reducible refine wpAny_onRaise ?_
    | with_reducible refine wpAny_map ?_
    | wp_step))
theorem callK {fI : Addr} (F : ExcBaseFacts B newId initId bmB) (hT : ∀ X : String, bm.contains (.type X) = bmB.contains (.type X))
    (o : h.get? C = some (excClassObj nm q C N bs bm hdct sn sub ab col dd k0 k1 k2 k3 k5 newId))
    (hi : W.Looks (model prog w) h (typeLookup (.ref C) "__init__") (some (.ref fI))) (hb : ∀ self, W.Looks (model prog w) h (bindSpecial (.ref fI) self) (.ref fI, [self])) (hu : us.length ≤ sizeLine)
    (z : codeAny (model prog w) (A.under (.builtin "type.__call__" ⟨.ref C :: us, kw⟩)) (.call (.ref fI) ⟨.ref (h.objs.size + 1) :: us, kw⟩) (W.InitBack (h.objs.size + 1) R) ⟨(h.push (kdv_tup us)).push (excO C h.objs.size), g, d, t, os⟩) :
    codeAny (model prog w) A (.call (.ref C) ⟨us, kw⟩) R ⟨h, g, d, t, os⟩ := by
  have f1 := tc_lookup
  have f2 := tc_bind (.ref C)
  have ty : (⟨h, g, d, t, os⟩ : Shared).TypeIs (.ref C) "type" := ⟨_, o, rfl⟩
  refine codeAny_of_tree ?_
  show wpAny _ _ (callAny (.ref C) _) _ _ _
  repeat (any_goals (first
    | assumption
    | with_reducible refine wpAny_loadPart_at o ?_
    | wp_step))
  refine ⟨rfl, ?_⟩
  refine codeAny_call_builtin_at (Code.quiet_builtin _ (by decide +kernel)) entry_typeCall (callCheck o (typeK F hT o hi hb hu ?_))
  refine codeAny_mono z fun r s' y => ?_
  rcases r with e | (v | _ | _ | _) <;> exact y
end
end ErK
end PySem


namespace PySem
namespace ErK
open PySem.W PySem.Calls PyProof.Rows PySem.HandSPX
/-! ### def __init__(self, at): self.at = at -/
def atA (p1 p2 : Pos) : Arguments := { posonlyargs := [], args := [⟨"self", none, p1⟩, ⟨"at", none, p2⟩], vararg := none, kwonlyargs := [], kw_defaults := [], kwarg := none, defaults := [] }
def atB (q1 q2 q3 q4 : Pos) : List Stmt := [.Assign [.Attribute (.Name "self" q1) "at" q2] (.Name "at" q3) q4]
def atS : Scope := { kind := .function, names := [(PySem.Str.ofString "self", .local), (PySem.Str.ofString "at", .local)], isGenerator := false, isCoroutine := false, more := [] }
/-- what the class at C says of itself -/
structure ErCls (K : Frag) (C : Addr) : Prop where
  cls : ∃ nm q N bs bm sn sub ab col dd k0 k1 k2 k3 k5, K.lookup C = some (excClassObj nm q C N bs bm true sn sub ab col dd k0 k1 k2 k3 k5 "ValueError.__new__") ∧ refsVE bm = true
  ga : findIn K (.ref C) "__getattribute__" = some (some (.builtin "BaseException.__getattribute__"))
  gg : findIn K (.ref C) "__getattr__" = some none
  kC : keepIn K (.ref C) = true
  exC : subIn K (.ref C) (.type "BaseException") = some true
  tyC : typeIn K (.ref C) = some (.type "type")
  hdC : hasDictIn K C = true
  ca : findIn K (.ref C) "__class__" = some (some (.builtin "object.__class__"))
  cg : specialIn K (.builtin "object.__class__") "__get__" = some (some (.builtin "getset_descriptor.__get__"))
  ct : takesIn K (.builtin "object.__class__") = some true
  cm : mroIn K C (.type "object") = some true
/-- .. with the __init__ at fI -/
structure ErTxt (K : Frag) (C fI : Addr) (qual : Str) : Prop extends ErCls K C where
  sa : findIn K (.ref C) "__setattr__" = some (some (.builtin "object.__setattr__"))
  noN : findIn K (.ref C) "at" = some none
  iC : findIn K (.ref C) "__init__" = some (some (.ref fI))
  tC : typeIn K (.ref fI) = some (.type "function")
  fn : ∃ (oc : Value) (od : Option Addr) (doc pm : Value) (an : Option Addr) (cdv ct : Value) (osl : Array (Option Value)) (p1 p2 q1 q2 q3 q4 : Pos),
    K.lookup fI = some ⟨oc, od, .func (fnOf "__init__" qual (atA p1 p2) (atB q1 q2 q3 q4) atS .none .none doc pm an cdv ct), osl⟩ ∧ codeIn K cdv qual = true
theorem ldL {M : Model} {s : Shared} {name : Str} {scope : Scope} {L a : Addr} {cd : Value} {m : Str → Option Value} {x : Str} {pos : Pos} {v : Value} {Q : Value → Shared → Prop} {A : Around} {E : Value → Shared → Prop} (hn : s.heap.Ns L m) (hv : m x = some v) (h : Q v s)
    (hk : scope.kind = .function := by rfl) (hl : (envOfC name scope L a cd).kindOf x = some .local := by rfl) (hd : (x == ("__debug__" : Str)) = false := by decide) :
    wpAny M A (eval (.Name x pos) (envOfC name scope L a cd)) Q E s := wpAny_Name (wpAny_loadName_local hk hl hn hv h) hd
/-- behind __init__ of a fresh error at x -/
structure InitL (h h' : Heap) (x C dx t1 : Addr) (v : Value) : Prop where
  keep : ∀ b o, b ≠ x → h.get? b = some o → h'.get? b = some o
  obj : h'.get? x = some { cls := .ref C, dict := some dx, data := .fields #[.ref t1, .none, .none, .none, .bool false, .none] }
  big : h.objs.size ≤ dx
  ne : dx ≠ x
  ns : h'.Ns1 dx (fun y => if y = "at" then some v else none)
/-- a made error -/
structure ErMade (h h' : Heap) (e C d : Addr) (v : Value) : Prop where
  keep : ∀ b o, h.get? b = some o → h'.get? b = some o
  new : h.objs.size ≤ e
  obj : ∃ t1, h'.get? e = some { cls := .ref C, dict := some d, data := .fields #[.ref t1, .none, .none, .none, .bool false, .none] }
  big : h.objs.size ≤ d
  ne : d ≠ e
  ns : h'.Ns1 d (fun y => if y = "at" then some v else none)
section
variable {prog : Program} {w : World} {A : Around} {E : Value → Shared → Prop} {R : Result → Shared → Prop} {s : Shared} {K : Frag} {C fI : Addr} {qual : Str}
theorem er_init (T : ErTxt K C fI qual) {x t0 : Addr} {v : Value} {args : Args} (X : K.In s.heap) (hlim : s.heap.NoLimit) (hx : s.heap.get? x = some (excO C t0)) (hroom : A.depth < recursionLimit) (ha : args = ⟨[.ref x, v], []⟩ ∨ args = ⟨[.ref x], [(("at" : Str), v)]⟩)
    (hq : ∀ h' tk dx, InitL s.heap h' x C dx t0 v → R (.ok (.ret .none)) { s with heap := h', toks := tk }) :
    codeAny (model prog w) A (.call (.ref fI) args) R s := by
  obtain ⟨oc, od, doc, pm, an, cdv, ct, osl, p1, p2, q1, q2, q3, q4, ho, hcd⟩ := T.fn
  obtain ⟨nm, q, N, bs, bm, sn, sub, ab, col, dd, k0, k1, k2, k3, k5, hC, hbm⟩ := T.cls
  have hcl : clsIn K C = some { name := nm, bases := bs, mro := .ref C :: bm, ns := N, qualname := q, hasDict := true, slotNames := sn, subclasses := sub, abstract := ab, collection := col, hasDel := false } := by
    unfold clsIn
    rw [hC] <;> rfl
  refine Att.call_fn (binds := [("self", .ref x), ("at", v)]) X hlim ho hcd hroom ?_ (by first | rfl | decide | with_unfolding_all rfl) (fun s₁ IC => ?_) rfl rfl rfl
  · rcases ha with rfl | rfl
    · exact BindsTo.of_eq (by first | rfl | with_unfolding_all rfl)
    · exact BindsTo.of_eq (by first | rfl | with_unfolding_all rfl)
  obtain ⟨h₁, tk₁, rfl⟩ := IC.toInCall.same
  have k : ∀ b o, s.heap.get? b = some o → h₁.get? b = some o := IC.toInCall.keep
  have hn := IC.toInCall.ns
  have X₁ : K.In h₁ := X.keeps k
  have hx₁ := k _ _ hx
  show wpAny _ _ (execs _ _) _ _ _
  refine wpAny_execs_cons (plainObj_wpAny_Assign_Attribute ?_)
  refine ldL (v := v) hn (by first | rfl | with_unfolding_all rfl | kernel_rfl) (ldL (v := .ref x) hn (by first | rfl | with_unfolding_all rfl | kernel_rfl) ?_)
  refine set_plain X₁ (ox := excO C t0) (od := none) ⟨hx₁, rfl, rfl, trivial⟩ T.sa ?_
  refine exc_osa X₁ hx₁ hcl (show refsVE (.ref C :: bm) = true from hbm) rfl T.noN (fun h₃ tk₃ dx k₃ dn dne hx₃ hn₃ => ?_)
  show wpAny _ _ (execs _ _) _ _ _
  have z : s.heap.objs.size < h₁.objs.size := hn.lt
  exact wpAny_execs_nil (hq h₃ tk₃ dx ⟨fun b o hb e => k₃ b o hb (k b o e), hx₃, Nat.le_of_lt (Nat.lt_of_lt_of_le z dn), dne, hn₃⟩)
theorem er_made (T : ErTxt K C fI qual) {v : Value} {us : List Value} {kw : List (Str × Value)} (X : K.In s.heap) (hlim : s.heap.NoLimit) (hroom : A.depth + 1 < recursionLimit) (ha : (us = [v] ∧ kw = []) ∨ (us = [] ∧ kw = [(("at" : Str), v)]))
    (hq : ∀ h' tk e d, ErMade s.heap h' e C d v → R (.ok (.ret (.ref e))) { s with heap := h', toks := tk }) :
    codeAny (model prog w) A (.call (.ref C) ⟨us, kw⟩) R s := by
  obtain ⟨nm, q, N, bs, bm, sn, sub, ab, col, dd, k0, k1, k2, k3, k5, hC, hbm⟩ := T.cls
  obtain ⟨hp, g, dr, tk, os⟩ := s
  have k : ∀ b o, hp.get? b = some o → ((hp.push (kdv_tup us)).push (excO C hp.objs.size)).get? b = some o := fun b o e => Heap.get?_push_of_some _ (Heap.get?_push_of_some _ e)
  have hget : ((hp.push (kdv_tup us)).push (excO C hp.objs.size)).get? (hp.objs.size + 1) = some (excO C hp.objs.size) := by heap_get
  have hu : us.length ≤ sizeLine := by
    rw [sizeLine_eq]
    rcases ha with ⟨rfl, _⟩ | ⟨rfl, _⟩
    · exact (by decide : 1 ≤ 16777216)
    · exact (by decide : 0 ≤ 16777216)
  refine callK F.excBase_ValueError (fun X => refsVE_contains X bm hbm) (X _ _ hC) (looks_findIn X T.iC) (fun self => bind_fn X self T.tC) hu ?_
  refine er_init (v := v) (s := ⟨(hp.push (kdv_tup us)).push (excO C hp.objs.size), g, dr, tk, os⟩) T (X.keeps k) (hlim.keeps k) hget ?_ ?_ fun h' tk' dx ⟨k', hx, dn, dne, hns⟩ => ?_
  · show A.depth + 1 < recursionLimit
    exact hroom
  · rcases ha with ⟨rfl, rfl⟩ | ⟨rfl, rfl⟩
    · exact .inl rfl
    · exact .inr rfl
  · have old : ∀ b o, hp.get? b = some o → h'.get? b = some o := fun b o e => k' b o (Nat.ne_of_lt (Nat.lt_succ_of_lt (Heap.lt_size e))) (k b o e)
    have z : hp.objs.size + 1 + 1 ≤ dx := by
      first
        | (simpa only [Heap.size_push] using dn)
        | exact dn
        | (have q := dn; rw [Heap.size_push, Heap.size_push] at q; exact q)
    exact ⟨rfl, hq h' tk' (hp.objs.size + 1) dx ⟨old, Nat.le_succ _, ⟨_, hx⟩, Nat.le_trans (Nat.le_trans (Nat.le_succ _) (Nat.le_succ _)) z, dne, hns⟩⟩
end
end ErK
end PySem


namespace VL
open PySem L2 PySem.Spec PyProof.Rows PySem.ErK
/-- the class's name, the class, what it says -/
structure ErAt (X : Cx) (cn : Str) (C fI : Addr) (qual : Str) : Prop where
  g : Gl X cn
  m : X.mg cn = some (.ref C)
  t : ErTxt X.K C fI qual
theorem relO_at {v : V} {u : Value} (r : RelV v u) (f : Str) : RelO (List.lookup f [(("at" : Str), v)]) (if f = "at" then some u else none) := by
  by_cases e : f = "at"
  · subst e
    rw [if_pos rfl]
    have q : List.lookup ("at" : Str) [(("at" : Str), v)] = some v := by simp [List.lookup]
    rw [q]
    exact r
  · rw [if_neg e]
    have q1 : (f == ("at" : Str)) = false := by simpa using e
    have q2 : List.lookup f [(("at" : Str), v)] = none := by simp [List.lookup, q1]
    rw [q2]
    trivial
section
variable {X : Cx} {C fI : Addr} {cn qual : Str} {k : Nat}
/-- C(e): a new error, its own dict d new, the thing kept there -/
def tMkEr (C : Addr) (ta : TA) : L2.St → Hp → XK → Prop := fun σ H Q => ta σ H fun vs H1 => ∃ v, vs = [v] ∧ ∀ d, H1 d = none → Q (.ref C) (some d) (upd H1 d (.xd [(("at" : Str), v)]))
theorem pmk_er {a : Expr} {ta : TA} {p pos : Pos} (T : ErAt X cn C fI qual) (hr : Room k X.A) (ha : PA X [a] ta) (hdb : (cn == ("__debug__" : Str)) = false := by decide)
    (he : starEach (a :: []) X.env = (false, eval a X.env) :: starEach [] X.env := by rfl) (hpl : (backTo pos (starEach [] X.env)).any (·.1) = false := by rfl) :
    L2N.PMk X (.Call (.Name cn p) [a] [] pos) (tMkEr C ta) := by
  intro pins s σ H Q I h
  refine wpAny_Call_Name_kw (ld_glob I T.g T.m ?_ hdb)
  refine PySem.W.callWith_K (h₀ := X.base) I.ok.mod.kin T.t.kC (thn (ha.run pos pins s σ H _ I h) fun us s1 hh => ?_) he hpl
  obtain ⟨vs, H1, I1, r1, v, ev, q1⟩ := hh
  subst ev
  refine ⟨I1.kIn, ?_⟩
  cases r1 with
  | cons rv rn =>
    rename_i v' us'
    cases rn
    show wpAny _ _ (call (.ref C) [v']) _ _ _
    have hlim := I1.nolimit
    obtain ⟨hp, g, dr, tk, os⟩ := s1
    refine wpAny_call (er_made T.t (v := v') I1.kIn hlim (by have := hr.dp; omega) (.inl ⟨rfl, rfl⟩) fun h' tk' e d M => ?_)
    show L2N.MkP X pins σ Q (.ref e) ⟨h', g, dr, tk', os⟩
    obtain ⟨t1, hoe⟩ := M.obj
    have hns := M.ns
    obtain ⟨G', g1, g2⟩ := restrict h' fun b => decide (b ≠ e)
    have gk : ∀ b, b ≠ e → G'.get? b = h'.get? b := fun b hb => g1 b (decide_eq_true hb)
    have ge : G'.get? e = none := g2 e (by simp)
    have old : ∀ b o, hp.get? b = some o → G'.get? b = some o := fun b o q => (gk b (Nat.ne_of_lt (Nat.lt_of_lt_of_le (Heap.lt_size q) M.new))).trans (M.keep b o q)
    have ob : ObjOk X.prog X.w (upd H1 d (.xd [(("at" : Str), v)])) G' d (.xd [(("at" : Str), v)]) :=
      ⟨_, hns.at (fun o q => (gk d M.ne).trans q), fun f => relO_at rv f⟩
    have J : Inv X pins σ (upd H1 d (.xd [(("at" : Str), v)])) ⟨G', g, dr, tk', os⟩ := I1.laid (t' := tk') old M.big ob
    refine ⟨e, _, _, ⟨G', g, dr, tk', os⟩, _, .ref C, some d, rfl, J, fun b o q => ?_, ge, hoe, ⟨rfl, rfl, fun vs z => by cases z; rfl⟩, rfl, rfl, ?_, rfl, I1.bare, raises_own T.t.exC T.t.tyC, q1 d (I1.hok.fresh M.big)⟩
    · by_cases hb : b = e
      · have q' : G'.get? b = some o := q
        rw [hb, ge] at q'
        cases q'
      · exact (gk b hb).symm.trans q
    · rw [upd_ne (Ne.symm M.ne)]
      exact I1.hok.fresh M.new
/-- C(at=e).at is e -/
def tAt (te : TE) : TE := fun σ H Q => tCons te tNil σ H fun vs H1 => ∃ v, vs = [v] ∧ Q v H1
theorem pe_mkAt {a : Expr} {te : TE} {p pos pos2 kp : Pos} (T : ErAt X cn C fI qual) (hr : Room k X.A) (ha : PE X a te) (hdb : (cn == ("__debug__" : Str)) = false := by decide)
    (hall : (backToKw pos (keywordEach [⟨some "at", a, kp⟩] X.env)).all (·.1.isSome) = true := by rfl) (hks : (backToKw pos (keywordEach [⟨some "at", a, kp⟩] X.env)).filterMap (·.1) = [("at" : Str)] := by rfl)
    (hpl : ((backTo pos (starEach [] X.env)).any (·.1) || (backToKw pos (keywordEach [⟨some "at", a, kp⟩] X.env)).any (·.1.isNone)) = false := by rfl)
    (hb : attributeBase (.Call (.Name cn p) [] [⟨some "at", a, kp⟩] pos) "at" X.env (eval (.Call (.Name cn p) [] [⟨some "at", a, kp⟩] pos) X.env) = eval (.Call (.Name cn p) [] [⟨some "at", a, kp⟩] pos) X.env := by rfl) :
    PE X (.Attribute (.Call (.Name cn p) [] [⟨some "at", a, kp⟩] pos) "at" pos2) (tAt te) := by
  refine ⟨fun pins s σ H Q I h => ?_⟩
  refine attr_of hb ?_
  refine wpAny_Call_Name_kw (ld_glob I T.g T.m ?_ hdb)
  refine PySem.W.callWith_KW0 (h₀ := X.base) I.ok.mod.kin T.t.kC hall (thn ((pk_cons (nm := some "at") (kpos := kp) ha pk_nil).run pos pins s σ H (fun vs H1 => ∃ v, vs = [v] ∧ Q v H1) I h) fun us s1 hh => ?_) hpl
  · obtain ⟨vs, H1, I1, r1, v, ev, q1⟩ := hh
    subst ev
    refine ⟨I1.kIn, ?_⟩
    rw [hks]
    cases r1 with
    | cons rv rn =>
      rename_i v' us'
      cases rn
      show wpAny _ _ (call (.ref C) [] [(("at" : Str), v')]) _ _ _
      have hlim := I1.nolimit
      obtain ⟨hp, g, dr, tk, os⟩ := s1
      refine wpAny_call (er_made T.t (v := v') I1.kIn hlim (by have := hr.dp; omega) (.inr ⟨rfl, rfl⟩) fun h' tk' e d M => ?_)
      show wpAny _ _ (getAttr (.ref e) "at" true) _ _ _
      obtain ⟨t1, hoe⟩ := M.obj
      have I2 : Inv X pins σ H1 ⟨h', g, dr, tk', os⟩ := I1.kept (t' := tk') M.keep
      obtain ⟨od, ho, hl⟩ := lookIn_ns M.ns
      have J : PySem.W.InstAt h' e _ C (some od) := ⟨hoe, rfl, rfl, ho⟩
      exact HandSPX.exc_get I2.kIn J T.t.ga T.t.gg T.t.exC (PySem.W.findObj_own T.t.hdC T.t.noN rfl (by rw [hl]; rfl)) (handed_of rv) ⟨v, H1, I2.tok _, rv, q1⟩
end
end VL


namespace VL
open PySem L2 PySem.Spec PyProof.Rows PySem.ErK L2H
/-! ### while an error is held: a def's promise may speak of it -/
structure FnE (P : Program) (w : World) (K : PySem.W.Frag) (mg : Str → Option Value) (base : Heap) (CX : CXT) (k : Nat) (f : Addr) (fd : FuncData) (ps : List Str) (sp : Addr × Obj → Sp) : Prop where
  len : ∀ p vs H Q E, sp p vs H Q E → vs.length = ps.length
  run : ∀ (p : Addr × Obj) (A : Around) (outer : List Env) (s : Shared) (H : Hp) (args : Args) (us : List Value) (vs : List V) (Q : VK) (E : XK), RoomH k A → Hot1 A p → PinOk outer H s p → Env0 P w K mg base A outer s H → BindsTo s fd args (ps.zip us) → Vals vs us →
    sp p vs H Q E → codeAny (model P w) A (.call (.ref f) args) (CR CX outer P w H s Q E) s
theorem fne_of {CX : CXT} {P : Program} {w : World} {K : PySem.W.Frag} {mg : Str → Option Value} {base : Heap} {k : Nat} {f : Addr} {name qual : Str} {params : Arguments} {body : List Stmt} {scope : Scope} {dV kV doc pm cdv ct oc : Value} {an od : Option Addr}
    {osl : Array (Option Value)} {N ps : List Str} {sp : Addr × Obj → Sp} (lk : K.lookup f = some ⟨oc, od, .func (PySem.W.fnOf name qual params body scope dV kV doc pm an cdv ct), osl⟩) (hcd : PySem.W.codeIn K cdv qual = true) (S : FnScope N ps scope)
    (len : ∀ p vs H Q E, sp p vs H Q E → vs.length = ps.length)
    (hbody : ∀ (p : Addr × Obj) (A : Around) (outer : List Env) (s : Shared) (H : Hp) (vs : List V) (Q : VK) (E : XK), Hot1 A p → RoomH k (A.deeper (envOfC qual scope s.heap.objs.size f cdv)) → sp p vs H Q E →
      ∃ t, PSs (cxH CX P w K mg base N qual scope f cdv A outer s H E p) body t ∧ t { nx := fun _ H' => Q .non H', rt := Q } (L2.start N vs) H) :
    FnE P w K mg base CX (k + 1) f (PySem.W.fnOf name qual params body scope dV kV doc pm an cdv ct) ps sp :=
  ⟨len, fun p A outer s H args us vs Q E hr hot hpin e0 hb r hsp => by
    have F : FnH P w K mg base CX (k + 1) f (PySem.W.fnOf name qual params body scope dV kV doc pm an cdv ct) ps (fun vs H Q E => sp p vs H Q E) ∨ True := .inr trivial
    have hl := len _ _ _ _ _ hsp
    have KX : K.In s.heap := e0.mod.kin.keeps fun b o e => (e0.bs b o e).1
    have lim : s.heap.NoLimit := e0.mod.nolimit.keeps fun b o e => (e0.bs b o e).1
    have hkind : ∀ y ∈ ps.zip us, scope.names.lookup y.1 = some .local ∨ (scope.names.lookup y.1 = some .cell ∧ ((cellsFrom (s.heap.objs.size + 1) scope.names []).lookup y.1).isSome = true) := by
      rintro ⟨n, v⟩ hy
      rcases S.par n (List.of_mem_zip hy).1 with q | q
      · exact .inl q
      · exact .inr ⟨q, PySem.W.cellsFrom_some _ _ _ (.inl q)⟩
    refine codeAny_call_function hr.depth (KX _ _ lk) rfl S.co S.gen rfl (PySem.W.codeRec_of KX hcd) (hb _ _ _ _ ?_)
    refine wpAny_newFunctionEnv_cells S.kind hkind fun env he s1 x => ?_
    subst he
    refine ⟨lim.keeps x.toInCall.keep, codeAny_func ?_⟩
    obtain ⟨t, ht, hq⟩ := hbody p A outer s H vs Q E hot (hr.deeper _) hsp
    have I : Inv (cxH CX P w K mg base N qual scope f cdv A outer s H E p) [] (L2.start N vs) H s1 := inv_startH S hpin e0 hl r x
    refine wpAny_mono (ht.run [] s1 (L2.start N vs) H _ I hq) (fun fl s' hs => ?_) fun _ _ hs => hs
    have fin : ∀ {σ' : L2.St} {H' : Hp} {v : V} {u : Value}, Inv (cxH CX P w K mg base N qual scope f cdv A outer s H E p) [] σ' H' s' → RelV v u → Q v H' → CE outer P w H s Q u s' :=
      fun {σ' H' v u} J rv q => ⟨v, H', J.os, J.bare, J.base, J.hok, rv, q⟩
    cases fl with
    | ret u =>
      obtain ⟨v, σ', H', J, rv, q⟩ := hs
      exact fin J rv q
    | next =>
      obtain ⟨σ', H', J, q⟩ := hs
      exact fin (v := V.non) (u := Value.none) J rfl q
    | brk =>
      obtain ⟨_, _, _, q⟩ := hs
      exact q.elim
    | cont =>
      obtain ⟨_, _, _, q⟩ := hs
      exact q.elim⟩
section
variable {X : Cx} {CX : CXT} {k : Nat} {f C : Addr} {fd : FuncData} {ps : List Str} {sp : Addr × Obj → Sp} {E : L2.St → XK} {x : Str} {q pos : Pos} {e : Expr} {es : List Expr} {t : TA} {p : Addr × Obj}
theorem pe_callE (F : FnE X.prog X.w X.K X.mg X.base CX k f fd ps sp) (hr : RoomH k X.A) (hot : Hot1 X.A p) (hp : p ∈ X.pn) (hg : Gl X x) (hm : X.mg x = some (.ref f)) (hk : PySem.W.keepIn X.K (.ref f) = true) (hb : Binds X.K fd ps []) (hx : ∀ σ, PassesAt CX X σ (E σ))
    (ha : PA X (e :: es) t) (hdb : (x == ("__debug__" : Str)) = false := by decide) (he : starEach (e :: es) X.env = (false, eval e X.env) :: starEach es X.env := by rfl) (hpl : (backTo pos (starEach es X.env)).any (·.1) = false := by rfl) :
    PE X (.Call (.Name x q) (e :: es) [] pos) (tCallS (sp p) E t) := by
  refine ⟨fun pins s σ H Q I h => ?_⟩
  refine wpAny_Call_Name_kw (ld_glob I hg hm ?_ hdb)
  refine PySem.W.callWith_K (h₀ := X.base) I.ok.mod.kin hk (thn (ha.run pos pins s σ H _ I h) fun us s1 ⟨vs, H1, I1, r, q⟩ => ⟨I1.kIn, ?_⟩) he hpl
  have hl : us.length = ps.length := r.length.symm.trans (F.len _ _ _ _ _ q)
  have b := hb s1 us I1.kIn (by rw [List.append_nil]; exact hl)
  rw [List.append_nil] at b
  have P1 := I1.pin p (List.mem_append_left _ hp)
  have hpin : PinOk X.stack H1 s1 p := ⟨P1.1, P1.2.1, fun hm => (List.mem_cons.mp (I1.stkSub p.1 hm)).elim P1.2.2.1 P1.2.2.2.1, P1.2.2.2.2⟩
  refine wpAny_call (codeAny_mono (F.run p X.A X.stack s1 H1 ⟨us, []⟩ us vs Q (E σ) hr hot hpin I1.env0 b r q) fun r s' hq => ?_)
  cases r with
  | error e => exact hx σ pins H1 s1 e s' I1 hq
  | ok fl =>
    cases fl with
    | ret u => exact I1.after hq
    | next => exact hq.elim
    | brk => exact hq.elim
    | cont => exact hq.elim
end
theorem PE.of {X : Cx} {e : Expr} {t t' : TE} (h : PE X e t) (k : ∀ σ H Q, t' σ H Q → t σ H Q) : PE X e t' := ⟨fun pins s σ H Q I h' => h.run pins s σ H Q I (k σ H Q h')⟩
/-! ### isinstance(e, c), e.at, e an error that stands -/
section
variable {X : Cx} {a : Addr} {oe : Obj} {cls : Value} {d : Option Addr}
def rIsP (K : PySem.W.Frag) (a : Addr) (cls : Value) (d : Option Addr) : List V → Hp → VK → Prop := fun xs H Q => ∃ (D : Addr) (c : V) (cv : Value) (b : Bool), cls = .ref D ∧ ErCls K D ∧ xs = [.ref a, c] ∧ ClsV c cv ∧ PySem.W.kitOne K (.ref D) cv = some b ∧ (∀ dd, d = some dd → ∃ fs, H dd = some (.xd fs)) ∧ Q (.bl b) H
theorem inst_pin {D : Addr} {pins : List (Addr × Obj)} {σ : L2.St} {H : Hp} {s : Shared} (I : Inv X pins σ H s) (hp : (a, oe) ∈ X.pn) (hz : Zc (.ref D) d oe) (hf : ∃ vs, oe.data = .fields vs) (hd : ∀ dd, d = some dd → ∃ fs, H dd = some (.xd fs)) :
    ∃ od, PySem.W.InstAt s.heap a oe D od := by
  obtain ⟨hget, _⟩ := I.pin (a, oe) (List.mem_append_left _ hp)
  obtain ⟨vs, hv⟩ := hf
  have hn : PySem.W.notCls oe = true := by
    unfold PySem.W.notCls
    rw [hv] <;> rfl
  cases d with
  | none => exact ⟨none, hget, hz.1, hn, by rw [hz.2]; trivial⟩
  | some dd =>
    obtain ⟨fs, e⟩ := hd dd rfl
    obtain ⟨mA, hns, _⟩ : ObjOk X.prog X.w H s.heap dd (.xd fs) := I.hok dd _ e
    obtain ⟨od, ho, _⟩ := lookIn_ns hns
    exact ⟨some od, hget, hz.1, hn, by rw [hz.2]; exact ho⟩
theorem call_isP (hp : (a, oe) ∈ X.pn) (hz : Zc cls d oe) (hf : ∃ vs, oe.data = .fields vs) : CallR X (.builtin "isinstance") (rIsP X.K a cls d) := by
  intro pins s σ H xs us Q I r h
  obtain ⟨D, c, cv, b, rfl, T, rfl, hcv, e, hd, q⟩ := h
  cases r with
  | cons rx rr =>
    cases rr with
    | cons rt rr =>
      cases rr
      cases rx
      have ec := hcv.eq rt
      subst ec
      obtain ⟨od, J⟩ := inst_pin I hp hz hf hd
      have hcl : (PySem.W.clsIn X.K D).isSome = true := by
        obtain ⟨cd, hc, _⟩ := PySem.W.any_some T.hdC
        rw [hc]
        rfl
      exact PySem.W.kia_one (PySem.W.kitx_exc hcl T.ga T.gg T.exC T.ca T.cg T.ct T.cm) I.kIn J e (fun z => nomatch z) fun tk => ⟨.bl b, H, I.kept (t' := tk) fun _ _ z => z, rfl, q⟩
/-- e.at -/
def tAtP (K : PySem.W.Frag) (a : Addr) (cls : Value) (d : Option Addr) (te : TE) : TE := fun σ H Q => te σ H fun x H1 => x = .ref a ∧ ∃ (D fI : Addr) (qual : Str) (dd : Addr) (v : V), cls = .ref D ∧ ErTxt K D fI qual ∧ d = some dd ∧ H1 dd = some (.xd [(("at" : Str), v)]) ∧ Q v H1
theorem pe_atP {e : Expr} {te : TE} {pos : Pos} (hp : (a, oe) ∈ X.pn) (hz : Zc cls d oe) (hf : ∃ vs, oe.data = .fields vs) (he : PE X e te) (hb : attributeBase e "at" X.env (eval e X.env) = eval e X.env := by rfl) :
    PE X (.Attribute e "at" pos) (tAtP X.K a cls d te) := by
  refine ⟨fun pins s σ H Q I h => ?_⟩
  refine attr_of hb (thn (he.run pins s σ H _ I h) fun u s1 hh => ?_)
  obtain ⟨x, H1, I1, rx, ex, D, fI, qual, dd, v, rfl, T, ed, ea, q⟩ := hh
  subst ex
  obtain rfl : u = Value.ref a := rx
  subst ed
  obtain ⟨ha, _⟩ := I1.pin (a, oe) (List.mem_append_left _ hp)
  obtain ⟨vs, hd⟩ := hf
  obtain ⟨mA, hns, hr⟩ : ObjOk X.prog X.w H1 s1.heap dd (.xd [(("at" : Str), v)]) := I1.hok dd _ ea
  obtain ⟨od, ho, hl⟩ := lookIn_ns hns
  have l : List.lookup ("at" : Str) [(("at" : Str), v)] = some v := by simp [List.lookup]
  obtain ⟨u, hu, ru⟩ := RelO.some_of (v := v) (o := mA "at") (by rw [← l]; exact hr "at")
  have J : PySem.W.InstAt s1.heap a oe D (some od) := ⟨ha, hz.1, by unfold PySem.W.notCls; rw [hd] <;> rfl, by rw [hz.2]; exact ho⟩
  exact HandSPX.exc_get I1.kIn J T.ga T.gg T.exC (PySem.W.findObj_own T.hdC T.noN rfl (by rw [hl, hu])) (handed_of ru) ⟨v, H1, I1.tok _, ru, q⟩
end
end VL


namespace VL
open PySem L2 PySem.Spec PyProof.Rows PySem.ErK L2H HotX
/-! ### [e for k in range(n)], an error being held -/
def PIRE (X : Cx) (pins : List (Addr × Obj)) (σ : L2.St) (R : It → Hp → Prop) (itv : Value) (s2 : Shared) : Prop :=
  ∃ (it : Addr) (lo : Int) (n : Nat) (H' : Hp), itv = .ref it ∧ Inv X pins σ H' s2 ∧ IsRangeIter s2.heap it (lo + ((0 : Nat) : Int) * 1) ((n : Int) - ((0 : Nat) : Int)) 1 ∧ FpOk X pins H' it ∧ R (Itr lo n) H'
structure PIR (X : Cx) (iter : Expr) (wi : TI) : Prop where
  run : ∀ (pins : List (Addr × Obj)) (s : Shared) (σ : L2.St) (H : Hp) (R : It → Hp → Prop), Inv X pins σ H s → wi σ H R →
    wpAny (model X.prog X.w) X.A (eval iter X.env) (fun v s1 => wpAny (model X.prog X.w) X.A (pyIter v) (PIRE X pins σ R) X.xe s1) X.xe s
theorem range_itR {X : Cx} {pins : List (Addr × Obj)} {σ : L2.St} {H : Hp} {s : Shared} {R : It → Hp → Prop} {E : Value → Shared → Prop} {hi : Int} {t u v : Tok} {tk : Nat} (I : Inv X pins σ H s) (h3 : -(2 ^ 62) ≤ hi) (h4 : hi < 2 ^ 62)
    (q : R (Itr 0 hi.toNat) H) : wpAny (model X.prog X.w) X.A (pyIter (.ref s.heap.objs.size)) (PIRE X pins σ R) E { s with heap := s.heap.push { cls := .type "range", data := .fields #[.int 0 t, .int hi u, .int 1 v] }, toks := tk } := by
  refine wpAny_pyIter_range (IsRange.new ..) (small_one (by omega) (by omega) h3 h4) ?_
  have I1 : Inv X pins σ H { s with heap := s.heap.push { cls := .type "range", data := .fields #[.int 0 t, .int hi u, .int 1 v] }, toks := tk } := I.kept fun b o e => Heap.get?_push_of_some _ e
  refine ⟨(s.heap.push { cls := .type "range", data := .fields #[.int 0 t, .int hi u, .int 1 v] }).objs.size, 0, hi.toNat, H, rfl, I1.kept (t' := tk) fun b o e => Heap.get?_push_of_some _ e, ?_, I1.fpOk (Nat.le_refl _) (I1.hok.fresh (Nat.le_refl _)), q⟩
  have e1 : (0 : Int) + ((0 : Nat) : Int) * 1 = 0 := by simp
  have e2 : ((hi.toNat : Nat) : Int) - ((0 : Nat) : Int) = Builtin.Range.rangeSize 0 hi 1 := by
    rw [rangeSize_one]
    split <;> omega
  rw [e1, e2]
  exact Heap.get?_push_size _ rfl
theorem pr_range1 {X : Cx} {a : Expr} {ta : TA} {p pos : Pos} (hg : Gl X "range") (hm : X.mg "range" = none) (ha : PA X [a] ta) (hs : starEach [a] X.env = [(false, eval a X.env)] := by rfl) : PIR X (.Call (.Name "range" p) [a] [] pos) (iRng1 ta) := by
  refine ⟨fun pins s σ H R I h => ?_⟩
  refine Call_ (ld_blt I hg hm boot_range (PyProof.Rows.callWith_type1 (thn (ha.run pos pins s σ H _ I h) fun us s1 ⟨vs, H1, I1, r1, q1⟩ => ?_) hs rfl))
  obtain ⟨j, e, q1, q2, q⟩ := q1
  subst e
  cases r1 with
  | cons r rr =>
    cases rr
    obtain ⟨t, rfl⟩ := r
    exact call_range_1 (range_itR I1 q1 q2 q)
theorem lcE_core {X : Cx} {pins : List (Addr × Obj)} {s : Shared} {σ : L2.St} {H : Hp} {Q : VK} {elt tg iter : Expr} {ifs : List Expr} {scope : Scope} {own : List (Str × Nat)} {pos pos' : Pos} {wi : TI} {g : TG} {tt : TT} {te : TE} {use : Option (Value → Sem Unit)} {Qf : Value → Shared → Prop}
    (hot : HotC X) (hN : X.N.Nodup) (I : Inv X pins σ H s) (hi : PIR X iter wi) (ok : BlkOk X.N X.env.scope scope own)
    (hg : ∀ (s : Shared) (H : Hp) (C : Addr) (cl : List (Str × Addr)) (fp : List Addr), PG (X.blk s H scope (compEnvC scope cl C X.env) fp) tg g) (ht : ∀ (s : Shared) (H : Hp) (C : Addr) (cl : List (Str × Addr)) (fp : List Addr), PTs (X.blk s H scope (compEnvC scope cl C X.env) fp) ifs tt)
    (he : ∀ (s : Shared) (H : Hp) (C : Addr) (cl : List (Str × Addr)) (fp : List Addr), PE (X.blk s H scope (compEnvC scope cl C X.env) fp) elt te) (hs : ∀ x, foldedSetIterable iter X.env x = pure x)
    (h : tLc wi g tt te (own.map (·.2)) σ H Q)
    (hRR : ∀ D C s' m H', Inv X pins σ H' s' → Q (.ref D) H' → s'.heap.Ns C m → FpOk X pins H' C → compPost (model X.prog X.w) X.A X.xe use Qf (.ref D) C (.ok .next) s') :
    wpAny (model X.prog X.w) X.A (comprehension (.ListComp elt [⟨tg, iter, ifs, 0⟩] scope pos) scope X.env pos' (newList []) false (eval iter X.env) use) Qf X.xe s := by
  have hfree : ∀ y ∈ scope.names, y.2 = .free → ∃ c, X.env.cells.lookup y.1 = some c := fun y hy e => by
    rcases ok.free y hy e with k | k
    · exact I.ok.has _ (.inl k)
    · exact I.ok.has _ (.inr k)
  refine wpAny_comprehension_free (use := use) rfl hs (closure_ok hfree) ok.kind (fun y hy e => by rw [ok.uniq y hy, e])
    (thn (hi.run pins s σ H _ I h) fun xv s1 hx => thn hx fun itv s2 h2 => ?_)
  obtain ⟨it, lo, nn, H2, e, I2, st2, f2, q⟩ := h2
  subst e
  have T : Turn X.prog X.w X.K tg (Itr lo nn) [it] it (fun i h => IsRangeIter h it (lo + (i : Nat) * 1) ((nn : Int) - (i : Nat)) 1) := turn_range it lo nn
  refine wpAny_newObj_type (newEnv_comp ?_) (by show 0 ≤ sizeLine; decide)
  generalize hD : s2.heap.objs.size = D
  have hDn : H2 D = none := I2.hok.fresh (Nat.le_of_eq hD)
  obtain ⟨W, ⟨m0, w0⟩, turn⟩ := q D hDn
  generalize hs3 : ({ s2 with heap := s2.heap.push { cls := .type "list", data := .seq ([] : List Value).toArray } } : Shared) = s3
  have I3 : Inv X pins σ (upd H2 D (.lst [])) s3 := by
    rw [← hs3]
    refine I2.laid (t' := s2.toks) (fun b o e => Heap.get?_push_of_some _ e) (Nat.le_of_eq hD) ⟨Nat.zero_le _, [], 0, .nil, ?_⟩
    rw [← hD]
    exact Heap.get?_push_size _ rfl
  have h3 : s3.heap = s2.heap.push { cls := .type "list", data := .seq ([] : List Value).toArray } := by rw [← hs3]
  have sz : it < s2.heap.objs.size := by
    obtain ⟨o, e, _⟩ := T.obj _ _ st2 it (by simp)
    exact Heap.lt_size e
  have f3 : ∀ b ∈ [it], FpOk X pins (upd H2 D (.lst [])) b ∧ b < s3.heap.objs.size := fun b hb => by
    have eb : b = it := by simpa using hb
    subst eb
    refine ⟨⟨?_, f2.2⟩, by rw [h3, Heap.size_push]; exact Nat.lt_succ_of_lt sz⟩
    rw [upd_ne (by rw [← hD]; exact Nat.ne_of_lt sz)]
    exact f2.1
  have st3 := T.keep 0 _ s3.heap st2 fun b _ o e => by rw [h3]; exact Heap.get?_push_of_some _ e
  have I4 := block_start I3 ok hN f3
  have pg := hg s3 (upd H2 D (.lst [])) s3.heap.objs.size (cellsFrom (s3.heap.objs.size + 1) scope.names (cloFrom X.env.cells scope.names [])) [it]
  have pt := ht s3 (upd H2 D (.lst [])) s3.heap.objs.size (cellsFrom (s3.heap.objs.size + 1) scope.names (cloFrom X.env.cells scope.names [])) [it]
  have pe := he s3 (upd H2 D (.lst [])) s3.heap.objs.size (cellsFrom (s3.heap.objs.size + 1) scope.names (cloFrom X.env.cells scope.names [])) [it]
  show codeAny _ _ (.compStart (.ListComp elt [⟨tg, iter, ifs, 0⟩] scope pos) 0 (.ref it) (.ref D) (compEnvC scope (cellsFrom (s3.heap.objs.size + 1) scope.names (cloFrom X.env.cells scope.names [])) s3.heap.objs.size X.env)) (compPost (model X.prog X.w) X.A X.xe use Qf (.ref D) s3.heap.objs.size) { s3 with heap := pushCells (s3.heap.push { cls := .type "dict", data := .dict #[] }) scope.names }
  have nfp : ∀ b ∈ [it], (upd H2 D (.lst [])) b = none := fun b hb => (f3 b hb).1.1
  generalize hce : compEnvC scope (cellsFrom (s3.heap.objs.size + 1) scope.names (cloFrom X.env.cells scope.names [])) s3.heap.objs.size X.env = ce at I4 pg pt pe ⊢
  have cL : ce.locals = s3.heap.objs.size := by subst hce; rfl
  generalize hH3 : upd H2 D (.lst []) = H3 at I3 I4 pg pt pe w0 nfp f3
  generalize hs4 : ({ s3 with heap := pushCells (s3.heap.push { cls := .type "dict", data := .dict #[] }) scope.names } : Shared) = s4 at I4 ⊢
  have st4 := T.keep 0 _ s4.heap st3 fun b _ o e => by rw [← hs4]; exact pushCells_keeps _ _ _ _ (Heap.get?_push_of_some _ e)
  have stat : ∀ {σ' : L2.St} {H' : Hp} {s' : Shared}, Inv (X.blk s3 H3 scope ce [it]) [] σ' H' s' → (∀ b ∈ [it], H' b = none) → ∀ b ∈ [it], FpOk (X.blk s3 H3 scope ce [it]) [] H' b := fun {σ' H' s'} I' hn b hb =>
    ⟨hn b hb, (I'.ok.exf b hb).1, I'.ok.exfs b hb, .inl hb, fun x c e => (I'.ok.exf b hb).2 x c e, fun p hp => absurd (show p ∈ ([] : List (Addr × Obj)) ++ [] from hp) (by simp)⟩
  -- the def's own view of a state of the block
  have back : ∀ {σ' : L2.St} {H' : Hp} {s' : Shared}, Inv (X.blk s3 H3 scope ce [it]) [] σ' H' s' → Inv X pins σ H' s' := fun {σ' H' s'} I' => I3.call' (ch := [it]) I'.os I'.base I'.hok I'.bare fun b hb => ⟨(f3 b hb).1.2.2.2.1, (f3 b hb).1.2.1, (f3 b hb).1.2.2.2.2.1, (f3 b hb).1.2.2.2.2.2⟩
  have loop : codeAny (model X.prog X.w) X.A (.compLoop (.ListComp elt [⟨tg, iter, ifs, 0⟩] scope pos) 0 (.ref it) (.ref D) ce) (compPost (model X.prog X.w) X.A X.xe use Qf (.ref D) s3.heap.objs.size) s4 := by
    refine compLoop_any (fun n s' => ∃ i H', Inv (X.blk s3 H3 scope ce [it]) [] (wipe σ (own.map (·.2))) H' s' ∧ IsRangeIter s'.heap it (lo + (i : Nat) * 1) ((nn : Int) - (i : Nat)) 1 ∧ (∀ b ∈ [it], H' b = none) ∧ W i n H') ?_ m0 ⟨0, H3, I4, st4, nfp, w0⟩
    rintro n s5 ⟨i, H5, I5, st5, n5, w5⟩
    obtain ⟨x1, hx1⟩ := hot.at (back I5)
    obtain ⟨_, g1, g2, g3, g4, g5⟩ := stat I5 n5 it (by simp)
    have g0 : H5 it = none := n5 it (by simp)
    rcases turn i n H5 w5 with ⟨stop, qq⟩ | ⟨go, Nx, hNx, step⟩
    · refine pyNext_range_end_hot hx1 st5 (by have z : nn ≤ i := stop; omega) fun h' eb => ?_
      have I6 : Inv (X.blk s3 H3 scope ce [it]) [] (wipe σ (own.map (·.2))) H5 { s5 with heap := h' } := I5.turned (t' := s5.toks) (fun b o _ e => eb b o e) g0 g1 g3 g4 g5
      have I7 := back I6
      have nC : H5 s3.heap.objs.size = none := by
        have z : H5 ce.locals = none := I6.free
        rw [cL] at z
        exact z
      obtain ⟨m, hn, _⟩ := I6.loc
      have hn : ({ s5 with heap := h' } : Shared).heap.Ns ce.locals m := hn
      rw [cL] at hn
      exact hRR D s3.heap.objs.size _ m H5 I7 qq hn (I3.fpOk (Nat.le_refl _) nC)
    · have hlt : i < nn := go
      refine wpAny_pyNext_range_item st5 (by omega) fun h' st' sb => ?_
      have st6 : IsRangeIter h' it (lo + ((i + 1 : Nat) : Int) * 1) ((nn : Int) - ((i + 1 : Nat) : Int)) 1 := by
        have e1 : lo + ((i : Nat) : Int) * 1 + 1 = lo + ((i + 1 : Nat) : Int) * 1 := by omega
        have e2 : (nn : Int) - ((i : Nat) : Int) - 1 = (nn : Int) - ((i + 1 : Nat) : Int) := by omega
        rw [← e1, ← e2]
        exact st'
      have I7 : Inv (X.blk s3 H3 scope ce [it]) [] (wipe σ (own.map (·.2))) H5 { s5 with heap := h', toks := s5.toks + 1 } := I5.turned (fun b o hb e => (sb.2 b hb).trans e) g0 g1 g3 g4 g5
      refine go_of (s := { s5 with heap := h', toks := s5.toks + 1 }) (n := "range_iterator") st6 rfl rfl (by decide) ?_
      have r7 : RelV (V.int (lo + i)) (Value.int (lo + (i : Nat) * 1) s5.toks) := ⟨s5.toks, by rw [Int.mul_one]⟩
      have I7' := I7.pinned (stat I7 n5) (T.obj _ _ st6)
      refine thnF (pg.run _ _ _ H5 _ _ _ I7' r7 (step (V.int (lo + i)) H5 ⟨rfl, rfl⟩)) fun _ s8 ⟨σ8, H8, I8, hw8, q8⟩ => ?_
      refine thnF (pt.run _ s8 σ8 H8 _ I8 q8) fun b s9 ⟨H9, I9, q9⟩ => ?_
      have fin : ∀ {s' : Shared} {H' : Hp}, Inv (X.blk s3 H3 scope ce [it]) ([] ++ pinsAt [it] h') σ8 H' s' → Nx H' → ∃ m, m < n ∧ ∃ i H', Inv (X.blk s3 H3 scope ce [it]) [] (wipe σ (own.map (·.2))) H' s' ∧ IsRangeIter s'.heap it (lo + (i : Nat) * 1) ((nn : Int) - (i : Nat)) 1 ∧ (∀ b ∈ [it], H' b = none) ∧ W i m H' := fun {s' H'} I' nx => by
        obtain ⟨m', hm, w'⟩ := hNx H' nx
        have pin' : ∀ b ∈ [it], ∀ o, h'.get? b = some o → s'.heap.get? b = some o ∧ H' b = none := fun b hb o e =>
          let z := I'.pin (b, o) (List.mem_append_right _ (List.mem_append_right _ (mem_pinsAt hb e)))
          ⟨z.1, z.2.1⟩
        have hl : (wipe σ (own.map (·.2))).length = σ8.length := by rw [← hw8, wipe_length]
        refine ⟨m', hm, i + 1, H', (I'.unpinned (pins := [])).weak hl (fun j v e => ?_), T.keep (i + 1) _ _ st6 fun b hb o e => (pin' b hb o e).1, fun b hb => ?_, w'⟩
        · rw [← hw8] at e
          exact (wipe_some e).1
        · obtain ⟨o, e, _⟩ := T.obj _ _ st6 b hb
          exact (pin' b hb o e).2
      cases b with
      | false =>
        simp only [Bool.false_eq_true, if_false] at q9 ⊢
        exact fin I9 q9
      | true =>
        simp only [if_true] at q9 ⊢
        refine thnF (pe.run _ s9 σ8 H9 _ I9 q9) fun z s10 ⟨yv, H10, I10, r10, acc, hD10, hz10, nx⟩ => ?_
        exact app_ok (X := X.blk s3 H3 scope ce [it]) I10 hD10 hz10 r10 fun s11 I11 => fin I11 nx
  exact codeAny_compStart_list loop (T.self X.A 0 _ _ _ st4 loop)
theorem pe_lcE {X : Cx} {elt tg iter : Expr} {ifs : List Expr} {scope : Scope} {own : List (Str × Nat)} {pos : Pos} {wi : TI} {g : TG} {tt : TT} {te : TE} (hot : HotC X) (hN : X.N.Nodup) (hi : PIR X iter wi) (ok : BlkOk X.N X.env.scope scope own)
    (hg : ∀ (s : Shared) (H : Hp) (C : Addr) (cl : List (Str × Addr)) (fp : List Addr), PG (X.blk s H scope (compEnvC scope cl C X.env) fp) tg g) (ht : ∀ (s : Shared) (H : Hp) (C : Addr) (cl : List (Str × Addr)) (fp : List Addr), PTs (X.blk s H scope (compEnvC scope cl C X.env) fp) ifs tt)
    (he : ∀ (s : Shared) (H : Hp) (C : Addr) (cl : List (Str × Addr)) (fp : List Addr), PE (X.blk s H scope (compEnvC scope cl C X.env) fp) elt te) (hs : ∀ x, foldedSetIterable iter X.env x = pure x := by intro _; rfl) :
    PE X (.ListComp elt [⟨tg, iter, ifs, 0⟩] scope pos) (tLc wi g tt te (own.map (·.2))) := by
  refine ⟨fun pins s σ H Q I h => ?_⟩
  rw [eval_ListComp]
  refine lcE_core hot hN I hi ok hg ht he hs h fun D C s' m H' I' q hn f => ⟨m, hn, fun h'' sb => ?_⟩
  obtain ⟨f0, f1, f2, f3, f4, f5⟩ := f
  exact ⟨.ref D, H', I'.turned (t' := s'.toks) (fun b o hb e => (sb.2 b hb).trans e) f0 f1 f3 f4 f5, rfl, q⟩
end VL


namespace VL
open PySem L2 PySem.Spec PyProof.Rows PySem.ErK L2H HotX
/-! ### repr of data -/
structure Nice (d : PyData) : Prop where
  sh : SeqAt.shaped d = true
  sw : d.showable = true
  len : d.shown.length ≤ sizeLine
def rRep (K : PySem.W.Frag) : List V → Hp → VK → Prop := fun vs H Q => ∃ (v : V) (d : PyData), vs = [v] ∧ Dp K H v d ∧ Nice d ∧ Q (.str d.shown) H
theorem cr_rep {X : Cx} (hg : X.A.guards = some []) (hu : X.A.units + 65 < cLine) : CallR X (.builtin "repr") (rRep X.K) := by
  intro pins s σ H vs us Q I r h
  obtain ⟨v, d, rfl, hd, n, q⟩ := h
  cases r with
  | cons rv rn =>
    rename_i u us'
    cases rn
    have fin : ∀ (x : Str) (t : Tok) (tk : Nat), d.shown = x → (∃ (v : V) (H' : Hp), Inv X pins σ H' { s with toks := tk } ∧ RelV v (.str x t) ∧ Q v H') := fun x t tk e => ⟨.str x, H, I.tok _, ⟨t, rfl⟩, e ▸ q⟩
    obtain ⟨as, rr⟩ := Dp.reads I d v u hd rv
    cases hd with
    | non =>
      cases rv
      exact PySem.P.repr_of_none (fin _ _ _ rfl)
    | bl b =>
      cases rv
      exact PySem.P.repr_of_bool (fin _ _ _ rfl)
    | int i =>
      obtain ⟨t, rfl⟩ := rv
      exact PySem.P.repr_of_int (of_decide_eq_true n.sw) (fin _ _ _ rfl)
    | str x =>
      obtain ⟨t, rfl⟩ := rv
      exact PySem.P.repr_of_str (fin _ _ _ rfl) n.len
    | lst h1 h2 =>
      cases rv
      refine repr_of_reads' rr n.sw (fun e => ?_) hg (by have := SeqAt.depth_of_shaped n.sh; omega) (fun _ _ e => e) (fun h' u tk hk => ⟨.str _, H, I.kept hk, ⟨_, rfl⟩, q⟩) n.len
      rw [PyData.hasDict_of_canLay _ (SeqAt.canLay_of_shaped n.sh)] at e
      cases e
    | tup h1 h2 =>
      cases rv
      refine repr_of_reads' rr n.sw (fun e => ?_) hg (by have := SeqAt.depth_of_shaped n.sh; omega) (fun _ _ e => e) (fun h' u tk hk => ⟨.str _, H, I.kept hk, ⟨_, rfl⟩, q⟩) n.len
      rw [PyData.hasDict_of_canLay _ (SeqAt.canLay_of_shaped n.sh)] at e
      cases e
end VL


namespace VL
open PySem L2 PySem.Spec PyProof.Rows PySem.ErK L2H HotX
/-! ### from a body to its promise -/
section
variable {P : Program} {w : World} {K : PySem.W.Frag} {mg : Str → Option Value} {base : Heap}
theorem ok0 {x qual : Str} {st : Stmt} {f : Addr} {fd : FuncData} {N ps : List Str} {k : Nat} {sp : Sp} (F : Fun K x qual st f fd) (S : FnScope N ps (defScope st)) (len : ∀ vs H Q E, sp vs H Q E → vs.length = ps.length)
    (hb : ∀ (cdv : Value) (A : Around) (outer : List Env) (s : Shared) (H : Hp) (vs : List V) (Q : VK) (E : XK), RoomG k (A.deeper (envOfC qual (defScope st) s.heap.objs.size f cdv)) → sp vs H Q E →
      ∃ t, PSs (cxOf CX0 P w K mg base N qual (defScope st) f cdv A outer s H E).nox (defBody st) t ∧ t { nx := fun _ H' => Q .non H', rt := Q } (L2.start N vs) H) : FnG P w K mg base CX0 (k + 1) f fd ps sp := by
  obtain ⟨oc, od, kV, doc, pm, an, cdv, ct, osl, rfl, lk, hcd⟩ := F.ex
  refine fng_of lk hcd S len fun A outer s H vs Q E hr hsp => ?_
  obtain ⟨t, h, q⟩ := hb cdv A outer s H vs Q E hr hsp
  exact ⟨t, h.nox, q⟩
theorem okN {x qual : Str} {st : Stmt} {f : Addr} {fd : FuncData} {N ps : List Str} {k : Nat} {sp : Sp} (F : Fun K x qual st f fd) (S : FnScope N ps (defScope st)) (len : ∀ vs H Q E, sp vs H Q E → vs.length = ps.length)
    (hb : ∀ (cdv : Value) (A : Around) (outer : List Env) (s : Shared) (H : Hp) (vs : List V) (Q : VK) (E : XK), RoomG k (A.deeper (envOfC qual (defScope st) s.heap.objs.size f cdv)) → sp vs H Q E →
      ∃ t, PSs (cxOf (L2N.CX P w) P w K mg base N qual (defScope st) f cdv A outer s H E) (defBody st) t ∧ t { nx := fun _ H' => Q .non H', rt := Q } (L2.start N vs) H) : FnG P w K mg base (L2N.CX P w) (k + 1) f fd ps sp := by
  obtain ⟨oc, od, kV, doc, pm, an, cdv, ct, osl, rfl, lk, hcd⟩ := F.ex
  refine fng_of lk hcd S len fun A outer s H vs Q E hr hsp => ?_
  obtain ⟨t, h, q⟩ := hb cdv A outer s H vs Q E hr hsp
  exact ⟨t, h, q⟩
theorem okE {x qual : Str} {st : Stmt} {f : Addr} {fd : FuncData} {N ps : List Str} {k : Nat} {sp : Addr × Obj → Sp} (F : Fun K x qual st f fd) (S : FnScope N ps (defScope st)) (len : ∀ p vs H Q E, sp p vs H Q E → vs.length = ps.length)
    (hb : ∀ (cdv : Value) (p : Addr × Obj) (A : Around) (outer : List Env) (s : Shared) (H : Hp) (vs : List V) (Q : VK) (E : XK), Hot1 A p → RoomH k (A.deeper (envOfC qual (defScope st) s.heap.objs.size f cdv)) → sp p vs H Q E →
      ∃ t, PSs (cxH CX0 P w K mg base N qual (defScope st) f cdv A outer s H E p).nox (defBody st) t ∧ t { nx := fun _ H' => Q .non H', rt := Q } (L2.start N vs) H) : FnE P w K mg base CX0 (k + 1) f fd ps sp := by
  obtain ⟨oc, od, kV, doc, pm, an, cdv, ct, osl, rfl, lk, hcd⟩ := F.ex
  refine fne_of lk hcd S len fun p A outer s H vs Q E hot hr hsp => ?_
  obtain ⟨t, h, q⟩ := hb cdv p A outer s H vs Q E hot hr hsp
  exact ⟨t, h.nox, q⟩
end
/-! ### C() of a class without an __init__ of its own -/
theorem pmk_own0 {X : Cx} {C : Addr} {bmB : List Value} {B newId initId : String} {x : Str} {p pos : Pos} (F : ExcBaseFacts B newId initId bmB) (q : PySem.W.excIn X.K C bmB newId = true) (gC : X.mg x = some (.ref C)) (kC : PySem.W.keepIn X.K (.ref C) = true) (r : Raises X (.ref C)) (hg : Gl X x)
    (hdb : (x == ("__debug__" : Str)) = false := by decide) : L2N.PMk X (.Call (.Name x p) [] [] pos) (fun _ H Q => Q (.ref C) none H) := by
  intro pins s σ H Q I h
  refine wpAny_Call_Name_kw (ld_glob I hg gC ?_ hdb)
  refine PySem.W.callWith_K0 I.kIn kC ?_
  show wpAny _ _ (call (.ref C) []) _ _ _
  obtain ⟨bm, N, nm, qn, bs, hdct, sn, sub, ab, col, dd, k0, k1, k2, k3, k5, mN, hC, hN, hni, T⟩ := exc_obj I.kIn q
  refine wpAny_call_exc_subT F T hC hN hni (fun h' e hm => ?_) (Nat.zero_le _)
  exact L2N.mk_of I hm r h (I.hok.gone hm.new)
/-! ### the program's pieces -/
def topK (i : Nat) : Stmt := PySem.Challenge.pw_bothplans_k00_errors_and_what_they_keep.main.body.getD i (.Pass ⟨0, 0, 0, 0⟩)
abbrev sMarks : Stmt := topK 10
abbrev sRaise : Stmt := topK 11
abbrev sHeard : Stmt := topK 12
abbrev sNamed : Stmt := topK 13
abbrev sLaw : Stmt := topK 14
def cnK : Nat → Str
  | 0 => "InvalidStore" | 1 => "InvalidState" | 2 => "InvalidLot" | 3 => "InvalidQuestion" | 4 => "InvalidText" | 5 => "Refused" | _ => "InvalidCommand"
def qnK : Nat → Str
  | 0 => "InvalidStore.__init__" | 1 => "InvalidState.__init__" | 2 => "InvalidLot.__init__" | 3 => "InvalidQuestion.__init__" | 4 => "InvalidText.__init__" | _ => "Refused.__init__"
/-- what the top has written -/
structure TxtK (K : PySem.W.Frag) (mg : Str → Option Value) (Cs Is : Nat → Addr) (B fM fR fH fN : Addr) : Prop where
  g : ∀ i, i < 7 → mg (cnK i) = some (.ref (Cs i))
  er : ∀ i, i < 6 → ErTxt K (Cs i) (Is i) (qnK i)
  cl : ∀ i, i < 7 → ErCls K (Cs i)
  e6 : ∃ bmB newId initId Bn, ExcBaseFacts Bn newId initId bmB ∧ PySem.W.excIn K (Cs 6) bmB newId = true
  kit : ∀ i j, i < 7 → j < 7 → PySem.W.kitOne K (.ref (Cs i)) (.ref (Cs j)) = some (decide (j = i))
  kitV : ∀ i, i < 7 → PySem.W.kitOne K (.ref (Cs i)) (.type "ValueError") = some true
  gB : mg "PlanError" = some (.ref B)
  exm : ∀ i, i < 7 → PySem.W.exmOne K (.ref (Cs i)) (.ref B) = some true
  nV : mg "ValueError" = none
  nI : mg "isinstance" = none
  nRp : mg "repr" = none
  nRg : mg "range" = none
  gM : mg "_law_marks" = some (.ref fM)
  kM : PySem.W.keepIn K (.ref fM) = true
  gR : mg "_law_raise" = some (.ref fR)
  kR : PySem.W.keepIn K (.ref fR) = true
  gH : mg "_law_heard" = some (.ref fH)
  kH : PySem.W.keepIn K (.ref fH) = true
  gN : mg "_law_named" = some (.ref fN)
  kN : PySem.W.keepIn K (.ref fN) = true
/-! ### _law_raise -/
def spRaise (Cs : Nat → Addr) : Sp := fun vs H _ E => ∃ (i : Nat) (v : V), i < 7 ∧ vs = [.int i, v] ∧ (i < 6 → ∀ d, H d = none → E (.ref (Cs i)) (some d) (upd H d (.xd [(("at" : Str), v)]))) ∧ (i = 6 → E (.ref (Cs 6)) none H)
theorem scR : FnScope ["_law_at", "_law_thing"] ["_law_at", "_law_thing"] (defScope sRaise) := ⟨rfl, rfl, rfl, by decide +kernel, rfl, by decide +kernel, by decide +kernel⟩
section
variable {P : Program} {w : World} {K : PySem.W.Frag} {mg : Str → Option Value} {base : Heap} {Cs Is : Nat → Addr} {B fM fR fH fN : Addr}
theorem ok_raise {fd : FuncData} (F : Fun K "_law_raise" "_law_raise" sRaise fR fd) (T : TxtK K mg Cs Is B fM fR fH fN) : FnG P w K mg base (L2N.CX P w) 3 fR fd ["_law_at", "_law_thing"] (spRaise Cs) := by
  refine okN F scR (fun vs H Q E h => ?_) ?_
  · obtain ⟨i, v, _, rfl, _⟩ := h
    rfl
  · intro cdv A outer s H vs Q E hr h
    have er : ∀ i (hi : i < 6) (hg : Gl (cxOf (L2N.CX P w) P w K mg base ["_law_at", "_law_thing"] "_law_raise" (defScope sRaise) fR cdv A outer s H E) (cnK i)), ErAt (cxOf (L2N.CX P w) P w K mg base ["_law_at", "_law_thing"] "_law_raise" (defScope sRaise) fR cdv A outer s H E) (cnK i) (Cs i) (Is i) (qnK i) := fun i hi hg => ⟨hg, T.g i (by omega), T.er i hi⟩
    have tk := L2N.takes_of (X := cxOf (L2N.CX P w) P w K mg base ["_law_at", "_law_thing"] "_law_raise" (defScope sRaise) fR cdv A outer s H E) (E := E) rfl rfl rfl rfl
    obtain ⟨bmB, newId, initId, Bn, EF, e6⟩ := T.e6
    refine ⟨_, pss_cons (ps_if (pt_cmpR op_eq (pv 0) pe_int (nomark _)) (pss_one (L2N.ps_raise rfl tk (pmk_er (er 0 (by decide) (by rfl)) hr.r (pa_cons (pv 1) pa_nil)))) pss_nil)
      (pss_cons (ps_if (pt_cmpR op_eq (pv 0) pe_int (nomark _)) (pss_one (L2N.ps_raise rfl tk (pmk_er (er 1 (by decide) (by rfl)) hr.r (pa_cons (pv 1) pa_nil)))) pss_nil)
      (pss_cons (ps_if (pt_cmpR op_eq (pv 0) pe_int (nomark _)) (pss_one (L2N.ps_raise rfl tk (pmk_er (er 2 (by decide) (by rfl)) hr.r (pa_cons (pv 1) pa_nil)))) pss_nil)
      (pss_cons (ps_if (pt_cmpR op_eq (pv 0) pe_int (nomark _)) (pss_one (L2N.ps_raise rfl tk (pmk_er (er 3 (by decide) (by rfl)) hr.r (pa_cons (pv 1) pa_nil)))) pss_nil)
      (pss_cons (ps_if (pt_cmpR op_eq (pv 0) pe_int (nomark _)) (pss_one (L2N.ps_raise rfl tk (pmk_er (er 4 (by decide) (by rfl)) hr.r (pa_cons (pv 1) pa_nil)))) pss_nil)
      (pss_cons (ps_if (pt_cmpR op_eq (pv 0) pe_int (nomark _)) (pss_one (L2N.ps_raise rfl tk (pmk_er (er 5 (by decide) (by rfl)) hr.r (pa_cons (pv 1) pa_nil)))) pss_nil)
      (pss_one (L2N.ps_raise rfl tk (pmk_own0 EF e6 (T.g 6 (by decide)) (T.cl 6 (by decide)).kC (raises_own (T.cl 6 (by decide)).exC (T.cl 6 (by decide)).tyC) (by rfl))))))))), ?_⟩
    obtain ⟨i, v, hi, rfl, kE, k6⟩ := h
    have no : ∀ (i : Nat) (j : Int) (A B : Prop), (i : Int) ≠ j → B → ∃ k, V.bl (decide (V.int (i : Int) = V.int j)) = V.bl k ∧ (if k = true then A else B) := fun i j A B n b => ⟨false, by
      congr 1
      exact decide_eq_false fun z => n (V.int.inj z), iteF b⟩
    have yes : ∀ (i : Nat) (j : Int) (A B : Prop), (i : Int) = j → A → ∃ k, V.bl (decide (V.int (i : Int) = V.int j)) = V.bl k ∧ (if k = true then A else B) := fun i j A B n b => ⟨true, by
      congr 1
      exact decide_eq_true (congrArg V.int n), iteT b⟩
    by_cases c0 : i = 0
    · subst c0
      exact ⟨_, rfl, rfl, yes 0 0 _ _ rfl ⟨_, rfl, _, rfl, fun d hd => kE (by decide) d hd⟩⟩
    refine ⟨_, rfl, rfl, no i 0 _ _ (by omega) ?_⟩
    by_cases c1 : i = 1
    · subst c1
      exact ⟨_, rfl, rfl, yes 1 1 _ _ rfl ⟨_, rfl, _, rfl, fun d hd => kE (by decide) d hd⟩⟩
    refine ⟨_, rfl, rfl, no i 1 _ _ (by omega) ?_⟩
    by_cases c2 : i = 2
    · subst c2
      exact ⟨_, rfl, rfl, yes 2 2 _ _ rfl ⟨_, rfl, _, rfl, fun d hd => kE (by decide) d hd⟩⟩
    refine ⟨_, rfl, rfl, no i 2 _ _ (by omega) ?_⟩
    by_cases c3 : i = 3
    · subst c3
      exact ⟨_, rfl, rfl, yes 3 3 _ _ rfl ⟨_, rfl, _, rfl, fun d hd => kE (by decide) d hd⟩⟩
    refine ⟨_, rfl, rfl, no i 3 _ _ (by omega) ?_⟩
    by_cases c4 : i = 4
    · subst c4
      exact ⟨_, rfl, rfl, yes 4 4 _ _ rfl ⟨_, rfl, _, rfl, fun d hd => kE (by decide) d hd⟩⟩
    refine ⟨_, rfl, rfl, no i 4 _ _ (by omega) ?_⟩
    by_cases c5 : i = 5
    · subst c5
      exact ⟨_, rfl, rfl, yes 5 5 _ _ rfl ⟨_, rfl, _, rfl, fun d hd => kE (by decide) d hd⟩⟩
    refine ⟨_, rfl, rfl, no i 5 _ _ (by omega) ?_⟩
    exact k6 (by omega)
end
end VL


namespace VL
open PySem L2 PySem.Spec PyProof.Rows PySem.ErK L2H HotX
theorem pe_gref {X : Cx} {x : Str} {a : Addr} {pos : Pos} (hg : Gl X x) (hm : X.mg x = some (.ref a)) (hd : (x == ("__debug__" : Str)) = false := by decide) : PE X (.Name x pos) (tC (.ref a)) := pe_glob (v := .ref a) hg hm rfl hd
/-! ### _law_marks -/
def marksK (i : Nat) : List V := (List.range 7).map fun j => V.bl (decide (j = i))
def spM (Cs : Nat → Addr) (a : Addr) (cls : Value) (d : Option Addr) : Sp := fun vs H Q _ => ∃ i : Nat, i < 7 ∧ cls = .ref (Cs i) ∧ vs = [.ref a] ∧ (∀ dd, d = some dd → ∃ fs, H dd = some (.xd fs)) ∧ ∀ H' q, Same H H' → H' q = some (.lst (marksK i)) → Q (.ref q) H'
def spMarks (Cs : Nat → Addr) : Addr × Obj → Sp := fun p vs H Q E => ∃ (cls : Value) (d : Option Addr), Zc cls d p.2 ∧ (∃ vs, p.2.data = .fields vs) ∧ spM Cs p.1 cls d vs H Q E
theorem scM : FnScope ["_law_e", "_law_found"] ["_law_e"] (defScope sMarks) := ⟨rfl, rfl, rfl, by decide +kernel, rfl, by decide +kernel, by decide +kernel⟩
theorem upd_same_of {H H' : Hp} {p : Addr} {o : HO} (s : Same H H') (h : H' p = none) : Same H (upd H' p o) := fun b u e => by
  rw [upd_ne (ne_of_none (s b u e) h)]
  exact s b u e
section
variable {P : Program} {w : World} {K : PySem.W.Frag} {mg : Str → Option Value} {base : Heap} {Cs Is : Nat → Addr} {B fM fR fH fN : Addr}
theorem ok_marks {fd : FuncData} (F : Fun K "_law_marks" "_law_marks" sMarks fM fd) (T : TxtK K mg Cs Is B fM fR fH fN) : FnE P w K mg base CX0 1 fM fd ["_law_e"] (spMarks Cs) := by
  refine okE F scM (fun p vs H Q E h => ?_) ?_
  · obtain ⟨_, _, _, _, i, _, _, rfl, _⟩ := h
    rfl
  · intro cdv p A outer s H vs Q E hot hr h
    obtain ⟨cls, d, hz, hf, i, hi, rfl, rfl, hd, k⟩ := h
    have is : CallR (cxH CX0 P w K mg base ["_law_e", "_law_found"] "_law_marks" (defScope sMarks) fM cdv A outer s H E p).nox (.builtin "isinstance") (rIsP K p.1 (.ref (Cs i)) d) := call_isP (a := p.1) (oe := p.2) (List.mem_singleton.mpr rfl) hz hf
    refine ⟨_, pss_cons (ps_set (i := 1) scM.nd rfl (Or.inl rfl) (pe_lst
        (pa_cons (pe_callB is (by rfl) T.nI boot_isinstance (pa_cons (pv 0) (pa_cons (pe_gref (by rfl) (T.g 0 (by decide))) pa_nil)))
        (pa_cons (pe_callB is (by rfl) T.nI boot_isinstance (pa_cons (pv 0) (pa_cons (pe_gref (by rfl) (T.g 1 (by decide))) pa_nil)))
        (pa_cons (pe_callB is (by rfl) T.nI boot_isinstance (pa_cons (pv 0) (pa_cons (pe_gref (by rfl) (T.g 2 (by decide))) pa_nil)))
        (pa_cons (pe_callB is (by rfl) T.nI boot_isinstance (pa_cons (pv 0) (pa_cons (pe_gref (by rfl) (T.g 3 (by decide))) pa_nil)))
        pa_nil))))))
      (pss_one (ps_ret (pe_op op_cat (pv 1) (pe_lst
        (pa_cons (pe_callB is (by rfl) T.nI boot_isinstance (pa_cons (pv 0) (pa_cons (pe_gref (by rfl) (T.g 4 (by decide))) pa_nil)))
        (pa_cons (pe_callB is (by rfl) T.nI boot_isinstance (pa_cons (pv 0) (pa_cons (pe_gref (by rfl) (T.g 5 (by decide))) pa_nil)))
        (pa_cons (pe_callB is (by rfl) T.nI boot_isinstance (pa_cons (pv 0) (pa_cons (pe_gref (by rfl) (T.g 6 (by decide))) pa_nil)))
        pa_nil))))))), ?_⟩
    have one : ∀ (j : Nat) (σ : L2.St) (H1 : Hp) (R : V → Hp → Prop), j < 7 → σ[0]? = some (some (V.ref p.1)) → Same H H1 → R (.bl (decide (j = i))) H1 → tCB (rIsP K p.1 (.ref (Cs i)) d) (tCons (tVar 0) (tCons (tC (.ref (Cs j))) tNil)) σ H1 R := fun j σ H1 R hj hσ sm r =>
      ⟨_, hσ, Cs i, .ref (Cs j), .ref (Cs j), _, rfl, T.cl i hi, rfl, .own _, T.kit i j hi hj, fun dd e => by obtain ⟨fs, e2⟩ := hd dd e; exact ⟨fs, sm _ _ e2⟩, r⟩
    show tCB _ _ _ _ _
    refine one 0 _ _ _ (by decide) rfl (Same.refl H) ?_
    show tCB _ _ _ _ _
    refine one 1 _ _ _ (by decide) rfl (Same.refl H) ?_
    show tCB _ _ _ _ _
    refine one 2 _ _ _ (by decide) rfl (Same.refl H) ?_
    show tCB _ _ _ _ _
    refine one 3 _ _ _ (by decide) rfl (Same.refl H) ?_
    refine ⟨(by show 4 ≤ sizeLine; decide), fun q1 h1 => ?_⟩
    have s1 : Same H (upd H q1 (.lst [V.bl (decide (0 = i)), V.bl (decide (1 = i)), V.bl (decide (2 = i)), V.bl (decide (3 = i))])) := upd_same_of (Same.refl H) h1
    refine ⟨_, rfl, ?_⟩
    show tCB _ _ _ _ _
    refine one 4 _ _ _ (by decide) rfl s1 ?_
    show tCB _ _ _ _ _
    refine one 5 _ _ _ (by decide) rfl s1 ?_
    show tCB _ _ _ _ _
    refine one 6 _ _ _ (by decide) rfl s1 ?_
    refine ⟨(by show 3 ≤ sizeLine; decide), fun q2 h2 => ?_⟩
    have s2 := upd_same_of (o := .lst [V.bl (decide (4 = i)), V.bl (decide (5 = i)), V.bl (decide (6 = i))]) s1 h2
    refine ⟨q1, q2, [V.bl (decide (0 = i)), V.bl (decide (1 = i)), V.bl (decide (2 = i)), V.bl (decide (3 = i))], _, rfl, rfl, ?_, upd_same, (by show 7 ≤ sizeLine; decide), fun q3 h3 => ?_⟩
    · rw [upd_ne (ne_of_none upd_same h2)]
      exact upd_same
    · exact k _ q3 (upd_same_of s2 h3) upd_same
end
end VL


namespace VL
open PySem L2 PySem.Spec PyProof.Rows PySem.ErK L2H HotX
mutual
theorem dp_same {K : PySem.W.Frag} {H H' : Hp} (s : Same H H') : ∀ {d : PyData} {v : V}, Dp K H v d → Dp K H' v d
  | .none, _, h => by cases h; exact .non
  | .bool b, _, h => by cases h; exact .bl b
  | .int i, _, h => by cases h; exact .int i
  | .str x, _, h => by cases h; exact .str x
  | .list ds, _, h => by
    cases h with
    | lst h1 h2 => exact .lst (s.seq h1) (dps_same s h2)
  | .tuple ds, _, h => by
    cases h with
    | tup h1 h2 =>
      refine .tup ?_ (dps_same s h2)
      rcases h1 with (h | ⟨o, h⟩) | h
      · exact .inl (.inl (s _ _ h))
      · exact .inl (.inr ⟨o, s _ _ h⟩)
      · exact .inr h
  | .dict kvs, _, h => by cases h
theorem dps_same {K : PySem.W.Frag} {H H' : Hp} (s : Same H H') : ∀ {ds : List PyData} {vs : List V}, DpAll K H vs ds → DpAll K H' vs ds
  | [], _, h => by cases h; exact .nil
  | d :: ds, _, h => by
    cases h with
    | cons h1 h2 => exact .cons (dp_same s h1) (dps_same s h2)
end
theorem dps_bools {K : PySem.W.Frag} {H : Hp} : ∀ bs : List Bool, DpAll K H (bs.map V.bl) (bs.map PyData.bool)
  | [] => .nil
  | b :: bs => .cons (.bl b) (dps_bools bs)
/-! ### _law_heard -/
abbrev nH : List Str := ["_law_at", "_law_thing", "_law_e", "_law_spot"]
def spHeard (K : PySem.W.Frag) : Sp := fun vs H Q _ => ∃ (i : Nat) (v : V) (d : PyData), i < 7 ∧ vs = [.int i, v] ∧ Dp K H v d ∧ Nice d ∧ ∀ H', Same H H' → Q (.bl true) H'
theorem scH : FnScope nH ["_law_at", "_law_thing"] (defScope sHeard) := ⟨rfl, rfl, rfl, by decide +kernel, rfl, by decide +kernel, by decide +kernel⟩
def t_cmp7 : TE := tLc (iRng1 (tCons (tC (.int 7)) tNil)) (gName 3) tYes (tOp rEq (tVar 3) (tVar 0)) ([(("_law_spot" : Str), 3)].map (·.2))
def t_suite (K : PySem.W.Frag) (Cs : Nat → Addr) : Addr → Value → Option Addr → TS := fun a cls d =>
  tSeq (tIfS (tOr (tTest (tOp (rNeD K) (tCallS (spM Cs a cls d) (fun _ => E0) (tCons (tVar 2) tNil)) t_cmp7)) (tNot (tB (tCB (rIsP K a cls d) (tCons (tVar 2) (tCons (tC (.ty "ValueError")) tNil)))))) (tRet (tC (.bl false))) tNext)
    (tRet (tOrV (tOp (rI0 fun i j => .bl (decide (j < i))) (tVar 0) (tC (.int 5))) (tOp rEq (tCB (rRep K) (tCons (tAtP K a cls d (tVar 2)) tNil)) (tCB (rRep K) (tCons (tVar 1) tNil)))))
section
variable {P : Program} {w : World} {K : PySem.W.Frag} {mg : Str → Option Value} {base : Heap} {Cs Is : Nat → Addr} {B fM fR fH fN : Addr}
theorem takesN0 {X : Cx} : L2N.Takes X (fun _ _ _ _ => False) := fun _ _ ⟨_, _, _, _, _, _, _, _, _, _, _, _, _, _, _, _, z⟩ => z.elim
/-- seven marks as data -/
def marksD (i : Nat) : PyData := .list ((List.range 7).map fun j => PyData.bool (decide (j = i)))
theorem marks_eq : ∀ i, i < 7 → PyData.eqv (marksD i) (marksD i) = true ∧ SeqAt.shaped (marksD i) = true
  | 0, _ => ⟨by decide, by decide⟩ | 1, _ => ⟨by decide, by decide⟩ | 2, _ => ⟨by decide, by decide⟩ | 3, _ => ⟨by decide, by decide⟩ | 4, _ => ⟨by decide, by decide⟩ | 5, _ => ⟨by decide, by decide⟩ | 6, _ => ⟨by decide, by decide⟩
  | i + 7, h => absurd h (by omega)
theorem marks_dp {K : PySem.W.Frag} {H : Hp} {q : Addr} {i : Nat} (h : H q = some (.lst (marksK i))) : Dp K H (.ref q) (marksD i) := by
  refine .lst (SqL.of h) ?_
  have := dps_bools (K := K) (H := H) ((List.range 7).map fun j => decide (j = i))
  rw [List.map_map, List.map_map] at this
  exact this
theorem eqv_str (x : Str) : PyData.eqv (.str x) (.str x) = true := by simp [PyData.eqv]
theorem suite_ok (T : TxtK K mg Cs Is B fM fR fH fN) {D : Ends} {i : Nat} {v : V} {d : PyData} {H H1 : Hp} {a : Addr} {dd : Option Addr} (hi : i < 7) (hd : Dp K H v d) (n : Nice d) (sm : Same H H1)
    (hx : ∀ x, dd = some x → ∃ fs, H1 x = some (.xd fs)) (h6 : i < 6 → ∃ x, dd = some x ∧ H1 x = some (.xd [(("at" : Str), v)])) (k : ∀ H', Same H H' → D.rt (.bl true) H') :
    t_suite K Cs a (.ref (Cs i)) dd D [some (.int i), some v, some (.ref a), none] H1 := by
  refine ⟨_, rfl, i, hi, rfl, rfl, hx, fun H2 q s2 hq => ?_⟩
  refine ⟨7, rfl, by decide, by decide, fun L hL => ?_⟩
  refine lc_range (fun j H3 => H3 = upd H2 L (.lst ((List.range j).map fun m => V.bl (decide (m = i))))) rfl ?_ ?_
  · rintro j H3 hj rfl
    refine ⟨rfl, ?_⟩
    show tOp rEq (tVar 3) (tVar 0) _ _ _
    refine ⟨_, rfl, _, rfl, rfl, _, upd_same, ?_, ?_⟩
    · rw [List.length_map, List.length_range]
      exact Nat.lt_trans hj (by decide)
    · have e : V.bl (decide (V.int (0 + (j : Int)) = V.int (i : Int))) = V.bl (decide (j = i)) := by
        congr 1
        rw [Bool.eq_iff_iff]
        simp
        omega
      rw [upd_upd, e, List.range_succ, List.map_append]
      rfl
  · rintro H3 rfl
    have s3 : Same H2 (upd H2 L (.lst (marksK i))) := upd_same_of (Same.refl H2) hL
    obtain ⟨e1, e2⟩ := marks_eq i hi
    refine ⟨_, _, marks_dp (s3 _ _ hq), marks_dp upd_same, e2, e2, false, ?_, ?_⟩
    · show V.bl (!PyData.eqv (marksD i) (marksD i)) = V.bl false
      rw [e1]
      rfl
    · show (if false = true then _ else _)
      refine iteF ?_
      have sH : Same H (upd H2 L (.lst (marksK i))) := (sm.trans s2).trans s3
      have hx3 : ∀ x, dd = some x → ∃ fs, upd H2 L (.lst (marksK i)) x = some (.xd fs) := fun x e => by
        obtain ⟨fs, e3⟩ := hx x e
        exact ⟨fs, s3 _ _ (s2 _ _ e3)⟩
      refine ⟨_, rfl, Cs i, .ty "ValueError", .type "ValueError", true, rfl, T.cl i hi, rfl, .ty _, T.kitV i hi, hx3, true, rfl, ?_⟩
      show (if false = true then _ else _)
      refine iteF ?_
      refine ⟨_, rfl, i, 5, rfl, rfl, decide ((5 : Int) < i), rfl, ?_⟩
      by_cases c : i = 6
      · subst c
        exact iteT (k _ sH)
      · have e5 : decide ((5 : Int) < i) = false := decide_eq_false (by omega)
        rw [e5]
        refine iteF ?_
        obtain ⟨x, ex, hx4⟩ := h6 (by omega)
        refine ⟨_, rfl, rfl, Cs i, Is i, qnK i, x, v, rfl, T.er i (by omega), ex, s3 _ _ (s2 _ _ hx4), v, d, rfl, dp_same sH hd, n, ?_⟩
        refine ⟨_, rfl, v, d, rfl, dp_same sH hd, n, rfl, ?_⟩
        rw [decide_eq_true rfl]
        exact k _ sH
theorem ok_heard {fd fdR fdM : FuncData} (F : Fun K "_law_heard" "_law_heard" sHeard fH fd) (T : TxtK K mg Cs Is B fM fR fH fN)
    (FR : FnG P w K mg base (L2N.CX P w) 3 fR fdR ["_law_at", "_law_thing"] (spRaise Cs)) (bR : Binds K fdR ["_law_at", "_law_thing"] [])
    (FM : FnE P w K mg base CX0 1 fM fdM ["_law_e"] (spMarks Cs)) (bM : Binds K fdM ["_law_e"] []) : FnG P w K mg base CX0 4 fH fd ["_law_at", "_law_thing"] (spHeard K) := by
  refine ok0 F scH (fun vs H Q E h => ?_) ?_
  · obtain ⟨i, v, d, _, rfl, _⟩ := h
    rfl
  · intro cdv A outer s H vs Q E hr h
    refine ⟨_, pss_cons (L2N.ps_try_as (i := 2) (c := .ref B) (tb := fun W => tDrop (tCallG (spRaise Cs) (L2.WE W) (tCons (tVar 0) (tCons (tVar 1) tNil)))) (ts := t_suite K Cs) (Wout := fun _ _ _ _ => False) rfl rfl scH.nd rfl rfl ⟨rfl, by decide, Or.inl T.gB⟩ takesN0
          (fun W pn xe tk _ => pss_one (ps_expr (by exact (pe_callG FR hr (by rfl) T.gR T.kR bR (fun σ => L2N.passAt tk σ) (pa_cons (pv 0) (pa_cons (pv 1) pa_nil))))))
          (fun a oe cls d pn hz hf => ?_)) (pss_one (ps_ret pe_bl)), ?_⟩
    · obtain ⟨fv, hfv⟩ := hf
      have hot1 : Hot1 ((cxOf CX0 P w K mg base nH "_law_heard" (defScope sHeard) fH cdv A outer s H E).nox.suite a ((a, oe) :: pn)).A (a, oe) := ⟨rfl, fv, hfv, hz.2.2 fv hfv⟩
      have hot : HotC ((cxOf CX0 P w K mg base nH "_law_heard" (defScope sHeard) fH cdv A outer s H E).nox.suite a ((a, oe) :: pn)) := ⟨(a, oe), hot1, List.mem_cons_self⟩
      have mem : (a, oe) ∈ ((cxOf CX0 P w K mg base nH "_law_heard" (defScope sHeard) fH cdv A outer s H E).nox.suite a ((a, oe) :: pn)).pn := List.mem_cons_self
      have is : CallR ((cxOf CX0 P w K mg base nH "_law_heard" (defScope sHeard) fH cdv A outer s H E).nox.suite a ((a, oe) :: pn)) (.builtin "isinstance") (rIsP K a cls d) := call_isP mem hz.zc ⟨fv, hfv⟩
      have rp : CallR ((cxOf CX0 P w K mg base nH "_law_heard" (defScope sHeard) fH cdv A outer s H E).nox.suite a ((a, oe) :: pn)) (.builtin "repr") (rRep K) := cr_rep hr.gs (by have := hr.r.un; show (A.deeper (envOfC "_law_heard" (defScope sHeard) s.heap.objs.size fH cdv)).units + 65 < _; omega)
      have hu : ((cxOf CX0 P w K mg base nH "_law_heard" (defScope sHeard) fH cdv A outer s H E).nox.suite a ((a, oe) :: pn)).A.units + 64 < cLine := by have := hr.r.un; show (A.deeper (envOfC "_law_heard" (defScope sHeard) s.heap.objs.size fH cdv)).units + 64 < _; omega
      have hrH : RoomH 1 ((cxOf CX0 P w K mg base nH "_law_heard" (defScope sHeard) fH cdv A outer s H E).nox.suite a ((a, oe) :: pn)).A := ⟨by have := hr.r.dp; show (A.deeper (envOfC "_law_heard" (defScope sHeard) s.heap.objs.size fH cdv)).depth + 3 * 1 + 5 < _; omega, by have := hr.r.un; show (A.deeper (envOfC "_law_heard" (defScope sHeard) s.heap.objs.size fH cdv)).units + 16 * 1 + 200 < _; omega⟩
      refine pss_cons (ps_if (PW.pt (pw_or (pt_cmpR (op_neD hu) ?_ ?_ (nomark _)) (pw_or1 (pt_not (pt_val ?_))))) (pss_one (ps_ret pe_bl)) pss_nil) (pss_one (ps_ret (pe_or (pe_cmpR op_gt (pv 0) pe_int (nomark _)) (pe_one (pe_cmpR op_eq ?_ ?_ (nomark _))))))
      · refine PE.of (pe_callE (E := fun _ => E0) FM hrH hot1 mem (by rfl) T.gM T.kM bM (fun _ _ _ _ _ _ _ h => h.elim) (pa_cons (pv 2) pa_nil)) ?_
        rintro σ H Q ⟨v, e, q⟩
        exact ⟨v, e, cls, d, hz.zc, ⟨fv, hfv⟩, q⟩
      · exact pe_lcE (own := [(("_law_spot" : Str), 3)]) (g := gName 3) (tt := tYes) hot scH.nd (pr_range1 (by rfl) T.nRg (pa_cons pe_int pa_nil)) (blkOk_by (own := [(("_law_spot" : Str), 3)]) (N := nH) (sc := defScope sHeard) (by decide +kernel))
          (fun _ _ _ _ _ => pg_name (i := 3) scH.nd rfl (Or.inl rfl)) (fun _ _ _ _ _ => pts_nil) (fun _ _ _ _ _ => pe_cmpR op_eq (pv 3) (pv 0) (nomark _))
      · exact pe_callB is (by rfl) T.nI boot_isinstance (pa_cons (pv 2) (pa_cons (pe_bltn (v := .ty "ValueError") (by rfl) T.nV (by decide +kernel) rfl) pa_nil))
      · exact pe_callB rp (by rfl) T.nRp boot_repr (pa_cons (pe_atP mem hz.zc ⟨fv, hfv⟩ (pv 2)) pa_nil)
      · exact pe_callB rp (by rfl) T.nRp boot_repr (pa_cons (pv 1) pa_nil)
    · obtain ⟨i, v, d, hi, rfl, hd, n, k⟩ := h
      refine ⟨_, rfl, _, rfl, i, v, hi, rfl, fun h6 dd hdd => ?_, fun h6 => ?_⟩
      · refine ⟨true, T.exm i hi, fun _ a ha => ?_, fun z => Bool.noConfusion z⟩
        exact suite_ok T hi hd n (upd_same_of (Same.refl H) hdd) (fun x e => by cases e; exact ⟨_, upd_same⟩) (fun _ => ⟨dd, rfl, upd_same⟩) k
      · subst h6
        refine ⟨true, T.exm 6 hi, fun _ a ha => ?_, fun z => Bool.noConfusion z⟩
        exact suite_ok T hi hd n (Same.refl H) (fun x e => by cases e) (fun z => absurd z (by decide)) k
end
end VL


namespace VL
open PySem L2 PySem.Spec PyProof.Rows PySem.ErK L2H HotX
/-! ### _law_named -/
abbrev nN : List Str := ["_law_thing", "_law_made", "_law_one"]
def spNamed (K : PySem.W.Frag) : Sp := fun vs H Q _ => ∃ (v : V) (d : PyData), vs = [v] ∧ Dp K H v d ∧ Nice d ∧ ∀ H', Same H H' → Q (.bl true) H'
theorem scN : FnScope nN ["_law_thing"] (defScope sNamed) := ⟨rfl, rfl, rfl, by decide +kernel, rfl, by decide +kernel, by decide +kernel⟩
section
variable {P : Program} {w : World} {K : PySem.W.Frag} {mg : Str → Option Value} {base : Heap} {Cs Is : Nat → Addr} {B fM fR fH fN : Addr}
theorem ok_named {fd : FuncData} (F : Fun K "_law_named" "_law_named" sNamed fN fd) (T : TxtK K mg Cs Is B fM fR fH fN) : FnG P w K mg base CX0 3 fN fd ["_law_thing"] (spNamed K) := by
  refine ok0 F scN (fun vs H Q E h => ?_) ?_
  · obtain ⟨v, d, rfl, _⟩ := h
    rfl
  · intro cdv A outer s H vs Q E hr h
    have un := hr.r.un
    have er : ∀ i (hi : i < 6) (hg : Gl (cxOf CX0 P w K mg base nN "_law_named" (defScope sNamed) fN cdv A outer s H E).nox (cnK i)), ErAt (cxOf CX0 P w K mg base nN "_law_named" (defScope sNamed) fN cdv A outer s H E).nox (cnK i) (Cs i) (Is i) (qnK i) := fun i hi hg => ⟨hg, T.g i (by omega), T.er i hi⟩
    have hu : (cxOf CX0 P w K mg base nN "_law_named" (defScope sNamed) fN cdv A outer s H E).nox.A.units + 64 < cLine := by show (A.deeper (envOfC "_law_named" (defScope sNamed) s.heap.objs.size fN cdv)).units + 64 < _; omega
    have rp : ∀ (s' : Shared) (H' : Hp) (sc : Scope) (en : Env) (fp : List Addr), CallR ((cxOf CX0 P w K mg base nN "_law_named" (defScope sNamed) fN cdv A outer s H E).nox.blk s' H' sc en fp) (.builtin "repr") (rRep K) := fun s' H' sc en fp =>
      cr_rep (X := (cxOf CX0 P w K mg base nN "_law_named" (defScope sNamed) fN cdv A outer s H E).nox.blk s' H' sc en fp) hr.gs (by show (A.deeper (envOfC "_law_named" (defScope sNamed) s.heap.objs.size fN cdv)).units + 65 < _; omega)
    refine ⟨_, pss_cons (ps_set (i := 1) scN.nd rfl (Or.inl rfl) (pe_lst
        (pa_cons (pe_mkAt (er 0 (by decide) (by rfl)) hr.r (pv 0)) (pa_cons (pe_mkAt (er 1 (by decide) (by rfl)) hr.r (pv 0)) (pa_cons (pe_mkAt (er 2 (by decide) (by rfl)) hr.r (pv 0)) (pa_cons (pe_mkAt (er 3 (by decide) (by rfl)) hr.r (pv 0)) pa_nil))))))
      (pss_cons (ps_set (i := 1) scN.nd rfl (Or.inl rfl) (pe_op op_cat (pv 1) (pe_lst
        (pa_cons (pe_mkAt (er 4 (by decide) (by rfl)) hr.r (pv 0)) (pa_cons (pe_mkAt (er 5 (by decide) (by rfl)) hr.r (pv 0)) pa_nil)))))
      (pss_one (ps_ret (pe_cmpR (op_eqD hu) (pe_lc (own := [(("_law_one" : Str), 2)]) (g := gName 2) rfl scN.nd (pi_list (pv 1)) (blkOk_by (own := [(("_law_one" : Str), 2)]) (N := nN) (sc := defScope sNamed) (by decide +kernel))
          (fun _ _ _ _ _ => pg_name (i := 2) scN.nd rfl (Or.inl rfl))
          (fun _ _ _ _ _ => pts_one (pt_cmpR op_ne (pe_callB (rp _ _ _ _ _) (by rfl) T.nRp boot_repr (pa_cons (pv 2) pa_nil)) (pe_callB (rp _ _ _ _ _) (by rfl) T.nRp boot_repr (pa_cons (pv 0) pa_nil)) (nomark _)))
          (fun _ _ _ _ _ => pv 2)) (pe_lst pa_nil) (nomark _))))), ?_⟩
    obtain ⟨v, d, rfl, hd, n, k⟩ := h
    refine ⟨_, rfl, _, rfl, _, rfl, _, rfl, _, rfl, _, rfl, _, rfl, _, rfl, (by show 4 ≤ sizeLine; decide), fun q1 h1 => ?_⟩
    refine ⟨_, rfl, _, rfl, _, rfl, _, rfl, _, rfl, (by show 2 ≤ sizeLine; decide), fun q2 h2 => ?_⟩
    have s1 : Same H (upd H q1 (.lst [v, v, v, v])) := upd_same_of (Same.refl H) h1
    have s2 : Same H (upd (upd H q1 (.lst [v, v, v, v])) q2 (.lst [v, v])) := upd_same_of s1 h2
    refine ⟨q1, q2, [v, v, v, v], [v, v], rfl, rfl, ?_, upd_same, (by show 6 ≤ sizeLine; decide), fun q3 h3 => ?_⟩
    · rw [upd_ne (ne_of_none upd_same h2)]
      exact upd_same
    generalize hG : upd (upd (upd H q1 (.lst [v, v, v, v])) q2 (.lst [v, v])) q3 (.lst ([v, v, v, v] ++ [v, v])) = G
    have sG : Same H G := hG ▸ upd_same_of s2 h3
    have gG : G q3 = some (.lst [v, v, v, v, v, v]) := hG ▸ upd_same
    refine ⟨_, rfl, q3, rfl, ⟨_, SqL.of gG⟩, fun L hL => ?_⟩
    have sL : Same G (upd G L (.lst [])) := upd_same_of (Same.refl G) hL
    refine lc_list (K := K) (a := q3) (xs := [v, v, v, v, v, v]) (fun _ H' => H' = upd G L (.lst [])) rfl (fun i H' _ e => ?_) ?_ ?_
    · subst e
      exact SqL.of (sL _ _ gG)
    · rintro i x H' hi rfl
      have ex : x = v := by
        have := List.mem_of_getElem? hi
        simpa using this
      subst ex
      have dv := dp_same (sG.trans sL) hd
      refine ⟨rfl, ?_⟩
      refine ⟨_, rfl, _, d, rfl, dv, n, _, rfl, _, d, rfl, dv, n, rfl, false, ?_, ?_⟩
      · rw [decide_eq_true rfl]
        rfl
      · exact rfl
    · rintro H' rfl
      refine ⟨by decide, fun q4 h4 => ?_⟩
      have s4 : Same (upd G L (.lst [])) (upd (upd G L (.lst [])) q4 (.lst [])) := upd_same_of (Same.refl _) h4
      refine ⟨.list [], .list [], .lst (SqL.of (s4 _ _ upd_same)) .nil, .lst (SqL.of upd_same) .nil, by decide, by decide, ?_⟩
      exact k _ ((sG.trans sL).trans s4)
end
end VL


namespace VL
open PySem L2 PySem.Spec PyProof.Rows PySem.ErK L2H HotX
/-! ### what law draws from a cell -/
theorem log_small {n : Nat} (h : n < 2 ^ 30) : n.log2 < 1920 := by
  by_cases z : n = 0
  · subst z
    decide
  · exact Nat.lt_trans ((Nat.log2_lt z).mpr h) (by decide)
theorem nice_int {i : Int} (h : i.natAbs < 2 ^ 30) : Nice (.int i) :=
  ⟨by show (PyData.canLay0 (.int i) && decide (PyData.depth (.int i) ≤ 64)) = true; rfl, decide_eq_true (log_small h), int_text_fits (log_small h)⟩
theorem strOk_of (s : String) : PyData.strOk (Str.ofString s) = true := by
  unfold PyData.strOk
  rw [Str.ofString_eq_toList, Array.all_eq_true_iff_forall_mem]
  intro c hc
  have hc' : c ∈ s.toList.map Char.toNat := by simpa using hc
  obtain ⟨a, _, rfl⟩ := List.mem_map.mp hc'
  have hv : a.val.isValidChar := a.valid
  have ht : a.toNat < 0x110000 := by
    have h2 : a.val.toNat.isValidChar := hv
    unfold Nat.isValidChar at h2
    show a.val.toNat < _
    omega
  simpa using ht
theorem nice_str {i : Int} (h0 : 0 ≤ i) (h1 : i < 1000) : Nice (.str (toString i)) := by
  have ok := strOk_of (toString i)
  have le : (reprText (Str.ofString (toString i))).length ≤ 10 * (Str.ofString (toString i)).length + 2 := StrLaws.reprText_len _ fun c hc => by
    have h3 := Array.all_eq_true_iff_forall_mem.mp ok c (Array.mem_toList_iff.mp hc)
    have h4 : c < 0x110000 := by simpa using h3
    have e : (16 : Nat) ^ 8 = 4294967296 := by decide
    omega
  have l2 := len_str_of_int i
  refine ⟨?_, rfl, ?_⟩
  · show (PyData.strOk (Str.ofString (toString i)) && decide (PyData.depth (.str (toString i)) ≤ 64)) = true
    rw [ok]
    rfl
  · show (reprText (Str.ofString (toString i))).length ≤ sizeLine
    rw [sizeLine_eq]
    omega
theorem nice_non : Nice .none := ⟨rfl, rfl, by decide⟩
theorem nice_tup : ∀ n : Nat, n < 7 → Nice (.tuple [.int n, .str "a"])
  | 0, _ => ⟨by decide +kernel, by decide +kernel, by decide +kernel⟩
  | 1, _ => ⟨by decide +kernel, by decide +kernel, by decide +kernel⟩
  | 2, _ => ⟨by decide +kernel, by decide +kernel, by decide +kernel⟩
  | 3, _ => ⟨by decide +kernel, by decide +kernel, by decide +kernel⟩
  | 4, _ => ⟨by decide +kernel, by decide +kernel, by decide +kernel⟩
  | 5, _ => ⟨by decide +kernel, by decide +kernel, by decide +kernel⟩
  | 6, _ => ⟨by decide +kernel, by decide +kernel, by decide +kernel⟩
  | n + 7, h => absurd h (by omega)
theorem nice_lst : ∀ n : Nat, n < 11 → Nice (.list [.int n])
  | 0, _ => ⟨by decide +kernel, by decide +kernel, by decide +kernel⟩
  | 1, _ => ⟨by decide +kernel, by decide +kernel, by decide +kernel⟩
  | 2, _ => ⟨by decide +kernel, by decide +kernel, by decide +kernel⟩
  | 3, _ => ⟨by decide +kernel, by decide +kernel, by decide +kernel⟩
  | 4, _ => ⟨by decide +kernel, by decide +kernel, by decide +kernel⟩
  | 5, _ => ⟨by decide +kernel, by decide +kernel, by decide +kernel⟩
  | 6, _ => ⟨by decide +kernel, by decide +kernel, by decide +kernel⟩
  | 7, _ => ⟨by decide +kernel, by decide +kernel, by decide +kernel⟩
  | 8, _ => ⟨by decide +kernel, by decide +kernel, by decide +kernel⟩
  | 9, _ => ⟨by decide +kernel, by decide +kernel, by decide +kernel⟩
  | 10, _ => ⟨by decide +kernel, by decide +kernel, by decide +kernel⟩
  | n + 11, h => absurd h (by omega)
end VL


namespace VL
open PySem L2 PySem.Spec PyProof.Rows PySem.ErK L2H HotX
/-! ### law -/
abbrev nL : List Str := ["_law_script", "_law_k", "_law_cell", "_law_things", "_law_thing", "_law_at"]
def spLaw (K : PySem.W.Frag) : Sp := fun vs H Q _ => ∃ (a : Addr) (ns : List Int), vs = [.ref a] ∧ SqL K H a (ns.map V.int) ∧ ns.length ≤ 63 ∧ ∀ H', Q (.bl true) H'
theorem scL : FnScope nL ["_law_script"] (defScope sLaw) := ⟨rfl, rfl, rfl, by decide +kernel, rfl, by decide +kernel, by decide +kernel⟩
structure TxtL (mg : Str → Option Value) : Prop where
  nRg : mg "range" = none
  nMx : mg "max" = none
  nMn : mg "min" = none
  nLn : mg "len" = none
  nIn : mg "int" = none
  nSt : mg "str" = none
section
variable {P : Program} {w : World} {K : PySem.W.Frag} {mg : Str → Option Value} {base : Heap} {Cs Is : Nat → Addr} {B fM fR fH fN fL : Addr}
theorem ok_law {fd fdH fdN : FuncData} (F : Fun K "law" "law" sLaw fL fd) (T : TxtK K mg Cs Is B fM fR fH fN) (L : TxtL mg)
    (FH : FnG P w K mg base CX0 4 fH fdH ["_law_at", "_law_thing"] (spHeard K)) (bH : Binds K fdH ["_law_at", "_law_thing"] [])
    (FN : FnG P w K mg base CX0 3 fN fdN ["_law_thing"] (spNamed K)) (bN : Binds K fdN ["_law_thing"] []) : FnG P w K mg base CX0 5 fL fd ["_law_script"] (spLaw K) := by
  refine ok0 F scL (fun vs H Q E h => ?_) ?_
  · obtain ⟨a, ns, rfl, _⟩ := h
    rfl
  · intro cdv A outer s H vs Q E hr h
    have hr3 : RoomG 3 (A.deeper (envOfC "law" (defScope sLaw) s.heap.objs.size fL cdv)) := hr.mono (by decide)
    refine ⟨_, pss_cons (ps_for PassesOwn.never rfl (pi_range1 (by rfl) L.nRg (pa_cons (pe_callB (call_max2 rfl) (by rfl) L.nMx boot_max (pa_cons pe_int (pa_cons (pe_callB (call_min2 rfl) (by rfl) L.nMn boot_min (pa_cons pe_int (pa_cons (pe_callB call_len_seq (by rfl) L.nLn boot_len (pa_cons (pv 0) pa_nil)) pa_nil))) pa_nil))) pa_nil))
        (pg_name (i := 1) scL.nd rfl (Or.inl rfl))
        (pss_cons (ps_set (i := 2) scL.nd rfl (Or.inl rfl) (pe_ifExp (pt_cmpR op_lt (pv 1) (pe_callB call_len_seq (by rfl) L.nLn boot_len (pa_cons (pv 0) pa_nil)) (nomark _)) (pe_ix ix_list (pv 0) (pv 1) (fun _ _ => rfl)) pe_int))
        (pss_cons (ps_set (i := 3) scL.nd rfl (Or.inl rfl) (pe_lst
          (pa_cons (pe_op op_mod (pe_callTy call_int1 (by rfl) L.nIn PyProof.Rows.boot_int (pa_cons (pv 2) pa_nil)) pe_int)
          (pa_cons (pe_op op_sub pe_int (pe_op op_mod (pe_callTy call_int1 (by rfl) L.nIn PyProof.Rows.boot_int (pa_cons (pv 2) pa_nil)) pe_int))
          (pa_cons (pe_callTy call_str_int (by rfl) L.nSt PyProof.Rows.boot_str (pa_cons (pe_op op_mod (pe_callTy call_int1 (by rfl) L.nIn PyProof.Rows.boot_int (pa_cons (pv 2) pa_nil)) pe_int) pa_nil))
          (pa_cons pe_non
          (pa_cons (pe_tup (pa_cons (pe_op op_mod (pe_callTy call_int1 (by rfl) L.nIn PyProof.Rows.boot_int (pa_cons (pv 2) pa_nil)) pe_int) (pa_cons pe_str pa_nil)))
          (pa_cons (pe_lst (pa_cons (pe_op op_mod (pe_callTy call_int1 (by rfl) L.nIn PyProof.Rows.boot_int (pa_cons (pv 2) pa_nil)) pe_int) pa_nil)) pa_nil))))))))
        (pss_one (ps_for PassesOwn.never rfl (pi_list (pv 3)) (pg_name (i := 4) scL.nd rfl (Or.inl rfl))
          (pss_cons (ps_if (pt_not (pt_val (pe_callG (E := fun _ => E0) FN hr3 (by rfl) T.gN T.kN bN (fun _ _ _ _ _ _ _ h => h.elim) (pa_cons (pv 4) pa_nil)))) (pss_one (ps_ret pe_bl)) pss_nil)
          (pss_one (ps_for PassesOwn.never rfl (pi_range1 (by rfl) L.nRg (pa_cons pe_int pa_nil)) (pg_name (i := 5) scL.nd rfl (Or.inl rfl))
            (pss_one (ps_if (pt_not (pt_val (pe_callG (E := fun _ => E0) FH hr (by rfl) T.gH T.kH bH (fun _ _ _ _ _ _ _ h => h.elim) (pa_cons (pv 5) (pa_cons (pv 4) pa_nil))))) (pss_one (ps_ret pe_bl)) pss_nil))))))))))
      (pss_one (ps_ret pe_bl)), ?_⟩
    obtain ⟨a, ns, rfl, hS, hl, k⟩ := h
    refine ⟨_, rfl, a, _, rfl, .inl hS, 4, _, rfl, 1, _, rfl, _, rfl, ?_, ?_, ?_⟩
    · rw [List.length_map]
      split <;> (try split) <;> omega
    · rw [List.length_map]
      split <;> (try split) <;> omega
    refine for_range (fun _ σ H' => ∃ v1 v2 v3 v4 v5 : Option V, σ = [some (.ref a), v1, v2, v3, v4, v5] ∧ Same H H') ⟨_, _, _, _, _, rfl, Same.refl H⟩ ?_ (fun σ H' _ => k H')
    rintro i σ H' hi ⟨v1, v2, v3, v4, v5, rfl, sm⟩
    have pick : ∀ (R : V → Hp → Prop), (∀ c : Int, R (.int c) H') →
        (if decide ((0 : Int) + (i : Int) < ((ns.map V.int).length : Int)) = true then tOp (rIxL K) (tVar 0) (tVar 1) [some (.ref a), some (.int (0 + i)), v2, v3, v4, v5] H' R else tC (.int 0) [some (.ref a), some (.int (0 + i)), v2, v3, v4, v5] H' R) := fun R r => by
      by_cases c : (0 : Int) + (i : Int) < ((ns.map V.int).length : Int)
      · rw [decide_eq_true c, if_pos rfl]
        rw [List.length_map] at c
        have ci : i < ns.length := by omega
        refine ⟨_, rfl, _, rfl, a, _, _, .int ns[i], rfl, rfl, sm.seq hS, ?_, r _⟩
        rw [Int.zero_add]
        refine atI_nat ?_
        rw [List.getElem?_map, List.getElem?_eq_getElem ci]
        rfl
      · rw [decide_eq_false c, if_neg Bool.false_ne_true]
        exact r 0
    refine ⟨_, rfl, _, rfl, a, _, rfl, .inl (sm.seq hS), _, _, rfl, rfl, _, rfl, pick _ fun c => ?_⟩
    refine ⟨_, rfl, .inl ⟨c, rfl, c, 1000000007, rfl, rfl, (show (0 : Int) < 1000000007 by decide), ?_⟩⟩
    refine ⟨_, rfl, .inl ⟨c, rfl, c, 97, rfl, rfl, (show (0 : Int) < 97 by decide), 0, _, rfl, rfl, ?_⟩⟩
    have b0 : (c % 1000000007).natAbs < 2 ^ 30 := by have := Int.emod_nonneg c (show (1000000007 : Int) ≠ 0 by decide); have := Int.emod_lt_of_pos c (show (0 : Int) < 1000000007 by decide); omega
    have b1 : (0 - c % 97).natAbs < 2 ^ 30 := by have := Int.emod_nonneg c (show (97 : Int) ≠ 0 by decide); have := Int.emod_lt_of_pos c (show (0 : Int) < 97 by decide); omega
    have b2 : 0 ≤ c % 1000 := Int.emod_nonneg c (by decide)
    have b3 : c % 1000 < 1000 := Int.emod_lt_of_pos c (by decide)
    refine ⟨_, rfl, .inl ⟨c, rfl, c, 1000, rfl, rfl, (show (0 : Int) < 1000 by decide), _, rfl, log_small (by omega), ?_⟩⟩
    refine ⟨_, rfl, .inl ⟨c, rfl, c, 7, rfl, rfl, (show (0 : Int) < 7 by decide), (by show 2 ≤ sizeLine; decide), fun p1 h1 => ?_⟩⟩
    refine ⟨_, rfl, .inl ⟨c, rfl, c, 11, rfl, rfl, (show (0 : Int) < 11 by decide), (by show 1 ≤ sizeLine; decide), fun p2 h2 => ?_⟩⟩
    refine ⟨(by show 6 ≤ sizeLine; decide), fun p3 h3 => ?_⟩
    obtain ⟨n7, e7, l7⟩ : ∃ n : Nat, c % 7 = (n : Int) ∧ n < 7 := ⟨(c % 7).toNat, by have := Int.emod_nonneg c (show (7 : Int) ≠ 0 by decide); omega, by have := Int.emod_lt_of_pos c (show (0 : Int) < 7 by decide); omega⟩
    obtain ⟨n11, e11, l11⟩ : ∃ n : Nat, c % 11 = (n : Int) ∧ n < 11 := ⟨(c % 11).toNat, by have := Int.emod_nonneg c (show (11 : Int) ≠ 0 by decide); omega, by have := Int.emod_lt_of_pos c (show (0 : Int) < 11 by decide); omega⟩
    have s1 := upd_same_of (o := .tup [.int (c % 7), .str "a"]) sm h1
    have s2 := upd_same_of (o := .lst [.int (c % 11)]) s1 h2
    have s3 := upd_same_of (o := .lst [.int (c % 1000000007), .int (0 - c % 97), .str (toString (c % 1000)), .non, .ref p1, .ref p2]) s2 h3
    generalize hG : upd (upd (upd H' p1 (.tup [.int (c % 7), .str "a"])) p2 (.lst [.int (c % 11)])) p3 (.lst [.int (c % 1000000007), .int (0 - c % 97), .str (toString (c % 1000)), .non, .ref p1, .ref p2]) = G at s3
    have g3 : G p3 = some (.lst [.int (c % 1000000007), .int (0 - c % 97), .str (toString (c % 1000)), .non, .ref p1, .ref p2]) := hG ▸ upd_same
    have g2 : G p2 = some (.lst [.int (c % 11)]) := by
      rw [← hG, upd_ne (ne_of_none upd_same h3)]
      exact upd_same
    have g1 : G p1 = some (.tup [.int (c % 7), .str "a"]) := by
      have z : upd (upd H' p1 (.tup [.int (c % 7), .str "a"])) p2 (.lst [.int (c % 11)]) p1 = some (.tup [.int (c % 7), .str "a"]) := by
        rw [upd_ne (ne_of_none upd_same h2)]
        exact upd_same
      rw [← hG, upd_ne (ne_of_none z h3)]
      exact z
    have all : ∀ x ∈ ([.int (c % 1000000007), .int (0 - c % 97), .str (toString (c % 1000)), .non, .ref p1, .ref p2] : List V), ∃ d, Dp K G x d ∧ Nice d := by
      intro x hx
      simp only [List.mem_cons, List.not_mem_nil, or_false] at hx
      rcases hx with rfl | rfl | rfl | rfl | rfl | rfl
      · exact ⟨_, .int _, nice_int b0⟩
      · exact ⟨_, .int _, nice_int b1⟩
      · exact ⟨_, .str _, nice_str b2 b3⟩
      · exact ⟨_, .non, nice_non⟩
      · refine ⟨_, .tup (SqT.of g1) (.cons (.int _) (.cons (.str _) .nil)), ?_⟩
        rw [e7]
        exact nice_tup n7 l7
      · refine ⟨_, .lst (SqL.of g2) (.cons (.int _) .nil), ?_⟩
        rw [e11]
        exact nice_lst n11 l11
    refine ⟨_, rfl, p3, rfl, ⟨_, SqL.of g3⟩, ?_⟩
    refine for_list (K := K) (a := p3) (xs := [.int (c % 1000000007), .int (0 - c % 97), .str (toString (c % 1000)), .non, .ref p1, .ref p2])
      (fun _ σ H2 => ∃ v4 v5 : Option V, σ = [some (.ref a), some (.int (0 + i)), some (.int c), some (.ref p3), v4, v5] ∧ Same G H2) ⟨_, _, rfl, Same.refl G⟩ (fun t σ H2 _ ⟨_, _, _, sg⟩ => SqL.of (sg _ _ g3)) ?_ ?_
    · rintro t x σ H2 hx ⟨v4, v5, rfl, sg⟩
      obtain ⟨d, hd, nd⟩ := all x (List.mem_of_getElem? hx)
      refine ⟨_, rfl, x, d, rfl, dp_same sg hd, nd, fun H3 s4 => ⟨true, rfl, iteF ?_⟩⟩
      refine ⟨7, rfl, by decide, by decide, ?_⟩
      refine for_range (fun _ σ H4 => ∃ v5 : Option V, σ = [some (.ref a), some (.int (0 + i)), some (.int c), some (.ref p3), some x, v5] ∧ Same G H4) ⟨_, rfl, sg.trans s4⟩ ?_ ?_
      · rintro m σ H4 hm ⟨v6, rfl, sg4⟩
        refine ⟨_, rfl, _, rfl, m, x, d, hm, ?_, dp_same sg4 hd, nd, fun H5 s5 => ⟨true, rfl, iteF ⟨_, rfl, sg4.trans s5⟩⟩⟩
        rw [Int.zero_add]
      · rintro σ H4 ⟨v6, rfl, sg4⟩
        exact ⟨_, _, rfl, sg4⟩
    · rintro σ H2 ⟨v4, v5, rfl, sg⟩
      exact ⟨_, _, _, _, _, rfl, s3.trans sg⟩
end
end VL


namespace VL
open PySem L2 PySem.Spec PyProof.Rows PySem.ErK L2H HotX
/-! ### the law's call, nothing being shown there -/
theorem call_top {P : Program} {w : World} {K : PySem.W.Frag} {mg mb : Str → Option Value} {k : Nat} {fa a : Addr} {fd : FuncData} {x : Str} {sp : Sp} {s₁ : Shared} {vs : List Value} {ns : List Int}
    (KX : K.In s₁.heap) (hns : s₁.heap.Ns mainGlobals mg) (hb : s₁.heap.Ns builtinsNs mb) (hbb : ∀ x : Str, x ≠ "__name__" → mb x = bootBuiltins x) (hlim : s₁.heap.NoLimit) (hg : s₁.gens = #[])
    (ha : s₁.heap.get? a = some { cls := .type "list", data := .seq vs.toArray }) (hi : IntsAre vs ns) (hl : ns.length ≤ sizeLine) (hr : RoomG k callerA)
    (F : ∀ base : Heap, K.In base → base.Ns mainGlobals mg → FnG P w K mg base CX0 k fa fd [x] sp) (hbind : ∀ (s : Shared) (u : Value), BindsTo s fd ⟨[u], []⟩ [(x, u)])
    (hsp : ∀ H : Hp, Only H → SqL K H a (ns.map V.int) → sp [.ref a] H (fun v _ => v = .bl true) fun _ _ _ => False) :
    codeAny (model P w) callerA (.call (.ref fa) ⟨[.ref a], []⟩) (fun r s' => r = .ok (.ret (.bool true)) ∧ OldK s₁.heap s'.heap ∧ s'.os = s₁.os ∧ AllBare s'.gens) s₁ := by
  have rv := vals_ints hi
  have lenV := hi.length
  have core : ∀ H : Hp, Only H → SqL K H a (ns.map V.int) → HOk P w H s₁.heap → (∀ b, H b ≠ none → b = a) → (H a ≠ none → K.lookup a = none) →
      codeAny (model P w) callerA (.call (.ref fa) ⟨[.ref a], []⟩) (fun r s' => r = .ok (.ret (.bool true)) ∧ OldK s₁.heap s'.heap ∧ s'.os = s₁.os ∧ AllBare s'.gens) s₁ := by
    intro H hO hS hok hA hK
    have only : ∀ {b : Addr}, (H b ≠ none → False) → H b = none := fun {b} n => by
      cases q : H b with
      | none => rfl
      | some u => exact (n (by rw [q]; simp)).elim
    have kept : ∀ {b : Addr} {o : Obj}, s₁.heap.get? b = some o → H b = none → (hidT s₁.heap H).get? b = some o := fun e n => hidT_get e n
    have dicts : ∀ {b : Addr} {o : Obj} {es : Array DictEntry} {ep : Nat}, s₁.heap.get? b = some o → o.data = .dict es ep → H b = none := fun {b o es ep} e d => only fun q => by
      have e' : b = a := hA b q
      subst e'
      rw [ha] at e
      cases e
      have d' : Data.seq vs.toArray _ = Data.dict es ep := d
      cases d'
    have nsK : ∀ {b : Addr} {m : Str → Option Value}, s₁.heap.Ns b m → (hidT s₁.heap H).Ns b m := by
      rintro b m ⟨o, es, ep, e, d, r⟩
      exact ⟨o, es, ep, kept e (dicts e d), d, r⟩
    have kb : K.In (hidT s₁.heap H) := fun b o e => kept (KX b o e) (only fun q => by
      have e' : b = a := hA b q
      subst e'
      rw [hK q] at e
      cases e)
    obtain ⟨mc, l1, l2⟩ := hlim
    have e0 : Env0 P w K mg (hidT s₁.heap H) callerA [] s₁ H := ⟨rfl, ⟨kb, nsK hns, ⟨mb, nsK hb, hbb⟩, ⟨mc, nsK l1, l2⟩⟩, fun b o e => of_hidT e, Nat.le_of_eq (hidT_size _ _), trivial, fun b hb => absurd (show b ∈ ([] : List Addr) from hb) (by simp), hok, .of_eq hg⟩
    refine codeAny_mono ((F _ kb (nsK hns)).run callerA [] s₁ H ⟨[.ref a], []⟩ [.ref a] [.ref a] _ _ hr e0 (hbind s₁ (.ref a)) (.cons rfl .nil) (hsp H hO hS)) fun r s' h => ?_
    cases r with
    | error e => exact False.elim h
    | ok fl =>
      cases fl with
      | next => exact False.elim h
      | brk => exact False.elim h
      | cont => exact False.elim h
      | ret u =>
        obtain ⟨v, H', os, bare, un, hok', r', q⟩ := h
        obtain rfl : v = .bl true := q
        obtain rfl : u = Value.bool true := r'
        refine ⟨rfl, OldK.of_keep fun b o e => ?_, os, bare⟩
        rcases hO b with z | ⟨ob, xs, z⟩
        · exact un.keep b o e z (fun y => absurd (show b ∈ ([] : List Addr) from y) (by simp)) (by simp)
        · obtain ⟨e1, _⟩ := hok b _ z
          obtain ⟨e2, _⟩ := hok' b _ (un.frzs b ob _ z)
          rw [e] at e1
          cases e1
          exact e2
  cases hk : K.lookup a with
  | some o =>
    have e := KX a o hk
    rw [ha] at e
    cases e
    exact core (fun _ => none) (fun _ => .inl rfl) (.inr ⟨_, vs.toArray, _, hk, rfl, rfl, rfl, by rw [List.size_toArray, lenV]; exact hl, by simpa using rv⟩) (fun b u z => nomatch (show (none : Option HO) = some u from z)) (fun b z => absurd rfl z) fun z => absurd rfl z
  | none =>
    refine core (fun b => if b = a then some (.frz { cls := .type "list", data := .seq vs.toArray } (.lst (ns.map V.int))) else none) (fun b => ?_) (.inl (.inr ⟨{ cls := .type "list", data := .seq vs.toArray }, if_pos rfl⟩)) (fun b u z => ?_) (fun b z => ?_) fun _ => hk
    · by_cases h : b = a
      · exact .inr ⟨_, _, if_pos h⟩
      · exact .inl (if_neg h)
    · by_cases h : b = a
      · have z' := (if_pos h).symm.trans z
        cases z'
        subst h
        exact ⟨ha, by rw [List.length_map]; exact hl, vs, _, rv, ha⟩
      · have z' := (if_neg h).symm.trans z
        cases z'
    · by_cases h : b = a
      · exact h
      · exact absurd (if_neg h) z
theorem walk_ofG {l : PySem.W.OpenLaw} {n k : Nat} {q : Program} {loose : List Str} {XP : (Str → Option Value) → Heap → Prop} {YP : World → Heap → Prop} {d : DefRec} {K : Params → PySem.W.Frag} {sp : PySem.W.Frag → Sp} {x : Str}
    (hn : l.most = some n) (hn2 : n ≤ sizeLine) (hdf : d.params.defaults = []) (hr : RoomG k callerA)
    (hY : ∀ (w : World) (h : Heap), YP w h → (K w.params).In h)
    (F : ∀ (w : World) (mg : Str → Option Value) (fa : Addr) (h : Heap), (K w.params).In h → h.Ns mainGlobals mg → mg d.name = some (.ref fa) →
      ∃ fd : FuncData, (∀ (s : Shared) (u : Value), BindsTo s fd ⟨[u], []⟩ [(x, u)]) ∧ ∀ base : Heap, (K w.params).In base → base.Ns mainGlobals mg → FnG l.prog w (K w.params) mg base CX0 k fa fd [x] (sp (K w.params)))
    (hsp : ∀ (K : PySem.W.Frag) (H : Hp) (a : Addr) (ns : List Int), ns.length ≤ n → Only H → SqL K H a (ns.map V.int) → sp K [.ref a] H (fun v _ => v = .bl true) fun _ _ _ => False) :
    PySem.W.WalkO q loose XP YP l.row.toRowW d [] (fun f vs => PySem.call f vs) := by
  refine Att.attach_call hn hdf fun w s₀ s₁ mg mb fa o pm cd doc a vs ns G Y ho hd hcd hmg hobj hints hlen hg => ?_
  have KX := hY w _ Y
  obtain ⟨fd, hb, hF⟩ := F w mg fa _ KX G.T.g hmg
  exact call_top KX G.T.g G.T.b G.T.builtins G.T.nolimit hg hobj hints (Nat.le_trans hlen hn2) hr hF hb fun H hO hS => hsp _ H a ns hlen hO hS
/-! ### what the top has written -/
def pick7 (c0 c1 c2 c3 c4 c5 c6 : Addr) : Nat → Addr
  | 0 => c0 | 1 => c1 | 2 => c2 | 3 => c3 | 4 => c4 | 5 => c5 | _ => c6
def pick6 (c0 c1 c2 c3 c4 c5 : Addr) : Nat → Addr
  | 0 => c0 | 1 => c1 | 2 => c2 | 3 => c3 | 4 => c4 | _ => c5
theorem lt7 {p : Nat → Prop} (h0 : p 0) (h1 : p 1) (h2 : p 2) (h3 : p 3) (h4 : p 4) (h5 : p 5) (h6 : p 6) : ∀ i, i < 7 → p i
  | 0, _ => h0 | 1, _ => h1 | 2, _ => h2 | 3, _ => h3 | 4, _ => h4 | 5, _ => h5 | 6, _ => h6
  | i + 7, h => absurd h (by omega)
theorem lt6 {p : Nat → Prop} (h0 : p 0) (h1 : p 1) (h2 : p 2) (h3 : p 3) (h4 : p 4) (h5 : p 5) : ∀ i, i < 6 → p i
  | 0, _ => h0 | 1, _ => h1 | 2, _ => h2 | 3, _ => h3 | 4, _ => h4 | 5, _ => h5
  | i + 6, h => absurd h (by omega)
section
variable {K : PySem.W.Frag} {C B fI : Addr} {qual nm q : Str} {N : Addr} {bs : List Value} {sn : List Str} {sub : List Value} {ab : Bool} {col : Option Bool} {dd : Option Addr} {m0 m1 m2 m3 m5 : Option Value}
theorem cls_mk (xL : K.lookup C = some (excClassObj nm q C N bs [.ref B, .type "ValueError", .type "Exception", .type "BaseException", .type "object"] true sn sub ab col dd m0 m1 m2 m3 m5 "ValueError.__new__"))
    (ga : PySem.W.findIn K (.ref C) "__getattribute__" = some (some (.builtin "BaseException.__getattribute__"))) (gg : PySem.W.findIn K (.ref C) "__getattr__" = some none) (kC : PySem.W.keepIn K (.ref C) = true)
    (eC : PySem.W.subIn K (.ref C) (.type "BaseException") = some true) (tC : PySem.W.typeIn K (.ref C) = some (.type "type")) (hC : PySem.W.hasDictIn K C = true)
    (ca : PySem.W.findIn K (.ref C) "__class__" = some (some (.builtin "object.__class__"))) (cg : PySem.W.specialIn K (.builtin "object.__class__") "__get__" = some (some (.builtin "getset_descriptor.__get__")))
    (ct : PySem.W.takesIn K (.builtin "object.__class__") = some true) (cm : PySem.W.mroIn K C (.type "object") = some true) : ErCls K C :=
  ⟨⟨nm, q, N, bs, _, sn, sub, ab, col, dd, m0, m1, m2, m3, m5, xL, by
    show HandSPX.refsVE [Value.type "ValueError", .type "Exception", .type "BaseException", .type "object"] = true
    decide +kernel⟩, ga, gg, kC, eC, tC, hC, ca, cg, ct, cm⟩
theorem er_mk {st : Stmt} {oc : Value} {od an : Option Addr} {osl : Array (Option Value)} {doc pm cdv ct : Value} {p1 p2 q1 q2 q3 q4 : Pos} (c : ErCls K C) (sa : PySem.W.findIn K (.ref C) "__setattr__" = some (some (.builtin "object.__setattr__")))
    (nb : PySem.W.findIn K (.ref C) "at" = some none) (iC : PySem.W.findIn K (.ref C) "__init__" = some (some (.ref fI))) (tI : PySem.W.typeIn K (.ref fI) = some (.type "function"))
    (l : K.lookup fI = some ⟨oc, od, .func (PySem.W.fnOf "__init__" qual (defArgs st) (defBody st) (defScope st) .none .none doc pm an cdv ct), osl⟩) (cd : PySem.W.codeIn K cdv qual = true)
    (e1 : defArgs st = atA p1 p2 := by rfl) (e2 : defBody st = atB q1 q2 q3 q4 := by rfl) (e3 : defScope st = PySem.ErK.atS := by rfl) : ErTxt K C fI qual := by
  rw [e1, e2, e3] at l
  exact ⟨c, sa, nb, iC, tI, ⟨oc, od, doc, pm, an, cdv, ct, osl, p1, p2, q1, q2, q3, q4, l, cd⟩⟩
end
theorem all_mk {l : PySem.W.OpenLaw} {w : World} {K : PySem.W.Frag} {h : Heap} {mg : Str → Option Value} {fa C0 C1 C2 C3 C4 C5 C6 B f0 f1 f2 f3 f4 f5 fM fR fH fN fL : Addr} (X : K.In h) (G : h.Ns mainGlobals mg) (hfa : mg "law" = some (.ref fa))
    {oM aM oR aR oH aH oN aN oL aL : Option Addr} {sM sR sH sN sL : Array (Option Value)} {cM vM dM pM yM tM cR vR dR pR yR tR cH vH dH pH yH tH cN vN dN pN yN tN cL vL dL pL yL tL : Value}
    (g0 : PySem.W.nsIn K mainGlobals "InvalidStore" = some (some (.ref C0))) (g1 : PySem.W.nsIn K mainGlobals "InvalidState" = some (some (.ref C1))) (g2 : PySem.W.nsIn K mainGlobals "InvalidLot" = some (some (.ref C2))) (g3 : PySem.W.nsIn K mainGlobals "InvalidQuestion" = some (some (.ref C3)))
    (g4 : PySem.W.nsIn K mainGlobals "InvalidText" = some (some (.ref C4))) (g5 : PySem.W.nsIn K mainGlobals "Refused" = some (some (.ref C5))) (g6 : PySem.W.nsIn K mainGlobals "InvalidCommand" = some (some (.ref C6))) (gB : PySem.W.nsIn K mainGlobals "PlanError" = some (some (.ref B)))
    (r0 : ErTxt K C0 f0 "InvalidStore.__init__") (r1 : ErTxt K C1 f1 "InvalidState.__init__") (r2 : ErTxt K C2 f2 "InvalidLot.__init__") (r3 : ErTxt K C3 f3 "InvalidQuestion.__init__") (r4 : ErTxt K C4 f4 "InvalidText.__init__") (r5 : ErTxt K C5 f5 "Refused.__init__") (r6 : ErCls K C6)
    (e6 : PySem.W.excIn K C6 [.type "ValueError", .type "Exception", .type "BaseException", .type "object"] "ValueError.__new__" = true)
    (kit : ∀ i, i < 7 → ∀ j, j < 7 → PySem.W.kitOne K (.ref (pick7 C0 C1 C2 C3 C4 C5 C6 i)) (.ref (pick7 C0 C1 C2 C3 C4 C5 C6 j)) = some (decide (j = i)))
    (kitV : ∀ i, i < 7 → PySem.W.kitOne K (.ref (pick7 C0 C1 C2 C3 C4 C5 C6 i)) (.type "ValueError") = some true) (exm : ∀ i, i < 7 → PySem.W.exmOne K (.ref (pick7 C0 C1 C2 C3 C4 C5 C6 i)) (.ref B) = some true)
    (z1 : PySem.W.nsIn K mainGlobals "ValueError" = some none) (z2 : PySem.W.nsIn K mainGlobals "isinstance" = some none) (z3 : PySem.W.nsIn K mainGlobals "repr" = some none) (z4 : PySem.W.nsIn K mainGlobals "range" = some none)
    (z5 : PySem.W.nsIn K mainGlobals "max" = some none) (z6 : PySem.W.nsIn K mainGlobals "min" = some none) (z7 : PySem.W.nsIn K mainGlobals "len" = some none) (z8 : PySem.W.nsIn K mainGlobals "int" = some none) (z9 : PySem.W.nsIn K mainGlobals "str" = some none)
    (hM : PySem.W.nsIn K mainGlobals "_law_marks" = some (some (.ref fM))) (lM : K.lookup fM = some ⟨cM, oM, .func (PySem.W.fnOf "_law_marks" "_law_marks" (defArgs sMarks) (defBody sMarks) (defScope sMarks) .none vM dM pM aM yM tM), sM⟩) (xM : PySem.W.codeIn K yM "_law_marks" = true) (kM : PySem.W.keepIn K (.ref fM) = true)
    (hR : PySem.W.nsIn K mainGlobals "_law_raise" = some (some (.ref fR))) (lR : K.lookup fR = some ⟨cR, oR, .func (PySem.W.fnOf "_law_raise" "_law_raise" (defArgs sRaise) (defBody sRaise) (defScope sRaise) .none vR dR pR aR yR tR), sR⟩) (xR : PySem.W.codeIn K yR "_law_raise" = true) (kR : PySem.W.keepIn K (.ref fR) = true)
    (hH : PySem.W.nsIn K mainGlobals "_law_heard" = some (some (.ref fH))) (lH : K.lookup fH = some ⟨cH, oH, .func (PySem.W.fnOf "_law_heard" "_law_heard" (defArgs sHeard) (defBody sHeard) (defScope sHeard) .none vH dH pH aH yH tH), sH⟩) (xH : PySem.W.codeIn K yH "_law_heard" = true) (kH : PySem.W.keepIn K (.ref fH) = true)
    (hN : PySem.W.nsIn K mainGlobals "_law_named" = some (some (.ref fN))) (lN : K.lookup fN = some ⟨cN, oN, .func (PySem.W.fnOf "_law_named" "_law_named" (defArgs sNamed) (defBody sNamed) (defScope sNamed) .none vN dN pN aN yN tN), sN⟩) (xN : PySem.W.codeIn K yN "_law_named" = true) (kN : PySem.W.keepIn K (.ref fN) = true)
    (hL : PySem.W.nsIn K mainGlobals "law" = some (some (.ref fL))) (lL : K.lookup fL = some ⟨cL, oL, .func (PySem.W.fnOf "law" "law" (defArgs sLaw) (defBody sLaw) (defScope sLaw) .none vL dL pL aL yL tL), sL⟩) (xL : PySem.W.codeIn K yL "law" = true) (kL : PySem.W.keepIn K (.ref fL) = true) :
    ∃ fd : FuncData, (∀ (s : Shared) (v : Value), BindsTo s fd ⟨[v], []⟩ [("_law_script", v)]) ∧ ∀ base : Heap, K.In base → base.Ns mainGlobals mg → FnG l.prog w K mg base CX0 5 fa fd ["_law_script"] (spLaw K) := by
  have e := hfa.symm.trans (PySem.W.mg_of X G hL)
  cases e
  have T : TxtK K mg (pick7 C0 C1 C2 C3 C4 C5 C6) (pick6 f0 f1 f2 f3 f4 f5) B fM fR fH fN :=
    { g := lt7 (PySem.W.mg_of X G g0) (PySem.W.mg_of X G g1) (PySem.W.mg_of X G g2) (PySem.W.mg_of X G g3) (PySem.W.mg_of X G g4) (PySem.W.mg_of X G g5) (PySem.W.mg_of X G g6)
      er := lt6 r0 r1 r2 r3 r4 r5
      cl := lt7 r0.toErCls r1.toErCls r2.toErCls r3.toErCls r4.toErCls r5.toErCls r6
      e6 := ⟨_, _, _, _, F.excBase_ValueError, e6⟩
      kit := fun i j hi hj => kit i hi j hj
      kitV := kitV
      gB := PySem.W.mg_of X G gB
      exm := exm
      nV := PySem.W.mg_none_of X G z1
      nI := PySem.W.mg_none_of X G z2
      nRp := PySem.W.mg_none_of X G z3
      nRg := PySem.W.mg_none_of X G z4
      gM := PySem.W.mg_of X G hM
      kM := kM
      gR := PySem.W.mg_of X G hR
      kR := kR
      gH := PySem.W.mg_of X G hH
      kH := kH
      gN := PySem.W.mg_of X G hN
      kN := kN }
  have L : TxtL mg := ⟨PySem.W.mg_none_of X G z4, PySem.W.mg_none_of X G z5, PySem.W.mg_none_of X G z6, PySem.W.mg_none_of X G z7, PySem.W.mg_none_of X G z8, PySem.W.mg_none_of X G z9⟩
  have FM := fun_mk (st := sMarks) lM xM kM
  have FR := fun_mk (st := sRaise) lR xR kR
  have FH := fun_mk (st := sHeard) lH xH kH
  have FN := fun_mk (st := sNamed) lN xN kN
  have FL := fun_mk (st := sLaw) lL xL kL
  have bM := FM.binds (ps := ["_law_e"]) fun _ _ _ _ _ _ us hl => match us, hl with | [_], _ => rfl
  have bR := FR.binds (ps := ["_law_at", "_law_thing"]) fun _ _ _ _ _ _ us hl => match us, hl with | [_, _], _ => rfl
  have bH := FH.binds (ps := ["_law_at", "_law_thing"]) fun _ _ _ _ _ _ us hl => match us, hl with | [_, _], _ => rfl
  have bN := FN.binds (ps := ["_law_thing"]) fun _ _ _ _ _ _ us hl => match us, hl with | [_], _ => rfl
  exact ⟨PySem.W.fnOf "law" "law" (defArgs sLaw) (defBody sLaw) (defScope sLaw) .none vL dL pL aL yL tL, fun s v => .of_eq rfl, fun base _ _ => ok_law FL T L (ok_heard FH T (ok_raise FR T) bR (ok_marks FM T) bM) bH (ok_named FN T) bN⟩
end VL


open PySem PySem.W PyProof.Rows
set_option maxRecDepth 100000 in
set_option maxHeartbeats 0 in
theorem PySem.Challenge.cw_bothplans_k00_errors_and_what_they_keep_holds : PySem.Challenge.rw_bothplans_k00_errors_and_what_they_keep.Holds := by
  w_on; o_law; k_head; (case hw => w_witness2)
  k_fill
  refine VL.walk_ofG (l := PySem.Challenge.rw_bothplans_k00_errors_and_what_they_keep) (n := 63) (k := 5) (x := "_law_script") (sp := VL.spLaw) rfl (by decide) rfl ⟨⟨rfl, by decide, by decide⟩, rfl⟩ (fun w h Y => PySem.W.kIn_of Y) ?F (fun K H a ns hl _ hS => ⟨a, ns, rfl, hS, hl, fun _ => rfl⟩)
  case F =>
    intro w mg fa h KX G hmg
    refine' VL.all_mk KX G hmg ?ug0 ?ug1 ?ug2 ?ug3 ?ug4 ?ug5 ?ug6 ?ugB ?ur0 ?ur1 ?ur2 ?ur3 ?ur4 ?ur5 ?ur6 ?ue6 ?ukit ?ukitV ?uexm ?uz1 ?uz2 ?uz3 ?uz4 ?uz5 ?uz6 ?uz7 ?uz8 ?uz9 ?uhM ?ulM ?uxM ?ukM ?uhR ?ulR ?uxR ?ukR ?uhH ?ulH ?uxH ?ukH ?uhN ?ulN ?uxN ?ukN ?uhL ?ulL ?uxL ?ukL
    (case ug0 => k_is); (case ug1 => k_is); (case ug2 => k_is); (case ug3 => k_is); (case ug4 => k_is); (case ug5 => k_is); (case ug6 => k_is); (case ugB => k_is)
    (case uz1 => k_is); (case uz2 => k_is); (case uz3 => k_is); (case uz4 => k_is); (case uz5 => k_is); (case uz6 => k_is); (case uz7 => k_is); (case uz8 => k_is); (case uz9 => k_is)
    (case uhM => k_is); (case ulM => k_is); (case uxM => k_is); (case ukM => k_is)
    (case uhR => k_is); (case ulR => k_is); (case uxR => k_is); (case ukR => k_is)
    (case uhH => k_is); (case ulH => k_is); (case uxH => k_is); (case ukH => k_is)
    (case uhN => k_is); (case ulN => k_is); (case uxN => k_is); (case ukN => k_is)
    (case uhL => k_is); (case ulL => k_is); (case uxL => k_is); (case ukL => k_is)
    case ur6 =>
      refine' VL.cls_mk ?v6xL ?v6ga ?v6gg ?v6kC ?v6eC ?v6tC ?v6hC ?v6ca ?v6cg ?v6ct ?v6cm
      (case v6xL => k_is)
      all_goals k_is
    case ur0 =>
      refine' VL.er_mk (st := L2.inClass (VL.topK 2) 0) (VL.cls_mk ?v0xL ?v0ga ?v0gg ?v0kC ?v0eC ?v0tC ?v0hC ?v0ca ?v0cg ?v0ct ?v0cm) ?v0sa ?v0nb ?v0iC ?v0tI ?v0l ?v0cd
      (case v0xL => k_is); (case v0ga => k_is); (case v0gg => k_is); (case v0kC => k_is); (case v0eC => k_is); (case v0tC => k_is); (case v0hC => k_is); (case v0ca => k_is); (case v0cg => k_is); (case v0ct => k_is); (case v0cm => k_is)
      (case v0sa => k_is); (case v0nb => k_is); (case v0iC => k_is); (case v0tI => k_is); (case v0l => k_is); (case v0cd => k_is)
    case ur1 =>
      refine' VL.er_mk (st := L2.inClass (VL.topK 3) 0) (VL.cls_mk ?v1xL ?v1ga ?v1gg ?v1kC ?v1eC ?v1tC ?v1hC ?v1ca ?v1cg ?v1ct ?v1cm) ?v1sa ?v1nb ?v1iC ?v1tI ?v1l ?v1cd
      (case v1xL => k_is); (case v1ga => k_is); (case v1gg => k_is); (case v1kC => k_is); (case v1eC => k_is); (case v1tC => k_is); (case v1hC => k_is); (case v1ca => k_is); (case v1cg => k_is); (case v1ct => k_is); (case v1cm => k_is)
      (case v1sa => k_is); (case v1nb => k_is); (case v1iC => k_is); (case v1tI => k_is); (case v1l => k_is); (case v1cd => k_is)
    case ur2 =>
      refine' VL.er_mk (st := L2.inClass (VL.topK 4) 0) (VL.cls_mk ?v2xL ?v2ga ?v2gg ?v2kC ?v2eC ?v2tC ?v2hC ?v2ca ?v2cg ?v2ct ?v2cm) ?v2sa ?v2nb ?v2iC ?v2tI ?v2l ?v2cd
      (case v2xL => k_is); (case v2ga => k_is); (case v2gg => k_is); (case v2kC => k_is); (case v2eC => k_is); (case v2tC => k_is); (case v2hC => k_is); (case v2ca => k_is); (case v2cg => k_is); (case v2ct => k_is); (case v2cm => k_is)
      (case v2sa => k_is); (case v2nb => k_is); (case v2iC => k_is); (case v2tI => k_is); (case v2l => k_is); (case v2cd => k_is)
    case ur3 =>
      refine' VL.er_mk (st := L2.inClass (VL.topK 5) 0) (VL.cls_mk ?v3xL ?v3ga ?v3gg ?v3kC ?v3eC ?v3tC ?v3hC ?v3ca ?v3cg ?v3ct ?v3cm) ?v3sa ?v3nb ?v3iC ?v3tI ?v3l ?v3cd
      (case v3xL => k_is); (case v3ga => k_is); (case v3gg => k_is); (case v3kC => k_is); (case v3eC => k_is); (case v3tC => k_is); (case v3hC => k_is); (case v3ca => k_is); (case v3cg => k_is); (case v3ct => k_is); (case v3cm => k_is)
      (case v3sa => k_is); (case v3nb => k_is); (case v3iC => k_is); (case v3tI => k_is); (case v3l => k_is); (case v3cd => k_is)
    case ur4 =>
      refine' VL.er_mk (st := L2.inClass (VL.topK 6) 0) (VL.cls_mk ?v4xL ?v4ga ?v4gg ?v4kC ?v4eC ?v4tC ?v4hC ?v4ca ?v4cg ?v4ct ?v4cm) ?v4sa ?v4nb ?v4iC ?v4tI ?v4l ?v4cd
      (case v4xL => k_is); (case v4ga => k_is); (case v4gg => k_is); (case v4kC => k_is); (case v4eC => k_is); (case v4tC => k_is); (case v4hC => k_is); (case v4ca => k_is); (case v4cg => k_is); (case v4ct => k_is); (case v4cm => k_is)
      (case v4sa => k_is); (case v4nb => k_is); (case v4iC => k_is); (case v4tI => k_is); (case v4l => k_is); (case v4cd => k_is)
    case ur5 =>
      refine' VL.er_mk (st := L2.inClass (VL.topK 7) 0) (VL.cls_mk ?v5xL ?v5ga ?v5gg ?v5kC ?v5eC ?v5tC ?v5hC ?v5ca ?v5cg ?v5ct ?v5cm) ?v5sa ?v5nb ?v5iC ?v5tI ?v5l ?v5cd
      (case v5xL => k_is); (case v5ga => k_is); (case v5gg => k_is); (case v5kC => k_is); (case v5eC => k_is); (case v5tC => k_is); (case v5hC => k_is); (case v5ca => k_is); (case v5cg => k_is); (case v5ct => k_is); (case v5cm => k_is)
      (case v5sa => k_is); (case v5nb => k_is); (case v5iC => k_is); (case v5tI => k_is); (case v5l => k_is); (case v5cd => k_is)
    case ue6 => kernel_rfl
    case ukit =>
      refine VL.lt7 ?_ ?_ ?_ ?_ ?_ ?_ ?_ <;> refine VL.lt7 ?_ ?_ ?_ ?_ ?_ ?_ ?_ <;> kernel_rfl
    case ukitV =>
      refine VL.lt7 ?_ ?_ ?_ ?_ ?_ ?_ ?_ <;> kernel_rfl
    case uexm =>
      refine VL.lt7 ?_ ?_ ?_ ?_ ?_ ?_ ?_ <;> kernel_rfl
#print axioms PySem.Challenge.cw_bothplans_k00_errors_and_what_they_keep_holds

