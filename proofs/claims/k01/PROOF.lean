import PyProof.Rows.All
import Wide.All
import OpenK.AllK
import Wide.FinOn
import PyProof.EqAt
import PyProof.EqKinds
import PyProof.TupleCall
import HandS.ForMost
import HandS.Exc
import HandS.ExcInit
import HandS.ExcIs
import HandS.ExcOwn
import HandS.ExcValue
import HandS.DeepEq
import HandS.IsInst
import HandS.Wide
import KE.KExcInit
import HandS.RaiseMore
import HandS.DictComp
import PyProof.ReprRoads
import PyProof.ReprLen
import PySem.Challenge.RW_spareblocks_k01_limits_and_errors
set_option Elab.async false
set_option linter.all false
set_option maxRecDepth 100000
set_option maxHeartbeats 2000000
/-! The promise of a def that is kept where no repr is under way on the stack (guards empty): repr of a list asks for it. -/
namespace G1
open PySem PySem.Spec PyProof.Rows L2
section
variable {P : Program} {w : World} {K : PySem.W.Frag} {mg : Str → Option Value} {base : Heap}
structure FnG (P : Program) (w : World) (K : PySem.W.Frag) (mg : Str → Option Value) (base : Heap) (k : Nat) (f : Addr) (fd : FuncData) (ps : List Str) (sp : Sp) : Prop where
  len : ∀ vs H Q E, sp vs H Q E → vs.length = ps.length
  run : ∀ (A : Around) (outer : List Env) (s : Shared) (H : Hp) (args : Args) (us : List Value) (vs : List V) (Q : VK) (E : XK), A.guards = some [] →
    Room k A → Env0 P w K mg base A outer s H → BindsTo s fd args (ps.zip us) → Vals vs us → sp vs H Q E → codeAny (model P w) A (.call (.ref f) args) (CR CX0 outer P w H s Q E) s
/-- from the body to the promise -/
theorem okG {x qual : Str} {st : Stmt} {f : Addr} {fd : FuncData} {N ps : List Str} {k : Nat} {sp : Sp} (F : Fun K x qual st f fd) (S : FnScope N ps (defScope st))
    (len : ∀ vs H Q E, sp vs H Q E → vs.length = ps.length)
    (hbody : ∀ (cdv : Value) (A : Around) (outer : List Env) (s : Shared) (H : Hp) (vs : List V) (Q : VK) (E : XK), A.guards = some [] →
      Room k (A.deeper (envOfC qual (defScope st) s.heap.objs.size f cdv)) → sp vs H Q E →
      ∃ t, PSs (cxOf CX0 P w K mg base N qual (defScope st) f cdv A outer s H E).nox (defBody st) t ∧ t { nx := fun _ H' => Q .non H', rt := Q } (start N vs) H) :
    FnG P w K mg base (k + 1) f fd ps sp := by
  obtain ⟨oc, od, kV, doc, pm, an, cdv, ct, osl, rfl, lk, hcd⟩ := F.ex
  constructor
  · exact len
  intro A outer s H args us vs Q E hgu room e0 bnd rel want
  have kin : K.In s.heap := e0.mod.kin.keeps fun b o e => (e0.bs b o e).1
  have nol : s.heap.NoLimit := e0.mod.nolimit.keeps fun b o e => (e0.bs b o e).1
  have kinds : ∀ y ∈ ps.zip us, (defScope st).names.lookup y.1 = some .local ∨
      ((defScope st).names.lookup y.1 = some .cell ∧ ((cellsFrom (s.heap.objs.size + 1) (defScope st).names []).lookup y.1).isSome = true) := by
    rintro ⟨n, v⟩ hy
    cases S.par n (List.of_mem_zip hy).1 with
    | inl q => exact Or.inl q
    | inr q => exact Or.inr ⟨q, PySem.W.cellsFrom_some _ _ _ (Or.inl q)⟩
  refine codeAny_call_function room.depth (kin _ _ lk) rfl S.co S.gen rfl (PySem.W.codeRec_of kin hcd) (bnd _ _ _ _ ?_)
  refine wpAny_newFunctionEnv_cells S.kind kinds fun env henv s1 inc => ?_
  subst henv
  refine ⟨nol.keeps inc.toInCall.keep, codeAny_func ?_⟩
  obtain ⟨t, ht0, hq⟩ := hbody cdv A outer s H vs Q E hgu (room.deeper _) want
  have ht := ht0.nox
  have J0 : Inv (cxOf CX0 P w K mg base N qual (defScope st) f cdv A outer s H E) [] (start N vs) H s1 := inv_start S room.hd e0 (len _ _ _ _ want) rel inc
  refine wpAny_mono (ht.run [] s1 (start N vs) H _ J0 hq) (fun fl s' hs => ?_) fun _ _ z => z
  cases fl with
  | brk => exact (hs.elim fun _ z => z.elim fun _ y => y.2.elim)
  | cont => exact (hs.elim fun _ z => z.elim fun _ y => y.2.elim)
  | next =>
    obtain ⟨σ', H', J, q⟩ := hs
    exact ⟨V.non, H', J.os, J.bare, J.base, J.hok, rfl, q⟩
  | ret u =>
    obtain ⟨v, σ', H', J, rv, q⟩ := hs
    exact ⟨v, H', J.os, J.bare, J.base, J.hok, rv, q⟩
/-- what holds at all callers holds at these -/
theorem FnG.of {k : Nat} {f : Addr} {fd : FuncData} {ps : List Str} {sp : Sp} (F : FnOk P w K mg base CX0 k f fd ps sp) : FnG P w K mg base k f fd ps sp :=
  ⟨F.len, fun A outer s H args us vs Q E _ hr he hb hv hs => F.run A outer s H args us vs Q E hr he hb hv hs⟩
end
section
variable {X : Cx} {k : Nat} {f : Addr} {fd : FuncData} {ps : List Str} {sp : Sp} {x : Str} {p pos : Pos} {e : Expr} {es : List Expr} {t : TA}
theorem runG {pins : List (Addr × Obj)} {σ : L2.St} {H : Hp} {s : Shared} {Q : VK} {us : List Value} {vs : List V} (F : FnG X.prog X.w X.K X.mg X.base k f fd ps sp) (hgu : X.A.guards = some [])
    (hr : Room k X.A) (hb : Binds X.K fd ps []) (I : Inv X pins σ H s) (r : Vals vs us) (h : sp vs H Q E0) :
    wpAny (model X.prog X.w) X.A (call (.ref f) us) (EP X pins σ Q) X.xe s := by
  have hl : us.length = ps.length := by rw [← r.length]; exact F.len _ _ _ _ h
  have bb : BindsTo s fd ⟨us, []⟩ (ps.zip us) := by
    have z := hb s us I.kIn (by rw [List.append_nil]; exact hl)
    rw [List.append_nil] at z
    exact z
  refine wpAny_call (codeAny_mono (F.run X.A X.stack s H ⟨us, []⟩ us vs Q E0 hgu hr I.env0 bb r h) fun r s' hq => ?_)
  match r, hq with
  | .error e, hq => exact (show False from hq).elim
  | .ok (.ret u), hq => exact I.after hq
  | .ok .next, hq => exact (show False from hq).elim
  | .ok .brk, hq => exact (show False from hq).elim
  | .ok .cont, hq => exact (show False from hq).elim
/-- f(e, ..) of such a def -/
theorem pe_callG (F : FnG X.prog X.w X.K X.mg X.base k f fd ps sp) (hgu : X.A.guards = some []) (hr : Room k X.A) (hg : Gl X x) (hm : X.mg x = some (.ref f)) (hk : PySem.W.keepIn X.K (.ref f) = true) (hb : Binds X.K fd ps [])
    (ha : PA X (e :: es) t) (hdb : (x == ("__debug__" : Str)) = false := by decide) (he : starEach (e :: es) X.env = (false, eval e X.env) :: starEach es X.env := by rfl)
    (hpl : (backTo pos (starEach es X.env)).any (·.1) = false := by rfl) : PE X (.Call (.Name x p) (e :: es) [] pos) (tCall sp [] E0 t) := by
  refine ⟨fun pins s σ H Q I h => wpAny_Call_Name_kw (ld_glob I hg hm ?_ hdb)⟩
  refine PySem.W.callWith_K (h₀ := X.base) I.ok.mod.kin hk (thn (ha.run pos pins s σ H _ I h) fun us s1 hh => ?_) he hpl
  obtain ⟨vs, H1, I1, r, q⟩ := hh
  rw [List.append_nil] at q
  exact ⟨I1.kIn, runG F hgu hr hb I1 r q⟩
end
end G1

set_option Elab.async false
set_option linter.all false
set_option maxRecDepth 100000
set_option maxHeartbeats 2000000
/-! Exceptions of own classes, made as values: by position and by keyword. -/
namespace G1
open PySem PySem.W PySem.Calls PyProof.Rows PySem.HandSPX
open Builtin Builtin.ObjectAttr
section
variable {M : Model} {prog : Program} {w : World} {A : Around} {E : Value → Shared → Prop} {R : Result → Shared → Prop} {m : Heap} {g : Array GenState} {d : Drawn} {t : Nat} {os : OsState}
variable {nm q : Str} {C N : Addr} {bs bm tl : List Value} {hdct : Bool} {sn : List Str} {sub : List Value} {ab : Bool} {col : Option Bool} {dd : Option Addr} {k0 k1 k2 k3 k5 : Option Value} {B newId initId : String}
theorem checkNewK (F : ExcBaseFacts B newId initId tl) (same : ∀ X : String, bm.contains (.type X) = tl.contains (.type X)) {us : List Value} {kw : List (Str × Value)} {Q : Unit → Shared → Prop}
    (gC : m.get? C = some (excClassObj nm q C N bs bm hdct sn sub ab col dd k0 k1 k2 k3 k5 newId)) (done : Q () ⟨m, g, d, t, os⟩) :
    wpAny M A (checkBuiltinCall newId ⟨.ref C :: us, kw⟩) Q E ⟨m, g, d, t, os⟩ := by
  have isB : (Value.ref C :: bm).contains (.type B) = true := by rw [List.contains_cons, same, F.hasB, Bool.or_true]
  have star := F.noStar
  simp only [checkBuiltinCall, F.newKind, F.newSplit, F.newRow]
  repeat (first | refine wpAny_loadPart_at gC ?_ | (refine wpAny_isSubtype_exc gC ?_; rw [isB]) | refine wpAny_staticBase_exc gC ?_ | refine wpAny_madeBy_exc gC ?_ | simp only [bne_self_eq_false, Bool.false_eq_true, if_false] | wp_step)
  all_goals exact done
theorem newK (F : ExcBaseFacts B newId initId tl) (same : ∀ X : String, bm.contains (.type X) = tl.contains (.type X)) {us : List Value} {kw : List (Str × Value)}
    (gC : m.get? C = some (excClassObj nm q C N bs bm hdct sn sub ab col dd k0 k1 k2 k3 k5 newId)) (fits : us.length ≤ sizeLine)
    (done : R (.ok (.ret (.ref (m.objs.size + 1)))) ⟨(m.push (W.kdv_tup us)).push (excO C m.objs.size), g, d, t, os⟩) :
    codeAny (model prog w) A (.builtin newId ⟨.ref C :: us, kw⟩) R ⟨m, g, d, t, os⟩ := by
  have ends := F.ends
  have isB : (Value.ref C :: bm).contains (.type B) = true := by rw [List.contains_cons, same, F.hasB, Bool.or_true]
  have noA : (Value.ref C :: bm).contains (.type "AttributeError") = false := by rw [List.contains_cons, same, F.noAttr]; rfl
  have noN : (Value.ref C :: bm).contains (.type "NameError") = false := by rw [List.contains_cons, same, F.noName]; rfl
  refine codeAny_builtinAt F.entry ?_
  unfold Builtin.«BaseException.__new__»
  refine PySem.wpAt_bind ?_
  show PySem.wpAt _ _ _ (stack >>= _) _ _ _
  refine PySem.wpAt_bind (PySem.wpAt_stack fun p below => PySem.wpAt_of_wpAny ?_)
  wp_walk
  refine PySem.wpAt_of_wpAny ?_
  rw [F.owner]
  repeat (first | with_reducible refine wpAny_madeHere_exc F.canon gC ?_ | with_reducible refine wpAny_loadPart_at gC ?_ | (with_reducible refine wpAny_isSubtype_exc gC ?_; first | rw [isB] | rw [noA] | rw [noN]) | wp_step)
  show R _ _
  rw [Heap.size_push]
  exact done
/-- what comes behind: C(..) over its own __init__ -/
theorem typeCallK (F : ExcBaseFacts B newId initId tl) (same : ∀ X : String, bm.contains (.type X) = tl.contains (.type X)) {us : List Value} {kw : List (Str × Value)} {fI : Addr} {Q : Fin → Shared → Prop}
    (gC : m.get? C = some (excClassObj nm q C N bs bm hdct sn sub ab col dd k0 k1 k2 k3 k5 newId)) (fits : us.length ≤ sizeLine)
    (ini : W.Looks (model prog w) m (typeLookup (.ref C) "__init__") (some (.ref fI))) (bnd : ∀ self, W.Looks (model prog w) m (bindSpecial (.ref fI) self) (.ref fI, [self]))
    (run : codeAny (model prog w) A (.call (.ref fI) ⟨.ref (m.objs.size + 1) :: us, kw⟩)
      (fun r s' => match r with | .ok (.ret v) => v = .none ∧ Q (.done (.ret (.ref (m.objs.size + 1)))) s' | .ok _ => False | .error e => E e s')
      ⟨(m.push (W.kdv_tup us)).push (excO C m.objs.size), g, d, t, os⟩) :
    wpAny (model prog w) A (Builtin.«type.__call__» ⟨.ref C :: us, kw⟩) Q E ⟨m, g, d, t, os⟩ := by
  repeat (first | with_reducible refine wpAny_loadPart_at gC ?_ | with_reducible refine wpAny_madeBy_exc gC ?_ | wp_step)
  refine codeAny_call_builtin_code (Code.quiet_builtin _ F.quiet) (checkNewK F same gC ?_)
  refine newK F same gC fits ?_
  show wpAny _ _ _ _ _ _
  have old : ∀ b o, m.get? b = some o → ((m.push (W.kdv_tup us)).push (excO C m.objs.size)).get? b = some o := fun b o e => Heap.get?_push_of_some _ (Heap.get?_push_of_some _ e)
  have gC' := old _ _ gC
  have gx : ((m.push (W.kdv_tup us)).push (excO C m.objs.size)).get? (m.objs.size + 1) = some (excO C m.objs.size) := by heap_get
  have isC : (Value.ref C :: bm).contains (.ref C) = true := by simp
  have ini' := ini.keeps old
  have bnd' := (bnd (.ref (m.objs.size + 1))).keeps old
  unfold isInstance
  repeat (first | with_reducible refine wpAny_loadPart_at gx ?_ | (with_reducible refine wpAny_isSubtype_exc gC' ?_; rw [isC]) | wp_step)
  show wpAny _ _ (typeLookup (.ref C) _) _ _ _
  refine ini'.at ?_
  refine wpAny_holding (wpAny_bind (bnd'.at ?_))
  refine wpAny_bind (wpAny_call (codeAny_mono run fun r s' z => ?_))
  rcases r with e | (v | _ | _ | _) <;> first | exact z | exact z.elim | skip
  obtain ⟨rfl, z⟩ := z
  first
    | exact wpAny_pure (wpAny_pure z)
    | (wp_walk; exact z)
theorem checkCallK {us : List Value} {kw : List (Str × Value)} {Q : Unit → Shared → Prop} (gC : m.get? C = some (excClassObj nm q C N bs bm hdct sn sub ab col dd k0 k1 k2 k3 k5 newId))
    (done : Q () ⟨m, g, d, t, os⟩) : wpAny M A (checkBuiltinCall "type.__call__" ⟨.ref C :: us, kw⟩) Q E ⟨m, g, d, t, os⟩ := by
  have f3 := tc_sub
  have isT : (⟨m, g, d, t, os⟩ : Shared).TypeIs (.ref C) "type" := ⟨_, gC, rfl⟩
  simp only [checkBuiltinCall, tc_kind, tc_split]
  repeat (any_goals (first | assumption | with_reducible refine wpAny_loadPart_at gC ?_ | with_reducible refine wpAny_onRaise ?_ | with_reducible refine wpAny_map ?_ | wp_step))
theorem callK (F : ExcBaseFacts B newId initId tl) (same : ∀ X : String, bm.contains (.type X) = tl.contains (.type X)) {us : List Value} {kw : List (Str × Value)} {fI : Addr}
    (gC : m.get? C = some (excClassObj nm q C N bs bm hdct sn sub ab col dd k0 k1 k2 k3 k5 newId)) (fits : us.length ≤ sizeLine)
    (ini : W.Looks (model prog w) m (typeLookup (.ref C) "__init__") (some (.ref fI))) (bnd : ∀ self, W.Looks (model prog w) m (bindSpecial (.ref fI) self) (.ref fI, [self]))
    (run : codeAny (model prog w) (A.under (.builtin "type.__call__" ⟨.ref C :: us, kw⟩)) (.call (.ref fI) ⟨.ref (m.objs.size + 1) :: us, kw⟩) (W.InitBack (m.objs.size + 1) R)
      ⟨(m.push (W.kdv_tup us)).push (excO C m.objs.size), g, d, t, os⟩) :
    codeAny (model prog w) A (.call (.ref C) ⟨us, kw⟩) R ⟨m, g, d, t, os⟩ := by
  have f1 := tc_lookup
  have f2 := tc_bind (.ref C)
  have isT : (⟨m, g, d, t, os⟩ : Shared).TypeIs (.ref C) "type" := ⟨_, gC, rfl⟩
  refine codeAny_of_tree ?_
  show wpAny _ _ (callAny (.ref C) _) _ _ _
  repeat (any_goals (first | assumption | with_reducible refine wpAny_loadPart_at gC ?_ | wp_step))
  refine ⟨rfl, ?_⟩
  refine codeAny_call_builtin_at (Code.quiet_builtin _ (by decide +kernel)) entry_typeCall (checkCallK gC (typeCallK F same gC fits ini bnd ?_))
  refine codeAny_mono run fun r s' z => ?_
  rcases r with e | (v | _ | _ | _) <;> exact z
end
end G1

set_option Elab.async false
set_option linter.all false
set_option maxRecDepth 100000
set_option maxHeartbeats 2000000
/-! Fields of such exceptions. -/
namespace G1
open PySem PySem.W PySem.Calls PyProof.Rows PySem.HandSPX
open Builtin Builtin.ObjectAttr
section
variable {prog : Program} {w : World} {A : Around} {E : Value → Shared → Prop} {R : Result → Shared → Prop} {m : Heap} {g : Array GenState} {d : Drawn} {t : Nat} {os : OsState}
/-- x.name = v, x an exception without a dict as yet -/
theorem osaNew {K : W.Frag} {name : Str} {tk : Tok} {v : Value} {x C : Addr} {fv : Array Value} {cd : ClassData}
    (kin : K.In m) (gx : m.get? x = some { cls := .ref C, data := .fields fv }) (hcd : W.clsIn K C = some cd) (pass : ∀ self, refuseLoop self "__setattr__" cd.mro = pure ())
    (ob : cd.mro.contains (.type "object") = true) (ne : cd.mro.isEmpty = false) (hh : cd.hasDict = true) (no : W.findIn K (.ref C) name = some none)
    (hq : ∀ m' tk' dx, (∀ b o, b ≠ x → m.get? b = some o → m'.get? b = some o) → m.objs.size ≤ dx → dx ≠ x → m'.get? x = some { cls := .ref C, dict := some dx, data := .fields fv } →
      m'.Ns1 dx (fun y => if y = name then some v else none) → R (.ok (.ret .none)) ⟨m', g, d, tk', os⟩) :
    codeAny (model prog w) A (.call (.builtin "object.__setattr__") ⟨[.ref x, .str name tk, v], []⟩) R ⟨m, g, d, t, os⟩ := by
  have I : W.InstAt m x { cls := .ref C, data := .fields fv } C none := ⟨gx, rfl, rfl, trivial⟩
  have far : x ≠ m.objs.size := Nat.ne_of_lt (Heap.lt_size gx)
  have sf := F.store_object
  have isO : W.Looks (model prog w) m (isInstance (.ref x) (.type "object")) true :=
    I.type.andThen (W.looks_mroIn kin (by unfold W.mroIn; rw [hcd, Option.bind_some, if_neg (by rw [ne]; decide), ob]))
  have lm : W.Looks (model prog w) m (mroOf (.ref C)) cd.mro := (W.looks_clsIn kin hcd).andThen .now
  have lt : W.Looks (model prog w) m (storeTaker? none) none := .now
  have lc : W.Looks (model prog w) m (classData C) cd := W.looks_clsIn kin hcd
  refine codeAny_call_builtin sf.slot.plain sf.entry (@W.check_slot (model prog w) _ _ ⟨m, g, d, t, os⟩ "object.__setattr__" "object" "__setattr__" (.ref x) [.str name tk, v] [] _ sf.kind sf.split isO
    (sf.args (.ref x) (.str name tk) v) ?_)
  rw [W.osa_eq, refuse_eq]
  refine wpAny_bind (wpAny_bind (I.type.at (wpAny_bind (lm.at ?_))))
  rw [pass]
  refine wpAny_pure (wpAny_bind (I.type.at (wpAny_bind ((W.looks_findIn kin no).at (wpAny_bind (lt.at ?_))))))
  show wpAny _ _ (storeInOwnDict (.ref x) (.ref C) (.str name tk) name v false) _ _ _
  obtain ⟨nm, bs, mro, ns, qn, hd, sn, sb, ab, col, del⟩ := cd
  dsimp only at hh
  subst hh
  unfold storeInOwnDict ownDictForStores
  repeat (first | with_reducible refine store_in_new ?_ ?_ | with_reducible refine wpAny_loadPart_at gx ?_ | with_reducible refine lc.at ?_ | wp_step)
  · exact ⟨_, #[], _, (Heap.get?_update_ne _ _ _ _ far.symm).trans (Heap.get?_push_at rfl rfl), rfl, fun e he => absurd he (by simp), fun _ => rfl⟩
  · intro m' tk' hn' hs
    have gx1 : (m.push { cls := .type "dict", data := .dict #[] }).get? x = some { cls := .ref C, data := .fields fv } := Heap.get?_push_of_some _ gx
    refine hq m' tk' m.objs.size (fun b o hb ho => ?_) (Nat.le_refl _) far.symm ?_ hn'
    · exact (hs.2 b (Nat.ne_of_lt (Heap.lt_size ho))).trans ((Heap.get?_update_ne _ _ _ _ hb).trans (Heap.get?_push_of_some _ ho))
    · exact (hs.2 x far).trans (Heap.get?_update_self _ gx1 rfl)
/-- a further field -/
theorem osaMore {K : W.Frag} {name : Str} {tk : Tok} {v : Value} {x C dx : Addr} {fv : Array Value} {cd : ClassData} {m0 : Str → Option Value} {nl : List Str}
    (kin : K.In m) (gx : m.get? x = some { cls := .ref C, dict := some dx, data := .fields fv }) (hns : m.Ns1 dx m0) (hw : Within m0 nl) (hz : nl.length ≤ 1000) (hcd : W.clsIn K C = some cd)
    (pass : ∀ self, refuseLoop self "__setattr__" cd.mro = pure ()) (ob : cd.mro.contains (.type "object") = true) (ne : cd.mro.isEmpty = false) (hh : cd.hasDict = true) (no : W.findIn K (.ref C) name = some none)
    (hq : ∀ m' tk', (∀ b o, b ≠ dx → m.get? b = some o → m'.get? b = some o) → m'.Ns1 dx (fun y => if y = name then some v else m0 y) → R (.ok (.ret .none)) ⟨m', g, d, tk', os⟩) :
    codeAny (model prog w) A (.call (.builtin "object.__setattr__") ⟨[.ref x, .str name tk, v], []⟩) R ⟨m, g, d, t, os⟩ := by
  obtain ⟨oD, esD, epD, hoD, hdD, _⟩ := hns.count hw
  have I : W.InstAt m x { cls := .ref C, dict := some dx, data := .fields fv } C (some oD) := ⟨gx, rfl, rfl, hoD⟩
  have sf := F.store_object
  have isO : W.Looks (model prog w) m (isInstance (.ref x) (.type "object")) true :=
    I.type.andThen (W.looks_mroIn kin (by unfold W.mroIn; rw [hcd, Option.bind_some, if_neg (by rw [ne]; decide), ob]))
  have lm : W.Looks (model prog w) m (mroOf (.ref C)) cd.mro := (W.looks_clsIn kin hcd).andThen .now
  have lt : W.Looks (model prog w) m (storeTaker? none) none := .now
  have lc : W.Looks (model prog w) m (classData C) cd := W.looks_clsIn kin hcd
  refine codeAny_call_builtin sf.slot.plain sf.entry (@W.check_slot (model prog w) _ _ ⟨m, g, d, t, os⟩ "object.__setattr__" "object" "__setattr__" (.ref x) [.str name tk, v] [] _ sf.kind sf.split isO
    (sf.args (.ref x) (.str name tk) v) ?_)
  rw [W.osa_eq, refuse_eq]
  refine wpAny_bind (wpAny_bind (I.type.at (wpAny_bind (lm.at ?_))))
  rw [pass]
  refine wpAny_pure (wpAny_bind (I.type.at (wpAny_bind ((W.looks_findIn kin no).at (wpAny_bind (lt.at ?_))))))
  show wpAny _ _ (storeInOwnDict (.ref x) (.ref C) (.str name tk) name v false) _ _ _
  obtain ⟨nm, bs, mro, ns, qn, hd, sn, sb, ab, col, del⟩ := cd
  dsimp only at hh
  subst hh
  unfold storeInOwnDict ownDictForStores
  repeat (first | with_reducible refine PySem.OEX.store_in_old hns hw hz ?_ | with_reducible refine wpAny_loadPart_at gx ?_ | with_reducible refine lc.at ?_ | wp_step)
  intro m' tk' hn' hs
  exact hq m' tk' (fun b o hb ho => (hs.2 b hb).trans ho) hn'
end
/-- what the written part says of an exception class at C: its own bases os, then the built-in tail -/
structure XC (K : Frag) (C : Addr) (os : List Addr) (B newId initId : String) (tl : List Value) : Prop where
  bf : ExcBaseFacts B newId initId tl
  pass : ∀ self, refuseLoop self "__setattr__" tl = pure ()
  ob : tl.contains (.type "object") = true
  cls : ∃ nm q N bs sn sub ab col dd k0 k1 k2 k3 k5, K.lookup C = some (excClassObj nm q C N bs (os.map Value.ref ++ tl) true sn sub ab col dd k0 k1 k2 k3 k5 newId)
  sa : findIn K (.ref C) "__setattr__" = some (some (.builtin "object.__setattr__"))
  kC : keepIn K (.ref C) = true
  is : L2.ExcC K C
theorem refuse_refs (tl : List Value) (pass : ∀ self, refuseLoop self "__setattr__" tl = pure ()) : ∀ (os : List Addr) (self : Value), refuseLoop self "__setattr__" (os.map Value.ref ++ tl) = pure ()
  | [], self => pass self
  | o :: os, self => by
    show refuseLoop self "__setattr__" (Value.ref o :: (os.map Value.ref ++ tl)) = pure ()
    rw [refuseLoop_ref]
    exact refuse_refs tl pass os self
theorem refs_has (tl : List Value) (X : String) : ∀ os : List Addr, (os.map Value.ref ++ tl).contains (.type X) = tl.contains (.type X)
  | [] => rfl
  | o :: os => by
    show (Value.ref o :: (os.map Value.ref ++ tl)).contains (.type X) = _
    rw [List.contains_cons, refs_has tl X os]
    rfl
theorem XC.data {K : Frag} {C : Addr} {os : List Addr} {B newId initId : String} {tl : List Value} (T : XC K C os B newId initId tl) :
    ∃ cd : ClassData, clsIn K C = some cd ∧ (∀ self, refuseLoop self "__setattr__" cd.mro = pure ()) ∧ cd.mro.contains (.type "object") = true ∧ cd.mro.isEmpty = false ∧ cd.hasDict = true := by
  obtain ⟨nm, q, N, bs, sn, sub, ab, col, dd, k0, k1, k2, k3, k5, h⟩ := T.cls
  refine ⟨{ name := nm, bases := bs, mro := .ref C :: (os.map Value.ref ++ tl), ns := N, qualname := q, hasDict := true, slotNames := sn, subclasses := sub, abstract := ab, collection := col, hasDel := false }, ?_, ?_, ?_, rfl, rfl⟩
  · unfold clsIn
    rw [h]
  · exact refuse_refs tl T.pass (C :: os)
  · exact (refs_has tl "object" (C :: os)).trans T.ob
end G1

set_option Elab.async false
set_option linter.all false
set_option maxRecDepth 100000
set_option maxHeartbeats 2000000
/-! Such exceptions in the layer: making them, reading their fields. -/
namespace G1
open PySem PySem.Spec PyProof.Rows L2
section
variable {X : Cx} {pins : List (Addr × Obj)} {σ : L2.St} {H : Hp} {s : Shared} {a C dx : Addr} {os : List Addr} {B newId initId : String} {tl : List Value} {f : Str} {y : V} {u : Value} {fs : List (Str × V)}
variable {Q : Unit → Shared → Prop} {E : Value → Shared → Prop} {A : Around}
/-- self.f = y, the first field -/
theorem setNew (T : XC X.K C os B newId initId tl) (I : Inv X pins σ H s) (ea : H a = some (exo a C none)) (no : PySem.W.findIn X.K (.ref C) f = some none) (ry : RelV y u)
    (h : ∀ dx s', H dx = none → dx ≠ a → Inv X pins σ (upd (upd H dx (exd dx [(f, y)])) a (exo a C (some dx))) s' → Q () s') : wpAny (model X.prog X.w) A (setAttr (.ref a) f u) Q E s := by
  obtain ⟨cd, hcd, pass, ob, ne, hh⟩ := T.data
  obtain ⟨t1, ho⟩ := exo_at I.hok ea
  obtain ⟨m, g, d, t, o5⟩ := s
  refine PySem.W.set_plain I.kIn (ox := { cls := .ref C, dict := none, data := .fields #[.ref t1, .none, .none, .none, .bool false, .none] }) (od := none) ⟨ho, rfl, rfl, trivial⟩ T.sa ?_
  refine osaNew I.kIn ho hcd pass ob ne hh no (fun m' tk' dx keep new dne gx ns => ?_)
  have nd : H dx = none := I.hok.fresh new
  have offd : ∀ {b : Addr} {o : Obj}, m.get? b = some o → b ≠ dx := fun {b o} z => Nat.ne_of_lt (Nat.lt_of_lt_of_le (Heap.lt_size z) new)
  have offa : ∀ {b : Addr}, H b = none → b ≠ a := fun {b} n z => by
    rw [z, ea] at n
    cases n
  have U : Un X.fs [] H (upd (upd H dx (exd dx [(f, y)])) a (exo a C (some dx))) m m' := by
    constructor
    · intro b o z n _ _
      exact keep b o (offa n) z
    · intro b o z n _ _
      exact ⟨o.slots, keep b o (offa n) z⟩
    · intro b o z n _
      rw [upd_ne (offa n), upd_ne (offd z)]
      exact n
    · intro b o z _
      by_cases hb : b = a
      · subst hb
        exact ⟨_, gx⟩
      · exact ⟨o, keep b o hb z⟩
    · intro b xs z
      rw [upd_ne (at_ne ea z exo_tup), upd_ne (ne_of_none z nd)]
      exact z
    · intro b o v z
      rw [upd_ne (at_ne ea z exo_frz), upd_ne (ne_of_none z nd)]
      exact z
    · intro b ps z
      refine ⟨#[], ?_⟩
      rw [upd_ne (at_ne ea z exo_tbl), upd_ne (ne_of_none z nd), z]
      simp
  refine h dx _ nd dne (I.un (t' := tk') U fun b o z => ?_)
  by_cases hb : b = a
  · subst hb
    rw [upd_same] at z
    cases z
    exact exo_ok gx
  rw [upd_ne hb] at z
  by_cases hd : b = dx
  · subst hd
    rw [upd_same] at z
    cases z
    exact exd_ok ns (relO_put (fs := []) ry fun g => True.intro)
  rw [upd_ne hd] at z
  refine (I.hok b o z).stay (fun c v hc q => keep c v ?_ q) (fun c hc => ?_) (fun c xs hc => ?_)
  · cases hc with
    | inl hc => rw [hc]; exact hb
    | inr hc => exact at_ne ea hc exo_own
  · rw [upd_ne (at_ne ea hc exo_own), upd_ne (ne_of_none hc nd)]
    exact hc
  · rw [upd_ne (at_ne ea hc exo_tup), upd_ne (ne_of_none hc nd)]
    exact hc
/-- self.f = y, a further field -/
theorem setMore (T : XC X.K C os B newId initId tl) (I : Inv X pins σ H s) (ea : H a = some (exo a C (some dx))) (ed : H dx = some (exd dx fs)) (few : fs.length ≤ 900) (no : PySem.W.findIn X.K (.ref C) f = some none) (ry : RelV y u)
    (h : ∀ s', Inv X pins σ (upd H dx (exd dx ((f, y) :: fs))) s' → Q () s') : wpAny (model X.prog X.w) A (setAttr (.ref a) f u) Q E s := by
  obtain ⟨cd, hcd, pass, ob, ne, hh⟩ := T.data
  obtain ⟨t1, ho⟩ := exo_at I.hok ea
  obtain ⟨mA, hns, rel⟩ := exd_at I.hok ed
  have hw := within_of rel
  obtain ⟨m, g, d, t, o5⟩ := s
  obtain ⟨oD, _, _, hoD, _, _⟩ := hns.count hw
  refine PySem.W.set_plain I.kIn (ox := { cls := .ref C, dict := some dx, data := .fields #[.ref t1, .none, .none, .none, .bool false, .none] }) (od := some oD) ⟨ho, rfl, rfl, hoD⟩ T.sa ?_
  refine osaMore I.kIn ho hns hw (by rw [List.length_map]; omega) hcd pass ob ne hh no (fun m' tk' keep ns => ?_)
  have there : ∃ o, m'.get? dx = some o := by
    obtain ⟨o, _, _, e', _⟩ := ns
    exact ⟨o, e'⟩
  exact h _ (I.write (t' := tk') (x := dx) (e := dx) (o := exd dx ((f, y) :: fs)) (by rw [ed]; exact True.intro) (.inl rfl) keep there (exd_ok ns (relO_put ry rel)))
end
/-- self.f = e, self a new exception of the class at C -/
def tSet (K : PySem.W.Frag) (C : Addr) (f : Str) (to te : TE) : TS := fun D σ H => te σ H fun y H1 => to σ H1 fun x H2 => ∃ a : Addr, x = .ref a ∧
  ((H2 a = some (exo a C none) ∧ ∀ dx, H2 dx = none → dx ≠ a → D.nx σ (upd (upd H2 dx (exd dx [(f, y)])) a (exo a C (some dx)))) ∨
    ∃ (dx : Addr) (fs : List (Str × V)), H2 a = some (exo a C (some dx)) ∧ H2 dx = some (exd dx fs) ∧ fs.length ≤ 900 ∧ D.nx σ (upd H2 dx (exd dx ((f, y) :: fs))))
section
variable {X : Cx} {o e : Expr} {to te : TE} {f : Str} {p' pos : Pos} {C : Addr} {os : List Addr} {B newId initId : String} {tl : List Value}
theorem ps_set1 (T : XC X.K C os B newId initId tl) (no : PySem.W.findIn X.K (.ref C) f = some none) (ho : PE X o to) (he : PE X e te)
    (hs : swapsWith e (some (.Attribute o f p')) pos.line X.env = pure false := by rfl) : PS X (.Assign [.Attribute o f p'] e pos) (tSet X.K C f to te) := by
  refine ⟨fun pins s σ H D I h => plainObj_wpAny_Assign_Attribute (thn (he.run pins s σ H _ I h) fun v s1 hh => ?_) hs⟩
  obtain ⟨y, H1, I1, r1, q1⟩ := hh
  refine thn (ho.run pins s1 σ H1 _ I1 q1) fun u s2 hh => ?_
  obtain ⟨x, H2, I2, r2, a, ex, q⟩ := hh
  subst ex
  obtain rfl : u = Value.ref a := r2
  cases q with
  | inl q => exact setNew T I2 q.1 no r1 fun dx s' n ne J => ⟨σ, _, J, q.2 dx n ne⟩
  | inr q =>
    obtain ⟨dx, fs, ea, ed, hl, q⟩ := q
    exact setMore T I2 ea ed hl no r1 fun s' J => ⟨σ, _, J, q⟩
end
end G1

set_option Elab.async false
set_option linter.all false
set_option maxRecDepth 100000
set_option maxHeartbeats 2000000
/-! C(..) as a value: by position, by keyword, both. -/
namespace G1
open PySem PySem.Spec PyProof.Rows L2
/-- how such a call binds, behind self -/
structure XB (K : PySem.W.Frag) (fd : FuncData) (ps ks : List Str) (g : List Value → List Value → List Value) (gV : List V → List V → List V) : Prop where
  to : ∀ (s : Shared) (self : Value) (us ws : List Value), K.In s.heap → (self :: g us ws).length = ps.length → ws.length = ks.length → BindsTo s fd ⟨self :: us, ks.zip ws⟩ (ps.zip (self :: g us ws))
  rel : ∀ {vs : List V} {us : List Value} {zs : List V} {ws : List Value}, Vals vs us → Vals zs ws → Vals (gV vs zs) (g us ws)
def tMkX (C : Addr) (m : Nat) (sp : Sp) (gV : List V → List V → List V) (t tk : TA) : TE := fun σ H Q => t σ H fun vs H1 => tk σ H1 fun zs H2 => vs.length ≤ 1000 ∧ zs.length = m ∧
  ∀ a, H2 a = none → sp (.ref a :: gV vs zs) (upd H2 a (exo a C none)) (fun v H3 => v = .non ∧ Q (.ref a) H3) E0
section
variable {X : Cx} {k : Nat} {C fI : Addr} {os : List Addr} {B newId initId : String} {tl : List Value} {fd : FuncData} {ps ks : List Str} {sp : Sp} {x : Str} {p pos : Pos} {e : Expr} {es : List Expr} {kws : List Keyword} {t tk : TA}
variable {g : List Value → List Value → List Value} {gV : List V → List V → List V}
theorem runX {pins : List (Addr × Obj)} {σ : L2.St} {H : Hp} {s : Shared} {Q : VK} {us ws : List Value} {vs zs : List V} (T : XC X.K C os B newId initId tl)
    (iC : PySem.W.findIn X.K (.ref C) "__init__" = some (some (.ref fI))) (tI : PySem.W.typeIn X.K (.ref fI) = some (.type "function"))
    (F1 : FnOk X.prog X.w X.K X.mg X.base CX0 k fI fd ps sp) (hr : Room (k + 1) X.A) (hb : XB X.K fd ps ks g gV) (I : Inv X pins σ H s) (r : Vals vs us) (rz : Vals zs ws) (hl : vs.length ≤ 1000) (hz : zs.length = ks.length)
    (h : ∀ a, H a = none → sp (.ref a :: gV vs zs) (upd H a (exo a C none)) (fun v H3 => v = .non ∧ Q (.ref a) H3) E0) :
    wpAny (model X.prog X.w) X.A (call (.ref C) us (ks.zip ws)) (EP X pins σ Q) X.xe s := by
  obtain ⟨nm, q, N, bs, sn, sub, ab, col, dd, k0, k1, k2, k3, k5, lk⟩ := T.cls
  obtain ⟨m, gg, dr, tk, o5⟩ := s
  have new : m.objs.size ≤ m.objs.size + 1 := Nat.le_succ _
  have hq := h (m.objs.size + 1) (I.hok.fresh new)
  have old : ∀ b o, m.get? b = some o → ((m.push (PySem.W.kdv_tup us)).push (PySem.HandSPX.excO C m.objs.size)).get? b = some o := fun b o e => Heap.get?_push_of_some _ (Heap.get?_push_of_some _ e)
  have gx : ((m.push (PySem.W.kdv_tup us)).push (PySem.HandSPX.excO C m.objs.size)).get? (m.objs.size + 1) = some (PySem.HandSPX.excO C m.objs.size) := by heap_get
  have I2 : Inv X pins σ (upd H (m.objs.size + 1) (exo (m.objs.size + 1) C none)) ⟨(m.push (PySem.W.kdv_tup us)).push (PySem.HandSPX.excO C m.objs.size), gg, dr, tk, o5⟩ :=
    I.laid (t' := tk) (a := m.objs.size + 1) (o := exo (m.objs.size + 1) C none) (h' := (m.push (PySem.W.kdv_tup us)).push (PySem.HandSPX.excO C m.objs.size)) old new (exo_ok gx)
  have r2 : Vals (V.ref (m.objs.size + 1) :: gV vs zs) (Value.ref (m.objs.size + 1) :: g us ws) := .cons rfl (hb.rel r rz)
  have len : (Value.ref (m.objs.size + 1) :: g us ws).length = ps.length := by
    rw [← r2.length]
    exact F1.len _ _ _ _ hq
  have fits : us.length ≤ sizeLine := by
    rw [← r.length, sizeLine_eq]
    omega
  refine wpAny_call (callK T.bf (fun Y => refs_has tl Y os) (I.kIn _ _ lk) fits (PySem.W.looks_findIn I.kIn iC) (fun self => PySem.W.bind_fn I.kIn self tI)
    (codeAny_mono (F1.run _ X.stack _ _ ⟨Value.ref (m.objs.size + 1) :: us, ks.zip ws⟩ (Value.ref (m.objs.size + 1) :: g us ws) _ _ E0 (hr.make C us (ks.zip ws)) (I2.env0.make C us (ks.zip ws))
      (hb.to _ _ us ws I2.kIn len (rz.length.symm.trans hz)) r2 hq) fun r s' z => ?_))
  match r, z with
  | .error e, z => exact (show False from z).elim
  | .ok .next, z => exact (show False from z).elim
  | .ok .brk, z => exact (show False from z).elim
  | .ok .cont, z => exact (show False from z).elim
  | .ok (.ret u), z =>
    obtain ⟨v, H', I3, rv, ev, q3⟩ := I2.after z
    subst ev
    exact ⟨rv, ⟨V.ref (m.objs.size + 1), H', I3, rfl, q3⟩⟩
/-- C(e, ..) -/
theorem pe_x (T : XC X.K C os B newId initId tl) (iC : PySem.W.findIn X.K (.ref C) "__init__" = some (some (.ref fI))) (tI : PySem.W.typeIn X.K (.ref fI) = some (.type "function"))
    (F1 : FnOk X.prog X.w X.K X.mg X.base CX0 k fI fd ps sp) (hr : Room (k + 1) X.A) (hb : XB X.K fd ps [] g gV) (hg : Gl X x) (hm : X.mg x = some (.ref C)) (ha : PA X (e :: es) t)
    (hdb : (x == ("__debug__" : Str)) = false := by decide) (he : starEach (e :: es) X.env = (false, eval e X.env) :: starEach es X.env := by rfl) (hpl : (backTo pos (starEach es X.env)).any (·.1) = false := by rfl) :
    PE X (.Call (.Name x p) (e :: es) [] pos) (tMkX C 0 sp gV t tNil) := by
  refine ⟨fun pins s σ H Q I h => wpAny_Call_Name_kw (ld_glob I hg hm ?_ hdb)⟩
  refine PySem.W.callWith_K (h₀ := X.base) I.ok.mod.kin T.kC (thn (ha.run pos pins s σ H _ I h) fun us s1 hh => ?_) he hpl
  obtain ⟨vs, H1, I1, r, hl, hz, q⟩ := hh
  exact ⟨I1.kIn, runX (ws := []) (zs := []) T iC tI F1 hr hb I1 r .nil hl rfl q⟩
/-- C(k = e, ..) -/
theorem pe_xk (T : XC X.K C os B newId initId tl) (iC : PySem.W.findIn X.K (.ref C) "__init__" = some (some (.ref fI))) (tI : PySem.W.typeIn X.K (.ref fI) = some (.type "function"))
    (F1 : FnOk X.prog X.w X.K X.mg X.base CX0 k fI fd ps sp) (hr : Room (k + 1) X.A) (hb : XB X.K fd ps ks g gV) (hg : Gl X x) (hm : X.mg x = some (.ref C)) (hkw : PK X kws tk)
    (hall : (backToKw pos (keywordEach kws X.env)).all (·.1.isSome) = true := by rfl) (hks : (backToKw pos (keywordEach kws X.env)).filterMap (·.1) = ks := by rfl)
    (hpl : ((backTo pos (starEach [] X.env)).any (·.1) || (backToKw pos (keywordEach kws X.env)).any (·.1.isNone)) = false := by rfl)
    (hdb : (x == ("__debug__" : Str)) = false := by decide) :
    PE X (.Call (.Name x p) [] kws pos) (tMkX C ks.length sp gV tNil tk) := by
  refine ⟨fun pins s σ H Q I h => wpAny_Call_Name_kw (ld_glob I hg hm ?_ hdb)⟩
  refine PySem.W.callWith_KW0 (h₀ := X.base) I.ok.mod.kin T.kC hall (thn (hkw.run pos pins s σ H _ I h) fun ws s1 hh => ?_) hpl
  obtain ⟨zs, H1, I1, r, hl, hz, q⟩ := hh
  rw [hks]
  exact ⟨I1.kIn, runX (us := []) (vs := []) T iC tI F1 hr hb I1 .nil r hl hz q⟩
/-- C(e, .., k = e, ..) -/
theorem pe_xm (T : XC X.K C os B newId initId tl) (iC : PySem.W.findIn X.K (.ref C) "__init__" = some (some (.ref fI))) (tI : PySem.W.typeIn X.K (.ref fI) = some (.type "function"))
    (F1 : FnOk X.prog X.w X.K X.mg X.base CX0 k fI fd ps sp) (hr : Room (k + 1) X.A) (hb : XB X.K fd ps ks g gV) (hg : Gl X x) (hm : X.mg x = some (.ref C)) (ha : PA X (e :: es) t) (hkw : PK X kws tk)
    (hall : (backToKw pos (keywordEach kws X.env)).all (·.1.isSome) = true := by rfl) (hks : (backToKw pos (keywordEach kws X.env)).filterMap (·.1) = ks := by rfl)
    (hdb : (x == ("__debug__" : Str)) = false := by decide) (he : starEach (e :: es) X.env = (false, eval e X.env) :: starEach es X.env := by rfl)
    (hpl : ((backTo pos (starEach (e :: es) X.env)).any (·.1) || (backToKw pos (keywordEach kws X.env)).any (·.1.isNone)) = false := by rfl) :
    PE X (.Call (.Name x p) (e :: es) kws pos) (tMkX C ks.length sp gV t tk) := by
  refine ⟨fun pins s σ H Q I h => wpAny_Call_Name_kw (ld_glob I hg hm ?_ hdb)⟩
  refine PySem.W.callWith_KW (h₀ := X.base) I.ok.mod.kin T.kC hall (thn (ha.run pos pins s σ H _ I h) fun us s1 hh => ?_) hpl he
  obtain ⟨vs, H1, I1, r, q⟩ := hh
  refine thn (hkw.run pos pins s1 σ H1 _ I1 q) fun ws s2 hh => ?_
  obtain ⟨zs, H2, I2, rz, hl, hz, q2⟩ := hh
  rw [hks]
  exact ⟨I2.kIn, runX T iC tI F1 hr hb I2 r rz hl hz q2⟩
end
/-! ### __init__ -/
def spIni1 (C : Addr) (f : Str) : Sp := fun vs H Q _ => ∃ (a : Addr) (v : V), vs = [.ref a, v] ∧ H a = some (exo a C none) ∧ ∀ dx, H dx = none → dx ≠ a → Q .non (upd (upd H dx (exd dx [(f, v)])) a (exo a C (some dx)))
def spIni2 (C : Addr) (f1 f2 : Str) : Sp := fun vs H Q _ => ∃ (a : Addr) (v1 v2 : V), vs = [.ref a, v1, v2] ∧ H a = some (exo a C none) ∧
  ∀ dx, H dx = none → dx ≠ a → Q .non (upd (upd (upd H dx (exd dx [(f1, v1)])) a (exo a C (some dx))) dx (exd dx [(f2, v2), (f1, v1)]))
section
variable {P : Program} {w : World} {K : PySem.W.Frag} {mg : Str → Option Value} {base : Heap} {C fI : Addr} {os : List Addr} {B newId initId : String} {tl : List Value} {fd : FuncData} {qual : Str} {st : Stmt}
theorem ok_ini1 {f : Str} {q1 q2 q3 q4 : Pos} (F : Fun K "__init__" qual st fI fd) (S : FnScope ["self", f] ["self", f] (defScope st)) (hb : defBody st = [.Assign [.Attribute (.Name "self" q1) f q2] (.Name f q3) q4])
    (T : XC K C os B newId initId tl) (no : PySem.W.findIn K (.ref C) f = some none) (h1 : (f == ("__debug__" : Str)) = false) (h2 : (f == ("__classdict__" : Str)) = false) (hv : (defScope st).names.lookup f = some .local) (hs : (defScope st).names.lookup ("self" : Str) = some .local)
    (hsw : ∀ cdv n, swapsWith (.Name f q3) (some (.Attribute (.Name "self" q1) f q2)) q4.line (envOfC qual (defScope st) n fI cdv) = pure false) :
    FnOk P w K mg base CX0 1 fI fd ["self", f] (spIni1 C f) := by
  refine F.ok S (fun vs H Q E h => ?_) (fun cdv A outer s H vs Q E hr h => ?_)
  · obtain ⟨a, v, rfl, _⟩ := h
    rfl
  · obtain ⟨a, v, rfl, ea, k⟩ := h
    refine ⟨tSet K C f (tVar 0) (tVar 1), ?_, ?_⟩
    · rw [hb]
      exact pss_one (ps_set1 T no (pv 0 (hv := Or.inl hs)) (pv 1 (hN := rfl) (hv := Or.inl hv) (hd := h1) (hcd := h2)) (hsw _ _))
    · exact ⟨v, rfl, .ref a, rfl, a, rfl, Or.inl ⟨ea, fun dx n ne => k dx n ne⟩⟩
theorem ok_ini2 {f1 f2 : Str} {q1 q2 q3 q4 r1 r2 r3 r4 : Pos} (F : Fun K "__init__" qual st fI fd) (S : FnScope ["self", f1, f2] ["self", f1, f2] (defScope st))
    (hb : defBody st = [.Assign [.Attribute (.Name "self" q1) f1 q2] (.Name f1 q3) q4, .Assign [.Attribute (.Name "self" r1) f2 r2] (.Name f2 r3) r4])
    (T : XC K C os B newId initId tl) (no1 : PySem.W.findIn K (.ref C) f1 = some none) (no2 : PySem.W.findIn K (.ref C) f2 = some none) (h1 : (f1 == ("__debug__" : Str)) = false) (h2 : (f1 == ("__classdict__" : Str)) = false)
    (h3 : (f2 == ("__debug__" : Str)) = false) (h4 : (f2 == ("__classdict__" : Str)) = false) (hv1 : (defScope st).names.lookup f1 = some .local) (hv2 : (defScope st).names.lookup f2 = some .local) (hs : (defScope st).names.lookup ("self" : Str) = some .local)
    (hsw1 : ∀ cdv n, swapsWith (.Name f1 q3) (some (.Attribute (.Name "self" q1) f1 q2)) q4.line (envOfC qual (defScope st) n fI cdv) = pure false)
    (hsw2 : ∀ cdv n, swapsWith (.Name f2 r3) (some (.Attribute (.Name "self" r1) f2 r2)) r4.line (envOfC qual (defScope st) n fI cdv) = pure false) :
    FnOk P w K mg base CX0 1 fI fd ["self", f1, f2] (spIni2 C f1 f2) := by
  refine F.ok S (fun vs H Q E h => ?_) (fun cdv A outer s H vs Q E hr h => ?_)
  · obtain ⟨a, v1, v2, rfl, _⟩ := h
    rfl
  · obtain ⟨a, v1, v2, rfl, ea, k⟩ := h
    refine ⟨tSeq (tSet K C f1 (tVar 0) (tVar 1)) (tSet K C f2 (tVar 0) (tVar 2)), ?_, ?_⟩
    · rw [hb]
      exact pss_cons (ps_set1 T no1 (pv 0 (hv := Or.inl hs)) (pv 1 (hN := rfl) (hv := Or.inl hv1) (hd := h1) (hcd := h2)) (hsw1 _ _))
        (pss_one (ps_set1 T no2 (pv 0 (hv := Or.inl hs)) (pv 2 (hN := rfl) (hv := Or.inl hv2) (hd := h3) (hcd := h4)) (hsw2 _ _)))
    · refine ⟨v1, rfl, .ref a, rfl, a, rfl, Or.inl ⟨ea, fun dx n ne => ?_⟩⟩
      refine ⟨v2, rfl, .ref a, rfl, a, rfl, Or.inr ⟨dx, [(f1, v1)], upd_same, ?_, by show 1 ≤ 900; decide, k dx n ne⟩⟩
      rw [upd_ne ne]
      exact upd_same
end
end G1

set_option Elab.async false
set_option linter.all false
set_option maxRecDepth 100000
set_option maxHeartbeats 2000000
/-! isinstance of such an exception, its fields, and one without an __init__ of its own. -/
namespace G1
open PySem PySem.W PySem.Spec PySem.Calls PyProof.Rows
section
variable {prog : Program} {w : World} {A : Around} {E : Value → Shared → Prop} {s : Shared} {K : Frag} {x D : Addr} {ox : Obj} {od : Option Obj}
theorem findData {C : Addr} {name : Str} {a g : Value} (hc : (clsIn K C).isSome = true) (ha : findIn K (.ref C) name = some (some a)) (hg : specialIn K a "__get__" = some (some g)) (ht : takesIn K a = some true) :
    findObj K C od name = some (.bind g a) := by
  cases e : clsIn K C with
  | none => rw [e] at hc; cases hc
  | some cd =>
    unfold findObj
    rw [e, Option.bind_some, ha, Option.bind_some]
    simp [hg, ht]
theorem classOf {Q : Option Value → Shared → Prop} (T : L2.ExcC K D) (kin : K.In s.heap) (I : InstAt s.heap x ox D od) (h : Q (some (.ref D)) { s with toks := s.toks + 1 }) :
    wpAny (model prog w) A (getAttr? (.ref x) "__class__") Q E s := by
  have fnd : findObj K D od "__class__" = some (.bind (.builtin "getset_descriptor.__get__") (.builtin "object.__class__")) :=
    findData (by obtain ⟨cd, hc, _⟩ := any_some T.hd; rw [hc]; rfl) T.ha T.hn T.ht
  obtain ⟨hp, g, d, t, os⟩ := s
  have l0 := I.type (M := model prog w)
  have l1 := looks_findIn (M := model prog w) kin T.hg
  have l2 := looks_findIn (M := model prog w) kin T.hk
  have l3 := looks_find (M := model prog w) kin I fnd
  have isB : Looks (model prog w) hp (isInstance (.ref x) (.type "BaseException")) true := l0.andThen (looks_subIn kin T.hs)
  have z0 : (false && onTheHeap (Value.builtin "BaseException.__getattribute__")) = false := rfl
  have z2 : (Value.builtin "BaseException.__getattribute__" == Value.builtin "object.__getattribute__") = false := by decide +kernel
  have z1 : (onTheHeap (Value.ref D) && Value.builtin "BaseException.__getattribute__" == Value.builtin "object.__getattribute__") = false := by rw [z2]; rfl
  unfold getAttr? getAttrBy? getAttrBy
  refine wpAny_bind (wpAny_mkText (wpAny_bind (wpAny_attempt (wpAny_holding (wpAny_bind (l0.at (wpAny_bind (l1.at ?_))))))))
  show wpAny _ _ (if (onTheHeap (Value.ref D) && Value.builtin "BaseException.__getattribute__" == Value.builtin "object.__getattribute__") = true then _ else _) _ _ _
  rw [z1, if_neg Bool.false_ne_true]
  unfold getAttrByItsOwn hookBefore
  refine wpAny_bind ?_
  rw [if_pos (show onTheHeap (Value.ref D) = true from rfl)]
  refine l2.at ?_
  refine wpAny_bind (wpAny_attempt (wpAny_holding ?_))
  unfold callGetattribute
  rw [z0, if_neg Bool.false_ne_true]
  unfold boundAndCalled
  rw [PySem.F.excAttr_ValueError.ga.bind (.ref x)]
  refine wpAny_bind (wpAny_pure ?_)
  show wpAny _ _ (call (.builtin "BaseException.__getattribute__") [.ref x, .str "__class__" t]) _ _ _
  refine wpAny_call (codeAny_call_builtin PySem.F.excAttr_ValueError.ga.plain PySem.F.entry_bexc_ga ?_)
  refine @check_slot (model prog w) _ _ ⟨hp, g, d, t + 1, os⟩ "BaseException.__getattribute__" "BaseException" "__getattribute__" (.ref x) [.str "__class__" t] [] _ (by decide +kernel) (by decide +kernel) isB
    (PySem.F.args_bexc_ga (.ref x) (.str "__class__" t)) ?_
  unfold Builtin.«object.__getattribute__»
  refine wpAny_bind (wpAny_of_eq (a := ((Value.ref x : Value), [Value.str "__class__" t])) (by first | rfl | (simp only [slotArgs]; rfl)) ?_)
  refine wpAny_bind (wpAny_pure (wpAny_bind (l0.at (wpAny_bind (l3.at ?_)))))
  show wpAny _ _ (holding [Value.builtin "object.__class__"] (call (.builtin "getset_descriptor.__get__") [.builtin "object.__class__", .ref x, .ref D]) >>= ret) _ _ _
  refine wpAny_bind (wpAny_holding (wpAny_call (class_get (s := ⟨hp, g, d, t + 1, os⟩) (ox := ox) (od := od) kin I T.hm ?_)))
  refine wpAny_pure ?_
  show wpAny _ _ (handedOut (.ref D)) _ _ _
  rw [handedOut_of (v := .ref D) rfl]
  first
    | exact wpAny_pure (wpAny_pure h)
    | exact wpAny_pure h
    | exact wpAny_pure (wpAny_bind (wpAny_pure (wpAny_pure h)))
theorem kitE (T : L2.ExcC K D) : KitX K (.ref x) (.ref D) (fun h => InstAt h x ox D od) where
  ty := fun _ _ _ I => I.type
  it := fun M h kin _ => by
    obtain ⟨cd, hc, _⟩ := any_some T.hd
    unfold clsIn at hc
    split at hc
    · rename_i c1 d1 cd1 sl1 ho
      intro A' Q' E' s' k q
      unfold isType loadHead
      exact wpAny_bind (wpAny_loadPart (k _ _ (kin _ _ ho)) (wpAny_pure q))
    · cases hc
  ne := fun h tp dd its n sl kin htp => by
    obtain ⟨cd, hc, _⟩ := any_some T.hd
    refine Bool.eq_false_iff.mpr fun q => ?_
    have e : D = tp := Value.ref.inj (beq_iff_eq.mp q)
    subst e
    unfold clsIn at hc
    split at hc
    · rename_i c1 d1 cd1 sl1 ho
      have z := (kin _ _ ho).symm.trans htp
      cases z
    · cases hc
  ca := fun kin I k => classOf T kin I k
end
end G1
namespace G1
open PySem PySem.Spec PyProof.Rows L2
/-- isinstance(e, c), e such an exception -/
def rIsX (K : PySem.W.Frag) : List V → Hp → VK → Prop := fun xs H Q => ∃ (a D : Addr) (d : Option Addr) (c : V) (cv : Value) (b : Bool), xs = [.ref a, c] ∧ ClsV c cv ∧ H a = some (exo a D d) ∧
  (∀ dx, d = some dx → ∃ fs, H dx = some (exd dx fs)) ∧ ExcC K D ∧ PySem.W.kitOne K (.ref D) cv = some b ∧ Q (.bl b) H
section
variable {X : Cx} {pins : List (Addr × Obj)} {σ : L2.St} {H : Hp} {s : Shared}
theorem exo_inst (I : Inv X pins σ H s) {a D : Addr} {d : Option Addr} (ea : H a = some (exo a D d)) (ed : ∀ dx, d = some dx → ∃ fs, H dx = some (exd dx fs)) : ∃ (ox : Obj) (od : Option Obj), PySem.W.InstAt s.heap a ox D od := by
  obtain ⟨t1, ho⟩ := exo_at I.hok ea
  cases d with
  | none => exact ⟨_, none, ho, rfl, rfl, trivial⟩
  | some dx =>
    obtain ⟨fs, e2⟩ := ed dx rfl
    obtain ⟨mA, hns, _⟩ := exd_at I.hok e2
    obtain ⟨oD, es, ep, hoD, _⟩ := hns
    exact ⟨_, some oD, ho, rfl, rfl, hoD⟩
theorem call_isX : CallR X (.builtin "isinstance") (rIsX X.K) := by
  intro pins s σ H xs us Q I r h
  obtain ⟨a, D, d, c, cv, b, rfl, k, ea, ed, T, e, q⟩ := h
  obtain ⟨u1, u2, rfl, r1, r2⟩ := vals2 r
  have e2 := k.eq r2
  subst e2
  cases (show u1 = Value.ref a from r1)
  obtain ⟨ox, od, J⟩ := exo_inst I ea ed
  exact PySem.W.kia_one (kitE (ox := ox) (od := od) T) I.kIn J e (fun z => nomatch z) fun tk => ⟨.bl b, H, I.tok tk, rfl, q⟩
/-- e.f -/
def tXf (K : PySem.W.Frag) (f : Str) (te : TE) : TE := fun σ H Q => te σ H fun x H1 => ∃ (a C dx : Addr) (fs : List (Str × V)) (v : V), x = .ref a ∧ H1 a = some (exo a C (some dx)) ∧ H1 dx = some (exd dx fs) ∧ fs.lookup f = some v ∧
  ExcC K C ∧ PySem.W.findIn K (.ref C) f = some none ∧ Q v H1
theorem pe_xf {e : Expr} {te : TE} {f : Str} {pos : Pos} (he : PE X e te) (hb : attributeBase e f X.env (eval e X.env) = eval e X.env := by rfl) : PE X (.Attribute e f pos) (tXf X.K f te) := by
  refine ⟨fun pins s σ H Q I h => attr_of hb (thn (he.run pins s σ H _ I h) fun u s1 hh => ?_)⟩
  obtain ⟨x, H1, I1, rx, a, C, dx, fs, v, ex, ea, ed, l, T, no, q⟩ := hh
  subst ex
  obtain rfl : u = Value.ref a := rx
  obtain ⟨t1, ho⟩ := exo_at I1.hok ea
  obtain ⟨mA, hns, rel⟩ := exd_at I1.hok ed
  obtain ⟨od, hod, hl⟩ := lookIn_ns hns
  obtain ⟨u, hu, ru⟩ := RelO.some_of (v := v) (o := mA f) (by rw [← l]; exact rel f)
  have J : PySem.W.InstAt s1.heap a _ C (some od) := ⟨ho, rfl, rfl, hod⟩
  exact HandSPX.exc_get I1.kIn J T.hg T.hk T.hs (PySem.W.findObj_own T.hd no rfl (by rw [hl, hu])) (handed_of ru) ⟨v, H1, I1.tok _, ru, q⟩
/-- C(), C without an __init__ of its own -/
theorem pe_x0 {C : Addr} {tl : List Value} {B newId initId : String} {x : Str} {p pos : Pos} (F : ExcBaseFacts B newId initId tl) (q : PySem.W.excIn X.K C tl newId = true) (gC : X.mg x = some (.ref C)) (kC : PySem.W.keepIn X.K (.ref C) = true) (hg : Gl X x)
    (hdb : (x == ("__debug__" : Str)) = false := by decide) : PE X (.Call (.Name x p) [] [] pos) (fun σ H Q => ∀ a, H a = none → Q (.ref a) (upd H a (exo a C none))) := by
  refine ⟨fun pins s σ H Q I h => wpAny_Call_Name_kw (ld_glob I hg gC ?_ hdb)⟩
  refine PySem.W.callWith_K0 I.kIn kC ?_
  show wpAny _ _ (call (.ref C) []) _ _ _
  obtain ⟨bm, N, nm, qn, bs, hdct, sn, sub, ab, col, dd, k0, k1, k2, k3, k5, mN, hC, hN, hni, T⟩ := exc_obj I.kIn q
  refine wpAny_call_exc_subT F T hC hN hni (fun h' a hm => ?_) (by show 0 ≤ sizeLine; omega)
  have hn : H a = none := I.hok.gone hm.new
  obtain ⟨t, ht, _, _⟩ := hm.there
  exact ⟨.ref a, upd H a (exo a C none), I.laidN hm.keeps hm.new hn (exo_ok ht), rfl, h a hn⟩
end
end G1

set_option Elab.async false
set_option linter.all false
set_option maxRecDepth 100000
set_option maxHeartbeats 2000000
/-! repr and == of the values of many kinds. -/
namespace G1
open PySem PySem.Spec PyProof.Rows L2
/-- a value and what it shows -/
inductive Tg (K : PySem.W.Frag) (H : Hp) : V → PyData → Prop
  | dp {v : V} {d : PyData} : Dp K H v d → SeqAt.shaped d = true → PyData.eqv d d = true → d.hasDict = false → Tg K H v d
  | d0 {a : Addr} : H a = some (.dK []) → Tg K H (.ref a) (.dict [])
  | d1 {a : Addr} {x : Str} {i : Int} : H a = some (.dK [(.inr x, .int i)]) → Tg K H (.ref a) (.dict [(.str x, .int i)])
structure Gd (d : PyData) : Prop where
  sh : d.showable = true
  sz : d.shown.length ≤ sizeLine
  dp : d.depth ≤ 60
section
variable {X : Cx} {pins : List (Addr × Obj)} {σ : L2.St} {H : Hp} {s : Shared}
theorem Tg.reads (I : Inv X pins σ H s) {v : V} {d : PyData} {u : Value} (h : Tg X.K H v d) (r : RelV v u) : ∃ as, Reads s.heap u d as ∧ (d.hasDict = true → sysModules ∉ as) := by
  cases h with
  | dp h1 h2 h3 h4 =>
    obtain ⟨as, q⟩ := Dp.reads I _ _ _ h1 r
    exact ⟨as, q, PyData.noDict_hsm h4⟩
  | @d0 a e =>
    cases (show u = Value.ref a from r)
    obtain ⟨_, y, vs, rk, o, es, ep, ho, hx, hd, hl⟩ := (show ObjOk X.prog X.w H s.heap a (.dK []) from I.hok a _ e)
    cases rk
    have ne : a ≠ sysModules := fun z => by rw [z] at y; simp at y
    have e0 : es.toList = [] := by
      have z := hl.2.1
      generalize es.toList = l at z
      cases z
      rfl
    refine ⟨[a] ++ [], Reads.dict (as := []) (bs := []) ho hx.1 hd ?_ ?_, fun _ hm => ?_⟩
    · rw [e0]
      exact ReadsAll.nil
    · rw [e0]
      exact ReadsAll.nil
    · simp at hm
      exact ne hm.symm
  | @d1 a x i e =>
    cases (show u = Value.ref a from r)
    obtain ⟨_, y, vs, rk, o, es, ep, ho, hx, hd, hl⟩ := (show ObjOk X.prog X.w H s.heap a (.dK [(.inr x, .int i)]) from I.hok a _ e)
    have ne : a ≠ sysModules := fun z => by rw [z] at y; simp at y
    obtain ⟨en, t1, t2, e0, e1, e2⟩ : ∃ (en : DictEntry) (t1 t2 : Tok), es.toList = [en] ∧ en.key = .str x t1 ∧ en.val = .int i t2 := by
      have z := hl.2.1
      generalize es.toList = l at z
      cases rk with
      | @cons p q ps qs hp hn =>
        cases hn
        obtain ⟨hp1, t2, hp2⟩ := hp
        cases z with
        | @cons en kv es' kvs' k1 k2 k3 =>
          cases k3
          have k1' : keyIs q.1 en.key = true := k1
          rw [← hp1] at k1'
          rcases keyIs_shape k1' with ⟨j, t, c, _⟩ | ⟨z, t, c, ek⟩
          · cases c
          · cases c
            exact ⟨en, t, t2, rfl, ek, k2.trans hp2⟩
    refine ⟨a :: ([] ++ []) ++ ([] ++ []), Reads.dict ho hx.1 hd ?_ ?_, fun _ hm => ?_⟩
    · rw [e0]
      show ReadsAll s.heap [en.key] [.str x] _
      rw [e1]
      exact .cons (.str x t1) .nil
    · rw [e0]
      show ReadsAll s.heap [en.val] [.int i] _
      rw [e2]
      exact .cons (.int i t2) .nil
    · simp at hm
      exact ne hm.symm
/-- repr(x) -/
def rRepr (K : PySem.W.Frag) : List V → Hp → VK → Prop := fun xs H Q => ∃ (v : V) (d : PyData), xs = [v] ∧ Tg K H v d ∧ Gd d ∧ Q (.str d.shown) H
theorem call_repr (hg : X.A.guards = some []) (hu : X.A.units + 64 < cLine) : CallR X (.builtin "repr") (rRepr X.K) := by
  intro pins s σ H xs us Q I r h
  obtain ⟨v, d, rfl, th, gd, q⟩ := h
  obtain ⟨u, rfl, ru⟩ := vals1 r
  obtain ⟨as, rd, hsm⟩ := th.reads I ru
  cases v with
  | ref a =>
    cases (show u = Value.ref a from ru)
    refine repr_of_reads' rd gd.sh hsm hg (by have := gd.dp; omega) (fun _ _ e => e) (fun h' u tk k => ?_) gd.sz
    exact ⟨.str _, H, I.kept (t' := tk) k, ⟨u, rfl⟩, q⟩
  | non =>
    cases (show u = Value.none from ru)
    cases rd
    exact PySem.P.repr_of_none ⟨.str _, H, I.tok _, ⟨_, rfl⟩, q⟩
  | bl b =>
    cases (show u = Value.bool b from ru)
    cases rd
    refine PySem.P.repr_of_bool ⟨.str _, H, I.tok _, ⟨_, rfl⟩, ?_⟩
    rw [PyData.shown_bool] at q
    cases b <;> exact q
  | int i =>
    obtain ⟨t, e⟩ := (show ∃ t, u = Value.int i t from ru)
    cases e
    cases rd
    have z : i.natAbs.log2 < 1920 := of_decide_eq_true gd.sh
    exact PySem.P.repr_of_int z ⟨.str _, H, I.tok _, ⟨_, rfl⟩, q⟩
  | str x =>
    obtain ⟨t, e⟩ := (show ∃ t, u = Value.str x t from ru)
    cases e
    cases rd
    refine PySem.P.repr_of_str ⟨.str _, H, I.tok _, ⟨_, rfl⟩, ?_⟩ ?_
    · rw [PyData.shown_str] at q
      exact q
    · have z := gd.sz
      rw [PyData.shown_str] at z
      exact z
  | byt b =>
    obtain ⟨t, e⟩ := (show ∃ t, u = Value.bytes b t from ru)
    cases e
    cases rd
  | flt b =>
    obtain ⟨t, e⟩ := (show ∃ t, u = Value.float b t from ru)
    cases e
    cases rd
  | ty n =>
    cases (show u = Value.type n from ru)
    cases rd
/-- x == y, both the same thing -/
def rEqSame (K : PySem.W.Frag) : R2 := fun x y H Q => x = y ∧ (∃ d, Tg K H x d) ∧ Q (.bl true) H
theorem op_eqSame (hu : X.A.units + 64 < cLine) : OpR X (compareOp .Eq) (rEqSame X.K) := by
  intro pins s σ H x y v u Q I rx ry h
  obtain ⟨rfl, ⟨d, th⟩, q⟩ := h
  cases th with
  | dp h1 h2 h3 h4 => exact op_eqD hu pins s σ H x x v u Q I rx ry ⟨d, d, h1, h1, h2, h2, by rw [h3]; exact q⟩
  | @d0 a e => exact op_eqV hu pins s σ H _ _ v u Q I rx ry ⟨1, by decide, .inr ⟨a, a, _, _, rfl, rfl, e, e, rfl, fun p hp => by cases hp⟩, q⟩
  | @d1 a x i e =>
    refine op_eqV hu pins s σ H _ _ v u Q I rx ry ⟨1, by decide, .inr ⟨a, a, _, _, rfl, rfl, e, e, rfl, fun p hp => ?_⟩, q⟩
    have ep : p = (.inr x, .int i) := List.mem_singleton.mp hp
    subst ep
    exact ⟨.int i, by simp [valV], .inl ⟨rfl, rfl⟩⟩
end
end G1

set_option Elab.async false
set_option linter.all false
set_option maxRecDepth 100000
set_option maxHeartbeats 2000000
namespace K1
open PySem PySem.Spec PyProof.Rows L2 G1
def topS (i : Nat) : Stmt := PySem.Challenge.pw_spareblocks_k01_limits_and_errors.main.body.getD i (.Pass ⟨0, 0, 0, 0⟩)
abbrev sCell : Stmt := topS 38
abbrev sPool : Stmt := topS 39
abbrev sDraw : Stmt := topS 40
/-- the built-in names are still the built-ins -/
structure Bl (mg : Str → Option Value) : Prop where
  len : mg "len" = none
  int : mg "int" = none
  abs : mg "abs" = none
  repr : mg "repr" = none
  isi : mg "isinstance" = none
  range : mg "range" = none
  max : mg "max" = none
  min : mg "min" = none
  all : mg "all" = none
  ve : mg "ValueError" = none
  le : mg "LookupError" = none
  ae : mg "ArithmeticError" = none
theorem bInt : bootBuiltins "int" = some (.type "int") := by decide +kernel
theorem bAbs : bootBuiltins "abs" = some (.builtin "abs") := by decide +kernel
theorem scCell : FnScope ["_law_cells", "_law_k", "_law_found", "_law_cell_here"] ["_law_cells", "_law_k"] (defScope sCell) :=
  ⟨rfl, rfl, rfl, by decide +kernel, rfl, by decide +kernel, by decide +kernel⟩
theorem scPool : FnScope ["_law_cell_here", "_law_left"] ["_law_cell_here"] (defScope sPool) :=
  ⟨rfl, rfl, rfl, by decide +kernel, rfl, by decide +kernel, by decide +kernel⟩
theorem scDraw : FnScope ["_law_pool_here", "_law_many", "_law_seed", "_law_digit"] ["_law_pool_here", "_law_many"] (defScope sDraw) :=
  ⟨rfl, rfl, rfl, by decide +kernel, rfl, by decide +kernel, by decide +kernel⟩
/-- the number at an index, or a mixed one: some int -/
def spCell (K : PySem.W.Frag) : Sp := fun vs H Q _ => ∃ (l : Addr) (ns : List Int) (k : Nat), vs = [.ref l, .int (k : Int)] ∧ SqL K H l (ns.map V.int) ∧ ns.length ≤ 63 ∧ k ≤ 10 ∧ ∀ (H' : Hp) (i : Int), Same H H' → Q (.int i) H'
def spPool : Sp := fun vs H Q _ => ∃ c : Int, vs = [.int c] ∧ ∀ (p : Addr) (i j n : Int), H p = none → 0 ≤ i → i < 2 ^ 31 → Q (.ref p) (upd H p (.lst [.int i, .int j, .int n]))
/-- a draw changes the pool alone -/
def spDraw : Sp := fun vs H Q _ => ∃ (p : Addr) (m i j n : Int), vs = [.ref p, .int m] ∧ H p = some (.lst [.int i, .int j, .int n]) ∧ 0 ≤ i ∧ i < 2 ^ 31 ∧ 0 < m ∧ m < 2 ^ 60 ∧
  ∀ i' j' n' r : Int, 0 ≤ i' → i' < 2 ^ 31 → 0 ≤ r → r < m → Q (.int r) (upd H p (.lst [.int i', .int j', .int n']))
section
variable {P : Program} {w : World} {K : PySem.W.Frag} {mg : Str → Option Value} {base : Heap}
theorem ok_pool {f : Addr} {fd : FuncData} (F : Fun K "_law_pool" "_law_pool" sPool f fd) (B : Bl mg) : FnOk P w K mg base CX0 1 f fd ["_law_cell_here"] spPool := by
  refine F.ok scPool (fun vs H Q E h => ?_) (fun cdv A outer s H vs Q E hr h => ?_)
  · obtain ⟨c, rfl, _⟩ := h
    rfl
  obtain ⟨c, rfl, k⟩ := h
  refine ⟨_, pss_cons (ps_set (i := 1) scPool.nd rfl (.inl rfl) (pe_ifExp (PW.pt (pw_or (pt_cmpR op_lt (pv 0) pe_int (nomark _)) (pw_or1 (pt_cmpR op_ge (pv 0) (pe_op op_pow pe_int pe_int) (nomark _)))))
      (pe_callB call_abs (by rfl) B.abs bAbs (pa_cons (pv 0) pa_nil)) pe_int))
    (pss_one (ps_ret (pe_lst (pa_cons (pe_op op_mod (pe_callTy call_int1 (by rfl) B.int bInt (pa_cons (pv 0) pa_nil)) pe_int) (pa_cons (pv 1) (pa_cons pe_int pa_nil)))))), ?_⟩
  have rest : ∀ j : Int, tRet (tLst (tCons (tOp (rI (fun _ j => 0 < j) fun i j => .int (i % j)) (tCB (fun xs H Q => (∃ i, xs = [.int i] ∧ Q (.int i) H) ∨ ∃ k, xs = [.bl k] ∧ Q (.int (if k then 1 else 0)) H) (tCons (tVar 0) tNil)) (tC (.int 2147481949)))
      (tCons (tVar 1) (tCons (tC (.int 0)) tNil)))) { nx := fun _ H' => Q .non H', rt := Q } [some (.int c), some (.int j)] H := by
    intro j
    refine ⟨_, rfl, .inl ⟨c, rfl, _, _, rfl, rfl, (by show (0 : Int) < 2147481949; decide), _, rfl, by show 3 ≤ sizeLine; decide, fun p hp => k p _ _ _ hp (Int.emod_nonneg _ (by decide)) ?_⟩⟩
    have := Int.emod_lt_of_pos c (show (0 : Int) < 2147481949 by decide)
    omega
  refine ⟨_, rfl, _, _, rfl, rfl, _, rfl, ite2 (fun _ => ?_) (fun _ => ?_)⟩
  · exact iteT ⟨_, rfl, c, rfl, rest _⟩
  · refine ⟨_, rfl, _, _, rfl, rfl, ⟨by decide, by decide, by decide⟩, _, _, rfl, rfl, _, rfl, ite2 (fun _ => ?_) (fun _ => ?_)⟩
    · exact ⟨_, rfl, c, rfl, rest _⟩
    · exact rest _
theorem emod_box (x m : Int) (h : 0 < m) : 0 ≤ x % m ∧ x % m < m := ⟨Int.emod_nonneg _ (by omega), Int.emod_lt_of_pos _ h⟩
theorem ok_draw {f : Addr} {fd : FuncData} (F : Fun K "_law_draw" "_law_draw" sDraw f fd) (B : Bl mg) : FnOk P w K mg base CX0 1 f fd ["_law_pool_here", "_law_many"] spDraw := by
  refine F.ok scDraw (fun vs H Q E h => ?_) (fun cdv A outer s H vs Q E hr h => ?_)
  · obtain ⟨p, m, i, j, n, rfl, _⟩ := h
    rfl
  obtain ⟨p, m, i, j, n, rfl, hp, i0, i1, m0, m1, k⟩ := h
  refine ⟨_, pss_cons (ps_asg (pe_op op_add (pe_ix ix_list (pv 0) pe_int (fun _ _ => rfl)) pe_int) (pg_sub (pv 0) pe_int set_list))
    (pss_cons (ps_set (i := 2) scDraw.nd rfl (.inl rfl) (pe_op op_mod (pe_callTy call_int1 (by rfl) B.int bInt (pa_cons
        (pe_op op_add (pe_op op_add (pe_op op_mul (pe_ix ix_list (pv 0) pe_int (fun _ _ => rfl)) pe_int) (pe_op op_mul pe_int (pe_ix ix_list (pv 0) pe_int (fun _ _ => rfl)))) pe_int) pa_nil)) pe_int))
    (pss_cons (ps_asg (pe_op op_mod (pe_callTy call_int1 (by rfl) B.int bInt (pa_cons (pe_op op_add (pe_op op_mul (pv 2) (pv 2)) (pe_op op_mul pe_int (pe_ix ix_list (pv 0) pe_int (fun _ _ => rfl)))) pa_nil)) pe_int)
        (pg_sub (pv 0) pe_int set_list))
    (pss_cons (ps_if (pt_cmpR op_gt (pe_ix ix_list (pv 0) pe_int (fun _ _ => rfl)) pe_int (nomark _))
      (pss_cons (ps_set (i := 3) scDraw.nd rfl (.inl rfl) (pe_op op_mod (pe_callTy call_int1 (by rfl) B.int bInt (pa_cons (pe_ix ix_list (pv 0) pe_int (fun _ _ => rfl)) pa_nil)) (pv 1)))
        (pss_cons (ps_asg (pe_op op_fdivW (pe_ix ix_list (pv 0) pe_int (fun _ _ => rfl)) (pv 1)) (pg_sub (pv 0) pe_int set_list))
        (pss_one (ps_ret (pv 3))))) pss_nil)
    (pss_one (ps_ret (pe_op op_mod (pe_callTy call_int1 (by rfl) B.int bInt (pa_cons (pe_op op_fdiv (pe_ix ix_list (pv 0) pe_int (fun _ _ => rfl)) pe_int) pa_nil)) (pv 1))))))), ?_⟩
  -- pool[2] = pool[2] + 1
  refine ⟨_, rfl, p, _, _, .int n, rfl, rfl, SqL.of hp, rfl, _, _, rfl, rfl, _, rfl, p, _, _, 2, rfl, rfl, hp, rfl, ?_⟩
  have h1 : (upd H p (.lst [.int i, .int j, .int (n + 1)])) p = some (.lst [.int i, .int j, .int (n + 1)]) := upd_same
  show tSeq _ _ _ _ (upd H p (.lst [.int i, .int j, .int (n + 1)]))
  generalize e1 : upd H p (.lst [.int i, .int j, .int (n + 1)]) = H1 at h1 ⊢
  -- seed
  refine ⟨_, rfl, p, _, _, .int i, rfl, rfl, SqL.of h1, rfl, _, _, rfl, rfl, .inl ⟨by omega, by omega⟩, _, rfl, p, _, _, .int (n + 1), rfl, rfl, SqL.of h1, rfl, _, _, rfl, rfl, .inl ⟨by decide, by decide⟩,
    _, _, rfl, rfl, _, _, rfl, rfl, .inl ⟨_, rfl, _, _, rfl, rfl, (by show (0 : Int) < 2147481937; decide), ?_⟩⟩
  obtain ⟨s0, s1⟩ := emod_box (i * 46349 + 70001 * (n + 1) + 11) 2147481937 (by decide)
  show tSeq _ _ _ [some (.ref p), some (.int m), some (.int ((i * 46349 + 70001 * (n + 1) + 11) % 2147481937)), none] H1
  generalize (i * 46349 + 70001 * (n + 1) + 11) % 2147481937 = sd at s0 s1 ⊢
  -- pool[0]
  refine ⟨_, rfl, _, rfl, _, _, rfl, rfl, .inl ⟨by omega, by omega⟩, _, rfl, p, _, _, .int (n + 1), rfl, rfl, SqL.of h1, rfl, _, _, rfl, rfl, .inl ⟨by decide, by decide⟩, _, _, rfl, rfl,
    .inl ⟨_, rfl, _, _, rfl, rfl, (by show (0 : Int) < 2147481907; decide), _, rfl, p, _, _, 0, rfl, rfl, h1, rfl, ?_⟩⟩
  obtain ⟨t0, t1⟩ := emod_box (sd * sd + 46301 * (n + 1)) 2147481907 (by decide)
  show tSeq _ _ _ _ (upd H1 p (.lst [.int ((sd * sd + 46301 * (n + 1)) % 2147481907), .int j, .int (n + 1)]))
  generalize (sd * sd + 46301 * (n + 1)) % 2147481907 = i' at t0 t1 ⊢
  have e2 : upd H1 p (.lst [.int i', .int j, .int (n + 1)]) = upd H p (.lst [.int i', .int j, .int (n + 1)]) := by rw [← e1, upd_upd]
  rw [e2]
  have h2 : (upd H p (.lst [.int i', .int j, .int (n + 1)])) p = some (.lst [.int i', .int j, .int (n + 1)]) := upd_same
  refine ⟨_, rfl, p, _, _, .int j, rfl, rfl, SqL.of h2, rfl, _, _, rfl, rfl, _, rfl, ite2 (fun _ => ?_) (fun _ => ?_)⟩
  · refine ⟨_, rfl, p, _, _, .int j, rfl, rfl, SqL.of h2, rfl, .inl ⟨_, rfl, _, rfl, _, _, rfl, rfl, m0, ?_⟩⟩
    obtain ⟨r0, r1⟩ := emod_box j m m0
    refine ⟨_, rfl, p, _, _, .int j, rfl, rfl, SqL.of h2, rfl, _, rfl, _, _, rfl, rfl, wide_div (b := 60) m0 (by omega) (by decide) (by decide), _, rfl, p, _, _, 1, rfl, rfl, h2, rfl, _, rfl, ?_⟩
    have e3 : upd (upd H p (.lst [.int i', .int j, .int (n + 1)])) p (.lst [.int i', .int (j / m), .int (n + 1)]) = upd H p (.lst [.int i', .int (j / m), .int (n + 1)]) := upd_upd
    show Q _ (upd (upd H p (.lst [.int i', .int j, .int (n + 1)])) p (.lst [.int i', .int (j / m), .int (n + 1)]))
    rw [e3]
    exact k _ _ _ _ t0 (by omega) r0 r1
  · refine ⟨_, rfl, p, _, _, .int i', rfl, rfl, SqL.of h2, rfl, _, _, rfl, rfl, ⟨by decide, by decide⟩, .inl ⟨_, rfl, _, rfl, _, _, rfl, rfl, m0, ?_⟩⟩
    obtain ⟨r0, r1⟩ := emod_box (i' / 128) m m0
    exact k _ _ _ _ t0 (by omega) r0 r1
theorem ok_cell {f : Addr} {fd : FuncData} (F : Fun K "_law_cell" "_law_cell" sCell f fd) (B : Bl mg) : FnOk P w K mg base CX0 1 f fd ["_law_cells", "_law_k"] (spCell K) := by
  refine F.ok scCell (fun vs H Q E h => ?_) (fun cdv A outer s H vs Q E hr h => ?_)
  · obtain ⟨l, ns, k, rfl, _⟩ := h
    rfl
  obtain ⟨l, ns, k, rfl, hS, hlen, hk, q⟩ := h
  refine ⟨_, pss_cons (ps_if (pt_cmpR op_lt (pv 1) (pe_callB call_len_seq (by rfl) B.len PySem.boot_len (pa_cons (pv 0) pa_nil)) (nomark _))
      (pss_one (ps_ret (pe_callTy call_int1 (by rfl) B.int bInt (pa_cons (pe_ix ix_list (pv 0) (pv 1) (fun _ _ => rfl)) pa_nil)))) pss_nil)
    (pss_cons (ps_set (i := 2) scCell.nd rfl (.inl rfl) (pe_op op_add pe_int (pe_op op_mul pe_int (pv 1))))
    (pss_cons (ps_for PassesOwn.never rfl (pi_list (pe_slice sl_list (pv 0) po_none (po_some pe_int))) (pg_name (i := 3) scCell.nd rfl (.inl rfl))
      (pss_one (ps_set (i := 2) scCell.nd rfl (.inl rfl) (pe_op op_mod (pe_callTy call_int1 (by rfl) B.int bInt (pa_cons
        (pe_op op_add (pe_op op_mul (pv 2) pe_int) (pe_callTy call_int1 (by rfl) B.int bInt (pa_cons (pv 3) pa_nil))) pa_nil)) pe_int))))
    (pss_one (ps_ret (pe_op op_mod (pe_callTy call_int1 (by rfl) B.int bInt (pa_cons (pe_op op_add (pe_op op_mul (pv 2) (pv 2)) (pe_op op_mul pe_int (pv 1))) pa_nil)) pe_int))))), ?_⟩
  refine ⟨_, rfl, _, rfl, l, _, rfl, .inl hS, _, _, rfl, rfl, _, rfl, ite2 (fun c => ?_) (fun c => ?_)⟩
  · have c' : k < ns.length := by
      have z := of_decide_eq_true c
      rw [List.length_map] at z
      omega
    refine ⟨_, rfl, _, rfl, l, _, _, .int ns[k], rfl, rfl, hS, atI_nat (j := k) ?_, .inl ⟨_, rfl, q H _ (Same.refl H)⟩⟩
    rw [List.getElem?_map, List.getElem?_eq_getElem c']
    rfl
  · refine ⟨_, rfl, _, _, rfl, rfl, .inl ⟨by decide, by decide⟩, _, _, rfl, rfl, ?_⟩
    refine ⟨_, rfl, 5, rfl, l, _, rfl, hS, fun t ht => ?_⟩
    have hT : SqL K (upd H t (.lst (cutV (ns.map V.int) none (some 5)))) t (cutV (ns.map V.int) none (some 5)) := SqL.of upd_same
    have sm : Same H (upd H t (.lst (cutV (ns.map V.int) none (some 5)))) := fun b o e => by
      rw [upd_ne (ne_of_none e ht)]
      exact e
    refine ⟨t, rfl, ⟨_, hT⟩, for_list (K := K) (a := t) (xs := cutV (ns.map V.int) none (some 5))
      (fun i σ H' => ∃ (f : Int) (y : Option V), σ = [some (.ref l), some (.int (k : Int)), some (.int f), y] ∧ 0 ≤ f ∧ f < 2 ^ 31 ∧ H' = upd H t (.lst (cutV (ns.map V.int) none (some 5))))
      ⟨46021 + 733 * (k : Int), none, rfl, by omega, by omega, rfl⟩ (fun i σ H' _ hh => ?_) ?_ ?_⟩
    · obtain ⟨_, _, _, _, _, rfl⟩ := hh
      exact hT
    · rintro i y σ H' hi ⟨f, y0, rfl, f0, f1, rfl⟩
      obtain ⟨z, rfl⟩ : ∃ z, y = V.int z := by
        have hm := List.mem_of_getElem? hi
        unfold cutV at hm
        obtain ⟨z, _, e⟩ := List.mem_map.mp (List.mem_of_mem_drop (List.mem_of_mem_take hm))
        exact ⟨z, e.symm⟩
      refine ⟨_, rfl, _, _, rfl, rfl, .inl ⟨by omega, by omega⟩, _, rfl, .inl ⟨z, rfl, _, _, rfl, rfl, .inl ⟨_, rfl, _, _, rfl, rfl, (by show (0 : Int) < 2147481997; decide), ?_⟩⟩⟩
      obtain ⟨r0, r1⟩ := emod_box (f * 46327 + z) 2147481997 (by decide)
      exact ⟨_, _, rfl, r0, by omega, rfl⟩
    · rintro σ H' ⟨f, y0, rfl, f0, f1, rfl⟩
      refine ⟨_, rfl, _, rfl, _, _, rfl, rfl, .inl ⟨by omega, by omega⟩, _, rfl, _, _, rfl, rfl, .inl ⟨by decide, by decide⟩, _, _, rfl, rfl, .inl ⟨_, rfl, _, _, rfl, rfl, (by show (0 : Int) < 2147481967; decide), ?_⟩⟩
      exact q _ _ sm
end
end K1

set_option Elab.async false
set_option linter.all false
set_option maxRecDepth 100000
set_option maxHeartbeats 2000000
namespace K1
open PySem PySem.Spec PyProof.Rows L2 G1
abbrev sWord : Stmt := topS 41
theorem scWord : FnScope ["_law_pool_here", "_law_some", "_law_signs", "_law_found", "_law_k"] ["_law_pool_here"] (defScope sWord) :=
  ⟨rfl, rfl, rfl, by decide +kernel, rfl, by decide +kernel, by decide +kernel⟩
def tagOk (x : Str) : Prop := x.length ≤ 8 ∧ ∀ c ∈ x.cps.toList, c < 128
/-- the pool at p, and nothing else of what was there, has changed -/
def Stp (p : Addr) (H H' : Hp) : Prop := (∃ i j n : Int, H' p = some (.lst [.int i, .int j, .int n]) ∧ 0 ≤ i ∧ i < 2 ^ 31) ∧ ∀ b o, b ≠ p → H b = some o → H' b = some o
def PoolAt (H : Hp) (p : Addr) : Prop := ∃ i j n : Int, H p = some (.lst [.int i, .int j, .int n]) ∧ 0 ≤ i ∧ i < 2 ^ 31
theorem Stp.trans {p : Addr} {H H1 H2 : Hp} (a : Stp p H H1) (b : Stp p H1 H2) : Stp p H H2 := ⟨b.1, fun c o n e => b.2 c o n (a.2 c o n e)⟩
theorem Stp.upd {p : Addr} {H : Hp} {i j n : Int} (h0 : 0 ≤ i) (h1 : i < 2 ^ 31) : Stp p H (upd H p (.lst [.int i, .int j, .int n])) :=
  ⟨⟨i, j, n, upd_same, h0, h1⟩, fun b o hb e => by rw [upd_ne hb]; exact e⟩
theorem Stp.lay {p q : Addr} {H : Hp} {o : HO} (hp : PoolAt H p) (hq : H q = none) : Stp p H (L2.upd H q o) := by
  obtain ⟨i, j, n, e, h0, h1⟩ := hp
  refine ⟨⟨i, j, n, ?_, h0, h1⟩, fun b u _ z => ?_⟩
  · rw [upd_ne (ne_of_none e hq)]
    exact e
  · rw [upd_ne (ne_of_none z hq)]
    exact z
def spWord : Sp := fun vs H Q _ => ∃ p : Addr, vs = [.ref p] ∧ PoolAt H p ∧ ∀ (H' : Hp) (tag : Str), Stp p H H' → tagOk tag → Q (.str tag) H'
abbrev signs : Str := Str.ofString "abcdefghijklmnopqrstuvwxyz0123456789"
theorem sign_at (r : Int) (h0 : 0 ≤ r) (h1 : r < 36) : ∃ c, signs.cps[r.toNat]? = some c ∧ c < 128 := by
  have z : ∀ j, j < 36 → ((signs.cps[j]?).any fun c => decide (c < 128)) = true := by decide +kernel
  have q := z r.toNat (by omega)
  cases e : signs.cps[r.toNat]? with
  | none => rw [e] at q; cases q
  | some c =>
    rw [e] at q
    exact ⟨c, rfl, of_decide_eq_true q⟩
theorem tag1 {c : Nat} (h : c < 128) : tagOk ⟨#[c]⟩ := by
  refine ⟨by show 1 ≤ 8; decide, fun d hd => ?_⟩
  have e : d = c := by simpa using hd
  omega
def words : List V := [.str (Str.ofString "write"), .str (Str.ofString "trim"), .str (Str.ofString "open"), .str (Str.ofString "new"), .str (Str.ofString "drive"), .str (Str.ofString "any"), .str (Str.ofString "oldest"),
  .str (Str.ofString "most"), .str (Str.ofString "free"), .str (Str.ofString "n0"), .str (Str.ofString "n1")]
theorem tagB (x : Str) (h : (decide (x.length ≤ 8) && x.cps.toList.all fun c => decide (c < 128)) = true) : tagOk x := by
  rw [Bool.and_eq_true, decide_eq_true_eq, List.all_eq_true] at h
  exact ⟨h.1, fun c hc => of_decide_eq_true (h.2 c hc)⟩
theorem word_at (r : Int) (h0 : 0 ≤ r) (h1 : r < 11) : ∃ x, atI words r = some (.str x) ∧ tagOk x := by
  have c : r = 0 ∨ r = 1 ∨ r = 2 ∨ r = 3 ∨ r = 4 ∨ r = 5 ∨ r = 6 ∨ r = 7 ∨ r = 8 ∨ r = 9 ∨ r = 10 := by omega
  rcases c with rfl | rfl | rfl | rfl | rfl | rfl | rfl | rfl | rfl | rfl | rfl <;> exact ⟨_, rfl, tagB _ (by decide +kernel)⟩
section
variable {P : Program} {w : World} {K : PySem.W.Frag} {mg : Str → Option Value} {base : Heap}
theorem ok_word {f fD : Addr} {fd fdD : FuncData} (F : Fun K "_law_word" "_law_word" sWord f fd) (B : Bl mg) (FD : Fun K "_law_draw" "_law_draw" sDraw fD fdD) (bD : Binds K fdD ["_law_pool_here", "_law_many"] [])
    (gD : mg "_law_draw" = some (.ref fD)) : FnOk P w K mg base CX0 2 f fd ["_law_pool_here"] spWord := by
  have GD : FnOk P w K mg base CX0 1 fD fdD ["_law_pool_here", "_law_many"] spDraw := ok_draw FD B
  refine F.ok scWord (fun vs H Q E h => ?_) (fun cdv A outer s H vs Q E hr h => ?_)
  · obtain ⟨p, rfl, _⟩ := h
    rfl
  obtain ⟨p, rfl, ⟨i, j, n, hp, i0, i1⟩, k⟩ := h
  refine ⟨_, pss_cons (ps_if (pt_cmpR op_eq (pe_call GD hr (by rfl) gD FD.kp bD .nil pass0 (pa_cons (pv 0) (pa_cons pe_int pa_nil))) pe_int (nomark _))
      (pss_cons (ps_set (i := 1) scWord.nd rfl (.inl rfl) (pe_lst (pa_cons pe_str (pa_cons pe_str (pa_cons pe_str (pa_cons pe_str (pa_cons pe_str (pa_cons pe_str (pa_cons pe_str (pa_cons pe_str (pa_cons pe_str (pa_cons pe_str (pa_cons pe_str pa_nil)))))))))))))
        (pss_one (ps_ret (pe_ix ix_list (pv 1) (pe_call GD hr (by rfl) gD FD.kp bD .nil pass0 (pa_cons (pv 0) (pa_cons pe_int pa_nil))) (fun _ _ => rfl))))) pss_nil)
    (pss_cons (ps_set (i := 2) scWord.nd rfl (.inl rfl) pe_str)
    (pss_cons (ps_set (i := 3) scWord.nd rfl (.inl rfl) (pe_item_str (pv 2) (pe_call GD hr (by rfl) gD FD.kp bD .nil pass0 (pa_cons (pv 0) (pa_cons pe_int pa_nil))) (fun _ _ => rfl)))
    (pss_cons (ps_for PassesOwn.never rfl (pi_range1 (by rfl) B.range (pa_cons (pe_call GD hr (by rfl) gD FD.kp bD .nil pass0 (pa_cons (pv 0) (pa_cons pe_int pa_nil))) pa_nil)) (pg_name (i := 4) scWord.nd rfl (.inl rfl))
      (pss_one (ps_set (i := 3) scWord.nd rfl (.inl rfl) (pe_op op_add_str (pv 3) (pe_item_str (pv 2) (pe_call GD hr (by rfl) gD FD.kp bD .nil pass0 (pa_cons (pv 0) (pa_cons pe_int pa_nil))) (fun _ _ => rfl))))))
    (pss_one (ps_ret (pv 3)))))), ?_⟩
  refine ⟨_, rfl, p, 7, i, j, n, rfl, hp, i0, i1, by decide, by decide, fun i2 j2 n2 r a0 a1 r0 r1 => ?_⟩
  have S1 : Stp p H (upd H p (.lst [.int i2, .int j2, .int n2])) := Stp.upd a0 a1
  have h1 : (upd H p (.lst [.int i2, .int j2, .int n2])) p = some (.lst [.int i2, .int j2, .int n2]) := upd_same
  generalize upd H p (.lst [.int i2, .int j2, .int n2]) = H1 at S1 h1 ⊢
  refine ⟨rfl, _, rfl, ite2 (fun _ => ?_) (fun _ => ?_)⟩
  · refine ⟨by show 11 ≤ sizeLine; decide, fun t ht => ?_⟩
    have S2 : Stp p H1 (upd H1 t (.lst words)) := Stp.lay ⟨i2, j2, n2, h1, a0, a1⟩ ht
    have h2 : (upd H1 t (.lst words)) p = some (.lst [.int i2, .int j2, .int n2]) := by
      rw [upd_ne (ne_of_none h1 ht)]
      exact h1
    have ht2 : (upd H1 t (.lst words)) t = some (.lst words) := upd_same
    refine ⟨_, rfl, _, rfl, p, 11, i2, j2, n2, rfl, h2, a0, a1, by decide, by decide, fun i3 j3 n3 r' b0 b1 r0' r1' => ?_⟩
    obtain ⟨x, hx, tx⟩ := word_at r' r0' r1'
    have ne : t ≠ p := (ne_of_none h1 ht).symm
    refine ⟨t, _, r', _, rfl, rfl, SqL.of (by rw [upd_ne ne]; exact ht2), hx, ?_⟩
    exact k _ _ (S1.trans (S2.trans (Stp.upd b0 b1))) tx
  · refine ⟨_, rfl, _, rfl, p, 26, i2, j2, n2, rfl, h1, a0, a1, by decide, by decide, fun i3 j3 n3 r' b0 b1 r0' r1' => ?_⟩
    obtain ⟨c, hc, tc⟩ := sign_at r' r0' (by omega)
    refine ⟨signs, r', c, rfl, rfl, r0', by omega, by show r' < 36; omega, hc, ?_⟩
    have S2 : Stp p H1 (upd H1 p (.lst [.int i3, .int j3, .int n3])) := Stp.upd b0 b1
    have h2 : (upd H1 p (.lst [.int i3, .int j3, .int n3])) p = some (.lst [.int i3, .int j3, .int n3]) := upd_same
    generalize upd H1 p (.lst [.int i3, .int j3, .int n3]) = H2 at S2 h2 ⊢
    refine ⟨_, rfl, p, 8, i3, j3, n3, rfl, h2, b0, b1, by decide, by decide, fun i4 j4 n4 m c0 c1 m0 m1 => ⟨m, rfl, by omega, by omega, ?_⟩⟩
    have S3 : Stp p H2 (upd H2 p (.lst [.int i4, .int j4, .int n4])) := Stp.upd c0 c1
    refine for_range (lo := 0) (n := m.toNat) (fun q σ H' => ∃ (x : Str) (y : Option V), σ = [some (.ref p), none, some (.str signs), some (.str x), y] ∧ x.length = q + 1 ∧ (∀ c ∈ x.cps.toList, c < 128) ∧ Stp p H H')
      ⟨_, none, rfl, rfl, (tag1 tc).2, S1.trans (S2.trans S3)⟩ ?_ ?_
    · rintro q σ H' hq ⟨x, y, rfl, lx, ax, SH⟩
      obtain ⟨i5, j5, n5, h5, d0, d1⟩ := SH.1
      refine ⟨_, rfl, _, rfl, _, rfl, p, 36, i5, j5, n5, rfl, h5, d0, d1, by decide, by decide, fun i6 j6 n6 r6 e0 e1 s0 s1 => ?_⟩
      obtain ⟨c6, hc6, tc6⟩ := sign_at r6 s0 s1
      refine ⟨signs, r6, c6, rfl, rfl, s0, by omega, by show r6 < 36; omega, hc6, _, _, rfl, rfl, ?_, ?_⟩
      · show x.length + 1 ≤ sizeLine
        rw [sizeLine_eq]
        omega
      · refine ⟨_, _, rfl, ?_, ?_, SH.trans (Stp.upd e0 e1)⟩
        · show (x ++ (⟨#[c6]⟩ : Str)).length = q + 1 + 1
          rw [Str.length_append, lx]
          rfl
        · intro c hc
          have hc' : c ∈ (x.cps ++ #[c6]).toList := hc
          rw [Array.toList_append] at hc'
          rcases List.mem_append.mp hc' with z | z
          · exact ax c z
          · have e : c = c6 := by simpa using z
            omega
    · rintro σ H' ⟨x, y, rfl, lx, ax, SH⟩
      exact ⟨_, rfl, k _ _ SH ⟨by omega, ax⟩⟩
end
end K1

set_option Elab.async false
set_option linter.all false
set_option maxRecDepth 100000
set_option maxHeartbeats 2000000
namespace K1
open PySem PySem.Spec PyProof.Rows L2 G1
abbrev sThings : Stmt := topS 42
theorem scThings : FnScope ["_law_pool_here", "_law_far_here", "_law_tag", "_law_some"] ["_law_pool_here"] (defScope sThings) :=
  ⟨rfl, rfl, rfl, by decide +kernel, rfl, by decide +kernel, by decide +kernel⟩
theorem gd_of {d : PyData} (h1 : d.showable = true) (h2 : d.leavesShort 1921 = true) (h3 : d.weight ≤ 1000) (h4 : d.depth ≤ 60) : Gd d := by
  refine ⟨h1, ?_, h4⟩
  have z := PyData.shown_le 1921 (by decide) d h2
  rw [sizeLine_eq]
  omega
theorem li {i : Int} (h : i.natAbs < 2 ^ 120) : i.natAbs.log2 < 120 := PySem.Flt.log2_lt_of (by decide) h
theorem int_sh {i : Int} (h : i.natAbs < 2 ^ 120) : (PyData.int i).showable = true := by
  simp only [PyData.showable, decide_eq_true_eq]
  have := li h
  omega
theorem int_ls {i : Int} (h : i.natAbs < 2 ^ 120) : (PyData.int i).leavesShort 1921 = true := by
  simp only [PyData.leavesShort, decide_eq_true_eq]
  rw [PyData.shown_int]
  have := li h
  exact int_text_len_1921 (by omega)
theorem int_w {i : Int} (h : i.natAbs < 2 ^ 120) : (PyData.int i).weight ≤ 120 := by
  simp only [PyData.weight]
  have := li h
  split <;> omega
theorem str_ls {x : Str} (h : tagOk x) : (PyData.str x).leavesShort 1921 = true := by
  simp only [PyData.leavesShort, List.all_eq_true, decide_eq_true_eq]
  intro c hc
  have := h.2 c hc
  omega
theorem str_w {x : Str} (h : tagOk x) : (PyData.str x).weight ≤ 8 := h.1
theorem str_ok {x : Str} (h : tagOk x) : PyData.strOk x = true := by
  unfold PyData.strOk
  rw [← Array.all_toList, List.all_eq_true]
  intro c hc
  have := h.2 c hc
  exact decide_eq_true (by omega)
/-- a thing that shows well -/
def Th (K : PySem.W.Frag) (H : Hp) (v : V) : Prop := ∃ d, Tg K H v d ∧ Gd d
section
variable {K : PySem.W.Frag} {H : Hp}
theorem th_non : Th K H .non := ⟨_, .dp .non (by decide) (by decide) (by decide), gd_of (by decide) (by decide) (by decide) (by decide)⟩
theorem th_bl (b : Bool) : Th K H (.bl b) := ⟨_, .dp (.bl b) (by cases b <;> decide) (by cases b <;> decide) (by cases b <;> decide), gd_of (by cases b <;> decide) (by cases b <;> decide) (by cases b <;> decide) (by cases b <;> decide)⟩
theorem sh0 {d : PyData} (h : d.canLay0 = true) (h2 : d.depth ≤ 60) : SeqAt.shaped d = true := by
  unfold SeqAt.shaped
  rw [h, Bool.true_and, decide_eq_true_eq]
  omega
theorem th_int {i : Int} (h : i.natAbs < 2 ^ 120) : Th K H (.int i) :=
  ⟨_, .dp (.int i) (sh0 (by simp [PyData.canLay0]) (by simp [PyData.depth])) (by simp [PyData.eqv]) (by simp [PyData.hasDict]), gd_of (int_sh h) (int_ls h) (Nat.le_trans (int_w h) (by decide)) (by simp [PyData.depth])⟩
theorem th_str {x : Str} (h : tagOk x) : Th K H (.str x) :=
  ⟨_, .dp (.str x) (sh0 (by simp [PyData.canLay0, str_ok h]) (by simp [PyData.depth])) (by simp [PyData.eqv]) (by simp [PyData.hasDict]), gd_of (by simp [PyData.showable]) (str_ls h) (Nat.le_trans (str_w h) (by decide)) (by simp [PyData.depth])⟩
theorem th_tup0 {a : Addr} (e : H a = some (.tup [])) : Th K H (.ref a) :=
  ⟨_, .dp (.tup (SqT.of e) .nil) (by decide) (by decide) (by decide), gd_of (by decide) (by decide) (by decide) (by decide)⟩
theorem th_lst0 {a : Addr} (e : H a = some (.lst [])) : Th K H (.ref a) :=
  ⟨_, .dp (.lst (SqL.of e) .nil) (by decide) (by decide) (by decide), gd_of (by decide) (by decide) (by decide) (by decide)⟩
theorem th_d0 {a : Addr} (e : H a = some (.dK [])) : Th K H (.ref a) := ⟨_, .d0 e, gd_of (by decide) (by decide) (by decide) (by decide)⟩
theorem th_tup2 {a : Addr} {i : Int} {x : Str} (h : i.natAbs < 2 ^ 120) (hx : tagOk x) (e : H a = some (.tup [.int i, .str x])) : Th K H (.ref a) := by
  refine ⟨_, .dp (.tup (SqT.of e) (.cons (.int i) (.cons (.str x) .nil))) (sh0 (by simp [PyData.canLay0, PyData.canLayAll0, str_ok hx]) (by simp [PyData.depth, PyData.depthAll])) (by simp [PyData.eqv, PyData.eqvAll]) (by simp [PyData.hasDict, PyData.hasDictAll]), gd_of ?_ ?_ ?_ ?_⟩
  · simp only [PyData.showable, PyData.showableAll, Bool.and_true]
    exact int_sh h
  · simp only [PyData.leavesShort, PyData.leavesShortAll, Bool.and_true, Bool.and_eq_true]
    exact ⟨int_ls h, str_ls hx⟩
  · have z1 := int_w h
    have z2 := str_w hx
    simp only [PyData.weight, PyData.weightAll] at z1 z2 ⊢
    omega
  · simp [PyData.depth, PyData.depthAll]
theorem th_lst2 {a b : Addr} {i : Int} {x : Str} (h : i.natAbs < 2 ^ 120) (hx : tagOk x) (e : H a = some (.lst [.str x, .ref b])) (e2 : H b = some (.lst [.int i])) : Th K H (.ref a) := by
  refine ⟨_, .dp (.lst (SqL.of e) (.cons (.str x) (.cons (.lst (SqL.of e2) (.cons (.int i) .nil)) .nil))) (sh0 (by simp [PyData.canLay0, PyData.canLayAll0, str_ok hx]) (by simp [PyData.depth, PyData.depthAll])) (by simp [PyData.eqv, PyData.eqvAll])
    (by simp [PyData.hasDict, PyData.hasDictAll]), gd_of ?_ ?_ ?_ ?_⟩
  · simp only [PyData.showable, PyData.showableAll, Bool.and_true, Bool.true_and]
    exact int_sh h
  · simp only [PyData.leavesShort, PyData.leavesShortAll, Bool.and_true, Bool.and_eq_true]
    exact ⟨str_ls hx, int_ls h⟩
  · have z1 := int_w h
    have z2 := str_w hx
    simp only [PyData.weight, PyData.weightAll] at z1 z2 ⊢
    omega
  · simp [PyData.depth, PyData.depthAll]
theorem th_d1 {a : Addr} {i : Int} {x : Str} (h : i.natAbs < 2 ^ 120) (hx : tagOk x) (e : H a = some (.dK [(.inr x, .int i)])) : Th K H (.ref a) := by
  refine ⟨_, .d1 e, gd_of ?_ ?_ ?_ ?_⟩
  · simp only [PyData.showable, PyData.showableKv, Bool.and_true, Bool.true_and]
    exact int_sh h
  · simp only [PyData.leavesShort, PyData.leavesShortKv, Bool.and_true, Bool.and_eq_true]
    exact ⟨str_ls hx, int_ls h⟩
  · have z1 := int_w h
    have z2 := str_w hx
    simp only [PyData.weight, PyData.weightKv] at z1 z2 ⊢
    omega
  · simp [PyData.depth, PyData.depthKv]
theorem Stp.lay1 {p q : Addr} {H0 H : Hp} {o : HO} (S : Stp p H0 H) (hq : H q = none) : Stp p H0 (L2.upd H q o) := S.trans (Stp.lay S.1 hq)
abbrev L0 (far : Int) (tag : Str) (t0 t1 : Addr) : List V := [.non, .bl true, .bl false, .int 0, .int far, .int ((10 : Int) ^ (30 : Int).toNat), .str (Str.ofString ""), .str tag, .ref t0, .ref t1]
/-- what is there but the pool stays; a new list of fourteen things -/
def spThings (K : PySem.W.Frag) : Sp := fun vs H Q _ => ∃ p : Addr, vs = [.ref p] ∧ PoolAt H p ∧ ∀ (H' : Hp) (q : Addr) (xs : List V), Stp p H H' → H' q = some (.lst xs) → xs.length = 14 → (∀ x ∈ xs, Th K H' x) → Q (.ref q) H'
theorem seen {H : Hp} {p q : Addr} {o u : HO} (hp : H p = some o) (hq : H q = none) : (upd H q u) p = some o := by
  rw [upd_ne (ne_of_none hp hq)]
  exact hp
end
section
variable {P : Program} {w : World} {K : PySem.W.Frag} {mg : Str → Option Value} {base : Heap}
theorem ok_things {f fD fW : Addr} {fd fdD fdW : FuncData} (F : Fun K "_law_things" "_law_things" sThings f fd) (B : Bl mg) (FD : Fun K "_law_draw" "_law_draw" sDraw fD fdD) (bD : Binds K fdD ["_law_pool_here", "_law_many"] [])
    (gD : mg "_law_draw" = some (.ref fD)) (FW : Fun K "_law_word" "_law_word" sWord fW fdW) (bW : Binds K fdW ["_law_pool_here"] []) (gW : mg "_law_word" = some (.ref fW)) :
    FnOk P w K mg base CX0 3 f fd ["_law_pool_here"] (spThings K) := by
  have GD : FnOk P w K mg base CX0 1 fD fdD ["_law_pool_here", "_law_many"] spDraw := ok_draw FD B
  have GW : FnOk P w K mg base CX0 2 fW fdW ["_law_pool_here"] spWord := ok_word FW B FD bD gD
  refine F.ok scThings (fun vs H Q E h => ?_) (fun cdv A outer s H vs Q E hr h => ?_)
  · obtain ⟨p, rfl, _⟩ := h
    rfl
  obtain ⟨p, rfl, ⟨i, j, n, hp, i0, i1⟩, k⟩ := h
  have hr1 : Room 1 _ := hr.mono (by decide)
  refine ⟨_, pss_cons (ps_set (i := 1) scThings.nd rfl (.inl rfl) (pe_op op_sub (pe_call GD hr1 (by rfl) gD FD.kp bD .nil pass0 (pa_cons (pv 0) (pa_cons (pe_op op_pow pe_int pe_int) pa_nil))) pe_int))
    (pss_cons (ps_set (i := 2) scThings.nd rfl (.inl rfl) (pe_call GW hr (by rfl) gW FW.kp bW .nil pass0 (pa_cons (pv 0) pa_nil)))
    (pss_cons (ps_set (i := 3) scThings.nd rfl (.inl rfl) (pe_lst (pa_cons pe_non (pa_cons pe_bl (pa_cons pe_bl (pa_cons pe_int (pa_cons (pv 1) (pa_cons (pe_op op_pow pe_int pe_int) (pa_cons pe_str (pa_cons (pv 2)
        (pa_cons (pe_tup pa_nil) (pa_cons (pe_tup (pa_cons (pv 1) (pa_cons (pv 2) pa_nil))) pa_nil))))))))))))
    (pss_one (ps_ret (pe_op op_cat (pv 3) (pe_lst (pa_cons (pe_lst pa_nil) (pa_cons (pe_lst (pa_cons (pv 2) (pa_cons (pe_lst (pa_cons (pv 1) pa_nil)) pa_nil))) (pa_cons pe_dnewK
        (pa_cons (pe_disp (pps_cons (pv 2) (pv 1) pps_nil) (by rfl) (by rfl) (fun z => by cases z) (by decide)) pa_nil)))))))))), ?_⟩
  refine ⟨_, rfl, _, _, rfl, rfl, ⟨by decide, by decide, by decide⟩, p, 10 ^ 15, i, j, n, rfl, hp, i0, i1, by decide, by decide, fun i2 j2 n2 r a0 a1 r0 r1 => ⟨r, 7, rfl, rfl, ?_⟩⟩
  have S1 : Stp p H (upd H p (.lst [.int i2, .int j2, .int n2])) := Stp.upd a0 a1
  have h1 : PoolAt (upd H p (.lst [.int i2, .int j2, .int n2])) p := ⟨_, _, _, upd_same, a0, a1⟩
  have fr : (r - 7 : Int).natAbs < 2 ^ 120 := by
    have e : (10 : Int) ^ 15 = 1000000000000000 := by decide
    rw [e] at r1
    omega
  generalize upd H p (.lst [.int i2, .int j2, .int n2]) = H1 at S1 h1 ⊢
  refine ⟨_, rfl, p, rfl, h1, fun H2 tag S2 tok => ?_⟩
  have S12 := S1.trans S2
  -- ()
  refine ⟨_, rfl, _, _, rfl, rfl, ⟨by decide, by decide, by decide⟩, _, rfl, by show 0 ≤ sizeLine; omega, fun t0 n0 => ?_⟩
  have S3 := Stp.lay1 (o := .tup []) S12 n0
  have e0 : (upd H2 t0 (.tup [])) t0 = some (.tup []) := upd_same
  generalize upd H2 t0 (.tup []) = H3 at S3 e0 ⊢
  -- (far, tag)
  refine ⟨_, rfl, _, rfl, by show 2 ≤ sizeLine; decide, fun t1 n1 => ?_⟩
  have S4 := Stp.lay1 (o := .tup [.int (r - 7), .str tag]) S3 n1
  have f0 := seen (u := .tup [.int (r - 7), .str tag]) e0 n1
  have f1 : (upd H3 t1 (.tup [.int (r - 7), .str tag])) t1 = some (.tup [.int (r - 7), .str tag]) := upd_same
  generalize upd H3 t1 (.tup [.int (r - 7), .str tag]) = H4 at S4 f0 f1 ⊢
  -- the first list
  refine ⟨by show 10 ≤ sizeLine; decide, fun l0 m0 => ?_⟩
  have S5 := Stp.lay1 (o := .lst (L0 (r - 7) tag t0 t1)) S4 m0
  have g0 := seen (u := .lst (L0 (r - 7) tag t0 t1)) f0 m0
  have g1 := seen (u := .lst (L0 (r - 7) tag t0 t1)) f1 m0
  have gl : (upd H4 l0 (.lst (L0 (r - 7) tag t0 t1))) l0 = some (.lst (L0 (r - 7) tag t0 t1)) := upd_same
  refine ⟨_, rfl, ?_⟩
  generalize upd H4 l0 (.lst (L0 (r - 7) tag t0 t1)) = H5 at S5 g0 g1 gl ⊢
  -- []
  refine ⟨by show 0 ≤ sizeLine; omega, fun t2 n2' => ?_⟩
  have S6 := Stp.lay1 (o := .lst []) S5 n2'
  have a0' := seen (u := .lst []) g0 n2'
  have a1' := seen (u := .lst []) g1 n2'
  have al := seen (u := .lst []) gl n2'
  have a2 : (upd H5 t2 (.lst [])) t2 = some (.lst []) := upd_same
  generalize upd H5 t2 (.lst []) = H6 at S6 a0' a1' al a2 ⊢
  -- [far]
  refine ⟨_, rfl, _, rfl, by show 1 ≤ sizeLine; decide, fun t3 n3 => ?_⟩
  have S7 := Stp.lay1 (o := .lst [.int (r - 7)]) S6 n3
  have b0 := seen (u := .lst [.int (r - 7)]) a0' n3
  have b1 := seen (u := .lst [.int (r - 7)]) a1' n3
  have bl := seen (u := .lst [.int (r - 7)]) al n3
  have b2 := seen (u := .lst [.int (r - 7)]) a2 n3
  have b3 : (upd H6 t3 (.lst [.int (r - 7)])) t3 = some (.lst [.int (r - 7)]) := upd_same
  generalize upd H6 t3 (.lst [.int (r - 7)]) = H7 at S7 b0 b1 bl b2 b3 ⊢
  -- [tag, [far]]
  refine ⟨by show 2 ≤ sizeLine; decide, fun t4 n4 => ?_⟩
  have S8 := Stp.lay1 (o := .lst [.str tag, .ref t3]) S7 n4
  have c0 := seen (u := .lst [.str tag, .ref t3]) b0 n4
  have c1 := seen (u := .lst [.str tag, .ref t3]) b1 n4
  have cl := seen (u := .lst [.str tag, .ref t3]) bl n4
  have c2 := seen (u := .lst [.str tag, .ref t3]) b2 n4
  have c3 := seen (u := .lst [.str tag, .ref t3]) b3 n4
  have c4 : (upd H7 t4 (.lst [.str tag, .ref t3])) t4 = some (.lst [.str tag, .ref t3]) := upd_same
  generalize upd H7 t4 (.lst [.str tag, .ref t3]) = H8 at S8 c0 c1 cl c2 c3 c4 ⊢
  -- {}
  refine fun t5 n5 => ?_
  have S9 := Stp.lay1 (o := .dK []) S8 n5
  have d0 := seen (u := .dK []) c0 n5
  have d1 := seen (u := .dK []) c1 n5
  have dl := seen (u := .dK []) cl n5
  have d2 := seen (u := .dK []) c2 n5
  have d3 := seen (u := .dK []) c3 n5
  have d4 := seen (u := .dK []) c4 n5
  have d5 : (upd H8 t5 (.dK [])) t5 = some (.dK []) := upd_same
  generalize upd H8 t5 (.dK []) = H9 at S9 d0 d1 dl d2 d3 d4 d5 ⊢
  -- {tag: far}
  refine fun t6 n6 => ?_
  refine ⟨_, rfl, _, rfl, upd_same, [(.inr tag, .int (r - 7))], rfl, by show 1 ≤ 15; decide, ?_⟩
  have mm : mergeK ([] : List (Key × V)) [(.inr tag, .int (r - 7))] = [(.inr tag, .int (r - 7))] := rfl
  rw [mm, upd_upd]
  have S10 := Stp.lay1 (o := .dK [(.inr tag, .int (r - 7))]) S9 n6
  have k0 := seen (u := .dK [(.inr tag, .int (r - 7))]) d0 n6
  have k1 := seen (u := .dK [(.inr tag, .int (r - 7))]) d1 n6
  have kl := seen (u := .dK [(.inr tag, .int (r - 7))]) dl n6
  have k2 := seen (u := .dK [(.inr tag, .int (r - 7))]) d2 n6
  have k3 := seen (u := .dK [(.inr tag, .int (r - 7))]) d3 n6
  have k4 := seen (u := .dK [(.inr tag, .int (r - 7))]) d4 n6
  have k5 := seen (u := .dK [(.inr tag, .int (r - 7))]) d5 n6
  have k6 : (upd H9 t6 (.dK [(.inr tag, .int (r - 7))])) t6 = some (.dK [(.inr tag, .int (r - 7))]) := upd_same
  generalize upd H9 t6 (.dK [(.inr tag, .int (r - 7))]) = H10 at S10 k0 k1 kl k2 k3 k4 k5 k6 ⊢
  -- the second list, and both
  refine ⟨by show 4 ≤ sizeLine; decide, fun l1 m1 => ?_⟩
  refine ⟨l0, l1, _, _, rfl, rfl, seen kl m1, upd_same, by show 10 + 4 ≤ sizeLine; decide, fun q nq => ?_⟩
  have tr : ∀ {b : Addr} {o : HO}, H10 b = some o → (upd (upd H10 l1 (.lst [.ref t2, .ref t4, .ref t5, .ref t6])) q (.lst (L0 (r - 7) tag t0 t1 ++ [.ref t2, .ref t4, .ref t5, .ref t6]))) b = some o := fun e => seen (seen e m1) nq
  refine k _ q _ (Stp.lay1 (Stp.lay1 S10 m1) nq) upd_same rfl fun x hx => ?_
  have hx' : x ∈ L0 (r - 7) tag t0 t1 ++ [.ref t2, .ref t4, .ref t5, .ref t6] := hx
  simp only [L0, List.cons_append, List.nil_append, List.mem_cons, List.not_mem_nil, or_false] at hx'
  rcases hx' with rfl | rfl | rfl | rfl | rfl | rfl | rfl | rfl | rfl | rfl | rfl | rfl | rfl | rfl
  · exact th_non
  · exact th_bl true
  · exact th_bl false
  · exact th_int (by decide)
  · exact th_int fr
  · exact th_int (by decide)
  · exact th_str (tagB _ (by decide +kernel))
  · exact th_str tok
  · exact th_tup0 (tr k0)
  · exact th_tup2 fr tok (tr k1)
  · exact th_lst0 (tr k2)
  · exact th_lst2 fr tok (tr k4) (tr k3)
  · exact th_d0 (tr k5)
  · exact th_d1 fr tok (tr k6)
end
end K1

set_option Elab.async false
set_option linter.all false
set_option maxRecDepth 100000
set_option maxHeartbeats 4000000
namespace K1
open PySem PySem.Spec PyProof.Rows L2 G1
/-! ### the classes: c k the k-th one in the law's order, b g the g-th base -/
def bse (k : Nat) : Nat := if k ≤ 13 then 0 else if k < 16 then 1 else 2
def nB : Nat → String
  | 0 => "ValueError"
  | 1 => "LookupError"
  | _ => "ArithmeticError"
def nNew : Nat → String
  | 0 => "ValueError.__new__"
  | 1 => "LookupError.__new__"
  | _ => "ArithmeticError.__new__"
def nIni : Nat → String
  | 0 => "ValueError.__init__"
  | 1 => "LookupError.__init__"
  | _ => "ArithmeticError.__init__"
def tlB (g : Nat) : List Value := [.type (nB g), .type "Exception", .type "BaseException", .type "object"]
structure CT (K : PySem.W.Frag) (c b : Nat → Addr) : Prop where
  xc : ∀ k, k < 22 → XC K (c k) [b (bse k)] (nB (bse k)) (nNew (bse k)) (nIni (bse k)) (tlB (bse k))
  xb : ∀ g, g < 3 → XC K (b g) [] (nB g) (nNew g) (nIni g) (tlB g)
  cc : ∀ j k, j < 22 → k < 22 → c j = c k → j = k
  bb : ∀ j k, j < 3 → k < 3 → b j = b k → j = k
  cb : ∀ k g, k < 22 → g < 3 → c k ≠ b g
theorem bse_lt (k : Nat) : bse k < 3 := by
  unfold bse
  split
  · omega
  · split <;> omega
/-- what an exception's class is: its number, or that of a base -/
inductive Wh where
  | num (k : Nat) (h : k < 22)
  | base (g : Nat) (h : g < 3)
def Wh.at (c b : Nat → Addr) : Wh → Addr
  | .num k _ => c k
  | .base g _ => b g
def Wh.grp : Wh → Nat
  | .num k _ => bse k
  | .base g _ => g
def Wh.sorts : Wh → List Nat
  | .num k _ => [k]
  | .base _ _ => []
theorem Wh.grp_lt (w : Wh) : w.grp < 3 := by
  cases w with
  | num k h => exact bse_lt k
  | base g h => exact h
section
variable {K : PySem.W.Frag} {c b : Nat → Addr}
theorem XC.obj {C : Addr} {os : List Addr} {B newId initId : String} {tl : List Value} (T : XC K C os B newId initId tl) :
    ∃ cd : ClassData, PySem.W.clsIn K C = some cd ∧ cd.mro = .ref C :: (os.map Value.ref ++ tl) ∧ PySem.W.typeIn K (.ref C) = some (.type "type") := by
  obtain ⟨nm, q, N, bs, sn, sub, ab, col, dd, k0, k1, k2, k3, k5, h⟩ := T.cls
  refine ⟨{ name := nm, bases := bs, mro := .ref C :: (os.map Value.ref ++ tl), ns := N, qualname := q, hasDict := true, slotNames := sn, subclasses := sub, abstract := ab, collection := col, hasDel := false }, ?_, rfl, ?_⟩
  · unfold PySem.W.clsIn
    rw [h]
  · show (K.lookup C).map (·.cls) = _
    rw [h]
    rfl
theorem kit_own {C D : Addr} {os os' : List Addr} {B n i B' n' i' : String} {tl tl' : List Value} (T : XC K C os B n i tl) (T' : XC K D os' B' n' i' tl') :
    PySem.W.kitOne K (.ref C) (.ref D) = some ((Value.ref C :: (os.map Value.ref ++ tl)).contains (.ref D)) := by
  obtain ⟨cd, e1, e2, _⟩ := XC.obj T
  obtain ⟨cd', f1, _, f3⟩ := XC.obj T'
  unfold PySem.W.kitOne
  by_cases h : (Value.ref C == Value.ref D) = true
  · rw [if_pos h]
    have e : Value.ref C = Value.ref D := beq_iff_eq.mp h
    rw [← e]
    simp
  · rw [if_neg h]
    show (if ((PySem.W.clsIn K D).isSome && PySem.W.typeIn K (.ref D) == some (.type "type")) = true then PySem.W.subIn K (.ref C) (.ref D) else none) = _
    rw [f1, f3, if_pos (by rfl)]
    show PySem.W.mroIn K C (.ref D) = _
    unfold PySem.W.mroIn
    rw [e1, Option.bind_some, e2]
    rfl
theorem kit_blt {C : Addr} {os : List Addr} {B n i T : String} {tl : List Value} (X : XC K C os B n i tl) (hm : PySem.W.kitMeta T = true) :
    PySem.W.kitOne K (.ref C) (.type T) = some (tl.contains (.type T)) := by
  obtain ⟨cd, e1, e2, _⟩ := XC.obj X
  unfold PySem.W.kitOne
  rw [if_neg (fun z => by have z' := beq_iff_eq.mp z; cases z')]
  show (if PySem.W.kitMeta T = true then PySem.W.subIn K (.ref C) (.type T) else none) = _
  rw [if_pos hm]
  show PySem.W.mroIn K C (.type T) = _
  unfold PySem.W.mroIn
  rw [e1, Option.bind_some, e2]
  show some _ = _
  have z := refs_has tl T (C :: os)
  exact congrArg some z
theorem CT.any (T : CT K c b) (w : Wh) : ∃ os, XC K (w.at c b) os (nB w.grp) (nNew w.grp) (nIni w.grp) (tlB w.grp) ∧ ∀ D, os.contains D = true → ∃ g, g < 3 ∧ D = b g ∧ ∃ k h, w = .num k h ∧ g = bse k := by
  cases w with
  | num k h =>
    refine ⟨[b (bse k)], T.xc k h, fun D hD => ?_⟩
    have e : D = b (bse k) := by simpa using hD
    exact ⟨bse k, bse_lt k, e, k, h, rfl, rfl⟩
  | base g h => exact ⟨[], T.xb g h, fun D hD => by simp at hD⟩
theorem tl_ref (g : Nat) (D : Addr) : (tlB g).contains (.ref D) = false := by
  unfold tlB
  simp
theorem refs_ref (D : Addr) (os : List Addr) (g : Nat) : (os.map Value.ref ++ tlB g).contains (.ref D) = os.contains D := by
  induction os with
  | nil => exact tl_ref g D
  | cons o os ih =>
    show (Value.ref o :: (os.map Value.ref ++ tlB g)).contains (.ref D) = _
    rw [List.contains_cons, List.contains_cons, ih]
    congr 1
    by_cases h : D = o
    · subst h
      simp
    · have h1 : (Value.ref D == Value.ref o) = false := beq_eq_false_iff_ne.mpr fun z => h (Value.ref.inj z)
      have h2 : (D == o) = false := beq_eq_false_iff_ne.mpr h
      rw [h1, h2]
/-- is it of the j-th class? -/
theorem kit_num (T : CT K c b) (w : Wh) (j : Nat) (hj : j < 22) : PySem.W.kitOne K (.ref (w.at c b)) (.ref (c j)) = some (w.sorts.contains j) := by
  obtain ⟨os, xw, ho⟩ := T.any w
  rw [kit_own xw (T.xc j hj)]
  congr 1
  show ((w.at c b :: os).map Value.ref ++ tlB w.grp).contains (.ref (c j)) = _
  rw [refs_ref, List.contains_cons]
  have no : os.contains (c j) = false := by
    cases e : os.contains (c j) with
    | false => rfl
    | true =>
      obtain ⟨g, hg, e2, _⟩ := ho _ e
      exact absurd e2 (T.cb j g hj hg)
  rw [no, Bool.or_false]
  cases w with
  | num k h =>
    show (c j == c k) = [k].contains j
    by_cases e : j = k
    · subst e
      simp
    · have h1 : (c j == c k) = false := beq_eq_false_iff_ne.mpr fun z => e (T.cc j k hj h z)
      rw [h1]
      simp [e]
  | base g h =>
    show (c j == b g) = [].contains j
    have h1 : (c j == b g) = false := beq_eq_false_iff_ne.mpr (T.cb j g hj h)
    rw [h1]
    rfl
/-- of the g-th base? -/
theorem kit_base (T : CT K c b) (w : Wh) (g : Nat) (hg : g < 3) : PySem.W.kitOne K (.ref (w.at c b)) (.ref (b g)) = some (w.grp == g) := by
  have eqb : ∀ g', g' < 3 → (b g == b g') = (g' == g) := fun g' h => by
    by_cases e : g' = g
    · subst e
      simp
    · have h1 : (b g == b g') = false := beq_eq_false_iff_ne.mpr fun z => e (T.bb g g' hg h z).symm
      have h2 : (g' == g) = false := beq_eq_false_iff_ne.mpr e
      rw [h1, h2]
  cases w with
  | num k h =>
    have z := kit_own (T.xc k h) (T.xb g hg)
    refine z.trans (congrArg some ?_)
    show ((c k :: [b (bse k)]).map Value.ref ++ tlB (bse k)).contains (.ref (b g)) = (bse k == g)
    rw [refs_ref, List.contains_cons, List.contains_cons]
    have h1 : (b g == c k) = false := beq_eq_false_iff_ne.mpr fun z => T.cb k g h hg z.symm
    rw [h1, eqb _ (bse_lt k)]
    simp
  | base g' h =>
    have z := kit_own (T.xb g' h) (T.xb g hg)
    refine z.trans (congrArg some ?_)
    show ((b g' :: []).map Value.ref ++ tlB g').contains (.ref (b g)) = (g' == g)
    rw [refs_ref, List.contains_cons, eqb _ h]
    simp
theorem py_tl (g' g : Nat) (h' : g' < 3) (hg : g < 3) : (tlB g').contains (.type (nB g)) = (g' == g) ∧ PySem.W.kitMeta (nB g) = true := by
  have c1 : g' = 0 ∨ g' = 1 ∨ g' = 2 := by omega
  have c2 : g = 0 ∨ g = 1 ∨ g = 2 := by omega
  rcases c1 with rfl | rfl | rfl <;> rcases c2 with rfl | rfl | rfl <;> exact ⟨by decide +kernel, by decide +kernel⟩
theorem kit_py (T : CT K c b) (w : Wh) (g : Nat) (hg : g < 3) : PySem.W.kitOne K (.ref (w.at c b)) (.type (nB g)) = some (w.grp == g) := by
  obtain ⟨os, xw, _⟩ := T.any w
  rw [kit_blt xw (py_tl w.grp g w.grp_lt hg).2, (py_tl w.grp g w.grp_lt hg).1]
end
end K1

set_option Elab.async false
set_option linter.all false
set_option maxRecDepth 100000
set_option maxHeartbeats 4000000
namespace K1
open PySem PySem.Spec PyProof.Rows L2 G1
abbrev sSorts : Stmt := topS 43
abbrev sBases : Stmt := topS 44
theorem scSorts : FnScope ["_law_e", "_law_some", "_law_k"] ["_law_e"] (defScope sSorts) := ⟨rfl, rfl, rfl, by decide +kernel, rfl, by decide +kernel, by decide +kernel⟩
theorem scBases : FnScope ["_law_e", "_law_some", "_law_k"] ["_law_e"] (defScope sBases) := ⟨rfl, rfl, rfl, by decide +kernel, rfl, by decide +kernel, by decide +kernel⟩
theorem bIsi : bootBuiltins "isinstance" = some (.builtin "isinstance") := by decide +kernel
/-- the names of the classes -/
def nm : Nat → Str
  | 0 => "InvalidBlocks" | 1 => "InvalidPages" | 2 => "InvalidNames" | 3 => "InvalidPrice" | 4 => "InvalidNumber" | 5 => "InvalidFlag" | 6 => "InvalidDrift" | 7 => "InvalidText" | 8 => "InvalidName" | 9 => "InvalidIndex"
  | 10 => "InvalidClaim" | 11 => "NotADrive" | 12 => "InvalidRows" | 13 => "InvalidLoad" | 14 => "UnknownName" | 15 => "InUse" | 16 => "OtherNames" | 17 => "Sticks" | 18 => "TooMany" | 19 => "NothingToUndo" | 20 => "NotAsked" | _ => "Broken"
def nmB : Nat → Str
  | 0 => "BadValue" | 1 => "BadName" | _ => "NoAnswer"
structure Nm (mg : Str → Option Value) (c b : Nat → Addr) : Prop where
  cl : ∀ k, k < 22 → mg (nm k) = some (.ref (c k))
  bs : ∀ g, g < 3 → mg (nmB g) = some (.ref (b g))
/-- an exception of the class that w tells stands at a -/
def ExA (c b : Nat → Addr) (H : Hp) (a : Addr) (w : Wh) : Prop := ∃ d, H a = some (exo a (w.at c b) d) ∧ ∀ dx, d = some dx → ∃ fs, H dx = some (exd dx fs)
theorem ExA.same {c b : Nat → Addr} {H H' : Hp} {a : Addr} {w : Wh} (h : ExA c b H a w) (s : Same H H') : ExA c b H' a w := by
  obtain ⟨d, e, f⟩ := h
  exact ⟨d, s _ _ e, fun dx z => let ⟨fs, q⟩ := f dx z; ⟨fs, s _ _ q⟩⟩
theorem same_lay {H : Hp} {q : Addr} {o : HO} (h : H q = none) : Same H (upd H q o) := fun x u e => by
  rw [upd_ne (ne_of_none e h)]
  exact e
section
variable {K : PySem.W.Frag} {c b : Nat → Addr}
abbrev tIs (K : PySem.W.Frag) (i : Nat) (v : V) : TE := tCB (rIsX K) (tCons (tVar i) (tCons (tC v) tNil))
theorem CT.exc (T : CT K c b) (w : Wh) : ExcC K (w.at c b) := by
  obtain ⟨os, x, _⟩ := T.any w
  exact x.is
theorem is_read {i : Nat} {v : V} {cv : Value} {σ : L2.St} {H : Hp} {Q : VK} {a : Addr} {w : Wh} {r : Bool} (T : CT K c b) (hσ : σ[i]? = some (some (.ref a))) (e : ExA c b H a w) (hc : ClsV v cv)
    (k : PySem.W.kitOne K (.ref (w.at c b)) cv = some r) (q : Q (.bl r) H) : tIs K i v σ H Q := by
  obtain ⟨d, e1, e2⟩ := e
  exact ⟨_, hσ, a, _, d, v, cv, r, rfl, hc, e1, e2, T.exc w, k, q⟩
theorem comp_read {n : Nat} {l : Addr} {e : V} {bs : List Bool} {H : Hp} {Q : VK} (hn : bs.length = n) (hn2 : n ≤ 1000) (hl : H l = some (.lst (bs.map V.bl)))
    (k : ∀ q, H q = none → Q (.ref q) (upd H q (.lst (((List.range n).filter fun j => bs.getD j false).map fun (j : Nat) => V.int (j : Int))))) :
    tLc (iRng1 (tCons (tC (.int (n : Int))) tNil)) (gName 2) (tB (tOp (rIxL K) (tVar 1) (tVar 2))) (tVar 2) [2] [some e, some (.ref l), none] H Q := by
  refine ⟨(n : Int), rfl, by omega, by omega, fun D hD => ?_⟩
  refine lc_range (lo := 0) (n := n) (fun i H' => H' = upd H D (.lst (((List.range i).filter fun j => bs.getD j false).map fun (j : Nat) => V.int (j : Int)))) rfl ?_ ?_
  · rintro i H' hi rfl
    refine ⟨rfl, _, rfl, _, rfl, l, _, (0 + (i : Int)), .bl (bs.getD i false), rfl, rfl, SqL.of (seen hl hD), ?_, bs.getD i false, rfl, ?_⟩
    · rw [Int.zero_add]
      refine atI_nat ?_
      rw [List.getElem?_map, List.getElem?_eq_getElem (by omega), List.getD_eq_getElem?_getD, List.getElem?_eq_getElem (by omega)]
      rfl
    · rw [List.range_succ, List.filter_append, List.map_append]
      cases hb : bs.getD i false with
      | true =>
        refine iteT ⟨_, rfl, _, upd_same, ?_, ?_⟩
        · rw [List.length_map, sizeLine_eq]
          have := List.length_filter_le (fun j => bs.getD j false) (List.range i)
          rw [List.length_range] at this
          omega
        · have e1 : List.filter (fun j => bs.getD j false) [i] = [i] := List.filter_cons_of_pos (p := fun j => bs.getD j false) (a := i) (l := []) hb
          rw [upd_upd, e1, Int.zero_add]
          rfl
      | false =>
        refine iteF ?_
        have e1 : List.filter (fun j => bs.getD j false) [i] = [] := List.filter_cons_of_neg (p := fun j => bs.getD j false) (a := i) (l := []) (fun z => by rw [hb] at z; cases z)
        rw [e1, List.map_nil, List.append_nil]
  · rintro H' rfl
    exact k D hD
/-- the numbers of the classes, as a list of values -/
def nums (l : List Nat) : List V := l.map fun (j : Nat) => V.int (j : Int)
/-- a def that tells a list of numbers of an exception -/
def spL (c b : Nat → Addr) (R : Wh → List Nat) : Sp := fun vs H Q _ => ∃ (a : Addr) (w : Wh), vs = [.ref a] ∧ ExA c b H a w ∧ ∀ (H' : Hp) (q : Addr), Same H H' → H q = none → H' q = some (.lst (nums (R w))) → Q (.ref q) H'
abbrev spSorts (c b : Nat → Addr) : Sp := spL c b Wh.sorts
abbrev spBases (c b : Nat → Addr) : Sp := spL c b fun w => [w.grp, w.grp + 3]
/-- some = some + [three answers] -/
theorem step3 {D : Ends} {H : Hp} {a l : Addr} {w : Wh} {v1 v2 v3 : V} {u1 u2 u3 : Value} {r1 r2 r3 : Bool} {xs : List V} (T : CT K c b) (e : ExA c b H a w) (hl : H l = some (.lst xs)) (hx : xs.length ≤ 100)
    (h1 : ClsV v1 u1) (h2 : ClsV v2 u2) (h3 : ClsV v3 u3) (k1 : PySem.W.kitOne K (.ref (w.at c b)) u1 = some r1) (k2 : PySem.W.kitOne K (.ref (w.at c b)) u2 = some r2) (k3 : PySem.W.kitOne K (.ref (w.at c b)) u3 = some r3)
    (k : ∀ H' p, Same H H' → H' p = some (.lst (xs ++ [.bl r1, .bl r2, .bl r3])) → D.nx [some (.ref a), some (.ref p), none] H') :
    tAsg (tOp rCat (tVar 1) (tLst (tCons (tIs K 0 v1) (tCons (tIs K 0 v2) (tCons (tIs K 0 v3) tNil))))) (gName 1) D [some (.ref a), some (.ref l), none] H := by
  refine ⟨_, rfl, is_read T rfl e h1 k1 (is_read T rfl e h2 k2 (is_read T rfl e h3 k3 ⟨by show 3 ≤ sizeLine; decide, fun t ht => ?_⟩))⟩
  refine ⟨l, t, _, _, rfl, rfl, seen hl ht, upd_same, ?_, fun p hp => ?_⟩
  · rw [sizeLine_eq]
    show xs.length + 3 ≤ 16777216
    omega
  · exact k _ p ((same_lay ht).trans (same_lay hp)) upd_same
theorem step1 {D : Ends} {H : Hp} {a l : Addr} {w : Wh} {v1 : V} {u1 : Value} {r1 : Bool} {xs : List V} (T : CT K c b) (e : ExA c b H a w) (hl : H l = some (.lst xs)) (hx : xs.length ≤ 100)
    (h1 : ClsV v1 u1) (k1 : PySem.W.kitOne K (.ref (w.at c b)) u1 = some r1)
    (k : ∀ H' p, Same H H' → H' p = some (.lst (xs ++ [.bl r1])) → D.nx [some (.ref a), some (.ref p), none] H') :
    tAsg (tOp rCat (tVar 1) (tLst (tCons (tIs K 0 v1) tNil))) (gName 1) D [some (.ref a), some (.ref l), none] H := by
  refine ⟨_, rfl, is_read T rfl e h1 k1 ⟨by show 1 ≤ sizeLine; decide, fun t ht => ?_⟩⟩
  refine ⟨l, t, _, _, rfl, rfl, seen hl ht, upd_same, ?_, fun p hp => ?_⟩
  · rw [sizeLine_eq]
    show xs.length + 1 ≤ 16777216
    omega
  · exact k _ p ((same_lay ht).trans (same_lay hp)) upd_same
theorem step0 {D : Ends} {H : Hp} {a : Addr} {w : Wh} {v1 v2 v3 : V} {u1 u2 u3 : Value} {r1 r2 r3 : Bool} (T : CT K c b) (e : ExA c b H a w)
    (h1 : ClsV v1 u1) (h2 : ClsV v2 u2) (h3 : ClsV v3 u3) (k1 : PySem.W.kitOne K (.ref (w.at c b)) u1 = some r1) (k2 : PySem.W.kitOne K (.ref (w.at c b)) u2 = some r2) (k3 : PySem.W.kitOne K (.ref (w.at c b)) u3 = some r3)
    (k : ∀ H' p, Same H H' → H' p = some (.lst [.bl r1, .bl r2, .bl r3]) → D.nx [some (.ref a), some (.ref p), none] H') :
    tAsg (tLst (tCons (tIs K 0 v1) (tCons (tIs K 0 v2) (tCons (tIs K 0 v3) tNil)))) (gName 1) D [some (.ref a), none, none] H :=
  is_read T rfl e h1 k1 (is_read T rfl e h2 k2 (is_read T rfl e h3 k3 ⟨by show 3 ≤ sizeLine; decide, fun t ht => k _ t (same_lay ht) upd_same⟩))
end
section
variable {P : Program} {w : World} {K : PySem.W.Frag} {mg : Str → Option Value} {base : Heap} {c b : Nat → Addr}
theorem ok_bases {f : Addr} {fd : FuncData} (F : Fun K "_law_bases" "_law_bases" sBases f fd) (B : Bl mg) (T : CT K c b) (N : Nm mg c b) : FnOk P w K mg base CX0 1 f fd ["_law_e"] (spBases c b) := by
  refine F.ok scBases (fun vs H Q E h => ?_) (fun cdv A outer s H vs Q E hr h => ?_)
  · obtain ⟨a, w, rfl, _⟩ := h
    rfl
  obtain ⟨a, w, rfl, ea, k⟩ := h
  refine ⟨_, pss_cons (ps_set (i := 1) scBases.nd rfl (.inr rfl) (pe_lst (pa_cons (pe_callB call_isX (by rfl) B.isi bIsi (pa_cons (pv 0) (pa_cons (pe_glob (v := .ref (b 0)) rfl (N.bs 0 (by decide)) rfl) pa_nil)))
        (pa_cons (pe_callB call_isX (by rfl) B.isi bIsi (pa_cons (pv 0) (pa_cons (pe_glob (v := .ref (b 1)) rfl (N.bs 1 (by decide)) rfl) pa_nil))) (pa_cons (pe_callB call_isX (by rfl) B.isi bIsi (pa_cons (pv 0) (pa_cons (pe_glob (v := .ref (b 2)) rfl (N.bs 2 (by decide)) rfl) pa_nil))) pa_nil)))))
    (pss_cons (ps_set (i := 1) scBases.nd rfl (.inr rfl) (pe_op op_cat (pv 1) (pe_lst (pa_cons (pe_callB call_isX (by rfl) B.isi bIsi (pa_cons (pv 0) (pa_cons (pe_bltn (v := .ty "ValueError") (by rfl) B.ve (by decide +kernel) rfl) pa_nil)))
        (pa_cons (pe_callB call_isX (by rfl) B.isi bIsi (pa_cons (pv 0) (pa_cons (pe_bltn (v := .ty "LookupError") (by rfl) B.le (by decide +kernel) rfl) pa_nil)))
        (pa_cons (pe_callB call_isX (by rfl) B.isi bIsi (pa_cons (pv 0) (pa_cons (pe_bltn (v := .ty "ArithmeticError") (by rfl) B.ae (by decide +kernel) rfl) pa_nil))) pa_nil))))))
    (pss_one (ps_ret (pe_lc (own := [("_law_k", 2)]) (g := gName 2) (tt := tB (tOp (rIxL K) (tVar 1) (tVar 2))) (te := tVar 2) rfl scBases.nd (pi_range1 (by rfl) B.range (pa_cons pe_int pa_nil)) (blkOk_by (own := [("_law_k", 2)]) (N := ["_law_e", "_law_some", "_law_k"]) (sc := defScope sBases) (by decide +kernel))
      (fun _ _ _ _ _ => pg_name (i := 2) scBases.nd rfl (Or.inl rfl)) (fun _ _ _ _ _ => pts_one (pt_val (pe_ix ix_list (pv 1) (pv 2) (fun _ _ => rfl)))) (fun _ _ _ _ _ => pv 2))))), ?_⟩
  refine step0 T ea (.own _) (.own _) (.own _) (kit_base T w 0 (by decide)) (kit_base T w 1 (by decide)) (kit_base T w 2 (by decide)) fun H1 p1 s1 e1 => ?_
  refine step3 T (ea.same s1) e1 (by show 3 ≤ 100; decide) (.ty _) (.ty _) (.ty _) (kit_py T w 0 (by decide)) (kit_py T w 1 (by decide)) (kit_py T w 2 (by decide)) fun H2 p2 s2 e2 => ?_
  refine comp_read (n := 6) (bs := [w.grp == 0, w.grp == 1, w.grp == 2, w.grp == 0, w.grp == 1, w.grp == 2]) rfl (by decide) e2 fun q hq => ?_
  refine k _ q ((s1.trans s2).trans (same_lay hq)) ((s1.trans s2).free hq) ?_
  rw [upd_same]
  show some (HO.lst _) = some (HO.lst (nums [w.grp, w.grp + 3]))
  have h3 := w.grp_lt
  generalize w.grp = g at h3 ⊢
  have c3 : g = 0 ∨ g = 1 ∨ g = 2 := by omega
  rcases c3 with rfl | rfl | rfl <;> rfl
theorem pick22 : ∀ k, k < 22 → ((List.range 22).filter fun j => ((List.range 22).map fun i => [k].contains i).getD j false) = [k] := by decide +kernel
theorem pick0 : ((List.range 22).filter fun j => ((List.range 22).map fun i => ([] : List Nat).contains i).getD j false) = [] := by decide +kernel
theorem ok_sorts {f : Addr} {fd : FuncData} (F : Fun K "_law_sorts" "_law_sorts" sSorts f fd) (B : Bl mg) (T : CT K c b) (N : Nm mg c b) : FnOk P w K mg base CX0 1 f fd ["_law_e"] (spSorts c b) := by
  refine F.ok scSorts (fun vs H Q E h => ?_) (fun cdv A outer s H vs Q E hr h => ?_)
  · obtain ⟨a, w, rfl, _⟩ := h
    rfl
  obtain ⟨a, w, rfl, ea, k⟩ := h
  refine ⟨_, (pss_cons (ps_set (i := 1) scSorts.nd rfl (.inr rfl) (pe_lst (pa_cons (pe_callB call_isX (by rfl) B.isi bIsi (pa_cons (pv 0) (pa_cons (pe_glob (v := .ref (c 0)) rfl (N.cl 0 (by decide)) rfl) pa_nil))) (pa_cons (pe_callB call_isX (by rfl) B.isi bIsi (pa_cons (pv 0) (pa_cons (pe_glob (v := .ref (c 1)) rfl (N.cl 1 (by decide)) rfl) pa_nil))) (pa_cons (pe_callB call_isX (by rfl) B.isi bIsi (pa_cons (pv 0) (pa_cons (pe_glob (v := .ref (c 2)) rfl (N.cl 2 (by decide)) rfl) pa_nil))) pa_nil)))))
    (pss_cons (ps_set (i := 1) scSorts.nd rfl (.inr rfl) (pe_op op_cat (pv 1) (pe_lst (pa_cons (pe_callB call_isX (by rfl) B.isi bIsi (pa_cons (pv 0) (pa_cons (pe_glob (v := .ref (c 3)) rfl (N.cl 3 (by decide)) rfl) pa_nil))) (pa_cons (pe_callB call_isX (by rfl) B.isi bIsi (pa_cons (pv 0) (pa_cons (pe_glob (v := .ref (c 4)) rfl (N.cl 4 (by decide)) rfl) pa_nil))) (pa_cons (pe_callB call_isX (by rfl) B.isi bIsi (pa_cons (pv 0) (pa_cons (pe_glob (v := .ref (c 5)) rfl (N.cl 5 (by decide)) rfl) pa_nil))) pa_nil))))))
    (pss_cons (ps_set (i := 1) scSorts.nd rfl (.inr rfl) (pe_op op_cat (pv 1) (pe_lst (pa_cons (pe_callB call_isX (by rfl) B.isi bIsi (pa_cons (pv 0) (pa_cons (pe_glob (v := .ref (c 6)) rfl (N.cl 6 (by decide)) rfl) pa_nil))) (pa_cons (pe_callB call_isX (by rfl) B.isi bIsi (pa_cons (pv 0) (pa_cons (pe_glob (v := .ref (c 7)) rfl (N.cl 7 (by decide)) rfl) pa_nil))) (pa_cons (pe_callB call_isX (by rfl) B.isi bIsi (pa_cons (pv 0) (pa_cons (pe_glob (v := .ref (c 8)) rfl (N.cl 8 (by decide)) rfl) pa_nil))) pa_nil))))))
    (pss_cons (ps_set (i := 1) scSorts.nd rfl (.inr rfl) (pe_op op_cat (pv 1) (pe_lst (pa_cons (pe_callB call_isX (by rfl) B.isi bIsi (pa_cons (pv 0) (pa_cons (pe_glob (v := .ref (c 9)) rfl (N.cl 9 (by decide)) rfl) pa_nil))) (pa_cons (pe_callB call_isX (by rfl) B.isi bIsi (pa_cons (pv 0) (pa_cons (pe_glob (v := .ref (c 10)) rfl (N.cl 10 (by decide)) rfl) pa_nil))) (pa_cons (pe_callB call_isX (by rfl) B.isi bIsi (pa_cons (pv 0) (pa_cons (pe_glob (v := .ref (c 11)) rfl (N.cl 11 (by decide)) rfl) pa_nil))) pa_nil))))))
    (pss_cons (ps_set (i := 1) scSorts.nd rfl (.inr rfl) (pe_op op_cat (pv 1) (pe_lst (pa_cons (pe_callB call_isX (by rfl) B.isi bIsi (pa_cons (pv 0) (pa_cons (pe_glob (v := .ref (c 12)) rfl (N.cl 12 (by decide)) rfl) pa_nil))) (pa_cons (pe_callB call_isX (by rfl) B.isi bIsi (pa_cons (pv 0) (pa_cons (pe_glob (v := .ref (c 13)) rfl (N.cl 13 (by decide)) rfl) pa_nil))) (pa_cons (pe_callB call_isX (by rfl) B.isi bIsi (pa_cons (pv 0) (pa_cons (pe_glob (v := .ref (c 14)) rfl (N.cl 14 (by decide)) rfl) pa_nil))) pa_nil))))))
    (pss_cons (ps_set (i := 1) scSorts.nd rfl (.inr rfl) (pe_op op_cat (pv 1) (pe_lst (pa_cons (pe_callB call_isX (by rfl) B.isi bIsi (pa_cons (pv 0) (pa_cons (pe_glob (v := .ref (c 15)) rfl (N.cl 15 (by decide)) rfl) pa_nil))) (pa_cons (pe_callB call_isX (by rfl) B.isi bIsi (pa_cons (pv 0) (pa_cons (pe_glob (v := .ref (c 16)) rfl (N.cl 16 (by decide)) rfl) pa_nil))) (pa_cons (pe_callB call_isX (by rfl) B.isi bIsi (pa_cons (pv 0) (pa_cons (pe_glob (v := .ref (c 17)) rfl (N.cl 17 (by decide)) rfl) pa_nil))) pa_nil))))))
    (pss_cons (ps_set (i := 1) scSorts.nd rfl (.inr rfl) (pe_op op_cat (pv 1) (pe_lst (pa_cons (pe_callB call_isX (by rfl) B.isi bIsi (pa_cons (pv 0) (pa_cons (pe_glob (v := .ref (c 18)) rfl (N.cl 18 (by decide)) rfl) pa_nil))) (pa_cons (pe_callB call_isX (by rfl) B.isi bIsi (pa_cons (pv 0) (pa_cons (pe_glob (v := .ref (c 19)) rfl (N.cl 19 (by decide)) rfl) pa_nil))) (pa_cons (pe_callB call_isX (by rfl) B.isi bIsi (pa_cons (pv 0) (pa_cons (pe_glob (v := .ref (c 20)) rfl (N.cl 20 (by decide)) rfl) pa_nil))) pa_nil))))))
    (pss_cons (ps_set (i := 1) scSorts.nd rfl (.inr rfl) (pe_op op_cat (pv 1) (pe_lst (pa_cons (pe_callB call_isX (by rfl) B.isi bIsi (pa_cons (pv 0) (pa_cons (pe_glob (v := .ref (c 21)) rfl (N.cl 21 (by decide)) rfl) pa_nil))) pa_nil))))
    (pss_one (ps_ret (pe_lc (own := [("_law_k", 2)]) (g := gName 2) (tt := tB (tOp (rIxL K) (tVar 1) (tVar 2))) (te := tVar 2) rfl scSorts.nd (pi_range1 (by rfl) B.range (pa_cons pe_int pa_nil)) (blkOk_by (own := [("_law_k", 2)]) (N := ["_law_e", "_law_some", "_law_k"]) (sc := defScope sSorts) (by decide +kernel))
      (fun _ _ _ _ _ => pg_name (i := 2) scSorts.nd rfl (Or.inl rfl)) (fun _ _ _ _ _ => pts_one (pt_val (pe_ix ix_list (pv 1) (pv 2) (fun _ _ => rfl)))) (fun _ _ _ _ _ => pv 2)))))))))))), ?_⟩
  refine step0 T ea (.own _) (.own _) (.own _) (kit_num T w 0 (by decide)) (kit_num T w 1 (by decide)) (kit_num T w 2 (by decide)) fun H1 p1 s1 e1 => ?_
  refine step3 T (ea.same s1) e1 (by show 3 ≤ 100; decide) (.own _) (.own _) (.own _) (kit_num T w 3 (by decide)) (kit_num T w 4 (by decide)) (kit_num T w 5 (by decide)) fun H2 p2 t2 e2 => ?_
  have s2 := s1.trans t2
  refine step3 T (ea.same s2) e2 (by show 6 ≤ 100; decide) (.own _) (.own _) (.own _) (kit_num T w 6 (by decide)) (kit_num T w 7 (by decide)) (kit_num T w 8 (by decide)) fun H3 p3 t3 e3 => ?_
  have s3 := s2.trans t3
  refine step3 T (ea.same s3) e3 (by show 9 ≤ 100; decide) (.own _) (.own _) (.own _) (kit_num T w 9 (by decide)) (kit_num T w 10 (by decide)) (kit_num T w 11 (by decide)) fun H4 p4 t4 e4 => ?_
  have s4 := s3.trans t4
  refine step3 T (ea.same s4) e4 (by show 12 ≤ 100; decide) (.own _) (.own _) (.own _) (kit_num T w 12 (by decide)) (kit_num T w 13 (by decide)) (kit_num T w 14 (by decide)) fun H5 p5 t5 e5 => ?_
  have s5 := s4.trans t5
  refine step3 T (ea.same s5) e5 (by show 15 ≤ 100; decide) (.own _) (.own _) (.own _) (kit_num T w 15 (by decide)) (kit_num T w 16 (by decide)) (kit_num T w 17 (by decide)) fun H6 p6 t6 e6 => ?_
  have s6 := s5.trans t6
  refine step3 T (ea.same s6) e6 (by show 18 ≤ 100; decide) (.own _) (.own _) (.own _) (kit_num T w 18 (by decide)) (kit_num T w 19 (by decide)) (kit_num T w 20 (by decide)) fun H7 p7 t7 e7 => ?_
  have s7 := s6.trans t7
  refine step1 T (ea.same s7) e7 (by show 21 ≤ 100; decide) (.own _) (kit_num T w 21 (by decide)) fun H8 p8 t8 e8 => ?_
  have s8 := s7.trans t8
  refine comp_read (n := 22) (bs := [w.sorts.contains 0, w.sorts.contains 1, w.sorts.contains 2, w.sorts.contains 3, w.sorts.contains 4, w.sorts.contains 5, w.sorts.contains 6, w.sorts.contains 7, w.sorts.contains 8, w.sorts.contains 9, w.sorts.contains 10, w.sorts.contains 11, w.sorts.contains 12, w.sorts.contains 13, w.sorts.contains 14, w.sorts.contains 15, w.sorts.contains 16, w.sorts.contains 17, w.sorts.contains 18, w.sorts.contains 19, w.sorts.contains 20, w.sorts.contains 21]) rfl (by decide) e8 fun q hq => ?_
  refine k _ q (s8.trans (same_lay hq)) (s8.free hq) ?_
  rw [upd_same]
  cases w with
  | num k0 h => exact congrArg (fun l : List Nat => some (HO.lst (nums l))) (pick22 k0 h)
  | base g h => exact congrArg (fun l : List Nat => some (HO.lst (nums l))) pick0
end
end K1

set_option Elab.async false
set_option linter.all false
set_option maxRecDepth 100000
set_option maxHeartbeats 4000000
namespace K1
open PySem PySem.Spec PyProof.Rows L2 G1
abbrev sFits : Stmt := topS 45
abbrev sSame : Stmt := topS 46
theorem scFits : FnScope ["_law_e", "_law_at", "_law_base"] ["_law_e", "_law_at"] (defScope sFits) := ⟨rfl, rfl, rfl, by decide +kernel, rfl, by decide +kernel, by decide +kernel⟩
theorem scSame : FnScope ["_law_told", "_law_thing"] ["_law_told", "_law_thing"] (defScope sSame) := ⟨rfl, rfl, rfl, by decide +kernel, rfl, by decide +kernel, by decide +kernel⟩
theorem bRepr : bootBuiltins "repr" = some (.builtin "repr") := by decide +kernel
def spFits (c b : Nat → Addr) : Sp := fun vs H Q _ => ∃ (a : Addr) (k : Nat) (h : k < 22), vs = [.ref a, .int (k : Int)] ∧ ExA c b H a (.num k h) ∧ ∀ H' : Hp, Same H H' → Q (.bl true) H'
def spSame (K : PySem.W.Frag) : Sp := fun vs H Q _ => ∃ v : V, vs = [v, v] ∧ Th K H v ∧ Q (.bl true) H
section
variable {P : Program} {w : World} {K : PySem.W.Frag} {mg : Str → Option Value} {base : Heap} {c b : Nat → Addr}
theorem ok_same {f : Addr} {fd : FuncData} (F : Fun K "_law_same" "_law_same" sSame f fd) (B : Bl mg) : FnG P w K mg base 1 f fd ["_law_told", "_law_thing"] (spSame K) := by
  refine okG F scSame (fun vs H Q E h => ?_) (fun cdv A outer s H vs Q E hgu hr h => ?_)
  · obtain ⟨v, rfl, _⟩ := h
    rfl
  obtain ⟨v, rfl, ⟨d, tg, gd⟩, q⟩ := h
  have hu := hr.units
  refine ⟨_, pss_one (ps_ret (pe_and (pe_cmpR op_eq (pe_callB (call_repr hgu hu) (by rfl) B.repr bRepr (pa_cons (pv 0) pa_nil)) (pe_callB (call_repr hgu hu) (by rfl) B.repr bRepr (pa_cons (pv 1) pa_nil)) (nomark _))
    (pe_one (pe_cmpR (op_eqSame hu) (pv 0) (pv 1) (nomark _))))), ?_⟩
  refine ⟨_, rfl, v, d, rfl, tg, gd, _, rfl, v, d, rfl, tg, gd, rfl, _, rfl, ?_⟩
  rw [decide_eq_true rfl]
  refine iteT ?_
  exact ⟨_, rfl, _, rfl, rfl, ⟨d, tg⟩, q⟩
theorem sh1 (i : Int) : SeqAt.shaped (.list [.int i]) = true := sh0 (by simp [PyData.canLay0, PyData.canLayAll0]) (by simp [PyData.depth, PyData.depthAll])
theorem sh2 (i j : Int) : SeqAt.shaped (.list [.int i, .int j]) = true := sh0 (by simp [PyData.canLay0, PyData.canLayAll0]) (by simp [PyData.depth, PyData.depthAll])
theorem ok_fits {f fS fB : Addr} {fd fdS fdB : FuncData} (F : Fun K "_law_fits" "_law_fits" sFits f fd) (B : Bl mg) (T : CT K c b) (N : Nm mg c b) (FS : Fun K "_law_sorts" "_law_sorts" sSorts fS fdS) (bS : Binds K fdS ["_law_e"] []) (gS : mg "_law_sorts" = some (.ref fS))
    (FB : Fun K "_law_bases" "_law_bases" sBases fB fdB) (bB : Binds K fdB ["_law_e"] []) (gB : mg "_law_bases" = some (.ref fB)) : FnOk P w K mg base CX0 2 f fd ["_law_e", "_law_at"] (spFits c b) := by
  have GS : FnOk P w K mg base CX0 1 fS fdS ["_law_e"] (spSorts c b) := ok_sorts FS B T N
  have GB : FnOk P w K mg base CX0 1 fB fdB ["_law_e"] (spBases c b) := ok_bases FB B T N
  refine F.ok scFits (fun vs H Q E h => ?_) (fun cdv A outer s H vs Q E hr h => ?_)
  · obtain ⟨a, k, h, rfl, _⟩ := h
    rfl
  obtain ⟨a, k, hk, rfl, ea, q⟩ := h
  have hu := hr.units
  refine ⟨_, pss_cons (ps_set (i := 2) scFits.nd rfl (.inl rfl) pe_int)
    (pss_cons (ps_if (pt_cmpR op_gt (pv 1) pe_int (nomark _)) (pss_one (ps_set (i := 2) scFits.nd rfl (.inl rfl) (pe_ifExp (pt_cmpR op_lt (pv 1) pe_int (nomark _)) pe_int pe_int))) pss_nil)
    (pss_one (ps_ret (pe_and (pe_cmpR (op_eqD hu) (pe_call GS hr (by rfl) gS FS.kp bS .nil pass0 (pa_cons (pv 0) pa_nil)) (pe_lst (pa_cons (pv 1) pa_nil)) (nomark _))
      (pe_one (pe_cmpR (op_eqD hu) (pe_call GB hr (by rfl) gB FB.kp bB .nil pass0 (pa_cons (pv 0) pa_nil)) (pe_lst (pa_cons (pv 2) (pa_cons (pe_op op_add (pv 2) pe_int) pa_nil))) (nomark _))))))), ?_⟩
  have fin : ∀ g : Int, g = (bse k : Int) → tRet (tAndV (tOp (rEqD K) (tCall (spSorts c b) [] E0 (tCons (tVar 0) tNil)) (tLst (tCons (tVar 1) tNil)))
      (tOp (rEqD K) (tCall (spBases c b) [] E0 (tCons (tVar 0) tNil)) (tLst (tCons (tVar 2) (tCons (tOp (rI0 fun i j => .int (i + j)) (tVar 2) (tC (.int 3))) tNil)))))
      { nx := fun _ H' => Q .non H', rt := Q } [some (.ref a), some (.int (k : Int)), some (.int g)] H := by
    intro g hg
    refine ⟨_, rfl, a, .num k hk, rfl, ea, fun H1 q1 s1 _ e1 => ?_⟩
    refine ⟨_, rfl, by show 1 ≤ sizeLine; decide, fun t ht => ?_⟩
    refine ⟨.list [.int (k : Int)], .list [.int (k : Int)], .lst (SqL.of (seen e1 ht)) (.cons (.int _) .nil), .lst (SqL.of upd_same) (.cons (.int _) .nil), sh1 _, sh1 _, _, rfl, ?_⟩
    have ev : PyData.eqv (.list [.int (k : Int)]) (.list [.int (k : Int)]) = true := by simp [PyData.eqv, PyData.eqvAll]
    rw [ev]
    refine iteT ?_
    have s2 : Same H (upd H1 t (.lst [.int (k : Int)])) := s1.trans (same_lay ht)
    refine ⟨_, rfl, a, .num k hk, rfl, ea.same s2, fun H3 q3 s3 _ e3 => ?_⟩
    refine ⟨_, rfl, _, rfl, _, _, rfl, rfl, by show 2 ≤ sizeLine; decide, fun t4 ht4 => ?_⟩
    refine ⟨.list [.int (bse k : Int), .int (bse k + 3 : Nat)], .list [.int g, .int (g + 3)], .lst (SqL.of (seen e3 ht4)) (.cons (.int _) (.cons (.int _) .nil)), .lst (SqL.of upd_same) (.cons (.int _) (.cons (.int _) .nil)), sh2 _ _, sh2 _ _, ?_⟩
    have ev2 : PyData.eqv (.list [.int (bse k : Int), .int (bse k + 3 : Nat)]) (.list [.int g, .int (g + 3)]) = true := by
      subst hg
      simp [PyData.eqv, PyData.eqvAll]
    rw [ev2]
    exact q _ ((s2.trans s3).trans (same_lay ht4))
  refine ⟨_, rfl, _, _, rfl, rfl, _, rfl, ite2 (fun z => ?_) (fun z => ?_)⟩
  · have z' : 13 < (k : Int) := of_decide_eq_true z
    refine ⟨_, rfl, _, _, rfl, rfl, _, rfl, ite2 (fun y => ?_) (fun y => ?_)⟩
    · have y' : (k : Int) < 16 := of_decide_eq_true y
      refine fin 1 ?_
      unfold bse
      rw [if_neg (by omega), if_pos (by omega)]
      rfl
    · have y' : ¬ (k : Int) < 16 := fun u => y (decide_eq_true u)
      refine fin 2 ?_
      unfold bse
      rw [if_neg (by omega), if_neg (by omega)]
      rfl
  · have z' : ¬ 13 < (k : Int) := fun u => z (decide_eq_true u)
    refine fin 0 ?_
    unfold bse
    rw [if_pos (by omega)]
    rfl
end
end K1

set_option Elab.async false
set_option linter.all false
set_option maxRecDepth 100000
set_option maxHeartbeats 4000000
namespace K1
open PySem PySem.Spec PyProof.Rows L2 G1
abbrev sNear : Stmt := topS 47
abbrev sFar : Stmt := topS 48
abbrev sCnt : Stmt := topS 49
theorem scNear : FnScope ["_law_thing", "_law_some", "_law_k"] ["_law_thing"] (defScope sNear) := ⟨rfl, rfl, rfl, by decide +kernel, rfl, by decide +kernel, by decide +kernel⟩
theorem scFar : FnScope ["_law_thing", "_law_some", "_law_k"] ["_law_thing"] (defScope sFar) := ⟨rfl, rfl, rfl, by decide +kernel, rfl, by decide +kernel, by decide +kernel⟩
theorem scCnt : FnScope ["_law_thing", "_law_some"] ["_law_thing"] (defScope sCnt) := ⟨rfl, rfl, rfl, by decide +kernel, rfl, by decide +kernel, by decide +kernel⟩
abbrev app {α : Type} : List α → List α → List α := fun us ws => us ++ ws
/-- the k-th class keeps one value, as f -/
structure I1 (P : Program) (w : World) (K : PySem.W.Frag) (mg : Str → Option Value) (base : Heap) (c : Nat → Addr) (k : Nat) (f : Str) (fI : Addr) (fd : FuncData) : Prop where
  ini : PySem.W.findIn K (.ref (c k)) "__init__" = some (some (.ref fI))
  fn : PySem.W.typeIn K (.ref fI) = some (.type "function")
  ok : FnOk P w K mg base CX0 1 fI fd ["self", f] (spIni1 (c k) f)
  bp : XB K fd ["self", f] [] app app
  bk : XB K fd ["self", f] [f] app app
  no : PySem.W.findIn K (.ref (c k)) f = some none
structure I2 (P : Program) (w : World) (K : PySem.W.Frag) (mg : Str → Option Value) (base : Heap) (c : Nat → Addr) (k : Nat) (f1 f2 : Str) (fI : Addr) (fd : FuncData) : Prop where
  ini : PySem.W.findIn K (.ref (c k)) "__init__" = some (some (.ref fI))
  fn : PySem.W.typeIn K (.ref fI) = some (.type "function")
  ok : FnOk P w K mg base CX0 1 fI fd ["self", f1, f2] (spIni2 (c k) f1 f2)
  bp : XB K fd ["self", f1, f2] [] app app
  bk : XB K fd ["self", f1, f2] [f2, f1] (fun us ws => us ++ ws.reverse) (fun us ws => us ++ ws.reverse)
  bm : XB K fd ["self", f1, f2] [f2] app app
  no1 : PySem.W.findIn K (.ref (c k)) f1 = some none
  no2 : PySem.W.findIn K (.ref (c k)) f2 = some none
/-- an exception of the k-th class at a; its field f is v -/
def ExF (c : Nat → Addr) (H : Hp) (a : Addr) (k : Nat) (f : Str) (v : V) : Prop := ∃ dx fs, H a = some (exo a (c k) (some dx)) ∧ H dx = some (exd dx fs) ∧ fs.lookup f = some v
/-- all objects but lists stay -/
def Nl (H H' : Hp) : Prop := ∀ b o, (∀ l, o ≠ .lst l) → H b = some o → H' b = some o
theorem Nl.of {H H' : Hp} (s : Same H H') : Nl H H' := fun x o _ e => s x o e
theorem Nl.trans {H H1 H2 : Hp} (a : Nl H H1) (b : Nl H1 H2) : Nl H H2 := fun x o n e => b x o n (a x o n e)
theorem Nl.set {H : Hp} {D : Addr} {l l' : List V} (h : H D = some (.lst l)) : Nl H (upd H D (.lst l')) := fun x o n e => by
  have ne : x ≠ D := fun z => by
    rw [z, h] at e
    exact n l (Option.some.inj e).symm
  rw [upd_ne ne]
  exact e
theorem exo_lst {a C : Addr} {d : Option Addr} (l : List V) : exo a C d ≠ .lst l := fun z => by
  have z' : HO.ext _ = HO.lst l := z
  cases z'
theorem exd_lst {a : Addr} {fs : List (Str × V)} (l : List V) : exd a fs ≠ .lst l := fun z => by
  have z' : HO.ext _ = HO.lst l := z
  cases z'
theorem ExF.nl {c : Nat → Addr} {H H' : Hp} {a : Addr} {k : Nat} {f : Str} {v : V} (h : ExF c H a k f v) (n : Nl H H') : ExF c H' a k f v := by
  obtain ⟨dx, fs, h1, h2, h3⟩ := h
  exact ⟨dx, fs, n _ _ exo_lst h1, n _ _ exd_lst h2, h3⟩
theorem ExF.exA {c b : Nat → Addr} {H : Hp} {a : Addr} {k : Nat} {f : Str} {v : V} (h : ExF c H a k f v) (hk : k < 22) : ExA c b H a (.num k hk) := by
  obtain ⟨dx, fs, h1, h2, h3⟩ := h
  exact ⟨some dx, h1, fun d e => by cases e; exact ⟨fs, h2⟩⟩
/-- the one field of a class -/
def fld : Nat → Str
  | 12 => "index" | 13 => "index" | 15 => "index" | 20 => "index" | 18 => "limit" | _ => "given"
/-- the k-th class keeps f alone -/
def Okf (k : Nat) (f : Str) : Prop := k < 21 ∧ k ≠ 16 ∧ k ≠ 17 ∧ k ≠ 19 ∧ fld k = f
instance (k : Nat) (f : Str) : Decidable (Okf k f) := inferInstanceAs (Decidable (k < 21 ∧ k ≠ 16 ∧ k ≠ 17 ∧ k ≠ 19 ∧ fld k = f))
/-- a pair of a class's number and such an exception -/
def Row (c : Nat → Addr) (H : Hp) (f : Str) (v x : V) : Prop := ∃ (t a : Addr) (k : Nat), Okf k f ∧ x = .ref t ∧ H t = some (.tup [.int (k : Int), .ref a]) ∧ ExF c H a k f v
theorem Row.nl {c : Nat → Addr} {H H' : Hp} {f : Str} {v x : V} (h : Row c H f v x) (n : Nl H H') : Row c H' f v x := by
  obtain ⟨t, a, k, hk, e, h1, h2⟩ := h
  exact ⟨t, a, k, hk, e, n _ _ (fun l z => by cases z) h1, h2.nl n⟩
section
variable {c : Nat → Addr} {k : Nat} {f : Str} {v : V} {σ : L2.St} {H : Hp} {Q : VK} {i : Nat}
theorem mk_new (q : ∀ (H' : Hp) (a : Addr), Same H H' → ExF c H' a k f v → Q (.ref a) H') (a : Addr) (na : H a = none) :
    spIni1 (c k) f [.ref a, v] (upd H a (exo a (c k) none)) (fun u H3 => u = .non ∧ Q (.ref a) H3) E0 := by
  refine ⟨a, v, rfl, upd_same, fun dx nd ne => ⟨rfl, q _ a (fun x o e => ?_) ⟨dx, [(f, v)], upd_same, ?_, ?_⟩⟩⟩
  · have h1 : x ≠ a := ne_of_none e na
    have e' : (upd H a (exo a (c k) none)) x = some o := by rw [upd_ne h1]; exact e
    rw [upd_ne h1, upd_ne (ne_of_none e' nd)]
    exact e'
  · rw [upd_ne ne]
    exact upd_same
  · simp [List.lookup]
theorem mkp_read (hσ : σ[i]? = some (some v)) (q : ∀ (H' : Hp) (a : Addr), Same H H' → ExF c H' a k f v → Q (.ref a) H') : tMkX (c k) 0 (spIni1 (c k) f) app (tCons (tVar i) tNil) tNil σ H Q :=
  ⟨v, hσ, by show 1 ≤ 1000; decide, rfl, fun a na => mk_new q a na⟩
theorem mkk_read (hσ : σ[i]? = some (some v)) (q : ∀ (H' : Hp) (a : Addr), Same H H' → ExF c H' a k f v → Q (.ref a) H') : tMkX (c k) 1 (spIni1 (c k) f) app tNil (tCons (tVar i) tNil) σ H Q :=
  ⟨v, hσ, by show 0 ≤ 1000; decide, rfl, fun a na => mk_new q a na⟩
end
/-- the exceptions, one behind another, of the classes ks -/
def Exs (c : Nat → Addr) (H : Hp) (f : Str) (v : V) (ks : List Nat) (xs : List V) : Prop := Paired (fun k x => ∃ a, x = V.ref a ∧ ExF c H a k f v) ks xs
theorem Exs.nl {c : Nat → Addr} {H H' : Hp} {f : Str} {v : V} {ks : List Nat} {xs : List V} (h : Exs c H f v ks xs) (n : Nl H H') : Exs c H' f v ks xs :=
  Paired.mapP h fun k x z => let ⟨a, e, q⟩ := z; ⟨a, e, q.nl n⟩
theorem Exs.app {c : Nat → Addr} {H : Hp} {f : Str} {v : V} : ∀ {ks ks' : List Nat} {xs xs' : List V}, Exs c H f v ks xs → Exs c H f v ks' xs' → Exs c H f v (ks ++ ks') (xs ++ xs')
  | _, _, _, _, .nil, h => h
  | _, _, _, _, .cons r t, h => .cons r (Exs.app t h)
theorem Exs.get {c : Nat → Addr} {H : Hp} {f : Str} {v : V} : ∀ {ks : List Nat} {xs : List V} {i k : Nat}, Exs c H f v ks xs → ks[i]? = some k → ∃ a, xs[i]? = some (.ref a) ∧ ExF c H a k f v
  | _, _, _, _, .nil, e => by simp at e
  | _, _, 0, k, .cons r _, e => by
    simp at e
    subst e
    obtain ⟨a, rfl, q⟩ := r
    exact ⟨a, rfl, q⟩
  | _, _, i + 1, k, .cons _ t, e => by
    obtain ⟨a, h1, h2⟩ := Exs.get (i := i) (k := k) t (by simpa using e)
    exact ⟨a, by simpa using h1, h2⟩
/-- [(k, some[k]) for k in range(12)] -/
theorem ok12 : ∀ i, i < 12 → Okf i "given" := by decide +kernel
theorem pairs_read {K : PySem.W.Frag} {c : Nat → Addr} {v e : V} {l : Addr} {xs : List V} {H : Hp} {Q : VK} (hl : H l = some (.lst xs)) (hx : Exs c H "given" v (List.range 12) xs)
    (k : ∀ (H' : Hp) (q : Addr) (ys : List V), Same H H' → H' q = some (.lst ys) → ys.length = 12 → (∀ y ∈ ys, Row c H' "given" v y) → Q (.ref q) H') :
    tLc (iRng1 (tCons (tC (.int 12)) tNil)) (gName 2) tYes (tTup (tCons (tVar 2) (tCons (tOp (rIxL K) (tVar 1) (tVar 2)) tNil))) [2] [some e, some (.ref l), none] H Q := by
  refine ⟨12, rfl, by decide, by decide, fun D hD => ?_⟩
  refine lc_range (lo := 0) (n := 12) (fun i H' => Same H H' ∧ ∃ ys, H' D = some (.lst ys) ∧ ys.length = i ∧ ∀ y ∈ ys, Row c H' "given" v y) ⟨same_lay hD, [], upd_same, rfl, fun y hy => by cases hy⟩ ?_ ?_
  · rintro i H' hi ⟨s1, ys, hy, ly, ry⟩
    obtain ⟨a, ha, fa⟩ := hx.get (i := i) (k := i) (by rw [List.getElem?_range hi])
    refine ⟨rfl, ?_⟩
    unfold tYes
    dsimp only
    rw [if_pos rfl]
    refine ⟨_, rfl, _, rfl, _, rfl, l, xs, (0 + (i : Int)), .ref a, rfl, rfl, SqL.of (s1 _ _ hl), ?_, by show 2 ≤ sizeLine; decide, fun t ht => ?_⟩
    · rw [Int.zero_add]
      exact atI_nat ha
    · have hDt : (upd H' t (.tup [.int (0 + (i : Int)), .ref a])) D = some (.lst ys) := seen hy ht
      have n1 : Nl H' (upd (upd H' t (.tup [.int (0 + (i : Int)), .ref a])) D (.lst (ys ++ [.ref t]))) := (Nl.of (same_lay ht)).trans (Nl.set hDt)
      refine ⟨ys, hDt, ?_, ?_, _, upd_same, ?_, fun y hm => ?_⟩
      · rw [ly, sizeLine_eq]
        omega
      · intro x o z
        have z1 := s1 x o z
        have ne : x ≠ D := ne_of_none z hD
        rw [upd_ne ne]
        exact same_lay ht x o z1
      · rw [List.length_append, ly]
        rfl
      · rcases List.mem_append.mp hm with z | z
        · exact (ry y z).nl n1
        · have ey : y = .ref t := by simpa using z
          subst ey
          refine ⟨t, a, i, ok12 i hi, rfl, ?_, (fa.nl (Nl.of s1)).nl n1⟩
          have ne : t ≠ D := fun z => by
            rw [z] at ht
            rw [hy] at ht
            cases ht
          rw [upd_ne ne, upd_same, Int.zero_add]
  · rintro H' ⟨s1, ys, hy, ly, ry⟩
    exact k H' D ys s1 hy ly ry
end K1

set_option Elab.async false
set_option linter.all false
set_option maxRecDepth 100000
set_option maxHeartbeats 4000000
namespace K1
open PySem PySem.Spec PyProof.Rows L2 G1
structure Is (P : Program) (w : World) (K : PySem.W.Frag) (mg : Str → Option Value) (base : Heap) (c : Nat → Addr) (fI : Nat → Addr) (fd : Nat → FuncData) : Prop where
  i1 : ∀ k, k < 21 → k ≠ 16 → k ≠ 17 → k ≠ 19 → I1 P w K mg base c k (fld k) (fI k) (fd k)
  i2 : I2 P w K mg base c 21 "index" "shown" (fI 21) (fd 21)
theorem seq_asg {te : TE} {g : TG} {t2 : TS} {D : Ends} {σ : L2.St} {H : Hp} (h : te σ H fun x H1 => g x σ H1 (t2 D)) : tSeq (tAsg te g) t2 D σ H := h
theorem lst_read {ta : TA} {σ : L2.St} {H : Hp} {Q : VK} (h : ta σ H fun xs H1 => xs.length ≤ sizeLine ∧ ∀ p, H1 p = none → Q (.ref p) (upd H1 p (.lst xs))) : tLst ta σ H Q := h
theorem tup_read {ta : TA} {σ : L2.St} {H : Hp} {Q : VK} (h : ta σ H fun xs H1 => xs.length ≤ sizeLine ∧ ∀ p, H1 p = none → Q (.ref p) (upd H1 p (.tup xs))) : tTup ta σ H Q := h
theorem cons_read {te : TE} {ta : TA} {σ : L2.St} {H : Hp} {Q : List V → Hp → Prop} (h : te σ H fun x H1 => ta σ H1 fun xs H2 => Q (x :: xs) H2) : tCons te ta σ H Q := h
theorem nil_read {σ : L2.St} {H : Hp} {Q : List V → Hp → Prop} (h : Q [] H) : tNil σ H Q := h
theorem op_read {r : R2} {ta tb : TE} {σ : L2.St} {H : Hp} {Q : VK} (h : ta σ H fun x H1 => tb σ H1 fun y H2 => r x y H2 Q) : tOp r ta tb σ H Q := h
theorem ret_read {te : TE} {D : Ends} {σ : L2.St} {H : Hp} (h : te σ H D.rt) : tRet te D σ H := h
theorem c_read {v : V} {σ : L2.St} {H : Hp} {Q : VK} (h : Q v H) : tC v σ H Q := h
abbrev tP (c : Nat → Addr) (k : Nat) (f : Str) : TE := tMkX (c k) 0 (spIni1 (c k) f) app (tCons (tVar 0) tNil) tNil
abbrev tK (c : Nat → Addr) (k : Nat) (f : Str) : TE := tMkX (c k) 1 (spIni1 (c k) f) app tNil (tCons (tVar 0) tNil)
section
variable {c : Nat → Addr} {f : Str} {v : V} {σ : L2.St} {H : Hp} {Q : VK}
theorem four {k1 k2 k3 k4 : Nat} (hσ : σ[0]? = some (some v)) (q : ∀ (H' : Hp) (t : Addr) (xs : List V), Same H H' → H' t = some (.lst xs) → Exs c H' f v [k1, k2, k3, k4] xs → xs.length = 4 → Q (.ref t) H') :
    tLst (tCons (tP c k1 f) (tCons (tP c k2 f) (tCons (tP c k3 f) (tCons (tP c k4 f) tNil)))) σ H Q := by
  refine lst_read (cons_read ?_)
  refine mkp_read (c := c) (k := k1) (f := f) (v := v) hσ fun H1 a1 s1 x1 => ?_
  refine cons_read ?_
  refine mkp_read (c := c) (k := k2) (f := f) (v := v) hσ fun H2 a2 s2 x2 => ?_
  refine cons_read ?_
  refine mkp_read (c := c) (k := k3) (f := f) (v := v) hσ fun H3 a3 s3 x3 => ?_
  refine cons_read ?_
  refine mkp_read (c := c) (k := k4) (f := f) (v := v) hσ fun H4 a4 s4 x4 => ?_
  refine ⟨by show 4 ≤ sizeLine; decide, fun t ht => ?_⟩
  have s5 : Same H4 (upd H4 t (.lst [.ref a1, .ref a2, .ref a3, .ref a4])) := same_lay ht
  refine q _ t _ (s1.trans (s2.trans (s3.trans (s4.trans s5)))) upd_same ?_ rfl
  exact .cons ⟨a1, rfl, x1.nl (Nl.of (s2.trans (s3.trans (s4.trans s5))))⟩ (.cons ⟨a2, rfl, x2.nl (Nl.of (s3.trans (s4.trans s5)))⟩ (.cons ⟨a3, rfl, x3.nl (Nl.of (s4.trans s5))⟩ (.cons ⟨a4, rfl, x4.nl (Nl.of s5)⟩ .nil)))
theorem three {k1 k2 k3 : Nat} (hσ : σ[0]? = some (some v)) (q : ∀ (H' : Hp) (t : Addr) (xs : List V), Same H H' → H' t = some (.lst xs) → Exs c H' f v [k1, k2, k3] xs → xs.length = 3 → Q (.ref t) H') :
    tLst (tCons (tK c k1 f) (tCons (tK c k2 f) (tCons (tK c k3 f) tNil))) σ H Q := by
  refine lst_read (cons_read ?_)
  refine mkk_read (c := c) (k := k1) (f := f) (v := v) hσ fun H1 a1 s1 x1 => ?_
  refine cons_read ?_
  refine mkk_read (c := c) (k := k2) (f := f) (v := v) hσ fun H2 a2 s2 x2 => ?_
  refine cons_read ?_
  refine mkk_read (c := c) (k := k3) (f := f) (v := v) hσ fun H3 a3 s3 x3 => ?_
  refine ⟨by show 3 ≤ sizeLine; decide, fun t ht => ?_⟩
  have s5 : Same H3 (upd H3 t (.lst [.ref a1, .ref a2, .ref a3])) := same_lay ht
  refine q _ t _ (s1.trans (s2.trans (s3.trans s5))) upd_same ?_ rfl
  exact .cons ⟨a1, rfl, x1.nl (Nl.of (s2.trans (s3.trans s5)))⟩ (.cons ⟨a2, rfl, x2.nl (Nl.of (s3.trans s5))⟩ (.cons ⟨a3, rfl, x3.nl (Nl.of s5)⟩ .nil))
/-- some = some + [..] -/
theorem cat_read {D : L2.St → Hp → Prop} {te : TE} {e : V} {l : Addr} {xs : List V} {ks ks' : List Nat} (hl : H l = some (.lst xs)) (hx : Exs c H f v ks xs) (hz : xs.length ≤ 100)
    (ht : ∀ Q' : VK, (∀ (H' : Hp) (t : Addr) (ys : List V), Same H H' → H' t = some (.lst ys) → Exs c H' f v ks' ys → ys.length ≤ 4 → Q' (.ref t) H') → te [some e, some (.ref l), none] H Q')
    (q : ∀ (H' : Hp) (t : Addr) (ys : List V), Same H H' → H' t = some (.lst (xs ++ ys)) → Exs c H' f v (ks ++ ks') (xs ++ ys) → ys.length ≤ 4 → D [some e, some (.ref t), none] H') :
    tOp rCat (tVar 1) te [some e, some (.ref l), none] H (fun x H1 => gName 1 x [some e, some (.ref l), none] H1 D) := by
  refine ⟨_, rfl, ht _ fun H1 t ys s1 e1 x1 l1 => ?_⟩
  refine ⟨l, t, xs, ys, rfl, rfl, s1 _ _ hl, e1, by rw [sizeLine_eq]; omega, fun p hp => ?_⟩
  refine q _ p ys (s1.trans (same_lay hp)) upd_same ?_ l1
  exact ((hx.nl (Nl.of s1)).app x1).nl (Nl.of (same_lay hp))
end
/-- the rows: pairs of a number and an exception that keeps v as f -/
def spRows (c : Nat → Addr) (f : Str) : Sp := fun vs H Q _ => ∃ v : V, vs = [v] ∧ ∀ (H' : Hp) (q : Addr) (xs : List V), Same H H' → H' q = some (.lst xs) → xs.length ≤ 20 → (∀ x ∈ xs, Row c H' f v x) → Q (.ref q) H'
section
variable {P : Program} {w : World} {K : PySem.W.Frag} {mg : Str → Option Value} {base : Heap} {c b : Nat → Addr} {fI : Nat → Addr} {fdI : Nat → FuncData}
theorem ok_near {f : Addr} {fd : FuncData} (F : Fun K "_law_near" "_law_near" sNear f fd) (B : Bl mg) (T : CT K c b) (N : Nm mg c b) (IS : Is P w K mg base c fI fdI) : FnOk P w K mg base CX0 3 f fd ["_law_thing"] (spRows c "given") := by
  refine F.ok scNear (fun vs H Q E h => ?_) (fun cdv A outer s H vs Q E hr h => ?_)
  · obtain ⟨v, rfl, _⟩ := h
    rfl
  obtain ⟨v, rfl, k⟩ := h
  refine ⟨_, (pss_cons (ps_set (i := 1) scNear.nd rfl (.inr rfl) (pe_lst (pa_cons (pe_x (T.xc 0 (by decide)) (IS.i1 0 (by decide) (by decide) (by decide) (by decide)).ini (IS.i1 0 (by decide) (by decide) (by decide) (by decide)).fn (IS.i1 0 (by decide) (by decide) (by decide) (by decide)).ok hr (IS.i1 0 (by decide) (by decide) (by decide) (by decide)).bp (by rfl) (N.cl 0 (by decide)) (pa_cons (pv 0) pa_nil)) (pa_cons (pe_x (T.xc 1 (by decide)) (IS.i1 1 (by decide) (by decide) (by decide) (by decide)).ini (IS.i1 1 (by decide) (by decide) (by decide) (by decide)).fn (IS.i1 1 (by decide) (by decide) (by decide) (by decide)).ok hr (IS.i1 1 (by decide) (by decide) (by decide) (by decide)).bp (by rfl) (N.cl 1 (by decide)) (pa_cons (pv 0) pa_nil)) (pa_cons (pe_x (T.xc 2 (by decide)) (IS.i1 2 (by decide) (by decide) (by decide) (by decide)).ini (IS.i1 2 (by decide) (by decide) (by decide) (by decide)).fn (IS.i1 2 (by decide) (by decide) (by decide) (by decide)).ok hr (IS.i1 2 (by decide) (by decide) (by decide) (by decide)).bp (by rfl) (N.cl 2 (by decide)) (pa_cons (pv 0) pa_nil)) (pa_cons (pe_x (T.xc 3 (by decide)) (IS.i1 3 (by decide) (by decide) (by decide) (by decide)).ini (IS.i1 3 (by decide) (by decide) (by decide) (by decide)).fn (IS.i1 3 (by decide) (by decide) (by decide) (by decide)).ok hr (IS.i1 3 (by decide) (by decide) (by decide) (by decide)).bp (by rfl) (N.cl 3 (by decide)) (pa_cons (pv 0) pa_nil)) pa_nil))))))
    (pss_cons (ps_set (i := 1) scNear.nd rfl (.inr rfl) (pe_op op_cat (pv 1) (pe_lst (pa_cons (pe_x (T.xc 4 (by decide)) (IS.i1 4 (by decide) (by decide) (by decide) (by decide)).ini (IS.i1 4 (by decide) (by decide) (by decide) (by decide)).fn (IS.i1 4 (by decide) (by decide) (by decide) (by decide)).ok hr (IS.i1 4 (by decide) (by decide) (by decide) (by decide)).bp (by rfl) (N.cl 4 (by decide)) (pa_cons (pv 0) pa_nil)) (pa_cons (pe_x (T.xc 5 (by decide)) (IS.i1 5 (by decide) (by decide) (by decide) (by decide)).ini (IS.i1 5 (by decide) (by decide) (by decide) (by decide)).fn (IS.i1 5 (by decide) (by decide) (by decide) (by decide)).ok hr (IS.i1 5 (by decide) (by decide) (by decide) (by decide)).bp (by rfl) (N.cl 5 (by decide)) (pa_cons (pv 0) pa_nil)) (pa_cons (pe_x (T.xc 6 (by decide)) (IS.i1 6 (by decide) (by decide) (by decide) (by decide)).ini (IS.i1 6 (by decide) (by decide) (by decide) (by decide)).fn (IS.i1 6 (by decide) (by decide) (by decide) (by decide)).ok hr (IS.i1 6 (by decide) (by decide) (by decide) (by decide)).bp (by rfl) (N.cl 6 (by decide)) (pa_cons (pv 0) pa_nil)) (pa_cons (pe_x (T.xc 7 (by decide)) (IS.i1 7 (by decide) (by decide) (by decide) (by decide)).ini (IS.i1 7 (by decide) (by decide) (by decide) (by decide)).fn (IS.i1 7 (by decide) (by decide) (by decide) (by decide)).ok hr (IS.i1 7 (by decide) (by decide) (by decide) (by decide)).bp (by rfl) (N.cl 7 (by decide)) (pa_cons (pv 0) pa_nil)) pa_nil)))))))
    (pss_cons (ps_set (i := 1) scNear.nd rfl (.inr rfl) (pe_op op_cat (pv 1) (pe_lst (pa_cons (pe_x (T.xc 8 (by decide)) (IS.i1 8 (by decide) (by decide) (by decide) (by decide)).ini (IS.i1 8 (by decide) (by decide) (by decide) (by decide)).fn (IS.i1 8 (by decide) (by decide) (by decide) (by decide)).ok hr (IS.i1 8 (by decide) (by decide) (by decide) (by decide)).bp (by rfl) (N.cl 8 (by decide)) (pa_cons (pv 0) pa_nil)) (pa_cons (pe_x (T.xc 9 (by decide)) (IS.i1 9 (by decide) (by decide) (by decide) (by decide)).ini (IS.i1 9 (by decide) (by decide) (by decide) (by decide)).fn (IS.i1 9 (by decide) (by decide) (by decide) (by decide)).ok hr (IS.i1 9 (by decide) (by decide) (by decide) (by decide)).bp (by rfl) (N.cl 9 (by decide)) (pa_cons (pv 0) pa_nil)) (pa_cons (pe_x (T.xc 10 (by decide)) (IS.i1 10 (by decide) (by decide) (by decide) (by decide)).ini (IS.i1 10 (by decide) (by decide) (by decide) (by decide)).fn (IS.i1 10 (by decide) (by decide) (by decide) (by decide)).ok hr (IS.i1 10 (by decide) (by decide) (by decide) (by decide)).bp (by rfl) (N.cl 10 (by decide)) (pa_cons (pv 0) pa_nil)) (pa_cons (pe_x (T.xc 11 (by decide)) (IS.i1 11 (by decide) (by decide) (by decide) (by decide)).ini (IS.i1 11 (by decide) (by decide) (by decide) (by decide)).fn (IS.i1 11 (by decide) (by decide) (by decide) (by decide)).ok hr (IS.i1 11 (by decide) (by decide) (by decide) (by decide)).bp (by rfl) (N.cl 11 (by decide)) (pa_cons (pv 0) pa_nil)) pa_nil)))))))
    (pss_one (ps_ret (pe_op op_cat (pe_lc (own := [("_law_k", 2)]) (g := gName 2) (tt := tYes) (te := tTup (tCons (tVar 2) (tCons (tOp (rIxL K) (tVar 1) (tVar 2)) tNil))) rfl scNear.nd (pi_range1 (by rfl) B.range (pa_cons pe_int pa_nil)) (blkOk_by (own := [("_law_k", 2)]) (N := ["_law_thing", "_law_some", "_law_k"]) (sc := defScope sNear) (by decide +kernel))
      (fun _ _ _ _ _ => pg_name (i := 2) scNear.nd rfl (Or.inl rfl)) (fun _ _ _ _ _ => pts_nil) (fun _ _ _ _ _ => pe_tup (pa_cons (pv 2) (pa_cons (pe_ix ix_list (pv 1) (pv 2) (fun _ _ => rfl)) pa_nil)))) (pe_lst (pa_cons (pe_tup (pa_cons pe_int (pa_cons (pe_x (T.xc 14 (by decide)) (IS.i1 14 (by decide) (by decide) (by decide) (by decide)).ini (IS.i1 14 (by decide) (by decide) (by decide) (by decide)).fn (IS.i1 14 (by decide) (by decide) (by decide) (by decide)).ok hr (IS.i1 14 (by decide) (by decide) (by decide) (by decide)).bp (by rfl) (N.cl 14 (by decide)) (pa_cons (pv 0) pa_nil)) pa_nil))) pa_nil)))))))), ?_⟩
  refine seq_asg ?_
  refine four (c := c) (f := Str.ofString "given") (k1 := 0) (k2 := 1) (k3 := 2) (k4 := 3) (v := v) (by rfl) fun H1 t1 x1 s1 e1 ex1 l1 => ?_
  refine seq_asg ?_
  refine cat_read (c := c) (f := Str.ofString "given") (v := v) (e := v) (ks' := [4, 5, 6, 7]) e1 ex1 (by first | omega | (simp only [List.length_append]; omega)) (fun Q' hq => four (c := c) (f := Str.ofString "given") (v := v) (by rfl) fun H' t ys s e x l => hq H' t ys s e x (by omega)) fun H2 t2 x2 r2 e2 ex2 l2 => ?_
  have s2 := s1.trans r2
  refine seq_asg ?_
  refine cat_read (c := c) (f := Str.ofString "given") (v := v) (e := v) (ks' := [8, 9, 10, 11]) e2 ex2 (by first | omega | (simp only [List.length_append]; omega)) (fun Q' hq => four (c := c) (f := Str.ofString "given") (v := v) (by rfl) fun H' t ys s e x l => hq H' t ys s e x (by omega)) fun H3 t3 x3 r3 e3 ex3 l3 => ?_
  have s3 := s2.trans r3
  refine ret_read (op_read ?_)
  refine pairs_read (c := c) (v := v) e3 ex3 fun H7 q7 y7 s7 e7 l7 r7 => ?_
  refine lst_read (cons_read (tup_read (cons_read (c_read (cons_read ?_)))))
  refine mkp_read (c := c) (k := 14) (f := Str.ofString "given") (v := v) (by rfl) fun H8 a8 s8 x8 => ?_
  refine ⟨by show 2 ≤ sizeLine; decide, fun t9 n9 => ⟨by show 1 ≤ sizeLine; decide, fun l10 n10 => ?_⟩⟩
  have s9 : Same H8 (upd H8 t9 (.tup [.int 14, .ref a8])) := same_lay n9
  have f9 : (upd H8 t9 (.tup [.int 14, .ref a8])) t9 = some (.tup [.int 14, .ref a8]) := upd_same
  generalize upd H8 t9 (.tup [.int 14, .ref a8]) = H9 at s9 f9 n10 ⊢
  refine ⟨q7, l10, y7, _, rfl, rfl, seen (s9 _ _ (s8 _ _ e7)) n10, upd_same, by rw [sizeLine_eq]; show y7.length + 1 ≤ _; omega, fun q11 n11 => ?_⟩
  have sA : Same H9 (upd (upd H9 l10 (.lst [.ref t9])) q11 (.lst (y7 ++ [.ref t9]))) := (same_lay n10).trans (same_lay n11)
  refine k _ q11 (y7 ++ [.ref t9]) (s3.trans (s7.trans (s8.trans (s9.trans sA)))) upd_same (by rw [List.length_append]; show y7.length + 1 ≤ 20; omega) fun x hx => ?_
  rcases List.mem_append.mp hx with z | z
  · exact (r7 x z).nl (Nl.of (s8.trans (s9.trans sA)))
  · have ex : x = .ref t9 := by simpa using z
    subst ex
    exact ⟨t9, a8, 14, by decide +kernel, rfl, sA _ _ f9, x8.nl (Nl.of (s9.trans sA))⟩
theorem ok_far {f : Addr} {fd : FuncData} (F : Fun K "_law_far" "_law_far" sFar f fd) (B : Bl mg) (T : CT K c b) (N : Nm mg c b) (IS : Is P w K mg base c fI fdI) : FnOk P w K mg base CX0 3 f fd ["_law_thing"] (spRows c "given") := by
  refine F.ok scFar (fun vs H Q E h => ?_) (fun cdv A outer s H vs Q E hr h => ?_)
  · obtain ⟨v, rfl, _⟩ := h
    rfl
  obtain ⟨v, rfl, k⟩ := h
  refine ⟨_, (pss_cons (ps_set (i := 1) scFar.nd rfl (.inr rfl) (pe_lst (pa_cons (pe_xk (T.xc 0 (by decide)) (IS.i1 0 (by decide) (by decide) (by decide) (by decide)).ini (IS.i1 0 (by decide) (by decide) (by decide) (by decide)).fn (IS.i1 0 (by decide) (by decide) (by decide) (by decide)).ok hr (IS.i1 0 (by decide) (by decide) (by decide) (by decide)).bk (by rfl) (N.cl 0 (by decide)) (pk_cons (pv 0) pk_nil)) (pa_cons (pe_xk (T.xc 1 (by decide)) (IS.i1 1 (by decide) (by decide) (by decide) (by decide)).ini (IS.i1 1 (by decide) (by decide) (by decide) (by decide)).fn (IS.i1 1 (by decide) (by decide) (by decide) (by decide)).ok hr (IS.i1 1 (by decide) (by decide) (by decide) (by decide)).bk (by rfl) (N.cl 1 (by decide)) (pk_cons (pv 0) pk_nil)) (pa_cons (pe_xk (T.xc 2 (by decide)) (IS.i1 2 (by decide) (by decide) (by decide) (by decide)).ini (IS.i1 2 (by decide) (by decide) (by decide) (by decide)).fn (IS.i1 2 (by decide) (by decide) (by decide) (by decide)).ok hr (IS.i1 2 (by decide) (by decide) (by decide) (by decide)).bk (by rfl) (N.cl 2 (by decide)) (pk_cons (pv 0) pk_nil)) pa_nil)))))
    (pss_cons (ps_set (i := 1) scFar.nd rfl (.inr rfl) (pe_op op_cat (pv 1) (pe_lst (pa_cons (pe_xk (T.xc 3 (by decide)) (IS.i1 3 (by decide) (by decide) (by decide) (by decide)).ini (IS.i1 3 (by decide) (by decide) (by decide) (by decide)).fn (IS.i1 3 (by decide) (by decide) (by decide) (by decide)).ok hr (IS.i1 3 (by decide) (by decide) (by decide) (by decide)).bk (by rfl) (N.cl 3 (by decide)) (pk_cons (pv 0) pk_nil)) (pa_cons (pe_xk (T.xc 4 (by decide)) (IS.i1 4 (by decide) (by decide) (by decide) (by decide)).ini (IS.i1 4 (by decide) (by decide) (by decide) (by decide)).fn (IS.i1 4 (by decide) (by decide) (by decide) (by decide)).ok hr (IS.i1 4 (by decide) (by decide) (by decide) (by decide)).bk (by rfl) (N.cl 4 (by decide)) (pk_cons (pv 0) pk_nil)) (pa_cons (pe_xk (T.xc 5 (by decide)) (IS.i1 5 (by decide) (by decide) (by decide) (by decide)).ini (IS.i1 5 (by decide) (by decide) (by decide) (by decide)).fn (IS.i1 5 (by decide) (by decide) (by decide) (by decide)).ok hr (IS.i1 5 (by decide) (by decide) (by decide) (by decide)).bk (by rfl) (N.cl 5 (by decide)) (pk_cons (pv 0) pk_nil)) pa_nil))))))
    (pss_cons (ps_set (i := 1) scFar.nd rfl (.inr rfl) (pe_op op_cat (pv 1) (pe_lst (pa_cons (pe_xk (T.xc 6 (by decide)) (IS.i1 6 (by decide) (by decide) (by decide) (by decide)).ini (IS.i1 6 (by decide) (by decide) (by decide) (by decide)).fn (IS.i1 6 (by decide) (by decide) (by decide) (by decide)).ok hr (IS.i1 6 (by decide) (by decide) (by decide) (by decide)).bk (by rfl) (N.cl 6 (by decide)) (pk_cons (pv 0) pk_nil)) (pa_cons (pe_xk (T.xc 7 (by decide)) (IS.i1 7 (by decide) (by decide) (by decide) (by decide)).ini (IS.i1 7 (by decide) (by decide) (by decide) (by decide)).fn (IS.i1 7 (by decide) (by decide) (by decide) (by decide)).ok hr (IS.i1 7 (by decide) (by decide) (by decide) (by decide)).bk (by rfl) (N.cl 7 (by decide)) (pk_cons (pv 0) pk_nil)) (pa_cons (pe_xk (T.xc 8 (by decide)) (IS.i1 8 (by decide) (by decide) (by decide) (by decide)).ini (IS.i1 8 (by decide) (by decide) (by decide) (by decide)).fn (IS.i1 8 (by decide) (by decide) (by decide) (by decide)).ok hr (IS.i1 8 (by decide) (by decide) (by decide) (by decide)).bk (by rfl) (N.cl 8 (by decide)) (pk_cons (pv 0) pk_nil)) pa_nil))))))
    (pss_cons (ps_set (i := 1) scFar.nd rfl (.inr rfl) (pe_op op_cat (pv 1) (pe_lst (pa_cons (pe_xk (T.xc 9 (by decide)) (IS.i1 9 (by decide) (by decide) (by decide) (by decide)).ini (IS.i1 9 (by decide) (by decide) (by decide) (by decide)).fn (IS.i1 9 (by decide) (by decide) (by decide) (by decide)).ok hr (IS.i1 9 (by decide) (by decide) (by decide) (by decide)).bk (by rfl) (N.cl 9 (by decide)) (pk_cons (pv 0) pk_nil)) (pa_cons (pe_xk (T.xc 10 (by decide)) (IS.i1 10 (by decide) (by decide) (by decide) (by decide)).ini (IS.i1 10 (by decide) (by decide) (by decide) (by decide)).fn (IS.i1 10 (by decide) (by decide) (by decide) (by decide)).ok hr (IS.i1 10 (by decide) (by decide) (by decide) (by decide)).bk (by rfl) (N.cl 10 (by decide)) (pk_cons (pv 0) pk_nil)) (pa_cons (pe_xk (T.xc 11 (by decide)) (IS.i1 11 (by decide) (by decide) (by decide) (by decide)).ini (IS.i1 11 (by decide) (by decide) (by decide) (by decide)).fn (IS.i1 11 (by decide) (by decide) (by decide) (by decide)).ok hr (IS.i1 11 (by decide) (by decide) (by decide) (by decide)).bk (by rfl) (N.cl 11 (by decide)) (pk_cons (pv 0) pk_nil)) pa_nil))))))
    (pss_one (ps_ret (pe_op op_cat (pe_lc (own := [("_law_k", 2)]) (g := gName 2) (tt := tYes) (te := tTup (tCons (tVar 2) (tCons (tOp (rIxL K) (tVar 1) (tVar 2)) tNil))) rfl scFar.nd (pi_range1 (by rfl) B.range (pa_cons pe_int pa_nil)) (blkOk_by (own := [("_law_k", 2)]) (N := ["_law_thing", "_law_some", "_law_k"]) (sc := defScope sFar) (by decide +kernel))
      (fun _ _ _ _ _ => pg_name (i := 2) scFar.nd rfl (Or.inl rfl)) (fun _ _ _ _ _ => pts_nil) (fun _ _ _ _ _ => pe_tup (pa_cons (pv 2) (pa_cons (pe_ix ix_list (pv 1) (pv 2) (fun _ _ => rfl)) pa_nil)))) (pe_lst (pa_cons (pe_tup (pa_cons pe_int (pa_cons (pe_xk (T.xc 14 (by decide)) (IS.i1 14 (by decide) (by decide) (by decide) (by decide)).ini (IS.i1 14 (by decide) (by decide) (by decide) (by decide)).fn (IS.i1 14 (by decide) (by decide) (by decide) (by decide)).ok hr (IS.i1 14 (by decide) (by decide) (by decide) (by decide)).bk (by rfl) (N.cl 14 (by decide)) (pk_cons (pv 0) pk_nil)) pa_nil))) pa_nil))))))))), ?_⟩
  refine seq_asg ?_
  refine three (c := c) (f := Str.ofString "given") (k1 := 0) (k2 := 1) (k3 := 2) (v := v) (by rfl) fun H1 t1 x1 s1 e1 ex1 l1 => ?_
  refine seq_asg ?_
  refine cat_read (c := c) (f := Str.ofString "given") (v := v) (e := v) (ks' := [3, 4, 5]) e1 ex1 (by first | omega | (simp only [List.length_append]; omega)) (fun Q' hq => three (c := c) (f := Str.ofString "given") (v := v) (by rfl) fun H' t ys s e x l => hq H' t ys s e x (by omega)) fun H2 t2 x2 r2 e2 ex2 l2 => ?_
  have s2 := s1.trans r2
  refine seq_asg ?_
  refine cat_read (c := c) (f := Str.ofString "given") (v := v) (e := v) (ks' := [6, 7, 8]) e2 ex2 (by first | omega | (simp only [List.length_append]; omega)) (fun Q' hq => three (c := c) (f := Str.ofString "given") (v := v) (by rfl) fun H' t ys s e x l => hq H' t ys s e x (by omega)) fun H3 t3 x3 r3 e3 ex3 l3 => ?_
  have s3 := s2.trans r3
  refine seq_asg ?_
  refine cat_read (c := c) (f := Str.ofString "given") (v := v) (e := v) (ks' := [9, 10, 11]) e3 ex3 (by first | omega | (simp only [List.length_append]; omega)) (fun Q' hq => three (c := c) (f := Str.ofString "given") (v := v) (by rfl) fun H' t ys s e x l => hq H' t ys s e x (by omega)) fun H4 t4 x4 r4 e4 ex4 l4 => ?_
  have s4 := s3.trans r4
  refine ret_read (op_read ?_)
  refine pairs_read (c := c) (v := v) e4 ex4 fun H7 q7 y7 s7 e7 l7 r7 => ?_
  refine lst_read (cons_read (tup_read (cons_read (c_read (cons_read ?_)))))
  refine mkk_read (c := c) (k := 14) (f := Str.ofString "given") (v := v) (by rfl) fun H8 a8 s8 x8 => ?_
  refine ⟨by show 2 ≤ sizeLine; decide, fun t9 n9 => ⟨by show 1 ≤ sizeLine; decide, fun l10 n10 => ?_⟩⟩
  have s9 : Same H8 (upd H8 t9 (.tup [.int 14, .ref a8])) := same_lay n9
  have f9 : (upd H8 t9 (.tup [.int 14, .ref a8])) t9 = some (.tup [.int 14, .ref a8]) := upd_same
  generalize upd H8 t9 (.tup [.int 14, .ref a8]) = H9 at s9 f9 n10 ⊢
  refine ⟨q7, l10, y7, _, rfl, rfl, seen (s9 _ _ (s8 _ _ e7)) n10, upd_same, by rw [sizeLine_eq]; show y7.length + 1 ≤ _; omega, fun q11 n11 => ?_⟩
  have sA : Same H9 (upd (upd H9 l10 (.lst [.ref t9])) q11 (.lst (y7 ++ [.ref t9]))) := (same_lay n10).trans (same_lay n11)
  refine k _ q11 (y7 ++ [.ref t9]) (s4.trans (s7.trans (s8.trans (s9.trans sA)))) upd_same (by rw [List.length_append]; show y7.length + 1 ≤ 20; omega) fun x hx => ?_
  rcases List.mem_append.mp hx with z | z
  · exact (r7 x z).nl (Nl.of (s8.trans (s9.trans sA)))
  · have ex : x = .ref t9 := by simpa using z
    subst ex
    exact ⟨t9, a8, 14, by decide +kernel, rfl, sA _ _ f9, x8.nl (Nl.of (s9.trans sA))⟩
end
end K1

set_option Elab.async false
set_option linter.all false
set_option maxRecDepth 100000
set_option maxHeartbeats 4000000
namespace K1
open PySem PySem.Spec PyProof.Rows L2 G1
/-- a reading that gives a row; several -/
def RowRd (c : Nat → Addr) (f : Str) (v : V) (σ : L2.St) (te : TE) : Prop := ∀ (H : Hp) (Q : VK), (∀ (H' : Hp) (x : V), Same H H' → Row c H' f v x → Q x H') → te σ H Q
def RowsRd (c : Nat → Addr) (f : Str) (v : V) (σ : L2.St) (n : Nat) (ta : TA) : Prop := ∀ (H : Hp) (Q : List V → Hp → Prop), (∀ (H' : Hp) (xs : List V), Same H H' → xs.length = n → (∀ x ∈ xs, Row c H' f v x) → Q xs H') → ta σ H Q
section
variable {c : Nat → Addr} {f : Str} {v : V} {σ : L2.St}
theorem rows_nil : RowsRd c f v σ 0 tNil := fun H Q q => q H [] (Same.refl H) rfl fun x hx => by cases hx
theorem rows_cons {te : TE} {ta : TA} {n : Nat} (h1 : RowRd c f v σ te) (h2 : RowsRd c f v σ n ta) : RowsRd c f v σ (n + 1) (tCons te ta) := fun H Q q => by
  refine cons_read (h1 H _ fun H1 x s1 r1 => h2 H1 _ fun H2 xs s2 l2 r2 => ?_)
  refine q H2 (x :: xs) (s1.trans s2) (by rw [List.length_cons, l2]) fun y hy => ?_
  rcases List.mem_cons.mp hy with z | z
  · rw [z]
    exact r1.nl (Nl.of s2)
  · exact r2 y z
theorem row_mk {te : TE} {k : Nat} (ok : Okf k f) (h : ∀ (H : Hp) (Q : VK), (∀ (H' : Hp) (a : Addr), Same H H' → ExF c H' a k f v → Q (.ref a) H') → te σ H Q) : RowRd c f v σ (tTup (tCons (tC (.int (k : Int))) (tCons te tNil))) := fun H Q q => by
  refine tup_read (cons_read (c_read (cons_read (h H _ fun H1 a s1 x1 => nil_read ⟨by show 2 ≤ sizeLine; decide, fun t ht => ?_⟩))))
  exact q _ _ (s1.trans (same_lay ht)) ⟨t, a, k, ok, rfl, upd_same, x1.nl (Nl.of (same_lay ht))⟩
theorem row_p {k : Nat} (ok : Okf k f) (hσ : σ[0]? = some (some v)) : RowRd c f v σ (tTup (tCons (tC (.int (k : Int))) (tCons (tP c k f) tNil))) := row_mk ok fun H Q q => mkp_read hσ q
theorem row_k {k : Nat} (ok : Okf k f) (hσ : σ[0]? = some (some v)) : RowRd c f v σ (tTup (tCons (tC (.int (k : Int))) (tCons (tK c k f) tNil))) := row_mk ok fun H Q q => mkk_read hσ q
/-- a list of rows -/
theorem rows_lst {ta : TA} {n : Nat} {H : Hp} {Q : VK} (h : RowsRd c f v σ n ta) (hn : n ≤ 100) (q : ∀ (H' : Hp) (t : Addr) (xs : List V), Same H H' → H' t = some (.lst xs) → xs.length = n → (∀ x ∈ xs, Row c H' f v x) → Q (.ref t) H') : tLst ta σ H Q := by
  refine lst_read (h H _ fun H1 xs s1 l1 r1 => ⟨by rw [sizeLine_eq, l1]; omega, fun t ht => ?_⟩)
  exact q _ t xs (s1.trans (same_lay ht)) upd_same l1 fun x hx => (r1 x hx).nl (Nl.of (same_lay ht))
/-- the list at l and more rows -/
theorem rows_cat {ta : TA} {l : Addr} {xs : List V} {n : Nat} {H : Hp} {Q : VK} (hl : H l = some (.lst xs)) (hx : ∀ x ∈ xs, Row c H f v x) (hz : xs.length ≤ 100) (hσ : σ[1]? = some (some (.ref l))) (h : RowsRd c f v σ n ta) (hn : n ≤ 100)
    (q : ∀ (H' : Hp) (t : Addr) (ys : List V), Same H H' → H' t = some (.lst ys) → ys.length = xs.length + n → (∀ x ∈ ys, Row c H' f v x) → Q (.ref t) H') : tOp rCat (tVar 1) (tLst ta) σ H Q := by
  refine op_read ⟨_, hσ, rows_lst h hn fun H1 t ys s1 e1 l1 r1 => ?_⟩
  refine ⟨l, t, xs, ys, rfl, rfl, s1 _ _ hl, e1, by rw [sizeLine_eq]; omega, fun p hp => ?_⟩
  refine q _ p (xs ++ ys) (s1.trans (same_lay hp)) upd_same (by rw [List.length_append, l1]) fun x hm => ?_
  rcases List.mem_append.mp hm with z | z
  · exact (hx x z).nl (Nl.of (s1.trans (same_lay hp)))
  · exact (r1 x z).nl (Nl.of (same_lay hp))
end
section
variable {P : Program} {w : World} {K : PySem.W.Frag} {mg : Str → Option Value} {base : Heap} {c b : Nat → Addr} {fI : Nat → Addr} {fdI : Nat → FuncData}
theorem ok_cnt {f : Addr} {fd : FuncData} (F : Fun K "_law_counted" "_law_counted" sCnt f fd) (T : CT K c b) (N : Nm mg c b) (IS : Is P w K mg base c fI fdI) : FnOk P w K mg base CX0 3 f fd ["_law_thing"] (spRows c "index") := by
  refine F.ok scCnt (fun vs H Q E h => ?_) (fun cdv A outer s H vs Q E hr h => ?_)
  · obtain ⟨v, rfl, _⟩ := h
    rfl
  obtain ⟨v, rfl, k⟩ := h
  refine ⟨_, (pss_cons (ps_set (i := 1) scCnt.nd rfl (.inl rfl) (pe_lst (pa_cons (pe_tup (pa_cons pe_int (pa_cons (pe_x (T.xc 12 (by decide)) (IS.i1 12 (by decide) (by decide) (by decide) (by decide)).ini (IS.i1 12 (by decide) (by decide) (by decide) (by decide)).fn (IS.i1 12 (by decide) (by decide) (by decide) (by decide)).ok hr (IS.i1 12 (by decide) (by decide) (by decide) (by decide)).bp (by rfl) (N.cl 12 (by decide)) (pa_cons (pv 0) pa_nil)) pa_nil))) (pa_cons (pe_tup (pa_cons pe_int (pa_cons (pe_xk (T.xc 12 (by decide)) (IS.i1 12 (by decide) (by decide) (by decide) (by decide)).ini (IS.i1 12 (by decide) (by decide) (by decide) (by decide)).fn (IS.i1 12 (by decide) (by decide) (by decide) (by decide)).ok hr (IS.i1 12 (by decide) (by decide) (by decide) (by decide)).bk (by rfl) (N.cl 12 (by decide)) (pk_cons (pv 0) pk_nil)) pa_nil))) (pa_cons (pe_tup (pa_cons pe_int (pa_cons (pe_x (T.xc 13 (by decide)) (IS.i1 13 (by decide) (by decide) (by decide) (by decide)).ini (IS.i1 13 (by decide) (by decide) (by decide) (by decide)).fn (IS.i1 13 (by decide) (by decide) (by decide) (by decide)).ok hr (IS.i1 13 (by decide) (by decide) (by decide) (by decide)).bp (by rfl) (N.cl 13 (by decide)) (pa_cons (pv 0) pa_nil)) pa_nil))) pa_nil)))))
    (pss_cons (ps_set (i := 1) scCnt.nd rfl (.inl rfl) (pe_op op_cat (pv 1) (pe_lst (pa_cons (pe_tup (pa_cons pe_int (pa_cons (pe_xk (T.xc 13 (by decide)) (IS.i1 13 (by decide) (by decide) (by decide) (by decide)).ini (IS.i1 13 (by decide) (by decide) (by decide) (by decide)).fn (IS.i1 13 (by decide) (by decide) (by decide) (by decide)).ok hr (IS.i1 13 (by decide) (by decide) (by decide) (by decide)).bk (by rfl) (N.cl 13 (by decide)) (pk_cons (pv 0) pk_nil)) pa_nil))) (pa_cons (pe_tup (pa_cons pe_int (pa_cons (pe_x (T.xc 15 (by decide)) (IS.i1 15 (by decide) (by decide) (by decide) (by decide)).ini (IS.i1 15 (by decide) (by decide) (by decide) (by decide)).fn (IS.i1 15 (by decide) (by decide) (by decide) (by decide)).ok hr (IS.i1 15 (by decide) (by decide) (by decide) (by decide)).bp (by rfl) (N.cl 15 (by decide)) (pa_cons (pv 0) pa_nil)) pa_nil))) (pa_cons (pe_tup (pa_cons pe_int (pa_cons (pe_xk (T.xc 15 (by decide)) (IS.i1 15 (by decide) (by decide) (by decide) (by decide)).ini (IS.i1 15 (by decide) (by decide) (by decide) (by decide)).fn (IS.i1 15 (by decide) (by decide) (by decide) (by decide)).ok hr (IS.i1 15 (by decide) (by decide) (by decide) (by decide)).bk (by rfl) (N.cl 15 (by decide)) (pk_cons (pv 0) pk_nil)) pa_nil))) pa_nil))))))
    (pss_one (ps_ret (pe_op op_cat (pv 1) (pe_lst (pa_cons (pe_tup (pa_cons pe_int (pa_cons (pe_x (T.xc 20 (by decide)) (IS.i1 20 (by decide) (by decide) (by decide) (by decide)).ini (IS.i1 20 (by decide) (by decide) (by decide) (by decide)).fn (IS.i1 20 (by decide) (by decide) (by decide) (by decide)).ok hr (IS.i1 20 (by decide) (by decide) (by decide) (by decide)).bp (by rfl) (N.cl 20 (by decide)) (pa_cons (pv 0) pa_nil)) pa_nil))) (pa_cons (pe_tup (pa_cons pe_int (pa_cons (pe_xk (T.xc 20 (by decide)) (IS.i1 20 (by decide) (by decide) (by decide) (by decide)).ini (IS.i1 20 (by decide) (by decide) (by decide) (by decide)).fn (IS.i1 20 (by decide) (by decide) (by decide) (by decide)).ok hr (IS.i1 20 (by decide) (by decide) (by decide) (by decide)).bk (by rfl) (N.cl 20 (by decide)) (pk_cons (pv 0) pk_nil)) pa_nil))) pa_nil)))))))), ?_⟩
  have R1 : ∀ σ : L2.St, σ[0]? = some (some v) → RowsRd c "index" v σ 3 (tCons (tTup (tCons (tC (.int 12)) (tCons (tP c 12 "index") tNil))) (tCons (tTup (tCons (tC (.int 12)) (tCons (tK c 12 "index") tNil))) (tCons (tTup (tCons (tC (.int 13)) (tCons (tP c 13 "index") tNil))) tNil))) :=
    fun σ hσ => rows_cons (row_p (k := 12) (by decide +kernel) hσ) (rows_cons (row_k (k := 12) (by decide +kernel) hσ) (rows_cons (row_p (k := 13) (by decide +kernel) hσ) rows_nil))
  have R2 : ∀ σ : L2.St, σ[0]? = some (some v) → RowsRd c "index" v σ 3 (tCons (tTup (tCons (tC (.int 13)) (tCons (tK c 13 "index") tNil))) (tCons (tTup (tCons (tC (.int 15)) (tCons (tP c 15 "index") tNil))) (tCons (tTup (tCons (tC (.int 15)) (tCons (tK c 15 "index") tNil))) tNil))) :=
    fun σ hσ => rows_cons (row_k (k := 13) (by decide +kernel) hσ) (rows_cons (row_p (k := 15) (by decide +kernel) hσ) (rows_cons (row_k (k := 15) (by decide +kernel) hσ) rows_nil))
  have R3 : ∀ σ : L2.St, σ[0]? = some (some v) → RowsRd c "index" v σ 2 (tCons (tTup (tCons (tC (.int 20)) (tCons (tP c 20 "index") tNil))) (tCons (tTup (tCons (tC (.int 20)) (tCons (tK c 20 "index") tNil))) tNil)) :=
    fun σ hσ => rows_cons (row_p (k := 20) (by decide +kernel) hσ) (rows_cons (row_k (k := 20) (by decide +kernel) hσ) rows_nil)
  refine seq_asg ?_
  refine rows_lst (R1 _ rfl) (by decide) fun H1 t1 x1 s1 e1 l1 r1 => ?_
  refine seq_asg ?_
  refine rows_cat e1 r1 (by omega) (by rfl) (R2 _ rfl) (by decide) fun H2 t2 x2 s2 e2 l2 r2 => ?_
  refine ret_read ?_
  refine rows_cat e2 r2 (by omega) (by rfl) (R3 _ rfl) (by decide) fun H3 t3 x3 s3 e3 l3 r3 => ?_
  exact k H3 t3 x3 (s1.trans (s2.trans s3)) e3 (by omega) r3
end
end K1

set_option Elab.async false
set_option linter.all false
set_option maxRecDepth 100000
set_option maxHeartbeats 4000000
namespace K1
open PySem PySem.Spec PyProof.Rows L2 G1
abbrev sOne : Stmt := topS 50
theorem scOne : FnScope ["_law_thing", "_law_mate", "_law_at", "_law_e"] ["_law_thing", "_law_mate"] (defScope sOne) := ⟨rfl, rfl, rfl, by decide +kernel, rfl, by decide +kernel, by decide +kernel⟩
theorem same_sqT {K : PySem.W.Frag} {H H' : Hp} {a : Addr} {xs : List V} (e : Same H H') (h : SqT K H a xs) : SqT K H' a xs := by
  rcases h with (h | ⟨o, h⟩) | h
  · exact .inl (.inl (e _ _ h))
  · exact .inl (.inr ⟨o, e _ _ h⟩)
  · exact .inr h
mutual
theorem dp_same {K : PySem.W.Frag} {H H' : Hp} (e : Same H H') : ∀ (d : PyData) (v : V), Dp K H v d → Dp K H' v d
  | .none, _, h => by cases h; exact .non
  | .bool b, _, h => by cases h; exact .bl b
  | .int i, _, h => by cases h; exact .int i
  | .str x, _, h => by cases h; exact .str x
  | .list ds, _, h => by
    cases h with
    | lst hs ha => exact .lst (e.seq hs) (dpAll_same e ds _ ha)
  | .tuple ds, _, h => by
    cases h with
    | tup hs ha => exact .tup (same_sqT e hs) (dpAll_same e ds _ ha)
  | .dict _, _, h => by cases h
theorem dpAll_same {K : PySem.W.Frag} {H H' : Hp} (e : Same H H') : ∀ (ds : List PyData) (vs : List V), DpAll K H vs ds → DpAll K H' vs ds
  | [], _, h => by cases h; exact .nil
  | d :: ds, _, h => by
    cases h with
    | cons h1 h2 => exact .cons (dp_same e d _ h1) (dpAll_same e ds _ h2)
end
theorem Th.same {K : PySem.W.Frag} {H H' : Hp} {v : V} (h : Th K H v) (e : Same H H') : Th K H' v := by
  obtain ⟨d, t, g⟩ := h
  refine ⟨d, ?_, g⟩
  cases t with
  | dp h1 h2 h3 h4 => exact .dp (dp_same e _ _ h1) h2 h3 h4
  | d0 h => exact .d0 (e _ _ h)
  | d1 h => exact .d1 (e _ _ h)
section
variable {K : PySem.W.Frag} {c b : Nat → Addr}
/-- not fits(e, at) or not same(e.f, thing): false -/
theorem tst {tat : TE} {σ : L2.St} {H : Hp} {Q : Bool → Hp → Prop} {a : Addr} {k i : Nat} {f : Str} {v : V} (T : CT K c b) (hat : ∀ (H : Hp) (Q : VK), Q (.int (k : Int)) H → tat σ H Q) (h3 : σ[3]? = some (some (.ref a))) (h0 : σ[i]? = some (some v))
    (ex : ExF c H a k f v) (hk : k < 22) (no : PySem.W.findIn K (.ref (c k)) f = some none) (th : Th K H v) (q : ∀ H', Same H H' → Q false H') :
    tOr (tNot (tB (tCall (spFits c b) [] E0 (tCons (tVar 3) (tCons tat tNil))))) (tNot (tB (tCall (spSame K) [] E0 (tCons (tXf K f (tVar 3)) (tCons (tVar i) tNil))))) σ H Q := by
  refine ⟨_, h3, hat _ _ ⟨a, k, hk, rfl, ex.exA hk, fun H1 s1 => ⟨true, rfl, ?_⟩⟩⟩
  show if (!true) = true then _ else _
  refine iteF ?_
  obtain ⟨dx, fs, e1, e2, e3⟩ := ex
  refine ⟨_, h3, a, c k, dx, fs, v, rfl, s1 _ _ e1, s1 _ _ e2, e3, T.exc (.num k hk), no, _, h0, v, rfl, th.same s1, true, rfl, ?_⟩
  exact q H1 s1
end
end K1

set_option Elab.async false
set_option linter.all false
set_option maxRecDepth 100000
set_option maxHeartbeats 4000000
namespace K1
open PySem PySem.Spec PyProof.Rows L2 G1
theorem seq_for {K : PySem.W.Frag} {te : TE} {g : TG} {tb t2 : TS} {D : Ends} {σ : L2.St} {H : Hp}
    (h : ∀ D' : Ends, D'.nx = t2 D → te σ H fun x H1 => ∃ a, x = .ref a ∧ (∃ xs, SqL K H1 a xs) ∧ ∃ W : Nat → Nat → L2.St → Hp → Prop, (∃ m, W 0 m σ H1) ∧ ∀ i m σ H, W i m σ H →
      ((Itl K a).stop i H ∧ D'.nx σ H) ∨ ((Itl K a).go i H ∧ ∃ N : L2.St → Hp → Prop, (∀ σ' H', N σ' H' → ∃ m', m' < m ∧ W (i + 1) m' σ' H') ∧
        ∀ x H', (Itl K a).yld i H x H' → g x σ H' fun σ2 H2 => tb { D' with nx := N, ct := N, bk := D'.nx } σ2 H2)) : tSeq (tFor (iList K te) g tb) t2 D σ H := h { D with nx := t2 D } rfl
section
variable {c : Nat → Addr} {v1 v2 : V} {σ : L2.St} {H : Hp} {Q : VK}
def ExB (c : Nat → Addr) (H : Hp) (v1 v2 x : V) : Prop := ∃ a, x = V.ref a ∧ ExF c H a 21 "index" v1 ∧ ExF c H a 21 "shown" v2
theorem ExB.same {H' : Hp} {x : V} (h : ExB c H v1 v2 x) (s : Same H H') : ExB c H' v1 v2 x := by
  obtain ⟨a, e, h1, h2⟩ := h
  exact ⟨a, e, h1.nl (Nl.of s), h2.nl (Nl.of s)⟩
theorem brk_new (q : ∀ (H' : Hp) (x : V), Same H H' → ExB c H' v1 v2 x → Q x H') (a : Addr) (na : H a = none) :
    spIni2 (c 21) "index" "shown" [.ref a, v1, v2] (upd H a (exo a (c 21) none)) (fun u H3 => u = .non ∧ Q (.ref a) H3) E0 := by
  refine ⟨a, v1, v2, rfl, upd_same, fun dx nd ne => ⟨rfl, q _ _ (fun x o e => ?_) ⟨a, rfl, ⟨dx, _, ?_, upd_same, ?_⟩, ⟨dx, _, ?_, upd_same, ?_⟩⟩⟩⟩
  · have h1 : x ≠ a := ne_of_none e na
    have e' : (upd H a (exo a (c 21) none)) x = some o := by rw [upd_ne h1]; exact e
    have h2 : x ≠ dx := ne_of_none e' nd
    rw [upd_ne h2, upd_ne h1, upd_ne h2]
    exact e'
  · rw [upd_ne (Ne.symm ne)]
    exact upd_same
  · rw [lookup_put, if_neg (by decide +kernel), lookup_put, if_pos rfl]
  · rw [upd_ne (Ne.symm ne)]
    exact upd_same
  · rw [lookup_put, if_pos rfl]
abbrev tB1 (c : Nat → Addr) : TE := tMkX (c 21) 0 (spIni2 (c 21) "index" "shown") app (tCons (tVar 0) (tCons (tVar 1) tNil)) tNil
abbrev tB2 (c : Nat → Addr) : TE := tMkX (c 21) 2 (spIni2 (c 21) "index" "shown") (fun us ws => us ++ ws.reverse) tNil (tCons (tVar 1) (tCons (tVar 0) tNil))
abbrev tB3 (c : Nat → Addr) : TE := tMkX (c 21) 1 (spIni2 (c 21) "index" "shown") app (tCons (tVar 0) tNil) (tCons (tVar 1) tNil)
theorem b1_read (h0 : σ[0]? = some (some v1)) (h1 : σ[1]? = some (some v2)) (q : ∀ (H' : Hp) (x : V), Same H H' → ExB c H' v1 v2 x → Q x H') : tB1 c σ H Q := ⟨v1, h0, v2, h1, by show 2 ≤ 1000; decide, rfl, fun a na => brk_new q a na⟩
theorem b2_read (h0 : σ[0]? = some (some v1)) (h1 : σ[1]? = some (some v2)) (q : ∀ (H' : Hp) (x : V), Same H H' → ExB c H' v1 v2 x → Q x H') : tB2 c σ H Q := ⟨v2, h1, v1, h0, by show 0 ≤ 1000; decide, rfl, fun a na => brk_new q a na⟩
theorem b3_read (h0 : σ[0]? = some (some v1)) (h1 : σ[1]? = some (some v2)) (q : ∀ (H' : Hp) (x : V), Same H H' → ExB c H' v1 v2 x → Q x H') : tB3 c σ H Q := ⟨v1, h0, v2, h1, by show 1 ≤ 1000; decide, rfl, fun a na => brk_new q a na⟩
end
section
variable {K : PySem.W.Frag} {c b : Nat → Addr}
theorem tst3 {σ : L2.St} {H : Hp} {Q : Bool → Hp → Prop} {a : Addr} {v1 v2 : V} (T : CT K c b) (h3 : σ[3]? = some (some (.ref a))) (h0 : σ[0]? = some (some v1)) (h1 : σ[1]? = some (some v2))
    (x1 : ExF c H a 21 "index" v1) (x2 : ExF c H a 21 "shown" v2) (no1 : PySem.W.findIn K (.ref (c 21)) "index" = some none) (no2 : PySem.W.findIn K (.ref (c 21)) "shown" = some none) (t1 : Th K H v1) (t2 : Th K H v2) (q : ∀ H', Same H H' → Q false H') :
    tOr (tNot (tB (tCall (spFits c b) [] E0 (tCons (tVar 3) (tCons (tC (.int 21)) tNil))))) (tOr (tNot (tB (tCall (spSame K) [] E0 (tCons (tXf K "index" (tVar 3)) (tCons (tVar 0) tNil)))))
      (tNot (tB (tCall (spSame K) [] E0 (tCons (tXf K "shown" (tVar 3)) (tCons (tVar 1) tNil)))))) σ H Q := by
  refine ⟨_, h3, a, 21, by decide, rfl, x1.exA (by decide), fun H1 s1 => ⟨true, rfl, ?_⟩⟩
  show if (!true) = true then _ else _
  refine iteF ?_
  obtain ⟨dx, fs, e1, e2, e3⟩ := x1
  refine ⟨_, h3, a, c 21, dx, fs, v1, rfl, s1 _ _ e1, s1 _ _ e2, e3, T.exc (.num 21 (by decide)), no1, _, h0, v1, rfl, t1.same s1, true, rfl, ?_⟩
  show if (!true) = true then _ else _
  refine iteF ?_
  obtain ⟨dx2, fs2, g1, g2, g3⟩ := x2
  refine ⟨_, h3, a, c 21, dx2, fs2, v2, rfl, s1 _ _ g1, s1 _ _ g2, g3, T.exc (.num 21 (by decide)), no2, _, h1, v2, rfl, t2.same s1, true, rfl, ?_⟩
  exact q H1 s1
end
def spOne (K : PySem.W.Frag) : Sp := fun vs H Q _ => ∃ v1 v2 : V, vs = [v1, v2] ∧ Th K H v1 ∧ Th K H v2 ∧ ∀ H' : Hp, Same H H' → Q (.bl true) H'
section
variable {P : Program} {w : World} {K : PySem.W.Frag} {mg : Str → Option Value} {base : Heap} {c b : Nat → Addr} {fI : Nat → Addr} {fdI : Nat → FuncData}
theorem ok_one {f fF fS fN fA fC : Addr} {fd fdF fdS fdN fdA fdC : FuncData} (F : Fun K "_law_one_right" "_law_one_right" sOne f fd) (T : CT K c b) (N : Nm mg c b) (IS : Is P w K mg base c fI fdI)
    (GF : FnOk P w K mg base CX0 2 fF fdF ["_law_e", "_law_at"] (spFits c b)) (kF : PySem.W.keepIn K (.ref fF) = true) (bF : Binds K fdF ["_law_e", "_law_at"] []) (gF : mg "_law_fits" = some (.ref fF))
    (GS : FnG P w K mg base 1 fS fdS ["_law_told", "_law_thing"] (spSame K)) (kS : PySem.W.keepIn K (.ref fS) = true) (bS : Binds K fdS ["_law_told", "_law_thing"] []) (gS : mg "_law_same" = some (.ref fS))
    (GN : FnOk P w K mg base CX0 3 fN fdN ["_law_thing"] (spRows c "given")) (kN : PySem.W.keepIn K (.ref fN) = true) (bN : Binds K fdN ["_law_thing"] []) (gN : mg "_law_near" = some (.ref fN))
    (GA : FnOk P w K mg base CX0 3 fA fdA ["_law_thing"] (spRows c "given")) (kA : PySem.W.keepIn K (.ref fA) = true) (bA : Binds K fdA ["_law_thing"] []) (gA : mg "_law_far" = some (.ref fA))
    (GC : FnOk P w K mg base CX0 3 fC fdC ["_law_thing"] (spRows c "index")) (kC : PySem.W.keepIn K (.ref fC) = true) (bC : Binds K fdC ["_law_thing"] []) (gC : mg "_law_counted" = some (.ref fC)) :
    FnG P w K mg base 4 f fd ["_law_thing", "_law_mate"] (spOne K) := by
  refine okG F scOne (fun vs H Q E h => ?_) (fun cdv A outer s H vs Q E hgu hr3 h => ?_)
  · obtain ⟨v1, v2, rfl, _⟩ := h
    rfl
  obtain ⟨v1, v2, rfl, th1, th2, k⟩ := h
  have hr : Room 2 _ := hr3.mono (by decide)
  have hr1 : Room 1 _ := hr3.mono (by decide)
  refine ⟨_, (pss_cons (ps_for PassesOwn.never rfl (pi_list (pe_op op_cat (pe_call GN hr3 (by rfl) gN kN bN .nil pass0 (pa_cons (pv 0) pa_nil)) (pe_call GA hr3 (by rfl) gA kA bA .nil pass0 (pa_cons (pv 0) pa_nil)))) (pg_tup rfl (pgs_cons (pg_name (i := 2) scOne.nd rfl (.inl rfl)) (pgs_cons (pg_name (i := 3) scOne.nd rfl (.inl rfl)) pgs_nil))) (pss_one (ps_if (PW.pt (pw_or (pt_not (pt_val (pe_call GF hr (by rfl) gF kF bF .nil pass0 (pa_cons (pv 3) (pa_cons (pv 2) pa_nil))))) (pw_or1 (pt_not (pt_val (pe_callG GS hgu hr1 (by rfl) gS kS bS (pa_cons (pe_xf (pv 3)) (pa_cons (pv 0) pa_nil)))))))) (pss_one (ps_ret pe_bl)) pss_nil)))
    (pss_cons (ps_for PassesOwn.never rfl (pi_list (pe_call GC hr3 (by rfl) gC kC bC .nil pass0 (pa_cons (pv 0) pa_nil))) (pg_tup rfl (pgs_cons (pg_name (i := 2) scOne.nd rfl (.inl rfl)) (pgs_cons (pg_name (i := 3) scOne.nd rfl (.inl rfl)) pgs_nil))) (pss_one (ps_if (PW.pt (pw_or (pt_not (pt_val (pe_call GF hr (by rfl) gF kF bF .nil pass0 (pa_cons (pv 3) (pa_cons (pv 2) pa_nil))))) (pw_or1 (pt_not (pt_val (pe_callG GS hgu hr1 (by rfl) gS kS bS (pa_cons (pe_xf (pv 3)) (pa_cons (pv 0) pa_nil)))))))) (pss_one (ps_ret pe_bl)) pss_nil)))
    (pss_cons (ps_for PassesOwn.never rfl (pi_list (pe_lst (pa_cons (pe_x (T.xc 18 (by decide)) (IS.i1 18 (by decide) (by decide) (by decide) (by decide)).ini (IS.i1 18 (by decide) (by decide) (by decide) (by decide)).fn (IS.i1 18 (by decide) (by decide) (by decide) (by decide)).ok hr (IS.i1 18 (by decide) (by decide) (by decide) (by decide)).bp (by rfl) (N.cl 18 (by decide)) (pa_cons (pv 0) pa_nil)) (pa_cons (pe_xk (T.xc 18 (by decide)) (IS.i1 18 (by decide) (by decide) (by decide) (by decide)).ini (IS.i1 18 (by decide) (by decide) (by decide) (by decide)).fn (IS.i1 18 (by decide) (by decide) (by decide) (by decide)).ok hr (IS.i1 18 (by decide) (by decide) (by decide) (by decide)).bk (by rfl) (N.cl 18 (by decide)) (pk_cons (pv 0) pk_nil)) pa_nil)))) (pg_name (i := 3) scOne.nd rfl (.inl rfl)) (pss_one (ps_if (PW.pt (pw_or (pt_not (pt_val (pe_call GF hr (by rfl) gF kF bF .nil pass0 (pa_cons (pv 3) (pa_cons pe_int pa_nil))))) (pw_or1 (pt_not (pt_val (pe_callG GS hgu hr1 (by rfl) gS kS bS (pa_cons (pe_xf (pv 3)) (pa_cons (pv 0) pa_nil)))))))) (pss_one (ps_ret pe_bl)) pss_nil)))
    (pss_cons (ps_for PassesOwn.never rfl (pi_list (pe_lst (pa_cons (pe_x (T.xc 21 (by decide)) IS.i2.ini IS.i2.fn IS.i2.ok hr IS.i2.bp (by rfl) (N.cl 21 (by decide)) (pa_cons (pv 0) (pa_cons (pv 1) pa_nil))) (pa_cons (pe_xk (T.xc 21 (by decide)) IS.i2.ini IS.i2.fn IS.i2.ok hr IS.i2.bk (by rfl) (N.cl 21 (by decide)) (pk_cons (pv 1) (pk_cons (pv 0) pk_nil))) (pa_cons (pe_xm (T.xc 21 (by decide)) IS.i2.ini IS.i2.fn IS.i2.ok hr IS.i2.bm (by rfl) (N.cl 21 (by decide)) (pa_cons (pv 0) pa_nil) (pk_cons (pv 1) pk_nil)) pa_nil))))) (pg_name (i := 3) scOne.nd rfl (.inl rfl)) (pss_one (ps_if (PW.pt (pw_or (pt_not (pt_val (pe_call GF hr (by rfl) gF kF bF .nil pass0 (pa_cons (pv 3) (pa_cons pe_int pa_nil))))) (pw_or (pt_not (pt_val (pe_callG GS hgu hr1 (by rfl) gS kS bS (pa_cons (pe_xf (pv 3)) (pa_cons (pv 0) pa_nil))))) (pw_or1 (pt_not (pt_val (pe_callG GS hgu hr1 (by rfl) gS kS bS (pa_cons (pe_xf (pv 3)) (pa_cons (pv 1) pa_nil))))))))) (pss_one (ps_ret pe_bl)) pss_nil)))
    (pss_one (ps_ret pe_bl)))))), ?_⟩
  have row : ∀ (f : Str) (x : V) (H' : Hp), Row c H' f v1 x → ∃ (t a : Addr) (kk : Nat), kk < 22 ∧ x = .ref t ∧ H' t = some (.tup [.int (kk : Int), .ref a]) ∧ ExF c H' a kk f v1 ∧ PySem.W.findIn K (.ref (c kk)) f = some none := by
    rintro f x H' ⟨t, a, kk, ⟨h1, h2, h3, h4, h5⟩, e, h6, h7⟩
    have no := (IS.i1 kk h1 h2 h3 h4).no
    rw [h5] at no
    exact ⟨t, a, kk, by omega, e, h6, h7, no⟩
  -- near(thing) + far(thing)
  refine ⟨_, rfl, v1, rfl, fun H1 q1 x1 s1 e1 l1 r1 => ⟨_, rfl, v1, rfl, fun H2 q2 x2 s2 e2 l2 r2 => ?_⟩⟩
  refine ⟨q1, q2, x1, x2, rfl, rfl, s2 _ _ e1, e2, by rw [sizeLine_eq]; omega, fun q n => ?_⟩
  have sA : Same H (upd H2 q (.lst (x1 ++ x2))) := s1.trans (s2.trans (same_lay n))
  have rA : ∀ x ∈ x1 ++ x2, Row c (upd H2 q (.lst (x1 ++ x2))) "given" v1 x := fun x hx => by
    rcases List.mem_append.mp hx with z | z
    · exact (r1 x z).nl (Nl.of (s2.trans (same_lay n)))
    · exact (r2 x z).nl (Nl.of (same_lay n))
  have eA : (upd H2 q (.lst (x1 ++ x2))) q = some (.lst (x1 ++ x2)) := upd_same
  generalize upd H2 q (.lst (x1 ++ x2)) = H3 at sA rA eA ⊢
  generalize x1 ++ x2 = xs at rA eA ⊢
  refine ⟨q, rfl, ⟨_, SqL.of eA⟩, for_list (K := K) (a := q) (xs := xs) (fun i σ H' => ∃ y2 y3, σ = [some v1, some v2, y2, y3] ∧ Same H3 H') ⟨none, none, rfl, Same.refl _⟩ (fun i σ H' _ hh => ?_) ?_ ?_⟩
  · obtain ⟨_, _, _, s⟩ := hh
    exact SqL.of (s _ _ eA)
  · rintro i x σ H' hi ⟨y2, y3, rfl, s⟩
    obtain ⟨t, a, kk, hk, rfl, ht, ex, no⟩ := row _ _ _ ((rA x (List.mem_of_getElem? hi)).nl (Nl.of s))
    refine ⟨t, _, rfl, SqT.of ht, rfl, _, _, rfl, _, [], rfl, rfl, ?_⟩
    refine tst (k := kk) T (fun _ _ q => ⟨_, rfl, q⟩) rfl rfl ex hk no (th1.same (sA.trans s)) fun H5 s5 => ?_
    exact iteF ⟨_, _, rfl, s.trans s5⟩
  rintro σ H4 ⟨y2, y3, rfl, s4⟩
  have sB := sA.trans s4
  -- counted(thing)
  refine ⟨_, rfl, v1, rfl, fun H5 q5 x5 s5 e5 l5 r5 => ?_⟩
  refine ⟨q5, rfl, ⟨_, SqL.of e5⟩, for_list (K := K) (a := q5) (xs := x5) (fun i σ H' => ∃ y2 y3, σ = [some v1, some v2, y2, y3] ∧ Same H5 H') ⟨y2, y3, rfl, Same.refl _⟩ (fun i σ H' _ hh => ?_) ?_ ?_⟩
  · obtain ⟨_, _, _, s⟩ := hh
    exact SqL.of (s _ _ e5)
  · rintro i x σ H' hi ⟨y2, y3, rfl, s⟩
    obtain ⟨t, a, kk, hk, rfl, ht, ex, no⟩ := row _ _ _ ((r5 x (List.mem_of_getElem? hi)).nl (Nl.of s))
    refine ⟨t, _, rfl, SqT.of ht, rfl, _, _, rfl, _, [], rfl, rfl, ?_⟩
    refine tst (k := kk) T (fun _ _ q => ⟨_, rfl, q⟩) rfl rfl ex hk no (th1.same (sB.trans (s5.trans s))) fun H7 s7 => ?_
    exact iteF ⟨_, _, rfl, s.trans s7⟩
  rintro σ H6 ⟨y2, y3, rfl, s6⟩
  have sC := sB.trans (s5.trans s6)
  -- TooMany
  dsimp only
  refine seq_for fun D1 hD1 => ?_
  refine lst_read (cons_read ?_)
  refine mkp_read (c := c) (k := 18) (f := Str.ofString "limit") (v := v1) rfl fun H7 a7 s7 x7 => ?_
  refine cons_read ?_
  refine mkk_read (c := c) (k := 18) (f := Str.ofString "limit") (v := v1) rfl fun H8 a8 s8 x8 => ?_
  refine ⟨by show 2 ≤ sizeLine; decide, fun q9 n9 => ?_⟩
  have s9 : Same H8 (upd H8 q9 (.lst [.ref a7, .ref a8])) := same_lay n9
  have e9 : (upd H8 q9 (.lst [.ref a7, .ref a8])) q9 = some (.lst [.ref a7, .ref a8]) := upd_same
  have sD := sC.trans (s7.trans (s8.trans s9))
  have z7 := x7.nl (Nl.of (s8.trans s9))
  have z8 := x8.nl (Nl.of s9)
  generalize upd H8 q9 (.lst [.ref a7, .ref a8]) = H9 at s9 e9 sD z7 z8 ⊢
  refine ⟨q9, rfl, ⟨_, SqL.of e9⟩, for_list (K := K) (a := q9) (xs := [.ref a7, .ref a8]) (fun i σ H' => ∃ y2 y3, σ = [some v1, some v2, y2, y3] ∧ Same H9 H') ⟨y2, y3, rfl, Same.refl _⟩ (fun i σ H' _ hh => ?_) ?_ ?_⟩
  · obtain ⟨_, _, _, s⟩ := hh
    exact SqL.of (s _ _ e9)
  · rintro i x σ H' hi ⟨y2, y3, rfl, s⟩
    obtain ⟨a, rfl, ex⟩ : ∃ a, x = V.ref a ∧ ExF c H9 a 18 "limit" v1 := by
      have hm := List.mem_of_getElem? hi
      simp only [List.mem_cons, List.not_mem_nil, or_false] at hm
      rcases hm with rfl | rfl
      · exact ⟨a7, rfl, z7⟩
      · exact ⟨a8, rfl, z8⟩
    refine tst (k := 18) (a := a) T (fun _ _ q => q) rfl rfl (ex.nl (Nl.of s)) (by decide) (IS.i1 18 (by decide) (by decide) (by decide) (by decide)).no (th1.same (sD.trans s)) fun HA sa => ?_
    exact iteF ⟨_, _, rfl, s.trans sa⟩
  rintro σ HB ⟨y2, y3, rfl, sb⟩
  rw [hD1]
  have sE := sD.trans sb
  -- Broken
  refine seq_for fun D2 hD2 => ?_
  refine lst_read (cons_read ?_)
  refine b1_read (c := c) (v1 := v1) (v2 := v2) rfl rfl fun HC xC sc zC => ?_
  refine cons_read ?_
  refine b2_read (c := c) (v1 := v1) (v2 := v2) rfl rfl fun HD xD sd zD => ?_
  refine cons_read ?_
  refine b3_read (c := c) (v1 := v1) (v2 := v2) rfl rfl fun HE xE se zE => ?_
  refine ⟨by show 3 ≤ sizeLine; decide, fun qF nF => ?_⟩
  have sf : Same HE (upd HE qF (.lst [xC, xD, xE])) := same_lay nF
  have ef : (upd HE qF (.lst [xC, xD, xE])) qF = some (.lst [xC, xD, xE]) := upd_same
  have sG := sE.trans (sc.trans (sd.trans (se.trans sf)))
  have wC := zC.same (sd.trans (se.trans sf))
  have wD := zD.same (se.trans sf)
  have wE := zE.same sf
  generalize upd HE qF (.lst [xC, xD, xE]) = HG at sf ef sG wC wD wE ⊢
  refine ⟨qF, rfl, ⟨_, SqL.of ef⟩, for_list (K := K) (a := qF) (xs := [xC, xD, xE]) (fun i σ H' => ∃ y2 y3, σ = [some v1, some v2, y2, y3] ∧ Same HG H') ⟨y2, y3, rfl, Same.refl _⟩ (fun i σ H' _ hh => ?_) ?_ ?_⟩
  · obtain ⟨_, _, _, s⟩ := hh
    exact SqL.of (s _ _ ef)
  · rintro i x σ H' hi ⟨y2, y3, rfl, s⟩
    have hx : ExB c HG v1 v2 x := by
      have hm := List.mem_of_getElem? hi
      simp only [List.mem_cons, List.not_mem_nil, or_false] at hm
      rcases hm with rfl | rfl | rfl
      · exact wC
      · exact wD
      · exact wE
    obtain ⟨a, rfl, xa, xb⟩ := hx.same s
    refine tst3 (a := a) T rfl rfl rfl xa xb IS.i2.no1 IS.i2.no2 (th1.same (sG.trans s)) (th2.same (sG.trans s)) fun HA sa => ?_
    exact iteF ⟨_, _, rfl, s.trans sa⟩
  rintro σ HH ⟨y2, y3, rfl, sh⟩
  rw [hD2]
  exact k _ (sG.trans sh)
end
end K1

set_option Elab.async false
set_option linter.all false
set_option maxRecDepth 100000
set_option maxHeartbeats 4000000
namespace K1
open PySem PySem.Spec PyProof.Rows L2 G1
abbrev sBare : Stmt := topS 51
theorem scBare : FnScope ["_law_at", "_law_e", "_law_some"] [] (defScope sBare) := ⟨rfl, rfl, rfl, by decide +kernel, rfl, by decide +kernel, by decide +kernel⟩
/-- classes without an __init__ of their own -/
structure X0 (K : PySem.W.Frag) (c b : Nat → Addr) : Prop where
  c16 : PySem.W.excIn K (c 16) (tlB 2) (nNew 2) = true
  c17 : PySem.W.excIn K (c 17) (tlB 2) (nNew 2) = true
  c19 : PySem.W.excIn K (c 19) (tlB 2) (nNew 2) = true
  b0 : PySem.W.excIn K (b 0) (tlB 0) (nNew 0) = true
  b1 : PySem.W.excIn K (b 1) (tlB 1) (nNew 1) = true
  b2 : PySem.W.excIn K (b 2) (tlB 2) (nNew 2) = true
def Ls (c b : Nat → Addr) (H : Hp) (ws : List Wh) (xs : List V) : Prop := Paired (fun w x => ∃ a, x = V.ref a ∧ ExA c b H a w) ws xs
theorem Ls.get {c b : Nat → Addr} {H : Hp} : ∀ {ws : List Wh} {xs : List V} {i : Nat} {x : V}, Ls c b H ws xs → xs[i]? = some x → ∃ w a, ws[i]? = some w ∧ x = .ref a ∧ ExA c b H a w
  | _, _, _, _, .nil, e => by simp at e
  | _, _, 0, x, .cons r _, e => by
    simp at e
    subst e
    obtain ⟨a, rfl, q⟩ := r
    exact ⟨_, a, rfl, rfl, q⟩
  | _, _, i + 1, x, .cons _ t, e => by
    obtain ⟨w, a, h1, h2⟩ := Ls.get (i := i) (x := x) t (by simpa using e)
    exact ⟨w, a, by simpa using h1, h2⟩
/-- what is told of them -/
def Ts (R : Wh → List Nat) (H : Hp) (D : Addr) (ws : List Wh) (ys : List V) : Prop := Paired (fun w y => ∃ p, y = V.ref p ∧ p ≠ D ∧ H p = some (.lst (nums (R w)))) ws ys
theorem Ts.app {R : Wh → List Nat} {H : Hp} {D : Addr} : ∀ {ws ws' : List Wh} {xs xs' : List V}, Ts R H D ws xs → Ts R H D ws' xs' → Ts R H D (ws ++ ws') (xs ++ xs')
  | _, _, _, _, .nil, h => h
  | _, _, _, _, .cons r t, h => .cons r (Ts.app t h)
section
variable {K : PySem.W.Frag} {c b : Nat → Addr} {R : Wh → List Nat}
theorem lists_read {te : TE} {l : Addr} {xs : List V} {ws : List Wh} {H : Hp} {Q : VK} {y0 y1 : Option V}
    (hte : ∀ (σ : L2.St) (H : Hp) (Q : VK) (a : Addr) (w : Wh), σ[1]? = some (some (.ref a)) → ExA c b H a w → (∀ H' q, Same H H' → H q = none → H' q = some (.lst (nums (R w))) → Q (.ref q) H') → te σ H Q)
    (hl : H l = some (.lst xs)) (hx : Ls c b H ws xs) (few : xs.length ≤ 10)
    (k : ∀ (H' : Hp) (q : Addr) (ys : List V), Same H H' → H' q = some (.lst ys) → Ts R H' q ws ys → Q (.ref q) H') :
    tLc (iList K (tVar 2)) (gName 1) tYes te [1] [y0, y1, some (.ref l)] H Q := by
  have hlen : ws.length = xs.length := Paired.length hx
  refine ⟨_, rfl, l, rfl, ⟨_, SqL.of hl⟩, fun D hD => ?_⟩
  refine lc_list (K := K) (a := l) (xs := xs) (fun i H' => Same H H' ∧ ∃ ys, H' D = some (.lst ys) ∧ ys.length = i ∧ Ts R H' D (ws.take i) ys) ⟨same_lay hD, [], upd_same, rfl, .nil⟩ (fun i H' _ hh => SqL.of (hh.1 _ _ hl)) ?_ ?_
  · rintro i x H' hi ⟨s1, ys, hy, ly, ry⟩
    obtain ⟨w, a, hw, rfl, ea⟩ := hx.get hi
    refine ⟨rfl, ?_⟩
    unfold tYes
    dsimp only
    rw [if_pos rfl]
    refine hte _ _ _ a w rfl (ea.same s1) fun H2 q s2 nq eq => ?_
    have hDq : q ≠ D := fun z => by
      rw [z, hy] at nq
      cases nq
    have hD2 := s2 _ _ hy
    refine ⟨ys, hD2, ?_, fun x o z => ?_, _, upd_same, ?_, ?_⟩
    · have hb : i < xs.length := (List.getElem?_eq_some_iff.mp hi).1
      rw [ly, sizeLine_eq]
      omega
    · rw [upd_ne (ne_of_none z hD)]
      exact s2 _ _ (s1 _ _ z)
    · rw [List.length_append, ly]
      rfl
    · rw [List.take_add_one, hw]
      refine Ts.app (Paired.mapP ry fun w' y z => ?_) ?_
      · obtain ⟨p, e, ne, h⟩ := z
        exact ⟨p, e, ne, by rw [upd_ne ne]; exact s2 _ _ h⟩
      · exact .cons ⟨q, rfl, hDq, by rw [upd_ne hDq]; exact eq⟩ .nil
  · rintro H' ⟨s1, ys, hy, ly, ry⟩
    rw [← hlen, List.take_length] at ry
    exact k H' D ys s1 hy ry
def lsD (l : List Nat) : PyData := .list (l.map fun (j : Nat) => .int (j : Int))
theorem dp_nums {H : Hp} {p : Addr} {l : List Nat} (h : H p = some (.lst (nums l))) : Dp K H (.ref p) (lsD l) := by
  refine .lst (SqL.of h) ?_
  clear h
  induction l with
  | nil => exact .nil
  | cons j l ih => exact .cons (.int _) ih
theorem dp_ts {H : Hp} {D : Addr} : ∀ {ws : List Wh} {ys : List V}, Ts R H D ws ys → DpAll K H ys (ws.map fun w => lsD (R w))
  | _, _, .nil => .nil
  | _, _, .cons r t => by
    obtain ⟨p, rfl, _, h⟩ := r
    exact .cons (dp_nums h) (dp_ts t)
end
/-- a row of an exception without fields -/
def Row0 (c b : Nat → Addr) (H : Hp) (x : V) : Prop := ∃ (t a : Addr) (k : Nat) (h : k < 22), x = .ref t ∧ H t = some (.tup [.int (k : Int), .ref a]) ∧ ExA c b H a (.num k h)
theorem Row0.same {c b : Nat → Addr} {H H' : Hp} {x : V} (h : Row0 c b H x) (s : Same H H') : Row0 c b H' x := by
  obtain ⟨t, a, k, hk, e, h1, h2⟩ := h
  exact ⟨t, a, k, hk, e, s _ _ h1, h2.same s⟩
theorem row0 {c b : Nat → Addr} {σ : L2.St} {H : Hp} {Q : VK} (k : Nat) (hk : k < 22) (q : ∀ (H' : Hp) (x : V), Same H H' → Row0 c b H' x → Q x H') :
    tTup (tCons (tC (.int (k : Int))) (tCons (fun σ H Q => ∀ a, H a = none → Q (.ref a) (upd H a (exo a (c k) none))) tNil)) σ H Q := by
  refine tup_read (cons_read (c_read (cons_read fun a na => ?_)))
  refine ⟨by show 2 ≤ sizeLine; decide, fun t nt => ?_⟩
  have s : Same (upd H a (exo a (c k) none)) (upd (upd H a (exo a (c k) none)) t (.tup [.int (k : Int), .ref a])) := same_lay nt
  refine q _ _ ((same_lay na).trans s) ⟨t, a, k, hk, rfl, upd_same, ?_⟩
  exact (show ExA c b (upd H a (exo a (c k) none)) a (.num k hk) from ⟨none, upd_same, fun _ z => by cases z⟩).same s
def spBare : Sp := fun vs H Q _ => vs = [] ∧ ∀ H' : Hp, Same H H' → Q (.bl true) H'
section
variable {P : Program} {w : World} {K : PySem.W.Frag} {mg : Str → Option Value} {base : Heap} {c b : Nat → Addr}
abbrev wB (g : Nat) (h : g < 3 := by decide) : Wh := .base g h
theorem ok_bare {f fF fS fB : Addr} {fd fdF fdS fdB : FuncData} (F : Fun K "_law_bare_right" "_law_bare_right" sBare f fd) (T : CT K c b) (N : Nm mg c b) (Z : X0 K c b)
    (GF : FnOk P w K mg base CX0 2 fF fdF ["_law_e", "_law_at"] (spFits c b)) (kF : PySem.W.keepIn K (.ref fF) = true) (bF : Binds K fdF ["_law_e", "_law_at"] []) (gF : mg "_law_fits" = some (.ref fF))
    (GS : FnOk P w K mg base CX0 1 fS fdS ["_law_e"] (spSorts c b)) (kS : PySem.W.keepIn K (.ref fS) = true) (bS : Binds K fdS ["_law_e"] []) (gS : mg "_law_sorts" = some (.ref fS))
    (GB : FnOk P w K mg base CX0 1 fB fdB ["_law_e"] (spBases c b)) (kB : PySem.W.keepIn K (.ref fB) = true) (bB : Binds K fdB ["_law_e"] []) (gB : mg "_law_bases" = some (.ref fB)) :
    FnOk P w K mg base CX0 3 f fd [] spBare := by
  refine F.ok scBare (fun vs H Q E h => ?_) (fun cdv A outer s H vs Q E hr h => ?_)
  · obtain ⟨rfl, _⟩ := h
    rfl
  obtain ⟨rfl, k⟩ := h
  have hr1 : Room 1 _ := hr.mono (by decide)
  have hu := hr.units
  refine ⟨_, pss_cons (ps_for PassesOwn.never rfl (pi_list (pe_lst (pa_cons (pe_tup (pa_cons pe_int (pa_cons (pe_x0 (T.xc 16 (by decide)).bf Z.c16 (N.cl 16 (by decide)) (T.xc 16 (by decide)).kC (by rfl)) pa_nil)))
        (pa_cons (pe_tup (pa_cons pe_int (pa_cons (pe_x0 (T.xc 17 (by decide)).bf Z.c17 (N.cl 17 (by decide)) (T.xc 17 (by decide)).kC (by rfl)) pa_nil)))
        (pa_cons (pe_tup (pa_cons pe_int (pa_cons (pe_x0 (T.xc 19 (by decide)).bf Z.c19 (N.cl 19 (by decide)) (T.xc 19 (by decide)).kC (by rfl)) pa_nil))) pa_nil)))))
        (pg_tup rfl (pgs_cons (pg_name (i := 0) scBare.nd rfl (.inl rfl)) (pgs_cons (pg_name (i := 1) scBare.nd rfl (.inl rfl)) pgs_nil)))
        (pss_one (ps_if (pt_not (pt_val (pe_call GF hr (by rfl) gF kF bF .nil pass0 (pa_cons (pv 1) (pa_cons (pv 0) pa_nil))))) (pss_one (ps_ret pe_bl)) pss_nil)))
    (pss_cons (ps_set (i := 2) scBare.nd rfl (.inl rfl) (pe_lst (pa_cons (pe_x0 (T.xb 0 (by decide)).bf Z.b0 (N.bs 0 (by decide)) (T.xb 0 (by decide)).kC (by rfl))
        (pa_cons (pe_x0 (T.xb 1 (by decide)).bf Z.b1 (N.bs 1 (by decide)) (T.xb 1 (by decide)).kC (by rfl)) (pa_cons (pe_x0 (T.xb 2 (by decide)).bf Z.b2 (N.bs 2 (by decide)) (T.xb 2 (by decide)).kC (by rfl)) pa_nil)))))
    (pss_one (ps_ret (pe_and (pe_cmpR (op_eqD hu) (pe_lc (own := [("_law_e", 1)]) (g := gName 1) (tt := tYes) (te := tCall (spSorts c b) [] E0 (tCons (tVar 1) tNil)) rfl scBare.nd (pi_list (pv 2)) (blkOk_by (own := [("_law_e", 1)]) (N := ["_law_at", "_law_e", "_law_some"]) (sc := defScope sBare) (by decide +kernel))
          (fun _ _ _ _ _ => pg_name (i := 1) scBare.nd rfl (Or.inl rfl)) (fun _ _ _ _ _ => pts_nil) (fun _ _ _ _ _ => pe_call GS hr1 (by rfl) gS kS bS .nil pass0 (pa_cons (pv 1) pa_nil)))
        (pe_lst (pa_cons (pe_lst pa_nil) (pa_cons (pe_lst pa_nil) (pa_cons (pe_lst pa_nil) pa_nil)))) (nomark _))
      (pe_one (pe_cmpR (op_eqD hu) (pe_lc (own := [("_law_e", 1)]) (g := gName 1) (tt := tYes) (te := tCall (spBases c b) [] E0 (tCons (tVar 1) tNil)) rfl scBare.nd (pi_list (pv 2)) (blkOk_by (own := [("_law_e", 1)]) (N := ["_law_at", "_law_e", "_law_some"]) (sc := defScope sBare) (by decide +kernel))
          (fun _ _ _ _ _ => pg_name (i := 1) scBare.nd rfl (Or.inl rfl)) (fun _ _ _ _ _ => pts_nil) (fun _ _ _ _ _ => pe_call GB hr1 (by rfl) gB kB bB .nil pass0 (pa_cons (pv 1) pa_nil)))
        (pe_lst (pa_cons (pe_lst (pa_cons pe_int (pa_cons pe_int pa_nil))) (pa_cons (pe_lst (pa_cons pe_int (pa_cons pe_int pa_nil))) (pa_cons (pe_lst (pa_cons pe_int (pa_cons pe_int pa_nil))) pa_nil)))) (nomark _))))))), ?_⟩
  refine seq_for fun D1 hD1 => ?_
  refine lst_read (cons_read ?_)
  refine row0 (b := b) 16 (by decide) fun H1 x1 s1 r1 => ?_
  refine cons_read ?_
  refine row0 (b := b) 17 (by decide) fun H2 x2 s2 r2 => ?_
  refine cons_read ?_
  refine row0 (b := b) 19 (by decide) fun H3 x3 s3 r3 => ?_
  refine ⟨by show 3 ≤ sizeLine; decide, fun q nq => ?_⟩
  have sA : Same H (upd H3 q (.lst [x1, x2, x3])) := s1.trans (s2.trans (s3.trans (same_lay nq)))
  have eA : (upd H3 q (.lst [x1, x2, x3])) q = some (.lst [x1, x2, x3]) := upd_same
  have rA : ∀ x ∈ [x1, x2, x3], Row0 c b (upd H3 q (.lst [x1, x2, x3])) x := fun x hx => by
    simp only [List.mem_cons, List.not_mem_nil, or_false] at hx
    rcases hx with rfl | rfl | rfl
    · exact r1.same (s2.trans (s3.trans (same_lay nq)))
    · exact r2.same (s3.trans (same_lay nq))
    · exact r3.same (same_lay nq)
  generalize upd H3 q (.lst [x1, x2, x3]) = H4 at sA eA rA ⊢
  refine ⟨q, rfl, ⟨_, SqL.of eA⟩, for_list (K := K) (a := q) (xs := [x1, x2, x3]) (fun i σ H' => ∃ y0 y1, σ = [y0, y1, none] ∧ Same H4 H') ⟨none, none, rfl, Same.refl _⟩ (fun i σ H' _ hh => ?_) ?_ ?_⟩
  · obtain ⟨_, _, _, s⟩ := hh
    exact SqL.of (s _ _ eA)
  · rintro i x σ H' hi ⟨y0, y1, rfl, s⟩
    obtain ⟨t, a, kk, hk, rfl, ht, ex⟩ := (rA x (List.mem_of_getElem? hi)).same s
    refine ⟨t, _, rfl, SqT.of ht, rfl, _, _, rfl, _, [], rfl, rfl, ?_⟩
    refine ⟨_, rfl, _, rfl, a, kk, hk, rfl, ex, fun H5 s5 => ⟨true, rfl, ?_⟩⟩
    exact iteF ⟨_, _, rfl, s.trans s5⟩
  rintro σ H5 ⟨y0, y1, rfl, s5⟩
  rw [hD1]
  have sB := sA.trans s5
  refine seq_asg ?_
  refine lst_read (cons_read ?_)
  intro a6 na6
  have s6 : Same H5 (upd H5 a6 (exo a6 (b 0) none)) := same_lay na6
  have e6 : ExA c b (upd H5 a6 (exo a6 (b 0) none)) a6 (wB 0) := ⟨none, upd_same, fun _ z => by cases z⟩
  generalize upd H5 a6 (exo a6 (b 0) none) = H6 at s6 e6 ⊢
  refine cons_read ?_
  intro a7 na7
  have s7 : Same H6 (upd H6 a7 (exo a7 (b 1) none)) := same_lay na7
  have e7 : ExA c b (upd H6 a7 (exo a7 (b 1) none)) a7 (wB 1) := ⟨none, upd_same, fun _ z => by cases z⟩
  generalize upd H6 a7 (exo a7 (b 1) none) = H7 at s7 e7 ⊢
  refine cons_read ?_
  intro a8 na8
  have s8 : Same H7 (upd H7 a8 (exo a8 (b 2) none)) := same_lay na8
  have e8 : ExA c b (upd H7 a8 (exo a8 (b 2) none)) a8 (wB 2) := ⟨none, upd_same, fun _ z => by cases z⟩
  generalize upd H7 a8 (exo a8 (b 2) none) = H8 at s8 e8 ⊢
  refine ⟨by show 3 ≤ sizeLine; decide, fun l nl => ?_⟩
  have s9 : Same H8 (upd H8 l (.lst [.ref a6, .ref a7, .ref a8])) := same_lay nl
  have el : (upd H8 l (.lst [.ref a6, .ref a7, .ref a8])) l = some (.lst [.ref a6, .ref a7, .ref a8]) := upd_same
  have sC := sB.trans (s6.trans (s7.trans (s8.trans s9)))
  have hx : Ls c b (upd H8 l (.lst [.ref a6, .ref a7, .ref a8])) [wB 0, wB 1, wB 2] [.ref a6, .ref a7, .ref a8] :=
    .cons ⟨a6, rfl, e6.same (s7.trans (s8.trans s9))⟩ (.cons ⟨a7, rfl, e7.same (s8.trans s9)⟩ (.cons ⟨a8, rfl, e8.same s9⟩ .nil))
  generalize upd H8 l (.lst [.ref a6, .ref a7, .ref a8]) = H9 at s9 el sC hx ⊢
  refine ret_read ?_
  show tAndV _ _ [y0, y1, some (.ref l)] H9 Q
  refine op_read ?_
  refine lists_read (c := c) (b := b) (R := Wh.sorts) (fun σ H Q a w hσ ea q => ⟨_, hσ, a, w, rfl, ea, q⟩) el hx (by show 3 ≤ 10; decide) fun HA qA yA sa eA' tA => ?_
  refine lst_read (cons_read (lst_read ?_))
  refine ⟨by show 0 ≤ sizeLine; omega, fun pa0 mpa0 => ?_⟩
  have spa0 : Same HA (upd HA pa0 (.lst [])) := same_lay mpa0
  have epa0 : (upd HA pa0 (.lst [])) pa0 = some (.lst []) := upd_same
  generalize upd HA pa0 (.lst []) = Ha0 at spa0 epa0 ⊢
  refine cons_read (lst_read ?_)
  refine ⟨by show 0 ≤ sizeLine; omega, fun pa1 mpa1 => ?_⟩
  have spa1 : Same Ha0 (upd Ha0 pa1 (.lst [])) := same_lay mpa1
  have epa1 : (upd Ha0 pa1 (.lst [])) pa1 = some (.lst []) := upd_same
  generalize upd Ha0 pa1 (.lst []) = Ha1 at spa1 epa1 ⊢
  refine cons_read (lst_read ?_)
  refine ⟨by show 0 ≤ sizeLine; omega, fun pa2 mpa2 => ?_⟩
  have spa2 : Same Ha1 (upd Ha1 pa2 (.lst [])) := same_lay mpa2
  have epa2 : (upd Ha1 pa2 (.lst [])) pa2 = some (.lst []) := upd_same
  generalize upd Ha1 pa2 (.lst []) = Ha2 at spa2 epa2 ⊢
  refine ⟨by show 3 ≤ sizeLine; decide, fun paf mpaf => ?_⟩
  have spaf : Same Ha2 (upd Ha2 paf (.lst [.ref pa0, .ref pa1, .ref pa2])) := same_lay mpaf
  have epaf : (upd Ha2 paf (.lst [.ref pa0, .ref pa1, .ref pa2])) paf = some (.lst [.ref pa0, .ref pa1, .ref pa2]) := upd_same
  generalize upd Ha2 paf (.lst [.ref pa0, .ref pa1, .ref pa2]) = Haf at spaf epaf ⊢
  have tA' : Ts Wh.sorts Haf qA [wB 0, wB 1, wB 2] yA := Paired.mapP tA fun _ _ z => let ⟨p, e, ne, h⟩ := z; ⟨p, e, ne, (spa0.trans (spa1.trans (spa2.trans spaf))) _ _ h⟩
  refine ⟨.list [lsD [], lsD [], lsD []], .list [lsD [], lsD [], lsD []], .lst (SqL.of ((spa0.trans (spa1.trans (spa2.trans spaf))) _ _ eA')) (dp_ts tA'), .lst (SqL.of epaf) (.cons (dp_nums (l := []) ((spa1.trans (spa2.trans spaf)) _ _ epa0)) (.cons (dp_nums (l := []) ((spa2.trans spaf) _ _ epa1)) (.cons (dp_nums (l := []) (spaf _ _ epa2)) .nil))), by decide +kernel, by decide +kernel, _, rfl, ?_⟩
  have ev : PyData.eqv (.list [lsD [], lsD [], lsD []]) (.list [lsD [], lsD [], lsD []]) = true := by decide +kernel
  rw [ev]
  refine iteT ?_
  have sD := sa.trans (spa0.trans (spa1.trans (spa2.trans spaf)))
  refine op_read ?_
  refine lists_read (c := c) (b := b) (R := fun w => [w.grp, w.grp + 3]) (fun σ H Q a w hσ ea q => ⟨_, hσ, a, w, rfl, ea, q⟩) (sD _ _ el) (Paired.mapP hx fun _ _ z => let ⟨a, e, h⟩ := z; ⟨a, e, h.same sD⟩) (by show 3 ≤ 10; decide) fun HB qB yB sb eB' tB => ?_
  refine lst_read (cons_read (lst_read ?_))
  refine cons_read (c_read (cons_read (c_read (?_))))
  refine ⟨by show 2 ≤ sizeLine; decide, fun pb0 mpb0 => ?_⟩
  have spb0 : Same HB (upd HB pb0 (.lst [.int 0, .int 3])) := same_lay mpb0
  have epb0 : (upd HB pb0 (.lst [.int 0, .int 3])) pb0 = some (.lst [.int 0, .int 3]) := upd_same
  generalize upd HB pb0 (.lst [.int 0, .int 3]) = Hb0 at spb0 epb0 ⊢
  refine cons_read (lst_read ?_)
  refine cons_read (c_read (cons_read (c_read (?_))))
  refine ⟨by show 2 ≤ sizeLine; decide, fun pb1 mpb1 => ?_⟩
  have spb1 : Same Hb0 (upd Hb0 pb1 (.lst [.int 1, .int 4])) := same_lay mpb1
  have epb1 : (upd Hb0 pb1 (.lst [.int 1, .int 4])) pb1 = some (.lst [.int 1, .int 4]) := upd_same
  generalize upd Hb0 pb1 (.lst [.int 1, .int 4]) = Hb1 at spb1 epb1 ⊢
  refine cons_read (lst_read ?_)
  refine cons_read (c_read (cons_read (c_read (?_))))
  refine ⟨by show 2 ≤ sizeLine; decide, fun pb2 mpb2 => ?_⟩
  have spb2 : Same Hb1 (upd Hb1 pb2 (.lst [.int 2, .int 5])) := same_lay mpb2
  have epb2 : (upd Hb1 pb2 (.lst [.int 2, .int 5])) pb2 = some (.lst [.int 2, .int 5]) := upd_same
  generalize upd Hb1 pb2 (.lst [.int 2, .int 5]) = Hb2 at spb2 epb2 ⊢
  refine ⟨by show 3 ≤ sizeLine; decide, fun pbf mpbf => ?_⟩
  have spbf : Same Hb2 (upd Hb2 pbf (.lst [.ref pb0, .ref pb1, .ref pb2])) := same_lay mpbf
  have epbf : (upd Hb2 pbf (.lst [.ref pb0, .ref pb1, .ref pb2])) pbf = some (.lst [.ref pb0, .ref pb1, .ref pb2]) := upd_same
  generalize upd Hb2 pbf (.lst [.ref pb0, .ref pb1, .ref pb2]) = Hbf at spbf epbf ⊢
  have tB' : Ts (fun w => [w.grp, w.grp + 3]) Hbf qB [wB 0, wB 1, wB 2] yB := Paired.mapP tB fun _ _ z => let ⟨p, e, ne, h⟩ := z; ⟨p, e, ne, (spb0.trans (spb1.trans (spb2.trans spbf))) _ _ h⟩
  refine ⟨.list [lsD [0, 3], lsD [1, 4], lsD [2, 5]], .list [lsD [0, 3], lsD [1, 4], lsD [2, 5]], .lst (SqL.of ((spb0.trans (spb1.trans (spb2.trans spbf))) _ _ eB')) (dp_ts tB'), .lst (SqL.of epbf) (.cons (dp_nums (l := [0, 3]) ((spb1.trans (spb2.trans spbf)) _ _ epb0)) (.cons (dp_nums (l := [1, 4]) ((spb2.trans spbf) _ _ epb1)) (.cons (dp_nums (l := [2, 5]) (spbf _ _ epb2)) .nil))), by decide +kernel, by decide +kernel, ?_⟩
  have ev2 : PyData.eqv (.list [lsD [0, 3], lsD [1, 4], lsD [2, 5]]) (.list [lsD [0, 3], lsD [1, 4], lsD [2, 5]]) = true := by decide +kernel
  rw [ev2]
  exact k _ (sC.trans (sD.trans (sb.trans (spb0.trans (spb1.trans (spb2.trans spbf))))))
end
end K1

set_option Elab.async false
set_option linter.all false
set_option maxRecDepth 100000
set_option maxHeartbeats 4000000
namespace K1
open PySem PySem.Spec PyProof.Rows L2 G1
abbrev sLaw : Stmt := topS 52
theorem scLaw : FnScope ["_law_cells", "_law_found", "_law_k", "_law_some", "_law_j"] ["_law_cells"] (defScope sLaw) := ⟨rfl, rfl, rfl, by decide +kernel, rfl, by decide +kernel, by decide +kernel⟩
theorem bMax : bootBuiltins "max" = some (.builtin "max") := by decide +kernel
theorem bMin : bootBuiltins "min" = some (.builtin "min") := by decide +kernel
theorem bAll : bootBuiltins "all" = some (.builtin "all") := by decide +kernel
/-- the limits -/
structure Cn (mg : Str → Option Value) : Prop where
  lb : ∃ t, mg "LEAST_BLOCKS" = some (.int 3 t)
  mb : ∃ t, mg "MOST_BLOCKS" = some (.int 6 t)
  lp : ∃ t, mg "LEAST_PAGES" = some (.int 2 t)
  mp : ∃ t, mg "MOST_PAGES" = some (.int 5 t)
  mr : ∃ t, mg "MOST_ROWS" = some (.int 4 t)
  mc : ∃ t, mg "MOST_PRICE" = some (.int 9 t)
  me : ∃ t, mg "MOST_EVENTS" = some (.int 2000 t)
  mw : ∃ t, mg "MOST_WRITES" = some (.int 500 t)
  ms : ∃ t, mg "MOST_STANDS" = some (.int 2000 t)
  mj : ∃ t, mg "MOST_JOINT" = some (.int 4000 t)
  mq : ∃ t, mg "MOST_PICKED" = some (.int 1000 t)
def spLaw (K : PySem.W.Frag) : Sp := fun vs H Q _ => ∃ (l : Addr) (ns : List Int), vs = [.ref l] ∧ SqL K H l (ns.map V.int) ∧ ns.length ≤ 63 ∧ ∀ H' : Hp, Q (.bl true) H'
def lims : PyData := .list [.int 3, .int 6, .int 2, .int 5, .int 4, .int 9, .int 2000, .int 500, .int 2000, .int 4000, .int 1000]
theorem gd_lims : Gd lims := gd_of (by decide +kernel) (by decide +kernel) (by decide +kernel) (by decide +kernel)
theorem shown_lims : lims.shown = Str.ofString "[3, 6, 2, 5, 4, 9, 2000, 500, 2000, 4000, 1000]" := by decide +kernel
theorem seq_forR {wi : TI} {g : TG} {tb t2 : TS} {D : Ends} {σ : L2.St} {H : Hp}
    (h : ∀ D' : Ends, D'.nx = t2 D → wi σ H fun J H1 => ∃ W : Nat → Nat → L2.St → Hp → Prop, (∃ m, W 0 m σ H1) ∧ ∀ i m σ H, W i m σ H →
      (J.stop i H ∧ D'.nx σ H) ∨ (J.go i H ∧ ∃ N : L2.St → Hp → Prop, (∀ σ' H', N σ' H' → ∃ m', m' < m ∧ W (i + 1) m' σ' H') ∧
        ∀ x H', J.yld i H x H' → g x σ H' fun σ2 H2 => tb { D' with nx := N, ct := N, bk := D'.nx } σ2 H2)) : tSeq (tFor wi g tb) t2 D σ H := h { D with nx := t2 D } rfl
theorem if_not {te : TE} {t u : TS} {D : Ends} {σ : L2.St} {H : Hp} (h : te σ H fun x H1 => ∃ c, x = .bl c ∧ if (!c) = true then t D σ H1 else u D σ H1) : tIfS (tNot (tB te)) t u D σ H := h
theorem cb_read {r : List V → Hp → VK → Prop} {ta : TA} {σ : L2.St} {H : Hp} {Q : VK} (h : ta σ H fun vs H1 => r vs H1 Q) : tCB r ta σ H Q := h
theorem at_ok {xs : List V} (h : xs.length = 14) (i : Nat) (hi : i < 14) : ∃ v, atI xs (0 + (i : Int)) = some v ∧ v ∈ xs := by
  rw [Int.zero_add]
  exact ⟨xs[i], atI_nat (List.getElem?_eq_getElem (by omega)), List.getElem_mem _⟩
theorem at_prev {xs : List V} (h : xs.length = 14) (i : Nat) (hi : i < 14) : ∃ v, atI xs (0 + (i : Int) - 1) = some v ∧ v ∈ xs := by
  by_cases h0 : i = 0
  · subst h0
    have e : ixN xs.length (0 + ((0 : Nat) : Int) - 1) = some 13 := by
      unfold ixN
      rw [if_neg (by decide), if_pos (by omega)]
      exact congrArg some (by omega)
    refine ⟨xs[13], ?_, List.getElem_mem _⟩
    unfold atI
    rw [e]
    exact List.getElem?_eq_getElem (by omega)
  · have e : (0 + (i : Int) - 1) = ((i - 1 : Nat) : Int) := by omega
    rw [e]
    exact ⟨xs[i - 1], atI_nat (List.getElem?_eq_getElem (by omega)), List.getElem_mem _⟩
section
variable {K : PySem.W.Frag}
/-- [one_right(some[j], some[j - 1]) for j in range(len(some))] -/
theorem alls_read {l : Addr} {xs : List V} {H : Hp} {Q : VK} {y0 y1 y2 : Option V} (hl : H l = some (.lst xs)) (h14 : xs.length = 14) (hx : ∀ x ∈ xs, Th K H x)
    (k : ∀ (H' : Hp) (q : Addr), Same H H' → H' q = some (.lst (List.replicate 14 (V.bl true))) → Q (.ref q) H') :
    tLc (iRng1 (tCons (tCB (fun xs H Q => ∃ p ys, xs = [.ref p] ∧ (SqL K H p ys ∨ SqT K H p ys) ∧ Q (.int ys.length) H) (tCons (tVar 3) tNil)) tNil)) (gName 4) tYes
      (tCall (spOne K) [] E0 (tCons (tOp (rIxL K) (tVar 3) (tVar 4)) (tCons (tOp (rIxL K) (tVar 3) (tOp (rI0 fun i j => .int (i - j)) (tVar 4) (tC (.int 1)))) tNil))) [4] [y0, y1, y2, some (.ref l), none] H Q := by
  refine ⟨_, rfl, l, xs, rfl, .inl (SqL.of hl), (xs.length : Int), rfl, by omega, by omega, fun D hD => ?_⟩
  have e14 : ((xs.length : Int)).toNat = 14 := by omega
  rw [e14]
  refine lc_range (lo := 0) (n := 14) (fun i H' => Same H H' ∧ H' D = some (.lst (List.replicate i (V.bl true)))) ⟨same_lay hD, upd_same⟩ ?_ ?_
  · rintro i H' hi ⟨s1, hy⟩
    obtain ⟨v1, g1, m1⟩ := at_ok h14 i hi
    obtain ⟨v2, g2, m2⟩ := at_prev h14 i hi
    refine ⟨rfl, ?_⟩
    unfold tYes
    dsimp only
    rw [if_pos rfl]
    refine ⟨_, rfl, _, rfl, l, xs, _, v1, rfl, rfl, SqL.of (s1 _ _ hl), g1, ?_⟩
    refine ⟨_, rfl, _, rfl, _, _, rfl, rfl, l, xs, _, v2, rfl, rfl, SqL.of (s1 _ _ hl), g2, ?_⟩
    refine ⟨v1, v2, rfl, (hx v1 m1).same s1, (hx v2 m2).same s1, fun H2 s2 => ⟨_, s2 _ _ hy, ?_, fun x o z => ?_, ?_⟩⟩
    · rw [List.length_replicate, sizeLine_eq]
      omega
    · rw [upd_ne (ne_of_none z hD)]
      exact s2 _ _ (s1 _ _ z)
    · rw [upd_same, List.replicate_succ']
  · rintro H' ⟨s1, hy⟩
    exact k H' D s1 hy
end
section
variable {P : Program} {w : World} {K : PySem.W.Frag} {mg : Str → Option Value} {base : Heap}
theorem ok_law {f fC fP fT fO fR : Addr} {fd fdC fdP fdT fdO fdR : FuncData} (F : Fun K "law" "law" sLaw f fd) (B : Bl mg) (C : Cn mg)
    (GC : FnOk P w K mg base CX0 1 fC fdC ["_law_cells", "_law_k"] (spCell K)) (kC : PySem.W.keepIn K (.ref fC) = true) (bC : Binds K fdC ["_law_cells", "_law_k"] []) (gC : mg "_law_cell" = some (.ref fC))
    (GP : FnOk P w K mg base CX0 1 fP fdP ["_law_cell_here"] spPool) (kP : PySem.W.keepIn K (.ref fP) = true) (bP : Binds K fdP ["_law_cell_here"] []) (gP : mg "_law_pool" = some (.ref fP))
    (GT : FnOk P w K mg base CX0 3 fT fdT ["_law_pool_here"] (spThings K)) (kT : PySem.W.keepIn K (.ref fT) = true) (bT : Binds K fdT ["_law_pool_here"] []) (gT : mg "_law_things" = some (.ref fT))
    (GO : FnG P w K mg base 4 fO fdO ["_law_thing", "_law_mate"] (spOne K)) (kO : PySem.W.keepIn K (.ref fO) = true) (bO : Binds K fdO ["_law_thing", "_law_mate"] []) (gO : mg "_law_one_right" = some (.ref fO))
    (GR : FnOk P w K mg base CX0 3 fR fdR [] spBare) (kR : PySem.W.keepIn K (.ref fR) = true) (bR : Binds K fdR [] []) (gR : mg "_law_bare_right" = some (.ref fR)) :
    FnG P w K mg base 5 f fd ["_law_cells"] (spLaw K) := by
  refine okG F scLaw (fun vs H Q E h => ?_) (fun cdv A outer s H vs Q E hgu hr h => ?_)
  · obtain ⟨l, ns, rfl, _⟩ := h
    rfl
  obtain ⟨l, ns, rfl, hS, hlen, k⟩ := h
  have hr1 : Room 1 _ := hr.mono (by decide)
  have hr3 : Room 3 _ := hr.mono (by decide)
  have hu := hr.units
  obtain ⟨t1, c1⟩ := C.lb
  obtain ⟨t2, c2⟩ := C.mb
  obtain ⟨t3, c3⟩ := C.lp
  obtain ⟨t4, c4⟩ := C.mp
  obtain ⟨t5, c5⟩ := C.mr
  obtain ⟨t6, c6⟩ := C.mc
  obtain ⟨t7, c7⟩ := C.me
  obtain ⟨t8, c8⟩ := C.mw
  obtain ⟨t9, c9⟩ := C.ms
  obtain ⟨t10, c10⟩ := C.mj
  obtain ⟨t11, c11⟩ := C.mq
  refine ⟨_, pss_cons (ps_set (i := 1) scLaw.nd rfl (.inl rfl) (pe_lst (pa_cons (pe_glob (v := .int 3) rfl c1 ⟨_, rfl⟩) (pa_cons (pe_glob (v := .int 6) rfl c2 ⟨_, rfl⟩) (pa_cons (pe_glob (v := .int 2) rfl c3 ⟨_, rfl⟩) (pa_cons (pe_glob (v := .int 5) rfl c4 ⟨_, rfl⟩)
      (pa_cons (pe_glob (v := .int 4) rfl c5 ⟨_, rfl⟩) (pa_cons (pe_glob (v := .int 9) rfl c6 ⟨_, rfl⟩) (pa_cons (pe_glob (v := .int 2000) rfl c7 ⟨_, rfl⟩) (pa_cons (pe_glob (v := .int 500) rfl c8 ⟨_, rfl⟩) pa_nil))))))))))
    (pss_cons (ps_if (pt_cmpR op_ne (pe_callB (call_repr hgu hu) (by rfl) B.repr bRepr (pa_cons (pe_op op_cat (pv 1) (pe_lst (pa_cons (pe_glob (v := .int 2000) rfl c9 ⟨_, rfl⟩) (pa_cons (pe_glob (v := .int 4000) rfl c10 ⟨_, rfl⟩)
        (pa_cons (pe_glob (v := .int 1000) rfl c11 ⟨_, rfl⟩) pa_nil))))) pa_nil)) pe_str (nomark _)) (pss_one (ps_ret pe_bl)) pss_nil)
    (pss_cons (ps_if (pt_not (pt_val (pe_call0 GR hr3 (by rfl) gR kR bR .nil pass0))) (pss_one (ps_ret pe_bl)) pss_nil)
    (pss_cons (ps_for PassesOwn.never rfl (pi_range1 (by rfl) B.range (pa_cons (pe_callB (call_max2 rfl) (by rfl) B.max bMax (pa_cons pe_int (pa_cons (pe_callB (call_min2 rfl) (by rfl) B.min bMin (pa_cons (pe_callB call_len_seq (by rfl) B.len PySem.boot_len (pa_cons (pv 0) pa_nil))
        (pa_cons pe_int pa_nil))) pa_nil))) pa_nil)) (pg_name (i := 2) scLaw.nd rfl (.inl rfl))
      (pss_cons (ps_set (i := 3) scLaw.nd rfl (.inr rfl) (pe_call GT hr3 (by rfl) gT kT bT .nil pass0 (pa_cons (pe_call GP hr1 (by rfl) gP kP bP .nil pass0 (pa_cons (pe_call GC hr1 (by rfl) gC kC bC .nil pass0 (pa_cons (pv 0) (pa_cons (pv 2) pa_nil))) pa_nil)) pa_nil)))
      (pss_one (ps_if (pt_not (pt_val (pe_callB (cr_all rfl) (by rfl) B.all bAll (pa_cons (pe_lc (own := [("_law_j", 4)]) (g := gName 4) (tt := tYes)
          (te := tCall (spOne K) [] E0 (tCons (tOp (rIxL K) (tVar 3) (tVar 4)) (tCons (tOp (rIxL K) (tVar 3) (tOp (rI0 fun i j => .int (i - j)) (tVar 4) (tC (.int 1)))) tNil))) rfl scLaw.nd
          (pi_range1 (by rfl) B.range (pa_cons (pe_callB call_len_seq (by rfl) B.len PySem.boot_len (pa_cons (pv 3) pa_nil)) pa_nil))
          (blkOk_by (own := [("_law_j", 4)]) (N := ["_law_cells", "_law_found", "_law_k", "_law_some", "_law_j"]) (sc := defScope sLaw) (by decide +kernel))
          (fun _ _ _ _ _ => pg_name (i := 4) scLaw.nd rfl (Or.inl rfl)) (fun _ _ _ _ _ => pts_nil)
          (fun _ _ _ _ _ => pe_callG GO hgu hr (by rfl) gO kO bO (pa_cons (pe_ix ix_list (pv 3) (pv 4) (fun _ _ => rfl)) (pa_cons (pe_ix ix_list (pv 3) (pe_op op_sub (pv 4) pe_int) (fun _ _ => rfl)) pa_nil)))) pa_nil)))) (pss_one (ps_ret pe_bl)) pss_nil))))
    (pss_one (ps_ret pe_bl))))), ?_⟩
  refine seq_asg ?_
  refine ⟨by show 8 ≤ sizeLine; decide, fun l0 n0 => ?_⟩
  have s0 : Same H (upd H l0 (.lst [.int 3, .int 6, .int 2, .int 5, .int 4, .int 9, .int 2000, .int 500])) := same_lay n0
  have e0 : (upd H l0 (.lst [.int 3, .int 6, .int 2, .int 5, .int 4, .int 9, .int 2000, .int 500])) l0 = some (.lst [.int 3, .int 6, .int 2, .int 5, .int 4, .int 9, .int 2000, .int 500]) := upd_same
  generalize upd H l0 (.lst [.int 3, .int 6, .int 2, .int 5, .int 4, .int 9, .int 2000, .int 500]) = H1 at s0 e0 ⊢
  refine ⟨_, rfl, by show 3 ≤ sizeLine; decide, fun l1 n1 => ?_⟩
  refine ⟨l0, l1, _, _, rfl, rfl, seen e0 n1, upd_same, by show 8 + 3 ≤ sizeLine; decide, fun l2 n2 => ?_⟩
  have s2 := s0.trans ((same_lay (o := .lst [.int 2000, .int 4000, .int 1000]) n1).trans (same_lay (o := .lst ([.int 3, .int 6, .int 2, .int 5, .int 4, .int 9, .int 2000, .int 500] ++ [.int 2000, .int 4000, .int 1000])) n2))
  have e2 : (upd (upd H1 l1 (.lst [.int 2000, .int 4000, .int 1000])) l2 (.lst ([.int 3, .int 6, .int 2, .int 5, .int 4, .int 9, .int 2000, .int 500] ++ [.int 2000, .int 4000, .int 1000]))) l2 = some (.lst [.int 3, .int 6, .int 2, .int 5, .int 4, .int 9, .int 2000, .int 500, .int 2000, .int 4000, .int 1000]) := upd_same
  generalize upd (upd H1 l1 (.lst [.int 2000, .int 4000, .int 1000])) l2 (.lst ([.int 3, .int 6, .int 2, .int 5, .int 4, .int 9, .int 2000, .int 500] ++ [.int 2000, .int 4000, .int 1000])) = H2 at s2 e2 ⊢
  have td : Tg K H2 (.ref l2) lims := .dp (.lst (SqL.of e2) (.cons (.int _) (.cons (.int _) (.cons (.int _) (.cons (.int _) (.cons (.int _) (.cons (.int _) (.cons (.int _) (.cons (.int _) (.cons (.int _) (.cons (.int _) (.cons (.int _) .nil))))))))))))
    (by decide +kernel) (by decide +kernel) (by decide +kernel)
  refine ⟨.ref l2, lims, rfl, td, gd_lims, rfl, _, rfl, ?_⟩
  rw [shown_lims, decide_eq_true rfl]
  refine iteF ?_
  refine ⟨rfl, fun H3 s3 => ⟨true, rfl, iteF ?_⟩⟩
  have sA := s2.trans s3
  unfold tNext
  dsimp only
  refine seq_forR fun D1 hD1 => ?_
  refine ⟨_, rfl, l, _, rfl, .inl (sA.seq hS), _, _, rfl, _, _, rfl, _, rfl, ?_, ?_, ?_⟩
  · rw [List.length_map]
    split <;> (try split) <;> omega
  · rw [List.length_map]
    split <;> (try split) <;> omega
  generalize hm : (if (if (3 : Int) < ((ns.map V.int).length : Int) then 3 else ((ns.map V.int).length : Int)) > 2 then (if (3 : Int) < ((ns.map V.int).length : Int) then 3 else ((ns.map V.int).length : Int)) else 2) = m
  have m3 : m ≤ 3 := by
    rw [← hm]
    split <;> (try split) <;> omega
  refine for_range (lo := 0) (n := m.toNat) (fun i σ H' => ∃ y2 y3, σ = [some (.ref l), some (.ref l0), y2, y3, none] ∧ Same H3 H') ⟨none, none, rfl, Same.refl _⟩ ?_ ?_
  · rintro i σ H' hi ⟨y2, y3, rfl, s⟩
    refine seq_asg ?_
    refine ⟨_, rfl, _, rfl, l, ns, i, by show [V.ref l, V.int (0 + (i : Int))] = _; rw [Int.zero_add], (sA.trans s).seq hS, hlen, by omega, fun H5 z s5 => ⟨z, rfl, fun p a b c np a0 a1 => ⟨p, rfl, ⟨a, b, c, upd_same, a0, a1⟩, fun H6 q xs st eq l14 ths => ?_⟩⟩⟩
    have s6 : Same H5 H6 := fun x o e => by
      have ne : x ≠ p := ne_of_none e np
      exact st.2 x o ne (by rw [upd_ne ne]; exact e)
    refine if_not (cb_read (cons_read ?_))
    refine alls_read (K := K) eq l14 ths fun H8 q8 s8 e8 => ?_
    refine ⟨q8, List.replicate 14 true, rfl, SqL.of (by rw [e8, List.map_replicate]), true, rfl, ?_⟩
    exact iteF ⟨_, _, rfl, s.trans (s5.trans (s6.trans s8))⟩
  · rintro σ H' ⟨y2, y3, rfl, s⟩
    rw [hD1]
    exact k _
end
end K1

set_option Elab.async false
set_option linter.all false
set_option maxRecDepth 100000
set_option maxHeartbeats 2000000
/-! The end of a law row from a promise of the kind FnG: at the law's own call no repr is under way. -/
namespace G1
open PySem PySem.Spec PyProof.Rows L2
section
variable {P : Program} {w : World} {K : PySem.W.Frag} {mg mb : Str → Option Value} {k : Nat} {fa a : Addr} {fd : FuncData} {x : Str} {sp : Sp} {m : Shared} {vs : List Value} {ns : List Int}
/-- over an abstract heap in which nothing but the script may be tracked -/
theorem coreG (kin : K.In m.heap) (g1 : m.heap.Ns mainGlobals mg) (g2 : m.heap.Ns builtinsNs mb) (g3 : ∀ y : Str, y ≠ "__name__" → mb y = bootBuiltins y) (nol : m.heap.NoLimit) (gens : m.gens = #[])
    (there : m.heap.get? a = some { cls := .type "list", data := .seq vs.toArray }) (room : Room k callerA)
    (F : ∀ base : Heap, K.In base → base.Ns mainGlobals mg → FnG P w K mg base k fa fd [x] sp) (bnd : ∀ (s : Shared) (u : Value), BindsTo s fd ⟨[u], []⟩ [(x, u)])
    (want : ∀ H : Hp, Only H → SqL K H a (ns.map V.int) → sp [.ref a] H (fun v _ => v = .bl true) fun _ _ _ => False)
    (H : Hp) (only : Only H) (seq : SqL K H a (ns.map V.int)) (ok : HOk P w H m.heap) (one : ∀ y, H y ≠ none → y = a) (apart : H a ≠ none → K.lookup a = none) :
    codeAny (model P w) callerA (.call (.ref fa) ⟨[.ref a], []⟩) (fun r m' => r = .ok (.ret (.bool true)) ∧ OldK m.heap m'.heap ∧ m'.os = m.os ∧ AllBare m'.gens) m := by
  have hid : ∀ {y : Addr} {o : Obj}, m.heap.get? y = some o → H y = none → (hidT m.heap H).get? y = some o := fun e n => hidT_get e n
  have untr : ∀ y, y ≠ a → H y = none := fun y hy => by
    cases z : H y with
    | none => rfl
    | some u => exact absurd (one y (by rw [z]; simp)) hy
  have nodict : ∀ {y : Addr} {o : Obj} {es : Array DictEntry} {ep : Nat}, m.heap.get? y = some o → o.data = .dict es ep → H y = none := fun {y o es ep} e d => by
    by_cases hy : y = a
    · rw [hy, there] at e
      cases e
      exact absurd (show Data.seq vs.toArray _ = Data.dict es ep from d) (fun z => by cases z)
    · exact untr y hy
  have nsH : ∀ {y : Addr} {f : Str → Option Value}, m.heap.Ns y f → (hidT m.heap H).Ns y f := fun {y f} z => by
    obtain ⟨o, es, ep, e, d, r⟩ := z
    exact ⟨o, es, ep, hid e (nodict e d), d, r⟩
  have kinH : K.In (hidT m.heap H) := fun y o e => by
    refine hid (kin y o e) ?_
    by_cases hy : y = a
    · cases z : H y with
      | none => rfl
      | some u =>
        rw [hy] at z e
        rw [apart (by rw [z]; simp)] at e
        cases e
    · exact untr y hy
  have md : Mod K mg (hidT m.heap H) := by
    obtain ⟨mc, h1, h2⟩ := nol
    exact ⟨kinH, nsH g1, ⟨mb, nsH g2, g3⟩, ⟨mc, nsH h1, h2⟩⟩
  have e0 : Env0 P w K mg (hidT m.heap H) callerA [] m H :=
    ⟨rfl, md, fun y o e => of_hidT e, Nat.le_of_eq (hidT_size _ _), trivial, fun y hy => absurd (show y ∈ ([] : List Addr) from hy) (by simp), ok, .of_eq gens⟩
  have run := (F _ kinH (nsH g1)).run callerA [] m H ⟨[.ref a], []⟩ [.ref a] [.ref a] _ _ rfl room e0 (bnd m (.ref a)) (.cons rfl .nil) (want H only seq)
  refine codeAny_mono run fun r m' h => ?_
  match r, h with
  | .error e, h => exact (show False from h).elim
  | .ok .next, h => exact (show False from h).elim
  | .ok .brk, h => exact (show False from h).elim
  | .ok .cont, h => exact (show False from h).elim
  | .ok (.ret u), h =>
    obtain ⟨v, H', hos, hba, un, ok', rv, q⟩ := h
    obtain rfl : v = .bl true := q
    obtain rfl : u = Value.bool true := rv
    refine ⟨rfl, OldK.of_keep fun y o e => ?_, hos, hba⟩
    rcases only y with z | ⟨ob, xs, z⟩
    · exact un.keep y o e z (fun hm => absurd (show y ∈ ([] : List Addr) from hm) (by simp)) (by simp)
    · obtain ⟨e1, _⟩ := ok y _ z
      obtain ⟨e2, _⟩ := ok' y _ (un.frzs y ob _ z)
      rw [e1] at e
      cases e
      exact e2
theorem callLaw (kin : K.In m.heap) (g1 : m.heap.Ns mainGlobals mg) (g2 : m.heap.Ns builtinsNs mb) (g3 : ∀ y : Str, y ≠ "__name__" → mb y = bootBuiltins y) (nol : m.heap.NoLimit) (gens : m.gens = #[])
    (there : m.heap.get? a = some { cls := .type "list", data := .seq vs.toArray }) (hi : IntsAre vs ns) (hl : ns.length ≤ sizeLine) (room : Room k callerA)
    (F : ∀ base : Heap, K.In base → base.Ns mainGlobals mg → FnG P w K mg base k fa fd [x] sp) (bnd : ∀ (s : Shared) (u : Value), BindsTo s fd ⟨[u], []⟩ [(x, u)])
    (want : ∀ H : Hp, Only H → SqL K H a (ns.map V.int) → sp [.ref a] H (fun v _ => v = .bl true) fun _ _ _ => False) :
    codeAny (model P w) callerA (.call (.ref fa) ⟨[.ref a], []⟩) (fun r m' => r = .ok (.ret (.bool true)) ∧ OldK m.heap m'.heap ∧ m'.os = m.os ∧ AllBare m'.gens) m := by
  have rv := vals_ints hi
  have lv := hi.length
  cases hk : K.lookup a with
  | some o =>
    have e := kin a o hk
    rw [there] at e
    cases e
    refine coreG (ns := ns) kin g1 g2 g3 nol gens there room F bnd want (fun _ => none) (fun _ => .inl rfl) ?_ (fun y u z => ?_) (fun y z => absurd rfl z) fun z => absurd rfl z
    · exact .inr ⟨_, vs.toArray, _, hk, rfl, rfl, rfl, by rw [List.size_toArray, lv]; exact hl, by simpa using rv⟩
    · have z' : (none : Option HO) = some u := z
      cases z'
  | none =>
    refine coreG (ns := ns) kin g1 g2 g3 nol gens there room F bnd want (fun y => if y = a then some (.frz { cls := .type "list", data := .seq vs.toArray } (.lst (ns.map V.int))) else none)
      (fun y => ?_) (.inl (.inr ⟨{ cls := .type "list", data := .seq vs.toArray }, if_pos rfl⟩)) (fun y u z => ?_) (fun y z => ?_) fun _ => hk
    · by_cases hy : y = a
      · exact .inr ⟨_, _, if_pos hy⟩
      · exact .inl (if_neg hy)
    · by_cases hy : y = a
      · have z' := (if_pos hy).symm.trans z
        cases z'
        subst hy
        exact ⟨there, by rw [List.length_map]; exact hl, vs, _, rv, there⟩
      · have z' := (if_neg hy).symm.trans z
        cases z'
    · by_cases hy : y = a
      · exact hy
      · exact absurd (if_neg hy) z
end
/-- what k_head leaves -/
theorem walkG {l : PySem.W.OpenLaw} {n k : Nat} {q : Program} {loose : List Str} {XP : (Str → Option Value) → Heap → Prop} {YP : World → Heap → Prop} {d : DefRec} {K : Params → PySem.W.Frag} {sp : World → Sp} {x : Str}
    (hn : l.most = some n) (hn2 : n ≤ sizeLine) (hdf : d.params.defaults = []) (room : Room k callerA) (hY : ∀ (w : World) (h : Heap), YP w h → (K w.params).In h)
    (F : ∀ (w : World) (mg : Str → Option Value) (fa : Addr) (h : Heap), (K w.params).In h → h.Ns mainGlobals mg → mg d.name = some (.ref fa) →
      ∃ fd : FuncData, (∀ (s : Shared) (u : Value), BindsTo s fd ⟨[u], []⟩ [(x, u)]) ∧ ∀ base : Heap, (K w.params).In base → base.Ns mainGlobals mg → FnG l.prog w (K w.params) mg base k fa fd [x] (sp w))
    (hsp : ∀ (w : World) (H : Hp) (a : Addr) (ns : List Int), ns.length ≤ n → SqL (K w.params) H a (ns.map V.int) → sp w [.ref a] H (fun v _ => v = .bl true) fun _ _ _ => False) :
    PySem.W.WalkO q loose XP YP l.row.toRowW d [] (fun f vs => PySem.call f vs) := by
  refine Att.attach_call hn hdf fun w s₀ s₁ mg mb fa o pm cd doc a vs ns G Y ho hd hcd hmg hobj hints hlen hg => ?_
  have kin := hY w _ Y
  obtain ⟨fd, hb, hF⟩ := F w mg fa _ kin G.T.g hmg
  exact callLaw kin G.T.g G.T.b G.T.builtins G.T.nolimit hg hobj hints (Nat.le_trans hlen hn2) room hF hb fun H _ hS => hsp w H a ns hlen hS
end G1

set_option Elab.async false
set_option linter.all false
set_option maxRecDepth 100000
set_option maxHeartbeats 8000000
namespace K1
open PySem PySem.Spec PyProof.Rows L2 G1
theorem bfB : ∀ g, g < 3 → ExcBaseFacts (nB g) (nNew g) (nIni g) (tlB g)
  | 0, _ => F.excBase_ValueError
  | 1, _ => F.excBase_LookupError
  | 2, _ => F.excBase_ArithmeticError
theorem passB : ∀ g, g < 3 → ∀ self, PySem.refuseLoop self "__setattr__" (tlB g) = pure ()
  | 0, _ => F.store_ValueError.passes
  | 1, _ => F.store_LookupError.passes
  | 2, _ => F.store_ArithmeticError.passes
/-- what the top has written of a class -/
structure CF (K : PySem.W.Frag) (C : Addr) (os : List Addr) (g : Nat) : Prop where
  cls : ∃ nm q N bs sn sub ab col dd k0 k1 k2 k3 k5, K.lookup C = some (excClassObj nm q C N bs (os.map Value.ref ++ tlB g) true sn sub ab col dd k0 k1 k2 k3 k5 (nNew g))
  sa : PySem.W.findIn K (.ref C) "__setattr__" = some (some (.builtin "object.__setattr__"))
  ga : PySem.W.findIn K (.ref C) "__getattribute__" = some (some (.builtin "BaseException.__getattribute__"))
  gg : PySem.W.findIn K (.ref C) "__getattr__" = some none
  ha : PySem.W.findIn K (.ref C) "__class__" = some (some (.builtin "object.__class__"))
  kC : PySem.W.keepIn K (.ref C) = true
/-- what it has written of its __init__ -/
structure IF (K : PySem.W.Frag) (C fI : Addr) (qual : Str) (st : Stmt) : Prop where
  ini : PySem.W.findIn K (.ref C) "__init__" = some (some (.ref fI))
  fn : PySem.W.typeIn K (.ref fI) = some (.type "function")
  lk : ∃ (oc : Value) (od : Option Addr) (kV dc pm : Value) (an : Option Addr) (cd ct : Value) (sl : Array (Option Value)),
    K.lookup fI = some ⟨oc, od, .func (PySem.W.fnOf "__init__" qual (defArgs st) (defBody st) (defScope st) .none kV dc pm an cd ct), sl⟩ ∧ PySem.W.codeIn K cd qual = true
  kp : PySem.W.keepIn K (.ref fI) = true
/-- .. of a def -/
structure DF (K : PySem.W.Frag) (x : Str) (st : Stmt) (f : Addr) : Prop where
  ns : PySem.W.nsIn K mainGlobals x = some (some (.ref f))
  lk : ∃ (oc : Value) (od : Option Addr) (kV dc pm : Value) (an : Option Addr) (cd ct : Value) (sl : Array (Option Value)),
    K.lookup f = some ⟨oc, od, .func (PySem.W.fnOf x x (defArgs st) (defBody st) (defScope st) .none kV dc pm an cd ct), sl⟩ ∧ PySem.W.codeIn K cd x = true
  kp : PySem.W.keepIn K (.ref f) = true
section
variable {P : Program} {w : World} {K : PySem.W.Frag} {mg : Str → Option Value} {base : Heap} {c : Nat → Addr}
theorem DF.fn {x : Str} {st : Stmt} {f : Addr} (D : DF K x st f) : ∃ fd, Fun K x x st f fd ∧ ∃ (kV dc pm : Value) (an : Option Addr) (cd ct : Value), fd = PySem.W.fnOf x x (defArgs st) (defBody st) (defScope st) .none kV dc pm an cd ct := by
  obtain ⟨oc, od, kV, dc, pm, an, cd, ct, sl, l, h⟩ := D.lk
  exact ⟨_, fun_mk l h D.kp, kV, dc, pm, an, cd, ct, rfl⟩
theorem xc_of {C : Addr} {os : List Addr} {g : Nat} (hg : g < 3) (F : CF K C os g) (hn : PySem.W.specialIn K (.builtin "object.__class__") "__get__" = some (some (.builtin "getset_descriptor.__get__")))
    (ht : PySem.W.takesIn K (.builtin "object.__class__") = some true) : XC K C os (nB g) (nNew g) (nIni g) (tlB g) := by
  obtain ⟨nm, q, N, bs, sn, sub, ab, col, dd, k0, k1, k2, k3, k5, h⟩ := F.cls
  have hcd : PySem.W.clsIn K C = some { name := nm, bases := bs, mro := .ref C :: (os.map Value.ref ++ tlB g), ns := N, qualname := q, hasDict := true, slotNames := sn, subclasses := sub, abstract := ab, collection := col, hasDel := false } := by
    unfold PySem.W.clsIn
    rw [h]
  have hm : ∀ T, (tlB g).contains (.type T) = true → PySem.W.mroIn K C (.type T) = some true := fun T z => by
    unfold PySem.W.mroIn
    rw [hcd, Option.bind_some]
    show some _ = some true
    exact congrArg some ((refs_has (tlB g) T (C :: os)).trans z)
  have ob : (tlB g).contains (.type "object") = true := by unfold tlB; simp
  have be : (tlB g).contains (.type "BaseException") = true := by unfold tlB; simp
  refine ⟨bfB g hg, passB g hg, ob, ⟨nm, q, N, bs, sn, sub, ab, col, dd, k0, k1, k2, k3, k5, h⟩, F.sa, F.kC, ⟨F.ga, F.gg, hm _ be, ?_, F.ha, hn, ht, hm _ ob⟩⟩
  unfold PySem.W.hasDictIn
  rw [hcd]
  rfl
theorem ln0 {α : Type} {l : List α} (h : l.length = 0) : l = [] := List.eq_nil_of_length_eq_zero h
theorem ln1 {α : Type} {l : List α} (h : l.length = 1) : ∃ x, l = [x] := by
  cases l with
  | nil => cases h
  | cons x r =>
    have z : r.length = 0 := by simpa using h
    exact ⟨x, by rw [ln0 z]⟩
theorem ln2 {α : Type} {l : List α} (h : l.length = 2) : ∃ x y, l = [x, y] := by
  cases l with
  | nil => cases h
  | cons x r =>
    have z : r.length = 1 := by simpa using h
    obtain ⟨y, e⟩ := ln1 z
    exact ⟨x, y, by rw [e]⟩
theorem ln_app {us ws : List Value} {self : Value} {n : Nat} (h : (self :: (us ++ ws)).length = n + 1) : us.length + ws.length = n := by
  rw [List.length_cons, List.length_append] at h
  omega
theorem rev_vals : ∀ {xs : List V} {us : List Value}, Vals xs us → Vals xs.reverse us.reverse
  | _, _, .nil => .nil
  | _, _, .cons r t => by
    rw [List.reverse_cons, List.reverse_cons]
    exact (rev_vals t).append (.cons r .nil)
theorem i1_of {k : Nat} {os : List Addr} {B n i : String} {tl : List Value} {f qual : Str} {fI : Addr} {st : Stmt} {q1 q2 q3 q4 : Pos} (T : XC K (c k) os B n i tl) (I : IF K (c k) fI qual st) (no : PySem.W.findIn K (.ref (c k)) f = some none)
    (S : FnScope ["self", f] ["self", f] (defScope st)) (hb : defBody st = [.Assign [.Attribute (.Name "self" q1) f q2] (.Name f q3) q4]) (h1 : (f == ("__debug__" : Str)) = false) (h2 : (f == ("__classdict__" : Str)) = false)
    (hv : (defScope st).names.lookup f = some .local) (hs : (defScope st).names.lookup ("self" : Str) = some .local)
    (hsw : ∀ cdv n, swapsWith (.Name f q3) (some (.Attribute (.Name "self" q1) f q2)) q4.line (envOfC qual (defScope st) n fI cdv) = pure false)
    (hp : ∀ (kV dc pm : Value) (an : Option Addr) (cd ct u v : Value), bindArgs (PySem.W.fnOf "__init__" qual (defArgs st) (defBody st) (defScope st) .none kV dc pm an cd ct) ⟨[u, v], []⟩ = pure [(("self" : Str), u), (f, v)])
    (hk : ∀ (kV dc pm : Value) (an : Option Addr) (cd ct u v : Value), bindArgs (PySem.W.fnOf "__init__" qual (defArgs st) (defBody st) (defScope st) .none kV dc pm an cd ct) ⟨[u], [(f, v)]⟩ = pure [(("self" : Str), u), (f, v)]) :
    ∃ fd, I1 P w K mg base c k f fI fd := by
  obtain ⟨oc, od, kV, dc, pm, an, cd, ct, sl, l, h⟩ := I.lk
  have F := fun_mk (x := "__init__") (st := st) l h I.kp
  refine ⟨_, I.ini, I.fn, ok_ini1 F S hb T no h1 h2 hv hs hsw, ⟨fun s self us ws _ hl hz => ?_, fun a b => a.append b⟩, ⟨fun s self us ws _ hl hz => ?_, fun a b => a.append b⟩, no⟩
  · have z := ln_app (n := 1) hl
    have w0 : ws = [] := ln0 hz
    subst w0
    obtain ⟨v, rfl⟩ := ln1 (l := us) (by simpa using z)
    exact .of_eq (hp _ _ _ _ _ _ self v)
  · have z := ln_app (n := 1) hl
    obtain ⟨v, rfl⟩ := ln1 (l := ws) hz
    have u0 : us = [] := ln0 (by simpa using z)
    subst u0
    exact .of_eq (hk _ _ _ _ _ _ self v)
theorem i2_of {k : Nat} {os : List Addr} {B n i : String} {tl : List Value} {f1 f2 qual : Str} {fI : Addr} {st : Stmt} {q1 q2 q3 q4 r1 r2 r3 r4 : Pos} (T : XC K (c k) os B n i tl) (I : IF K (c k) fI qual st)
    (no1 : PySem.W.findIn K (.ref (c k)) f1 = some none) (no2 : PySem.W.findIn K (.ref (c k)) f2 = some none) (S : FnScope ["self", f1, f2] ["self", f1, f2] (defScope st))
    (hb : defBody st = [.Assign [.Attribute (.Name "self" q1) f1 q2] (.Name f1 q3) q4, .Assign [.Attribute (.Name "self" r1) f2 r2] (.Name f2 r3) r4])
    (h1 : (f1 == ("__debug__" : Str)) = false) (h2 : (f1 == ("__classdict__" : Str)) = false) (h3 : (f2 == ("__debug__" : Str)) = false) (h4 : (f2 == ("__classdict__" : Str)) = false)
    (hv1 : (defScope st).names.lookup f1 = some .local) (hv2 : (defScope st).names.lookup f2 = some .local) (hs : (defScope st).names.lookup ("self" : Str) = some .local)
    (hsw1 : ∀ cdv n, swapsWith (.Name f1 q3) (some (.Attribute (.Name "self" q1) f1 q2)) q4.line (envOfC qual (defScope st) n fI cdv) = pure false)
    (hsw2 : ∀ cdv n, swapsWith (.Name f2 r3) (some (.Attribute (.Name "self" r1) f2 r2)) r4.line (envOfC qual (defScope st) n fI cdv) = pure false)
    (hp : ∀ (kV dc pm : Value) (an : Option Addr) (cd ct u v x : Value), bindArgs (PySem.W.fnOf "__init__" qual (defArgs st) (defBody st) (defScope st) .none kV dc pm an cd ct) ⟨[u, v, x], []⟩ = pure [(("self" : Str), u), (f1, v), (f2, x)])
    (hk : ∀ (kV dc pm : Value) (an : Option Addr) (cd ct u v x : Value), bindArgs (PySem.W.fnOf "__init__" qual (defArgs st) (defBody st) (defScope st) .none kV dc pm an cd ct) ⟨[u], [(f2, x), (f1, v)]⟩ = pure [(("self" : Str), u), (f1, v), (f2, x)])
    (hm : ∀ (kV dc pm : Value) (an : Option Addr) (cd ct u v x : Value), bindArgs (PySem.W.fnOf "__init__" qual (defArgs st) (defBody st) (defScope st) .none kV dc pm an cd ct) ⟨[u, v], [(f2, x)]⟩ = pure [(("self" : Str), u), (f1, v), (f2, x)]) :
    ∃ fd, I2 P w K mg base c k f1 f2 fI fd := by
  obtain ⟨oc, od, kV, dc, pm, an, cd, ct, sl, l, h⟩ := I.lk
  have F := fun_mk (x := "__init__") (st := st) l h I.kp
  refine ⟨_, I.ini, I.fn, ok_ini2 F S hb T no1 no2 h1 h2 h3 h4 hv1 hv2 hs hsw1 hsw2, ⟨fun s self us ws _ hl hz => ?_, fun a b => a.append b⟩, ⟨fun s self us ws _ hl hz => ?_, fun a b => a.append (rev_vals b)⟩, ⟨fun s self us ws _ hl hz => ?_, fun a b => a.append b⟩, no1, no2⟩
  · have z := ln_app (n := 2) hl
    have w0 : ws = [] := ln0 hz
    subst w0
    obtain ⟨v, x, rfl⟩ := ln2 (l := us) (by simpa using z)
    exact .of_eq (hp _ _ _ _ _ _ self v x)
  · have z := ln_app (ws := ws.reverse) (n := 2) hl
    rw [List.length_reverse] at z
    obtain ⟨x, v, rfl⟩ := ln2 (l := ws) hz
    have u0 : us = [] := ln0 (by simpa using z)
    subst u0
    exact .of_eq (hk _ _ _ _ _ _ self v x)
  · have z := ln_app (n := 2) hl
    obtain ⟨x, rfl⟩ := ln1 (l := ws) hz
    obtain ⟨v, rfl⟩ := ln1 (l := us) (by simpa using z)
    exact .of_eq (hm _ _ _ _ _ _ self v x)
end
/-- all that the top has written -/
structure All (K : PySem.W.Frag) (c b fI : Nat → Addr) (fn : Nat → Addr) : Prop where
  n0 : PySem.W.nsIn K mainGlobals "InvalidBlocks" = some (some (.ref (c 0)))
  n1 : PySem.W.nsIn K mainGlobals "InvalidPages" = some (some (.ref (c 1)))
  n2 : PySem.W.nsIn K mainGlobals "InvalidNames" = some (some (.ref (c 2)))
  n3 : PySem.W.nsIn K mainGlobals "InvalidPrice" = some (some (.ref (c 3)))
  n4 : PySem.W.nsIn K mainGlobals "InvalidNumber" = some (some (.ref (c 4)))
  n5 : PySem.W.nsIn K mainGlobals "InvalidFlag" = some (some (.ref (c 5)))
  n6 : PySem.W.nsIn K mainGlobals "InvalidDrift" = some (some (.ref (c 6)))
  n7 : PySem.W.nsIn K mainGlobals "InvalidText" = some (some (.ref (c 7)))
  n8 : PySem.W.nsIn K mainGlobals "InvalidName" = some (some (.ref (c 8)))
  n9 : PySem.W.nsIn K mainGlobals "InvalidIndex" = some (some (.ref (c 9)))
  n10 : PySem.W.nsIn K mainGlobals "InvalidClaim" = some (some (.ref (c 10)))
  n11 : PySem.W.nsIn K mainGlobals "NotADrive" = some (some (.ref (c 11)))
  n12 : PySem.W.nsIn K mainGlobals "InvalidRows" = some (some (.ref (c 12)))
  n13 : PySem.W.nsIn K mainGlobals "InvalidLoad" = some (some (.ref (c 13)))
  n14 : PySem.W.nsIn K mainGlobals "UnknownName" = some (some (.ref (c 14)))
  n15 : PySem.W.nsIn K mainGlobals "InUse" = some (some (.ref (c 15)))
  n16 : PySem.W.nsIn K mainGlobals "OtherNames" = some (some (.ref (c 16)))
  n17 : PySem.W.nsIn K mainGlobals "Sticks" = some (some (.ref (c 17)))
  n18 : PySem.W.nsIn K mainGlobals "TooMany" = some (some (.ref (c 18)))
  n19 : PySem.W.nsIn K mainGlobals "NothingToUndo" = some (some (.ref (c 19)))
  n20 : PySem.W.nsIn K mainGlobals "NotAsked" = some (some (.ref (c 20)))
  n21 : PySem.W.nsIn K mainGlobals "Broken" = some (some (.ref (c 21)))
  m0 : PySem.W.nsIn K mainGlobals "BadValue" = some (some (.ref (b 0)))
  m1 : PySem.W.nsIn K mainGlobals "BadName" = some (some (.ref (b 1)))
  m2 : PySem.W.nsIn K mainGlobals "NoAnswer" = some (some (.ref (b 2)))
  c0 : CF K (c 0) [b 0] 0
  c1 : CF K (c 1) [b 0] 0
  c2 : CF K (c 2) [b 0] 0
  c3 : CF K (c 3) [b 0] 0
  c4 : CF K (c 4) [b 0] 0
  c5 : CF K (c 5) [b 0] 0
  c6 : CF K (c 6) [b 0] 0
  c7 : CF K (c 7) [b 0] 0
  c8 : CF K (c 8) [b 0] 0
  c9 : CF K (c 9) [b 0] 0
  c10 : CF K (c 10) [b 0] 0
  c11 : CF K (c 11) [b 0] 0
  c12 : CF K (c 12) [b 0] 0
  c13 : CF K (c 13) [b 0] 0
  c14 : CF K (c 14) [b 1] 1
  c15 : CF K (c 15) [b 1] 1
  c16 : CF K (c 16) [b 2] 2
  c17 : CF K (c 17) [b 2] 2
  c18 : CF K (c 18) [b 2] 2
  c19 : CF K (c 19) [b 2] 2
  c20 : CF K (c 20) [b 2] 2
  c21 : CF K (c 21) [b 2] 2
  b0 : CF K (b 0) [] 0
  b1 : CF K (b 1) [] 1
  b2 : CF K (b 2) [] 2
  hn : PySem.W.specialIn K (.builtin "object.__class__") "__get__" = some (some (.builtin "getset_descriptor.__get__"))
  ht : PySem.W.takesIn K (.builtin "object.__class__") = some true
  nd : ((List.range 22).map c ++ (List.range 3).map b).Nodup
  i0 : IF K (c 0) (fI 0) "InvalidBlocks.__init__" (inClass (topS 2) 0)
  i1 : IF K (c 1) (fI 1) "InvalidPages.__init__" (inClass (topS 3) 0)
  i2 : IF K (c 2) (fI 2) "InvalidNames.__init__" (inClass (topS 4) 0)
  i3 : IF K (c 3) (fI 3) "InvalidPrice.__init__" (inClass (topS 5) 0)
  i4 : IF K (c 4) (fI 4) "InvalidNumber.__init__" (inClass (topS 6) 0)
  i5 : IF K (c 5) (fI 5) "InvalidFlag.__init__" (inClass (topS 7) 0)
  i6 : IF K (c 6) (fI 6) "InvalidDrift.__init__" (inClass (topS 8) 0)
  i7 : IF K (c 7) (fI 7) "InvalidText.__init__" (inClass (topS 9) 0)
  i8 : IF K (c 8) (fI 8) "InvalidName.__init__" (inClass (topS 10) 0)
  i9 : IF K (c 9) (fI 9) "InvalidIndex.__init__" (inClass (topS 11) 0)
  i10 : IF K (c 10) (fI 10) "InvalidClaim.__init__" (inClass (topS 12) 0)
  i11 : IF K (c 11) (fI 11) "NotADrive.__init__" (inClass (topS 13) 0)
  i12 : IF K (c 12) (fI 12) "InvalidRows.__init__" (inClass (topS 14) 0)
  i13 : IF K (c 13) (fI 13) "InvalidLoad.__init__" (inClass (topS 15) 0)
  i14 : IF K (c 14) (fI 14) "UnknownName.__init__" (inClass (topS 17) 0)
  i15 : IF K (c 15) (fI 15) "InUse.__init__" (inClass (topS 18) 0)
  i18 : IF K (c 18) (fI 18) "TooMany.__init__" (inClass (topS 22) 0)
  i20 : IF K (c 20) (fI 20) "NotAsked.__init__" (inClass (topS 24) 0)
  i21 : IF K (c 21) (fI 21) "Broken.__init__" (inClass (topS 25) 0)
  f0 : PySem.W.findIn K (.ref (c 0)) "given" = some none
  f1 : PySem.W.findIn K (.ref (c 1)) "given" = some none
  f2 : PySem.W.findIn K (.ref (c 2)) "given" = some none
  f3 : PySem.W.findIn K (.ref (c 3)) "given" = some none
  f4 : PySem.W.findIn K (.ref (c 4)) "given" = some none
  f5 : PySem.W.findIn K (.ref (c 5)) "given" = some none
  f6 : PySem.W.findIn K (.ref (c 6)) "given" = some none
  f7 : PySem.W.findIn K (.ref (c 7)) "given" = some none
  f8 : PySem.W.findIn K (.ref (c 8)) "given" = some none
  f9 : PySem.W.findIn K (.ref (c 9)) "given" = some none
  f10 : PySem.W.findIn K (.ref (c 10)) "given" = some none
  f11 : PySem.W.findIn K (.ref (c 11)) "given" = some none
  f12 : PySem.W.findIn K (.ref (c 12)) "index" = some none
  f13 : PySem.W.findIn K (.ref (c 13)) "index" = some none
  f14 : PySem.W.findIn K (.ref (c 14)) "given" = some none
  f15 : PySem.W.findIn K (.ref (c 15)) "index" = some none
  f18 : PySem.W.findIn K (.ref (c 18)) "limit" = some none
  f20 : PySem.W.findIn K (.ref (c 20)) "index" = some none
  f21 : PySem.W.findIn K (.ref (c 21)) "index" = some none
  g21 : PySem.W.findIn K (.ref (c 21)) "shown" = some none
  x0 : X0 K c b
  d0 : DF K "_law_cell" sCell (fn 0)
  d1 : DF K "_law_pool" sPool (fn 1)
  d2 : DF K "_law_draw" sDraw (fn 2)
  d3 : DF K "_law_word" sWord (fn 3)
  d4 : DF K "_law_things" sThings (fn 4)
  d5 : DF K "_law_sorts" sSorts (fn 5)
  d6 : DF K "_law_bases" sBases (fn 6)
  d7 : DF K "_law_fits" sFits (fn 7)
  d8 : DF K "_law_same" sSame (fn 8)
  d9 : DF K "_law_near" sNear (fn 9)
  d10 : DF K "_law_far" sFar (fn 10)
  d11 : DF K "_law_counted" sCnt (fn 11)
  d12 : DF K "_law_one_right" sOne (fn 12)
  d13 : DF K "_law_bare_right" sBare (fn 13)
  d14 : DF K "law" sLaw (fn 14)
  lb : ∃ t, PySem.W.nsIn K mainGlobals "LEAST_BLOCKS" = some (some (.int 3 t))
  mb : ∃ t, PySem.W.nsIn K mainGlobals "MOST_BLOCKS" = some (some (.int 6 t))
  lp : ∃ t, PySem.W.nsIn K mainGlobals "LEAST_PAGES" = some (some (.int 2 t))
  mp : ∃ t, PySem.W.nsIn K mainGlobals "MOST_PAGES" = some (some (.int 5 t))
  mr : ∃ t, PySem.W.nsIn K mainGlobals "MOST_ROWS" = some (some (.int 4 t))
  mc : ∃ t, PySem.W.nsIn K mainGlobals "MOST_PRICE" = some (some (.int 9 t))
  me : ∃ t, PySem.W.nsIn K mainGlobals "MOST_EVENTS" = some (some (.int 2000 t))
  mw : ∃ t, PySem.W.nsIn K mainGlobals "MOST_WRITES" = some (some (.int 500 t))
  ms : ∃ t, PySem.W.nsIn K mainGlobals "MOST_STANDS" = some (some (.int 2000 t))
  mj : ∃ t, PySem.W.nsIn K mainGlobals "MOST_JOINT" = some (some (.int 4000 t))
  mq : ∃ t, PySem.W.nsIn K mainGlobals "MOST_PICKED" = some (some (.int 1000 t))
  z_len : PySem.W.nsIn K mainGlobals "len" = some none
  z_int : PySem.W.nsIn K mainGlobals "int" = some none
  z_abs : PySem.W.nsIn K mainGlobals "abs" = some none
  z_repr : PySem.W.nsIn K mainGlobals "repr" = some none
  z_isi : PySem.W.nsIn K mainGlobals "isinstance" = some none
  z_range : PySem.W.nsIn K mainGlobals "range" = some none
  z_max : PySem.W.nsIn K mainGlobals "max" = some none
  z_min : PySem.W.nsIn K mainGlobals "min" = some none
  z_all : PySem.W.nsIn K mainGlobals "all" = some none
  z_ve : PySem.W.nsIn K mainGlobals "ValueError" = some none
  z_le : PySem.W.nsIn K mainGlobals "LookupError" = some none
  z_ae : PySem.W.nsIn K mainGlobals "ArithmeticError" = some none
theorem nodup_cb {c b : Nat → Addr} (h : ((List.range 22).map c ++ (List.range 3).map b).Nodup) : (∀ j k, j < 22 → k < 22 → c j = c k → j = k) ∧ (∀ j k, j < 3 → k < 3 → b j = b k → j = k) ∧ ∀ k g, k < 22 → g < 3 → c k ≠ b g := by
  obtain ⟨h1, h2, h3⟩ := List.nodup_append.mp h
  refine ⟨fun j k hj hk e => ?_, fun j k hj hk e => ?_, fun k g hk hg e => ?_⟩
  · have l : ((List.range 22).map c).length = 22 := by simp
    exact (List.getElem_inj (h₀ := by omega) (h₁ := by omega) h1).mp (by simpa using e)
  · have l : ((List.range 3).map b).length = 3 := by simp
    exact (List.getElem_inj (h₀ := by omega) (h₁ := by omega) h2).mp (by simpa using e)
  · exact h3 (c k) (List.mem_map.mpr ⟨k, List.mem_range.mpr hk, rfl⟩) (b g) (List.mem_map.mpr ⟨g, List.mem_range.mpr hg, rfl⟩) e
section
variable {P : Program} {w : World} {K : PySem.W.Frag} {mg : Str → Option Value} {c b fI fn : Nat → Addr} {h : Heap} {fa : Addr}
theorem All.ct (A : All K c b fI fn) : CT K c b := by
  obtain ⟨n1, n2, n3⟩ := nodup_cb A.nd
  refine ⟨fun k hk => ?_, fun g hg => ?_, n1, n2, n3⟩
  · match k, hk with
    | 0, _ => exact xc_of (by decide) A.c0 A.hn A.ht
    | 1, _ => exact xc_of (by decide) A.c1 A.hn A.ht
    | 2, _ => exact xc_of (by decide) A.c2 A.hn A.ht
    | 3, _ => exact xc_of (by decide) A.c3 A.hn A.ht
    | 4, _ => exact xc_of (by decide) A.c4 A.hn A.ht
    | 5, _ => exact xc_of (by decide) A.c5 A.hn A.ht
    | 6, _ => exact xc_of (by decide) A.c6 A.hn A.ht
    | 7, _ => exact xc_of (by decide) A.c7 A.hn A.ht
    | 8, _ => exact xc_of (by decide) A.c8 A.hn A.ht
    | 9, _ => exact xc_of (by decide) A.c9 A.hn A.ht
    | 10, _ => exact xc_of (by decide) A.c10 A.hn A.ht
    | 11, _ => exact xc_of (by decide) A.c11 A.hn A.ht
    | 12, _ => exact xc_of (by decide) A.c12 A.hn A.ht
    | 13, _ => exact xc_of (by decide) A.c13 A.hn A.ht
    | 14, _ => exact xc_of (by decide) A.c14 A.hn A.ht
    | 15, _ => exact xc_of (by decide) A.c15 A.hn A.ht
    | 16, _ => exact xc_of (by decide) A.c16 A.hn A.ht
    | 17, _ => exact xc_of (by decide) A.c17 A.hn A.ht
    | 18, _ => exact xc_of (by decide) A.c18 A.hn A.ht
    | 19, _ => exact xc_of (by decide) A.c19 A.hn A.ht
    | 20, _ => exact xc_of (by decide) A.c20 A.hn A.ht
    | 21, _ => exact xc_of (by decide) A.c21 A.hn A.ht
    | k + 22, hk => exact absurd hk (by omega)
  · match g, hg with
    | 0, _ => exact xc_of (by decide) A.b0 A.hn A.ht
    | 1, _ => exact xc_of (by decide) A.b1 A.hn A.ht
    | 2, _ => exact xc_of (by decide) A.b2 A.hn A.ht
theorem All.nm (A : All K c b fI fn) (X : K.In h) (G : h.Ns mainGlobals mg) : Nm mg c b := by
  refine ⟨fun k hk => ?_, fun g hg => ?_⟩
  · match k, hk with
    | 0, _ => exact PySem.W.mg_of X G A.n0
    | 1, _ => exact PySem.W.mg_of X G A.n1
    | 2, _ => exact PySem.W.mg_of X G A.n2
    | 3, _ => exact PySem.W.mg_of X G A.n3
    | 4, _ => exact PySem.W.mg_of X G A.n4
    | 5, _ => exact PySem.W.mg_of X G A.n5
    | 6, _ => exact PySem.W.mg_of X G A.n6
    | 7, _ => exact PySem.W.mg_of X G A.n7
    | 8, _ => exact PySem.W.mg_of X G A.n8
    | 9, _ => exact PySem.W.mg_of X G A.n9
    | 10, _ => exact PySem.W.mg_of X G A.n10
    | 11, _ => exact PySem.W.mg_of X G A.n11
    | 12, _ => exact PySem.W.mg_of X G A.n12
    | 13, _ => exact PySem.W.mg_of X G A.n13
    | 14, _ => exact PySem.W.mg_of X G A.n14
    | 15, _ => exact PySem.W.mg_of X G A.n15
    | 16, _ => exact PySem.W.mg_of X G A.n16
    | 17, _ => exact PySem.W.mg_of X G A.n17
    | 18, _ => exact PySem.W.mg_of X G A.n18
    | 19, _ => exact PySem.W.mg_of X G A.n19
    | 20, _ => exact PySem.W.mg_of X G A.n20
    | 21, _ => exact PySem.W.mg_of X G A.n21
    | k + 22, hk => exact absurd hk (by omega)
  · match g, hg with
    | 0, _ => exact PySem.W.mg_of X G A.m0
    | 1, _ => exact PySem.W.mg_of X G A.m1
    | 2, _ => exact PySem.W.mg_of X G A.m2
theorem All.is (A : All K c b fI fn) (base : Heap) : ∃ fd : Nat → FuncData, Is P w K mg base c fI fd := by
  have T := A.ct
  have sel : ∀ k : Nat, ∃ fd : FuncData, (k < 21 → k ≠ 16 → k ≠ 17 → k ≠ 19 → I1 P w K mg base c k (fld k) (fI k) fd) ∧ (k = 21 → I2 P w K mg base c 21 "index" "shown" (fI 21) fd) := by
    intro k
    obtain ⟨fd21, h21⟩ : ∃ fd, I2 P w K mg base c 21 "index" "shown" (fI 21) fd := i2_of (T.xc 21 (by decide)) A.i21 A.f21 A.g21 ⟨rfl, rfl, rfl, by decide +kernel, rfl, by decide +kernel, by decide +kernel⟩ rfl (by decide) (by decide) (by decide) (by decide) rfl rfl rfl
      (fun _ _ => rfl) (fun _ _ => rfl) (fun _ _ _ _ _ _ _ _ _ => rfl) (fun _ _ _ _ _ _ _ _ _ => rfl) (fun _ _ _ _ _ _ _ _ _ => rfl)
    by_cases h1 : k < 21 ∧ k ≠ 16 ∧ k ≠ 17 ∧ k ≠ 19
    · obtain ⟨a1, a2, a3, a4⟩ := h1
      have e1 : ∃ fd, I1 P w K mg base c k (fld k) (fI k) fd := by
        match k, a1, a2, a3, a4 with
        | 0, _, _, _, _ => exact i1_of (f := "given") (T.xc 0 (by decide)) A.i0 A.f0 ⟨rfl, rfl, rfl, by decide +kernel, rfl, by decide +kernel, by decide +kernel⟩ rfl (by decide) (by decide) rfl rfl (fun _ _ => rfl) (fun _ _ _ _ _ _ _ _ => rfl) (fun _ _ _ _ _ _ _ _ => rfl)
        | 1, _, _, _, _ => exact i1_of (f := "given") (T.xc 1 (by decide)) A.i1 A.f1 ⟨rfl, rfl, rfl, by decide +kernel, rfl, by decide +kernel, by decide +kernel⟩ rfl (by decide) (by decide) rfl rfl (fun _ _ => rfl) (fun _ _ _ _ _ _ _ _ => rfl) (fun _ _ _ _ _ _ _ _ => rfl)
        | 2, _, _, _, _ => exact i1_of (f := "given") (T.xc 2 (by decide)) A.i2 A.f2 ⟨rfl, rfl, rfl, by decide +kernel, rfl, by decide +kernel, by decide +kernel⟩ rfl (by decide) (by decide) rfl rfl (fun _ _ => rfl) (fun _ _ _ _ _ _ _ _ => rfl) (fun _ _ _ _ _ _ _ _ => rfl)
        | 3, _, _, _, _ => exact i1_of (f := "given") (T.xc 3 (by decide)) A.i3 A.f3 ⟨rfl, rfl, rfl, by decide +kernel, rfl, by decide +kernel, by decide +kernel⟩ rfl (by decide) (by decide) rfl rfl (fun _ _ => rfl) (fun _ _ _ _ _ _ _ _ => rfl) (fun _ _ _ _ _ _ _ _ => rfl)
        | 4, _, _, _, _ => exact i1_of (f := "given") (T.xc 4 (by decide)) A.i4 A.f4 ⟨rfl, rfl, rfl, by decide +kernel, rfl, by decide +kernel, by decide +kernel⟩ rfl (by decide) (by decide) rfl rfl (fun _ _ => rfl) (fun _ _ _ _ _ _ _ _ => rfl) (fun _ _ _ _ _ _ _ _ => rfl)
        | 5, _, _, _, _ => exact i1_of (f := "given") (T.xc 5 (by decide)) A.i5 A.f5 ⟨rfl, rfl, rfl, by decide +kernel, rfl, by decide +kernel, by decide +kernel⟩ rfl (by decide) (by decide) rfl rfl (fun _ _ => rfl) (fun _ _ _ _ _ _ _ _ => rfl) (fun _ _ _ _ _ _ _ _ => rfl)
        | 6, _, _, _, _ => exact i1_of (f := "given") (T.xc 6 (by decide)) A.i6 A.f6 ⟨rfl, rfl, rfl, by decide +kernel, rfl, by decide +kernel, by decide +kernel⟩ rfl (by decide) (by decide) rfl rfl (fun _ _ => rfl) (fun _ _ _ _ _ _ _ _ => rfl) (fun _ _ _ _ _ _ _ _ => rfl)
        | 7, _, _, _, _ => exact i1_of (f := "given") (T.xc 7 (by decide)) A.i7 A.f7 ⟨rfl, rfl, rfl, by decide +kernel, rfl, by decide +kernel, by decide +kernel⟩ rfl (by decide) (by decide) rfl rfl (fun _ _ => rfl) (fun _ _ _ _ _ _ _ _ => rfl) (fun _ _ _ _ _ _ _ _ => rfl)
        | 8, _, _, _, _ => exact i1_of (f := "given") (T.xc 8 (by decide)) A.i8 A.f8 ⟨rfl, rfl, rfl, by decide +kernel, rfl, by decide +kernel, by decide +kernel⟩ rfl (by decide) (by decide) rfl rfl (fun _ _ => rfl) (fun _ _ _ _ _ _ _ _ => rfl) (fun _ _ _ _ _ _ _ _ => rfl)
        | 9, _, _, _, _ => exact i1_of (f := "given") (T.xc 9 (by decide)) A.i9 A.f9 ⟨rfl, rfl, rfl, by decide +kernel, rfl, by decide +kernel, by decide +kernel⟩ rfl (by decide) (by decide) rfl rfl (fun _ _ => rfl) (fun _ _ _ _ _ _ _ _ => rfl) (fun _ _ _ _ _ _ _ _ => rfl)
        | 10, _, _, _, _ => exact i1_of (f := "given") (T.xc 10 (by decide)) A.i10 A.f10 ⟨rfl, rfl, rfl, by decide +kernel, rfl, by decide +kernel, by decide +kernel⟩ rfl (by decide) (by decide) rfl rfl (fun _ _ => rfl) (fun _ _ _ _ _ _ _ _ => rfl) (fun _ _ _ _ _ _ _ _ => rfl)
        | 11, _, _, _, _ => exact i1_of (f := "given") (T.xc 11 (by decide)) A.i11 A.f11 ⟨rfl, rfl, rfl, by decide +kernel, rfl, by decide +kernel, by decide +kernel⟩ rfl (by decide) (by decide) rfl rfl (fun _ _ => rfl) (fun _ _ _ _ _ _ _ _ => rfl) (fun _ _ _ _ _ _ _ _ => rfl)
        | 12, _, _, _, _ => exact i1_of (f := "index") (T.xc 12 (by decide)) A.i12 A.f12 ⟨rfl, rfl, rfl, by decide +kernel, rfl, by decide +kernel, by decide +kernel⟩ rfl (by decide) (by decide) rfl rfl (fun _ _ => rfl) (fun _ _ _ _ _ _ _ _ => rfl) (fun _ _ _ _ _ _ _ _ => rfl)
        | 13, _, _, _, _ => exact i1_of (f := "index") (T.xc 13 (by decide)) A.i13 A.f13 ⟨rfl, rfl, rfl, by decide +kernel, rfl, by decide +kernel, by decide +kernel⟩ rfl (by decide) (by decide) rfl rfl (fun _ _ => rfl) (fun _ _ _ _ _ _ _ _ => rfl) (fun _ _ _ _ _ _ _ _ => rfl)
        | 14, _, _, _, _ => exact i1_of (f := "given") (T.xc 14 (by decide)) A.i14 A.f14 ⟨rfl, rfl, rfl, by decide +kernel, rfl, by decide +kernel, by decide +kernel⟩ rfl (by decide) (by decide) rfl rfl (fun _ _ => rfl) (fun _ _ _ _ _ _ _ _ => rfl) (fun _ _ _ _ _ _ _ _ => rfl)
        | 15, _, _, _, _ => exact i1_of (f := "index") (T.xc 15 (by decide)) A.i15 A.f15 ⟨rfl, rfl, rfl, by decide +kernel, rfl, by decide +kernel, by decide +kernel⟩ rfl (by decide) (by decide) rfl rfl (fun _ _ => rfl) (fun _ _ _ _ _ _ _ _ => rfl) (fun _ _ _ _ _ _ _ _ => rfl)
        | 16, _, a2, a3, a4 => exact absurd rfl a2
        | 17, _, a2, a3, a4 => exact absurd rfl a3
        | 18, _, _, _, _ => exact i1_of (f := "limit") (T.xc 18 (by decide)) A.i18 A.f18 ⟨rfl, rfl, rfl, by decide +kernel, rfl, by decide +kernel, by decide +kernel⟩ rfl (by decide) (by decide) rfl rfl (fun _ _ => rfl) (fun _ _ _ _ _ _ _ _ => rfl) (fun _ _ _ _ _ _ _ _ => rfl)
        | 19, _, a2, a3, a4 => exact absurd rfl a4
        | 20, _, _, _, _ => exact i1_of (f := "index") (T.xc 20 (by decide)) A.i20 A.f20 ⟨rfl, rfl, rfl, by decide +kernel, rfl, by decide +kernel, by decide +kernel⟩ rfl (by decide) (by decide) rfl rfl (fun _ _ => rfl) (fun _ _ _ _ _ _ _ _ => rfl) (fun _ _ _ _ _ _ _ _ => rfl)
        | k + 21, a1, _, _, _ => exact absurd a1 (by omega)
      obtain ⟨fd, hfd⟩ := e1
      exact ⟨fd, fun _ _ _ _ => hfd, fun z => by omega⟩
    · refine ⟨fd21, fun b1 b2 b3 b4 => absurd ⟨b1, b2, b3, b4⟩ h1, fun _ => h21⟩
  obtain ⟨fd, hfd⟩ := Classical.axiomOfChoice sel
  exact ⟨fd, fun k h1 h2 h3 h4 => (hfd k).1 h1 h2 h3 h4, (hfd 21).2 rfl⟩
theorem All.law (A : All K c b fI fn) (X : K.In h) (G : h.Ns mainGlobals mg) (hfa : mg "law" = some (.ref fa)) :
    ∃ fd : FuncData, (∀ (s : Shared) (u : Value), BindsTo s fd ⟨[u], []⟩ [("_law_cells", u)]) ∧ ∀ base : Heap, FnG P w K mg base 5 fa fd ["_law_cells"] (spLaw K) := by
  have T := A.ct
  have N := A.nm X G
  have B : Bl mg := ⟨PySem.W.mg_none_of X G A.z_len, PySem.W.mg_none_of X G A.z_int, PySem.W.mg_none_of X G A.z_abs, PySem.W.mg_none_of X G A.z_repr, PySem.W.mg_none_of X G A.z_isi, PySem.W.mg_none_of X G A.z_range, PySem.W.mg_none_of X G A.z_max, PySem.W.mg_none_of X G A.z_min, PySem.W.mg_none_of X G A.z_all, PySem.W.mg_none_of X G A.z_ve, PySem.W.mg_none_of X G A.z_le, PySem.W.mg_none_of X G A.z_ae⟩
  have C : Cn mg := ⟨let ⟨t, e⟩ := A.lb; ⟨t, PySem.W.mg_of X G e⟩, let ⟨t, e⟩ := A.mb; ⟨t, PySem.W.mg_of X G e⟩, let ⟨t, e⟩ := A.lp; ⟨t, PySem.W.mg_of X G e⟩, let ⟨t, e⟩ := A.mp; ⟨t, PySem.W.mg_of X G e⟩, let ⟨t, e⟩ := A.mr; ⟨t, PySem.W.mg_of X G e⟩, let ⟨t, e⟩ := A.mc; ⟨t, PySem.W.mg_of X G e⟩, let ⟨t, e⟩ := A.me; ⟨t, PySem.W.mg_of X G e⟩, let ⟨t, e⟩ := A.mw; ⟨t, PySem.W.mg_of X G e⟩, let ⟨t, e⟩ := A.ms; ⟨t, PySem.W.mg_of X G e⟩, let ⟨t, e⟩ := A.mj; ⟨t, PySem.W.mg_of X G e⟩, let ⟨t, e⟩ := A.mq; ⟨t, PySem.W.mg_of X G e⟩⟩
  obtain ⟨fd0, F0, kV0, dc0, pm0, an0, cd0, ct0, e0⟩ := A.d0.fn
  have b0 := F0.binds (ps := ["_law_cells", "_law_k"]) fun _ _ _ _ _ _ us hl => match us, hl with | [_, _], _ => rfl
  have g0 := PySem.W.mg_of X G A.d0.ns
  obtain ⟨fd1, F1, kV1, dc1, pm1, an1, cd1, ct1, e1⟩ := A.d1.fn
  have b1 := F1.binds (ps := ["_law_cell_here"]) fun _ _ _ _ _ _ us hl => match us, hl with | [_], _ => rfl
  have g1 := PySem.W.mg_of X G A.d1.ns
  obtain ⟨fd2, F2, kV2, dc2, pm2, an2, cd2, ct2, e2⟩ := A.d2.fn
  have b2 := F2.binds (ps := ["_law_pool_here", "_law_many"]) fun _ _ _ _ _ _ us hl => match us, hl with | [_, _], _ => rfl
  have g2 := PySem.W.mg_of X G A.d2.ns
  obtain ⟨fd3, F3, kV3, dc3, pm3, an3, cd3, ct3, e3⟩ := A.d3.fn
  have b3 := F3.binds (ps := ["_law_pool_here"]) fun _ _ _ _ _ _ us hl => match us, hl with | [_], _ => rfl
  have g3 := PySem.W.mg_of X G A.d3.ns
  obtain ⟨fd4, F4, kV4, dc4, pm4, an4, cd4, ct4, e4⟩ := A.d4.fn
  have b4 := F4.binds (ps := ["_law_pool_here"]) fun _ _ _ _ _ _ us hl => match us, hl with | [_], _ => rfl
  have g4 := PySem.W.mg_of X G A.d4.ns
  obtain ⟨fd5, F5, kV5, dc5, pm5, an5, cd5, ct5, e5⟩ := A.d5.fn
  have b5 := F5.binds (ps := ["_law_e"]) fun _ _ _ _ _ _ us hl => match us, hl with | [_], _ => rfl
  have g5 := PySem.W.mg_of X G A.d5.ns
  obtain ⟨fd6, F6, kV6, dc6, pm6, an6, cd6, ct6, e6⟩ := A.d6.fn
  have b6 := F6.binds (ps := ["_law_e"]) fun _ _ _ _ _ _ us hl => match us, hl with | [_], _ => rfl
  have g6 := PySem.W.mg_of X G A.d6.ns
  obtain ⟨fd7, F7, kV7, dc7, pm7, an7, cd7, ct7, e7⟩ := A.d7.fn
  have b7 := F7.binds (ps := ["_law_e", "_law_at"]) fun _ _ _ _ _ _ us hl => match us, hl with | [_, _], _ => rfl
  have g7 := PySem.W.mg_of X G A.d7.ns
  obtain ⟨fd8, F8, kV8, dc8, pm8, an8, cd8, ct8, e8⟩ := A.d8.fn
  have b8 := F8.binds (ps := ["_law_told", "_law_thing"]) fun _ _ _ _ _ _ us hl => match us, hl with | [_, _], _ => rfl
  have g8 := PySem.W.mg_of X G A.d8.ns
  obtain ⟨fd9, F9, kV9, dc9, pm9, an9, cd9, ct9, e9⟩ := A.d9.fn
  have b9 := F9.binds (ps := ["_law_thing"]) fun _ _ _ _ _ _ us hl => match us, hl with | [_], _ => rfl
  have g9 := PySem.W.mg_of X G A.d9.ns
  obtain ⟨fd10, F10, kV10, dc10, pm10, an10, cd10, ct10, e10⟩ := A.d10.fn
  have b10 := F10.binds (ps := ["_law_thing"]) fun _ _ _ _ _ _ us hl => match us, hl with | [_], _ => rfl
  have g10 := PySem.W.mg_of X G A.d10.ns
  obtain ⟨fd11, F11, kV11, dc11, pm11, an11, cd11, ct11, e11⟩ := A.d11.fn
  have b11 := F11.binds (ps := ["_law_thing"]) fun _ _ _ _ _ _ us hl => match us, hl with | [_], _ => rfl
  have g11 := PySem.W.mg_of X G A.d11.ns
  obtain ⟨fd12, F12, kV12, dc12, pm12, an12, cd12, ct12, e12⟩ := A.d12.fn
  have b12 := F12.binds (ps := ["_law_thing", "_law_mate"]) fun _ _ _ _ _ _ us hl => match us, hl with | [_, _], _ => rfl
  have g12 := PySem.W.mg_of X G A.d12.ns
  obtain ⟨fd13, F13, kV13, dc13, pm13, an13, cd13, ct13, e13⟩ := A.d13.fn
  have b13 := F13.binds (ps := []) fun _ _ _ _ _ _ us hl => match us, hl with | [], _ => rfl
  have g13 := PySem.W.mg_of X G A.d13.ns
  obtain ⟨fd14, F14, kV14, dc14, pm14, an14, cd14, ct14, e14⟩ := A.d14.fn
  have g14 := PySem.W.mg_of X G A.d14.ns
  have e := hfa.symm.trans g14
  cases e
  refine ⟨fd14, fun s u => ?_, fun base => ?_⟩
  · rw [e14]
    exact .of_eq rfl
  obtain ⟨fdI, IS⟩ := A.is (P := P) (w := w) (mg := mg) base
  have GF : FnOk P w K mg base CX0 2 (fn 7) fd7 ["_law_e", "_law_at"] (spFits c b) := ok_fits F7 B T N F5 b5 g5 F6 b6 g6
  have GS : FnG P w K mg base 1 (fn 8) fd8 ["_law_told", "_law_thing"] (spSame K) := ok_same F8 B
  have GO : FnG P w K mg base 4 (fn 12) fd12 ["_law_thing", "_law_mate"] (spOne K) := ok_one F12 T N IS GF F7.kp b7 g7 GS F8.kp b8 g8 (ok_near F9 B T N IS) F9.kp b9 g9 (ok_far F10 B T N IS) F10.kp b10 g10 (ok_cnt F11 T N IS) F11.kp b11 g11
  have GR : FnOk P w K mg base CX0 3 (fn 13) fd13 [] spBare := ok_bare F13 T N A.x0 GF F7.kp b7 g7 (ok_sorts F5 B T N) F5.kp b5 g5 (ok_bases F6 B T N) F6.kp b6 g6
  exact ok_law F14 B C (ok_cell F0 B) F0.kp b0 g0 (ok_pool F1 B) F1.kp b1 g1 (ok_things F4 B F2 b2 g2 F3 b3 g3) F4.kp b4 g4 GO F12.kp b12 g12 GR F13.kp b13 g13
end
end K1

set_option maxHeartbeats 8000000
namespace K1
open PySem PySem.Spec PyProof.Rows L2 G1
def cA : Nat → Addr
  | 0 => 44
  | 1 => 63
  | 2 => 82
  | 3 => 101
  | 4 => 120
  | 5 => 139
  | 6 => 158
  | 7 => 177
  | 8 => 196
  | 9 => 215
  | 10 => 234
  | 11 => 253
  | 12 => 272
  | 13 => 291
  | 14 => 323
  | 15 => 342
  | 16 => 367
  | 17 => 379
  | 18 => 398
  | 19 => 410
  | 20 => 429
  | 21 => 448
  | _ => 0
def bA : Nat → Addr
  | 0 => 24
  | 1 => 303
  | 2 => 354
  | _ => 0
def iA : Nat → Addr
  | 0 => 41
  | 1 => 60
  | 2 => 79
  | 3 => 98
  | 4 => 117
  | 5 => 136
  | 6 => 155
  | 7 => 174
  | 8 => 193
  | 9 => 212
  | 10 => 231
  | 11 => 250
  | 12 => 269
  | 13 => 288
  | 14 => 320
  | 15 => 339
  | 18 => 395
  | 20 => 426
  | 21 => 445
  | _ => 0
def dA : Nat → Addr
  | 0 => 457
  | 1 => 464
  | 2 => 471
  | 3 => 478
  | 4 => 485
  | 5 => 490
  | 6 => 495
  | 7 => 502
  | 8 => 509
  | 9 => 514
  | 10 => 519
  | 11 => 526
  | 12 => 533
  | 13 => 538
  | 14 => 543
  | _ => 0
theorem cf_mk {K : PySem.W.Frag} {C : Addr} {os : List Addr} {g : Nat} {nm q : Str} {N : Addr} {bs : List Value} {sn : List Str} {sub : List Value} {ab : Bool} {col : Option Bool} {dd : Option Addr} {k0 k1 k2 k3 k5 : Option Value}
    (l : K.lookup C = some (excClassObj nm q C N bs (os.map Value.ref ++ tlB g) true sn sub ab col dd k0 k1 k2 k3 k5 (nNew g)))
    (sa : PySem.W.findIn K (.ref C) "__setattr__" = some (some (.builtin "object.__setattr__"))) (ga : PySem.W.findIn K (.ref C) "__getattribute__" = some (some (.builtin "BaseException.__getattribute__")))
    (gg : PySem.W.findIn K (.ref C) "__getattr__" = some none) (ha : PySem.W.findIn K (.ref C) "__class__" = some (some (.builtin "object.__class__"))) (kC : PySem.W.keepIn K (.ref C) = true) : CF K C os g :=
  ⟨⟨nm, q, N, bs, sn, sub, ab, col, dd, k0, k1, k2, k3, k5, l⟩, sa, ga, gg, ha, kC⟩
theorem if_mk {K : PySem.W.Frag} {C fI : Addr} {qual : Str} {st : Stmt} {oc : Value} {od : Option Addr} {kV dc pm : Value} {an : Option Addr} {cd ct : Value} {sl : Array (Option Value)}
    (ini : PySem.W.findIn K (.ref C) "__init__" = some (some (.ref fI))) (fn : PySem.W.typeIn K (.ref fI) = some (.type "function"))
    (l : K.lookup fI = some ⟨oc, od, .func (PySem.W.fnOf "__init__" qual (defArgs st) (defBody st) (defScope st) .none kV dc pm an cd ct), sl⟩) (h : PySem.W.codeIn K cd qual = true) (kp : PySem.W.keepIn K (.ref fI) = true) : IF K C fI qual st :=
  ⟨ini, fn, ⟨oc, od, kV, dc, pm, an, cd, ct, sl, l, h⟩, kp⟩
theorem df_mk {K : PySem.W.Frag} {x : Str} {st : Stmt} {f : Addr} {oc : Value} {od : Option Addr} {kV dc pm : Value} {an : Option Addr} {cd ct : Value} {sl : Array (Option Value)} (n : PySem.W.nsIn K mainGlobals x = some (some (.ref f)))
    (l : K.lookup f = some ⟨oc, od, .func (PySem.W.fnOf x x (defArgs st) (defBody st) (defScope st) .none kV dc pm an cd ct), sl⟩) (h : PySem.W.codeIn K cd x = true) (kp : PySem.W.keepIn K (.ref f) = true) : DF K x st f :=
  ⟨n, ⟨oc, od, kV, dc, pm, an, cd, ct, sl, l, h⟩, kp⟩
theorem ct_mk {K : PySem.W.Frag} {x : Str} {i : Int} {t : Tok} (n : PySem.W.nsIn K mainGlobals x = some (some (.int i t))) : ∃ t, PySem.W.nsIn K mainGlobals x = some (some (.int i t)) := ⟨t, n⟩
end K1
open PySem PySem.W PyProof.Rows
set_option maxRecDepth 100000 in
set_option maxHeartbeats 0 in
theorem PySem.Challenge.cw_spareblocks_k01_limits_and_errors_holds : PySem.Challenge.rw_spareblocks_k01_limits_and_errors.Holds := by
  w_on; o_law; k_head; (case hw => w_witness2)
  k_fill
  refine G1.walkG (l := PySem.Challenge.rw_spareblocks_k01_limits_and_errors) (n := 63) (k := 5) (x := "_law_cells") (sp := fun w => K1.spLaw _) rfl (by decide) rfl ⟨rfl, by decide, by decide⟩ (fun w h Y => PySem.W.kIn_of Y) ?F (fun _ _ a ns hl hS => ⟨a, ns, rfl, hS, hl, fun _ => rfl⟩)
  case F =>
    intro w mg fa h KX G hmg
    have A : K1.All (L2.KOf KX) K1.cA K1.bA K1.iA K1.dA := by
      clear hmg G
      have n0 : PySem.W.nsIn (L2.KOf KX) mainGlobals "InvalidBlocks" = some (some (.ref 44)) := by unfold L2.KOf; k_is
      have n1 : PySem.W.nsIn (L2.KOf KX) mainGlobals "InvalidPages" = some (some (.ref 63)) := by unfold L2.KOf; k_is
      have n2 : PySem.W.nsIn (L2.KOf KX) mainGlobals "InvalidNames" = some (some (.ref 82)) := by unfold L2.KOf; k_is
      have n3 : PySem.W.nsIn (L2.KOf KX) mainGlobals "InvalidPrice" = some (some (.ref 101)) := by unfold L2.KOf; k_is
      have n4 : PySem.W.nsIn (L2.KOf KX) mainGlobals "InvalidNumber" = some (some (.ref 120)) := by unfold L2.KOf; k_is
      have n5 : PySem.W.nsIn (L2.KOf KX) mainGlobals "InvalidFlag" = some (some (.ref 139)) := by unfold L2.KOf; k_is
      have n6 : PySem.W.nsIn (L2.KOf KX) mainGlobals "InvalidDrift" = some (some (.ref 158)) := by unfold L2.KOf; k_is
      have n7 : PySem.W.nsIn (L2.KOf KX) mainGlobals "InvalidText" = some (some (.ref 177)) := by unfold L2.KOf; k_is
      have n8 : PySem.W.nsIn (L2.KOf KX) mainGlobals "InvalidName" = some (some (.ref 196)) := by unfold L2.KOf; k_is
      have n9 : PySem.W.nsIn (L2.KOf KX) mainGlobals "InvalidIndex" = some (some (.ref 215)) := by unfold L2.KOf; k_is
      have n10 : PySem.W.nsIn (L2.KOf KX) mainGlobals "InvalidClaim" = some (some (.ref 234)) := by unfold L2.KOf; k_is
      have n11 : PySem.W.nsIn (L2.KOf KX) mainGlobals "NotADrive" = some (some (.ref 253)) := by unfold L2.KOf; k_is
      have n12 : PySem.W.nsIn (L2.KOf KX) mainGlobals "InvalidRows" = some (some (.ref 272)) := by unfold L2.KOf; k_is
      have n13 : PySem.W.nsIn (L2.KOf KX) mainGlobals "InvalidLoad" = some (some (.ref 291)) := by unfold L2.KOf; k_is
      have n14 : PySem.W.nsIn (L2.KOf KX) mainGlobals "UnknownName" = some (some (.ref 323)) := by unfold L2.KOf; k_is
      have n15 : PySem.W.nsIn (L2.KOf KX) mainGlobals "InUse" = some (some (.ref 342)) := by unfold L2.KOf; k_is
      have n16 : PySem.W.nsIn (L2.KOf KX) mainGlobals "OtherNames" = some (some (.ref 367)) := by unfold L2.KOf; k_is
      have n17 : PySem.W.nsIn (L2.KOf KX) mainGlobals "Sticks" = some (some (.ref 379)) := by unfold L2.KOf; k_is
      have n18 : PySem.W.nsIn (L2.KOf KX) mainGlobals "TooMany" = some (some (.ref 398)) := by unfold L2.KOf; k_is
      have n19 : PySem.W.nsIn (L2.KOf KX) mainGlobals "NothingToUndo" = some (some (.ref 410)) := by unfold L2.KOf; k_is
      have n20 : PySem.W.nsIn (L2.KOf KX) mainGlobals "NotAsked" = some (some (.ref 429)) := by unfold L2.KOf; k_is
      have n21 : PySem.W.nsIn (L2.KOf KX) mainGlobals "Broken" = some (some (.ref 448)) := by unfold L2.KOf; k_is
      have m0 : PySem.W.nsIn (L2.KOf KX) mainGlobals "BadValue" = some (some (.ref 24)) := by unfold L2.KOf; k_is
      have m1 : PySem.W.nsIn (L2.KOf KX) mainGlobals "BadName" = some (some (.ref 303)) := by unfold L2.KOf; k_is
      have m2 : PySem.W.nsIn (L2.KOf KX) mainGlobals "NoAnswer" = some (some (.ref 354)) := by unfold L2.KOf; k_is
      have c0 : K1.CF (L2.KOf KX) 44 [24] 0 := by unfold L2.KOf; refine' K1.cf_mk ?l ?sa ?ga ?gg ?ha ?kC; (case l => k_is); (case sa => k_is); (case ga => k_is); (case gg => k_is); (case ha => k_is); (case kC => k_is)
      have c1 : K1.CF (L2.KOf KX) 63 [24] 0 := by unfold L2.KOf; refine' K1.cf_mk ?l ?sa ?ga ?gg ?ha ?kC; (case l => k_is); (case sa => k_is); (case ga => k_is); (case gg => k_is); (case ha => k_is); (case kC => k_is)
      have c2 : K1.CF (L2.KOf KX) 82 [24] 0 := by unfold L2.KOf; refine' K1.cf_mk ?l ?sa ?ga ?gg ?ha ?kC; (case l => k_is); (case sa => k_is); (case ga => k_is); (case gg => k_is); (case ha => k_is); (case kC => k_is)
      have c3 : K1.CF (L2.KOf KX) 101 [24] 0 := by unfold L2.KOf; refine' K1.cf_mk ?l ?sa ?ga ?gg ?ha ?kC; (case l => k_is); (case sa => k_is); (case ga => k_is); (case gg => k_is); (case ha => k_is); (case kC => k_is)
      have c4 : K1.CF (L2.KOf KX) 120 [24] 0 := by unfold L2.KOf; refine' K1.cf_mk ?l ?sa ?ga ?gg ?ha ?kC; (case l => k_is); (case sa => k_is); (case ga => k_is); (case gg => k_is); (case ha => k_is); (case kC => k_is)
      have c5 : K1.CF (L2.KOf KX) 139 [24] 0 := by unfold L2.KOf; refine' K1.cf_mk ?l ?sa ?ga ?gg ?ha ?kC; (case l => k_is); (case sa => k_is); (case ga => k_is); (case gg => k_is); (case ha => k_is); (case kC => k_is)
      have c6 : K1.CF (L2.KOf KX) 158 [24] 0 := by unfold L2.KOf; refine' K1.cf_mk ?l ?sa ?ga ?gg ?ha ?kC; (case l => k_is); (case sa => k_is); (case ga => k_is); (case gg => k_is); (case ha => k_is); (case kC => k_is)
      have c7 : K1.CF (L2.KOf KX) 177 [24] 0 := by unfold L2.KOf; refine' K1.cf_mk ?l ?sa ?ga ?gg ?ha ?kC; (case l => k_is); (case sa => k_is); (case ga => k_is); (case gg => k_is); (case ha => k_is); (case kC => k_is)
      have c8 : K1.CF (L2.KOf KX) 196 [24] 0 := by unfold L2.KOf; refine' K1.cf_mk ?l ?sa ?ga ?gg ?ha ?kC; (case l => k_is); (case sa => k_is); (case ga => k_is); (case gg => k_is); (case ha => k_is); (case kC => k_is)
      have c9 : K1.CF (L2.KOf KX) 215 [24] 0 := by unfold L2.KOf; refine' K1.cf_mk ?l ?sa ?ga ?gg ?ha ?kC; (case l => k_is); (case sa => k_is); (case ga => k_is); (case gg => k_is); (case ha => k_is); (case kC => k_is)
      have c10 : K1.CF (L2.KOf KX) 234 [24] 0 := by unfold L2.KOf; refine' K1.cf_mk ?l ?sa ?ga ?gg ?ha ?kC; (case l => k_is); (case sa => k_is); (case ga => k_is); (case gg => k_is); (case ha => k_is); (case kC => k_is)
      have c11 : K1.CF (L2.KOf KX) 253 [24] 0 := by unfold L2.KOf; refine' K1.cf_mk ?l ?sa ?ga ?gg ?ha ?kC; (case l => k_is); (case sa => k_is); (case ga => k_is); (case gg => k_is); (case ha => k_is); (case kC => k_is)
      have c12 : K1.CF (L2.KOf KX) 272 [24] 0 := by unfold L2.KOf; refine' K1.cf_mk ?l ?sa ?ga ?gg ?ha ?kC; (case l => k_is); (case sa => k_is); (case ga => k_is); (case gg => k_is); (case ha => k_is); (case kC => k_is)
      have c13 : K1.CF (L2.KOf KX) 291 [24] 0 := by unfold L2.KOf; refine' K1.cf_mk ?l ?sa ?ga ?gg ?ha ?kC; (case l => k_is); (case sa => k_is); (case ga => k_is); (case gg => k_is); (case ha => k_is); (case kC => k_is)
      have c14 : K1.CF (L2.KOf KX) 323 [303] 1 := by unfold L2.KOf; refine' K1.cf_mk ?l ?sa ?ga ?gg ?ha ?kC; (case l => k_is); (case sa => k_is); (case ga => k_is); (case gg => k_is); (case ha => k_is); (case kC => k_is)
      have c15 : K1.CF (L2.KOf KX) 342 [303] 1 := by unfold L2.KOf; refine' K1.cf_mk ?l ?sa ?ga ?gg ?ha ?kC; (case l => k_is); (case sa => k_is); (case ga => k_is); (case gg => k_is); (case ha => k_is); (case kC => k_is)
      have c16 : K1.CF (L2.KOf KX) 367 [354] 2 := by unfold L2.KOf; refine' K1.cf_mk ?l ?sa ?ga ?gg ?ha ?kC; (case l => k_is); (case sa => k_is); (case ga => k_is); (case gg => k_is); (case ha => k_is); (case kC => k_is)
      have c17 : K1.CF (L2.KOf KX) 379 [354] 2 := by unfold L2.KOf; refine' K1.cf_mk ?l ?sa ?ga ?gg ?ha ?kC; (case l => k_is); (case sa => k_is); (case ga => k_is); (case gg => k_is); (case ha => k_is); (case kC => k_is)
      have c18 : K1.CF (L2.KOf KX) 398 [354] 2 := by unfold L2.KOf; refine' K1.cf_mk ?l ?sa ?ga ?gg ?ha ?kC; (case l => k_is); (case sa => k_is); (case ga => k_is); (case gg => k_is); (case ha => k_is); (case kC => k_is)
      have c19 : K1.CF (L2.KOf KX) 410 [354] 2 := by unfold L2.KOf; refine' K1.cf_mk ?l ?sa ?ga ?gg ?ha ?kC; (case l => k_is); (case sa => k_is); (case ga => k_is); (case gg => k_is); (case ha => k_is); (case kC => k_is)
      have c20 : K1.CF (L2.KOf KX) 429 [354] 2 := by unfold L2.KOf; refine' K1.cf_mk ?l ?sa ?ga ?gg ?ha ?kC; (case l => k_is); (case sa => k_is); (case ga => k_is); (case gg => k_is); (case ha => k_is); (case kC => k_is)
      have c21 : K1.CF (L2.KOf KX) 448 [354] 2 := by unfold L2.KOf; refine' K1.cf_mk ?l ?sa ?ga ?gg ?ha ?kC; (case l => k_is); (case sa => k_is); (case ga => k_is); (case gg => k_is); (case ha => k_is); (case kC => k_is)
      have b0 : K1.CF (L2.KOf KX) 24 [] 0 := by unfold L2.KOf; refine' K1.cf_mk ?l ?sa ?ga ?gg ?ha ?kC; (case l => k_is); (case sa => k_is); (case ga => k_is); (case gg => k_is); (case ha => k_is); (case kC => k_is)
      have b1 : K1.CF (L2.KOf KX) 303 [] 1 := by unfold L2.KOf; refine' K1.cf_mk ?l ?sa ?ga ?gg ?ha ?kC; (case l => k_is); (case sa => k_is); (case ga => k_is); (case gg => k_is); (case ha => k_is); (case kC => k_is)
      have b2 : K1.CF (L2.KOf KX) 354 [] 2 := by unfold L2.KOf; refine' K1.cf_mk ?l ?sa ?ga ?gg ?ha ?kC; (case l => k_is); (case sa => k_is); (case ga => k_is); (case gg => k_is); (case ha => k_is); (case kC => k_is)
      have hn : PySem.W.specialIn (L2.KOf KX) (.builtin "object.__class__") "__get__" = some (some (.builtin "getset_descriptor.__get__")) := by unfold L2.KOf; k_is
      have ht : PySem.W.takesIn (L2.KOf KX) (.builtin "object.__class__") = some true := by unfold L2.KOf; k_is
      have i0 : K1.IF (L2.KOf KX) 44 41 "InvalidBlocks.__init__" (L2.inClass (K1.topS 2) 0) := by unfold L2.KOf; refine' K1.if_mk ?ini ?fn ?l ?h ?kp; (case ini => k_is); (case fn => k_is); (case l => k_is); (case h => k_is); (case kp => k_is)
      have i1 : K1.IF (L2.KOf KX) 63 60 "InvalidPages.__init__" (L2.inClass (K1.topS 3) 0) := by unfold L2.KOf; refine' K1.if_mk ?ini ?fn ?l ?h ?kp; (case ini => k_is); (case fn => k_is); (case l => k_is); (case h => k_is); (case kp => k_is)
      have i2 : K1.IF (L2.KOf KX) 82 79 "InvalidNames.__init__" (L2.inClass (K1.topS 4) 0) := by unfold L2.KOf; refine' K1.if_mk ?ini ?fn ?l ?h ?kp; (case ini => k_is); (case fn => k_is); (case l => k_is); (case h => k_is); (case kp => k_is)
      have i3 : K1.IF (L2.KOf KX) 101 98 "InvalidPrice.__init__" (L2.inClass (K1.topS 5) 0) := by unfold L2.KOf; refine' K1.if_mk ?ini ?fn ?l ?h ?kp; (case ini => k_is); (case fn => k_is); (case l => k_is); (case h => k_is); (case kp => k_is)
      have i4 : K1.IF (L2.KOf KX) 120 117 "InvalidNumber.__init__" (L2.inClass (K1.topS 6) 0) := by unfold L2.KOf; refine' K1.if_mk ?ini ?fn ?l ?h ?kp; (case ini => k_is); (case fn => k_is); (case l => k_is); (case h => k_is); (case kp => k_is)
      have i5 : K1.IF (L2.KOf KX) 139 136 "InvalidFlag.__init__" (L2.inClass (K1.topS 7) 0) := by unfold L2.KOf; refine' K1.if_mk ?ini ?fn ?l ?h ?kp; (case ini => k_is); (case fn => k_is); (case l => k_is); (case h => k_is); (case kp => k_is)
      have i6 : K1.IF (L2.KOf KX) 158 155 "InvalidDrift.__init__" (L2.inClass (K1.topS 8) 0) := by unfold L2.KOf; refine' K1.if_mk ?ini ?fn ?l ?h ?kp; (case ini => k_is); (case fn => k_is); (case l => k_is); (case h => k_is); (case kp => k_is)
      have i7 : K1.IF (L2.KOf KX) 177 174 "InvalidText.__init__" (L2.inClass (K1.topS 9) 0) := by unfold L2.KOf; refine' K1.if_mk ?ini ?fn ?l ?h ?kp; (case ini => k_is); (case fn => k_is); (case l => k_is); (case h => k_is); (case kp => k_is)
      have i8 : K1.IF (L2.KOf KX) 196 193 "InvalidName.__init__" (L2.inClass (K1.topS 10) 0) := by unfold L2.KOf; refine' K1.if_mk ?ini ?fn ?l ?h ?kp; (case ini => k_is); (case fn => k_is); (case l => k_is); (case h => k_is); (case kp => k_is)
      have i9 : K1.IF (L2.KOf KX) 215 212 "InvalidIndex.__init__" (L2.inClass (K1.topS 11) 0) := by unfold L2.KOf; refine' K1.if_mk ?ini ?fn ?l ?h ?kp; (case ini => k_is); (case fn => k_is); (case l => k_is); (case h => k_is); (case kp => k_is)
      have i10 : K1.IF (L2.KOf KX) 234 231 "InvalidClaim.__init__" (L2.inClass (K1.topS 12) 0) := by unfold L2.KOf; refine' K1.if_mk ?ini ?fn ?l ?h ?kp; (case ini => k_is); (case fn => k_is); (case l => k_is); (case h => k_is); (case kp => k_is)
      have i11 : K1.IF (L2.KOf KX) 253 250 "NotADrive.__init__" (L2.inClass (K1.topS 13) 0) := by unfold L2.KOf; refine' K1.if_mk ?ini ?fn ?l ?h ?kp; (case ini => k_is); (case fn => k_is); (case l => k_is); (case h => k_is); (case kp => k_is)
      have i12 : K1.IF (L2.KOf KX) 272 269 "InvalidRows.__init__" (L2.inClass (K1.topS 14) 0) := by unfold L2.KOf; refine' K1.if_mk ?ini ?fn ?l ?h ?kp; (case ini => k_is); (case fn => k_is); (case l => k_is); (case h => k_is); (case kp => k_is)
      have i13 : K1.IF (L2.KOf KX) 291 288 "InvalidLoad.__init__" (L2.inClass (K1.topS 15) 0) := by unfold L2.KOf; refine' K1.if_mk ?ini ?fn ?l ?h ?kp; (case ini => k_is); (case fn => k_is); (case l => k_is); (case h => k_is); (case kp => k_is)
      have i14 : K1.IF (L2.KOf KX) 323 320 "UnknownName.__init__" (L2.inClass (K1.topS 17) 0) := by unfold L2.KOf; refine' K1.if_mk ?ini ?fn ?l ?h ?kp; (case ini => k_is); (case fn => k_is); (case l => k_is); (case h => k_is); (case kp => k_is)
      have i15 : K1.IF (L2.KOf KX) 342 339 "InUse.__init__" (L2.inClass (K1.topS 18) 0) := by unfold L2.KOf; refine' K1.if_mk ?ini ?fn ?l ?h ?kp; (case ini => k_is); (case fn => k_is); (case l => k_is); (case h => k_is); (case kp => k_is)
      have i18 : K1.IF (L2.KOf KX) 398 395 "TooMany.__init__" (L2.inClass (K1.topS 22) 0) := by unfold L2.KOf; refine' K1.if_mk ?ini ?fn ?l ?h ?kp; (case ini => k_is); (case fn => k_is); (case l => k_is); (case h => k_is); (case kp => k_is)
      have i20 : K1.IF (L2.KOf KX) 429 426 "NotAsked.__init__" (L2.inClass (K1.topS 24) 0) := by unfold L2.KOf; refine' K1.if_mk ?ini ?fn ?l ?h ?kp; (case ini => k_is); (case fn => k_is); (case l => k_is); (case h => k_is); (case kp => k_is)
      have i21 : K1.IF (L2.KOf KX) 448 445 "Broken.__init__" (L2.inClass (K1.topS 25) 0) := by unfold L2.KOf; refine' K1.if_mk ?ini ?fn ?l ?h ?kp; (case ini => k_is); (case fn => k_is); (case l => k_is); (case h => k_is); (case kp => k_is)
      have f0 : PySem.W.findIn (L2.KOf KX) (.ref 44) "given" = some none := by unfold L2.KOf; k_is
      have f1 : PySem.W.findIn (L2.KOf KX) (.ref 63) "given" = some none := by unfold L2.KOf; k_is
      have f2 : PySem.W.findIn (L2.KOf KX) (.ref 82) "given" = some none := by unfold L2.KOf; k_is
      have f3 : PySem.W.findIn (L2.KOf KX) (.ref 101) "given" = some none := by unfold L2.KOf; k_is
      have f4 : PySem.W.findIn (L2.KOf KX) (.ref 120) "given" = some none := by unfold L2.KOf; k_is
      have f5 : PySem.W.findIn (L2.KOf KX) (.ref 139) "given" = some none := by unfold L2.KOf; k_is
      have f6 : PySem.W.findIn (L2.KOf KX) (.ref 158) "given" = some none := by unfold L2.KOf; k_is
      have f7 : PySem.W.findIn (L2.KOf KX) (.ref 177) "given" = some none := by unfold L2.KOf; k_is
      have f8 : PySem.W.findIn (L2.KOf KX) (.ref 196) "given" = some none := by unfold L2.KOf; k_is
      have f9 : PySem.W.findIn (L2.KOf KX) (.ref 215) "given" = some none := by unfold L2.KOf; k_is
      have f10 : PySem.W.findIn (L2.KOf KX) (.ref 234) "given" = some none := by unfold L2.KOf; k_is
      have f11 : PySem.W.findIn (L2.KOf KX) (.ref 253) "given" = some none := by unfold L2.KOf; k_is
      have f12 : PySem.W.findIn (L2.KOf KX) (.ref 272) "index" = some none := by unfold L2.KOf; k_is
      have f13 : PySem.W.findIn (L2.KOf KX) (.ref 291) "index" = some none := by unfold L2.KOf; k_is
      have f14 : PySem.W.findIn (L2.KOf KX) (.ref 323) "given" = some none := by unfold L2.KOf; k_is
      have f15 : PySem.W.findIn (L2.KOf KX) (.ref 342) "index" = some none := by unfold L2.KOf; k_is
      have f18 : PySem.W.findIn (L2.KOf KX) (.ref 398) "limit" = some none := by unfold L2.KOf; k_is
      have f20 : PySem.W.findIn (L2.KOf KX) (.ref 429) "index" = some none := by unfold L2.KOf; k_is
      have f21 : PySem.W.findIn (L2.KOf KX) (.ref 448) "index" = some none := by unfold L2.KOf; k_is
      have g21 : PySem.W.findIn (L2.KOf KX) (.ref 448) "shown" = some none := by unfold L2.KOf; k_is
      have x16 : PySem.W.excIn (L2.KOf KX) 367 [.type "ArithmeticError", .type "Exception", .type "BaseException", .type "object"] "ArithmeticError.__new__" = true := by unfold L2.KOf; k_exc
      have x17 : PySem.W.excIn (L2.KOf KX) 379 [.type "ArithmeticError", .type "Exception", .type "BaseException", .type "object"] "ArithmeticError.__new__" = true := by unfold L2.KOf; k_exc
      have x19 : PySem.W.excIn (L2.KOf KX) 410 [.type "ArithmeticError", .type "Exception", .type "BaseException", .type "object"] "ArithmeticError.__new__" = true := by unfold L2.KOf; k_exc
      have y0 : PySem.W.excIn (L2.KOf KX) 24 [.type "ValueError", .type "Exception", .type "BaseException", .type "object"] "ValueError.__new__" = true := by unfold L2.KOf; k_exc
      have y1 : PySem.W.excIn (L2.KOf KX) 303 [.type "LookupError", .type "Exception", .type "BaseException", .type "object"] "LookupError.__new__" = true := by unfold L2.KOf; k_exc
      have y2 : PySem.W.excIn (L2.KOf KX) 354 [.type "ArithmeticError", .type "Exception", .type "BaseException", .type "object"] "ArithmeticError.__new__" = true := by unfold L2.KOf; k_exc
      have d0 : K1.DF (L2.KOf KX) "_law_cell" K1.sCell 457 := by unfold L2.KOf; refine' K1.df_mk ?n ?l ?h ?kp; (case n => k_is); (case l => k_is); (case h => k_is); (case kp => k_is)
      have d1 : K1.DF (L2.KOf KX) "_law_pool" K1.sPool 464 := by unfold L2.KOf; refine' K1.df_mk ?n ?l ?h ?kp; (case n => k_is); (case l => k_is); (case h => k_is); (case kp => k_is)
      have d2 : K1.DF (L2.KOf KX) "_law_draw" K1.sDraw 471 := by unfold L2.KOf; refine' K1.df_mk ?n ?l ?h ?kp; (case n => k_is); (case l => k_is); (case h => k_is); (case kp => k_is)
      have d3 : K1.DF (L2.KOf KX) "_law_word" K1.sWord 478 := by unfold L2.KOf; refine' K1.df_mk ?n ?l ?h ?kp; (case n => k_is); (case l => k_is); (case h => k_is); (case kp => k_is)
      have d4 : K1.DF (L2.KOf KX) "_law_things" K1.sThings 485 := by unfold L2.KOf; refine' K1.df_mk ?n ?l ?h ?kp; (case n => k_is); (case l => k_is); (case h => k_is); (case kp => k_is)
      have d5 : K1.DF (L2.KOf KX) "_law_sorts" K1.sSorts 490 := by unfold L2.KOf; refine' K1.df_mk ?n ?l ?h ?kp; (case n => k_is); (case l => k_is); (case h => k_is); (case kp => k_is)
      have d6 : K1.DF (L2.KOf KX) "_law_bases" K1.sBases 495 := by unfold L2.KOf; refine' K1.df_mk ?n ?l ?h ?kp; (case n => k_is); (case l => k_is); (case h => k_is); (case kp => k_is)
      have d7 : K1.DF (L2.KOf KX) "_law_fits" K1.sFits 502 := by unfold L2.KOf; refine' K1.df_mk ?n ?l ?h ?kp; (case n => k_is); (case l => k_is); (case h => k_is); (case kp => k_is)
      have d8 : K1.DF (L2.KOf KX) "_law_same" K1.sSame 509 := by unfold L2.KOf; refine' K1.df_mk ?n ?l ?h ?kp; (case n => k_is); (case l => k_is); (case h => k_is); (case kp => k_is)
      have d9 : K1.DF (L2.KOf KX) "_law_near" K1.sNear 514 := by unfold L2.KOf; refine' K1.df_mk ?n ?l ?h ?kp; (case n => k_is); (case l => k_is); (case h => k_is); (case kp => k_is)
      have d10 : K1.DF (L2.KOf KX) "_law_far" K1.sFar 519 := by unfold L2.KOf; refine' K1.df_mk ?n ?l ?h ?kp; (case n => k_is); (case l => k_is); (case h => k_is); (case kp => k_is)
      have d11 : K1.DF (L2.KOf KX) "_law_counted" K1.sCnt 526 := by unfold L2.KOf; refine' K1.df_mk ?n ?l ?h ?kp; (case n => k_is); (case l => k_is); (case h => k_is); (case kp => k_is)
      have d12 : K1.DF (L2.KOf KX) "_law_one_right" K1.sOne 533 := by unfold L2.KOf; refine' K1.df_mk ?n ?l ?h ?kp; (case n => k_is); (case l => k_is); (case h => k_is); (case kp => k_is)
      have d13 : K1.DF (L2.KOf KX) "_law_bare_right" K1.sBare 538 := by unfold L2.KOf; refine' K1.df_mk ?n ?l ?h ?kp; (case n => k_is); (case l => k_is); (case h => k_is); (case kp => k_is)
      have d14 : K1.DF (L2.KOf KX) "law" K1.sLaw 543 := by unfold L2.KOf; refine' K1.df_mk ?n ?l ?h ?kp; (case n => k_is); (case l => k_is); (case h => k_is); (case kp => k_is)
      have k_lb : ∃ t, PySem.W.nsIn (L2.KOf KX) mainGlobals "LEAST_BLOCKS" = some (some (.int 3 t)) := by unfold L2.KOf; refine' K1.ct_mk ?n; (case n => k_is)
      have k_mb : ∃ t, PySem.W.nsIn (L2.KOf KX) mainGlobals "MOST_BLOCKS" = some (some (.int 6 t)) := by unfold L2.KOf; refine' K1.ct_mk ?n; (case n => k_is)
      have k_lp : ∃ t, PySem.W.nsIn (L2.KOf KX) mainGlobals "LEAST_PAGES" = some (some (.int 2 t)) := by unfold L2.KOf; refine' K1.ct_mk ?n; (case n => k_is)
      have k_mp : ∃ t, PySem.W.nsIn (L2.KOf KX) mainGlobals "MOST_PAGES" = some (some (.int 5 t)) := by unfold L2.KOf; refine' K1.ct_mk ?n; (case n => k_is)
      have k_mr : ∃ t, PySem.W.nsIn (L2.KOf KX) mainGlobals "MOST_ROWS" = some (some (.int 4 t)) := by unfold L2.KOf; refine' K1.ct_mk ?n; (case n => k_is)
      have k_mc : ∃ t, PySem.W.nsIn (L2.KOf KX) mainGlobals "MOST_PRICE" = some (some (.int 9 t)) := by unfold L2.KOf; refine' K1.ct_mk ?n; (case n => k_is)
      have k_me : ∃ t, PySem.W.nsIn (L2.KOf KX) mainGlobals "MOST_EVENTS" = some (some (.int 2000 t)) := by unfold L2.KOf; refine' K1.ct_mk ?n; (case n => k_is)
      have k_mw : ∃ t, PySem.W.nsIn (L2.KOf KX) mainGlobals "MOST_WRITES" = some (some (.int 500 t)) := by unfold L2.KOf; refine' K1.ct_mk ?n; (case n => k_is)
      have k_ms : ∃ t, PySem.W.nsIn (L2.KOf KX) mainGlobals "MOST_STANDS" = some (some (.int 2000 t)) := by unfold L2.KOf; refine' K1.ct_mk ?n; (case n => k_is)
      have k_mj : ∃ t, PySem.W.nsIn (L2.KOf KX) mainGlobals "MOST_JOINT" = some (some (.int 4000 t)) := by unfold L2.KOf; refine' K1.ct_mk ?n; (case n => k_is)
      have k_mq : ∃ t, PySem.W.nsIn (L2.KOf KX) mainGlobals "MOST_PICKED" = some (some (.int 1000 t)) := by unfold L2.KOf; refine' K1.ct_mk ?n; (case n => k_is)
      have z_len : PySem.W.nsIn (L2.KOf KX) mainGlobals "len" = some none := by unfold L2.KOf; k_is
      have z_int : PySem.W.nsIn (L2.KOf KX) mainGlobals "int" = some none := by unfold L2.KOf; k_is
      have z_abs : PySem.W.nsIn (L2.KOf KX) mainGlobals "abs" = some none := by unfold L2.KOf; k_is
      have z_repr : PySem.W.nsIn (L2.KOf KX) mainGlobals "repr" = some none := by unfold L2.KOf; k_is
      have z_isi : PySem.W.nsIn (L2.KOf KX) mainGlobals "isinstance" = some none := by unfold L2.KOf; k_is
      have z_range : PySem.W.nsIn (L2.KOf KX) mainGlobals "range" = some none := by unfold L2.KOf; k_is
      have z_max : PySem.W.nsIn (L2.KOf KX) mainGlobals "max" = some none := by unfold L2.KOf; k_is
      have z_min : PySem.W.nsIn (L2.KOf KX) mainGlobals "min" = some none := by unfold L2.KOf; k_is
      have z_all : PySem.W.nsIn (L2.KOf KX) mainGlobals "all" = some none := by unfold L2.KOf; k_is
      have z_ve : PySem.W.nsIn (L2.KOf KX) mainGlobals "ValueError" = some none := by unfold L2.KOf; k_is
      have z_le : PySem.W.nsIn (L2.KOf KX) mainGlobals "LookupError" = some none := by unfold L2.KOf; k_is
      have z_ae : PySem.W.nsIn (L2.KOf KX) mainGlobals "ArithmeticError" = some none := by unfold L2.KOf; k_is
      exact ⟨n0, n1, n2, n3, n4, n5, n6, n7, n8, n9, n10, n11, n12, n13, n14, n15, n16, n17, n18, n19, n20, n21, m0, m1, m2, c0, c1, c2, c3, c4, c5, c6, c7, c8, c9, c10, c11, c12, c13, c14, c15, c16, c17, c18, c19, c20, c21, b0, b1, b2, hn, ht, (by decide +kernel), i0, i1, i2, i3, i4, i5, i6, i7, i8, i9, i10, i11, i12, i13, i14, i15, i18, i20, i21, f0, f1, f2, f3, f4, f5, f6, f7, f8, f9, f10, f11, f12, f13, f14, f15, f18, f20, f21, g21, ⟨x16, x17, x19, y0, y1, y2⟩, d0, d1, d2, d3, d4, d5, d6, d7, d8, d9, d10, d11, d12, d13, d14, k_lb, k_mb, k_lp, k_mp, k_mr, k_mc, k_me, k_mw, k_ms, k_mj, k_mq, z_len, z_int, z_abs, z_repr, z_isi, z_range, z_max, z_min, z_all, z_ve, z_le, z_ae⟩
    obtain ⟨fd, h1, h2⟩ := A.law (P := PySem.Challenge.rw_spareblocks_k01_limits_and_errors.prog) (w := w) KX G hmg
    exact ⟨fd, h1, fun base _ _ => h2 base⟩
