import PyProof.Rows.All
import Wide.All
import OpenK.AllK
import Wide.FinOn
import PyProof.EqAt
import PyProof.EqKinds
import PyProof.TupleCall
import HandS.ForMost
import HandS.DeepEq
import HandS.Deep
import HandS.Wide
import HandS.RaiseMore
import HandS.DictComp
import PyProof.ReprRoads
import PyProof.ReprLen
import HandS.SlotsOwn
import HandS.ClsMeth
import HandS.MakeKw
import HandS.MakeKwOnly
import HandS.Property
import HandS.FStr
import HandS.IsInst
import HandS.TupAny
import HandS.NoneIn
import HandS.CallLocal
import HandS.StrMore
import HandS.Style
import HandS.Flow
import KE.KCallOwn
import HandS.Star
import HandS.OwnEq
import KE.KUnpackStar
import KE.KRevSl
import KE.GoesMore
import HandS.Walk
import HandS.Exc
import HandS.TryMany
import HandS.Lambda
import HandS.ExcOwn
import HandS.EndTab
import HandS.SuiteRaise
import HandS.RaiseFrom
import HandS.ExcInitHot
import HandS.WordsExc
import KE.KTryMore
import HandS.ExcInit
import HandS.ExcField
import HandS.Conv
import HandS.TryOnly
import PyProof.FString2
import PyProof.Rows.RegStrFacts
import PyProof.Rows.StrSplitJoin
import KE.RegKIsAll
import PySem.Challenge.RW_spareblocks_k04_texts_of_drives
set_option Elab.async false
set_option linter.all false
set_option maxRecDepth 100000
set_option maxHeartbeats 2000000
/-! The promise of a def that is kept where no repr is under way on the stack (guards empty): repr of a list asks for it. -/
namespace G1
open PySem PySem.Spec PyProof.Rows L2
section
variable {P : Program} {w : World} {K : PySem.W.Frag} {mg : Str → Option Value} {base : Heap}
structure FnG (P : Program) (w : World) (K : PySem.W.Frag) (mg : Str → Option Value) (base : Heap) (k : Nat) (f : Addr) (fd : FuncData) (ps : List Str) (sp : Sp) : Prop where
  len : ∀ vs H Q E, sp vs H Q E → vs.length = ps.length
  run : ∀ (A : Around) (outer : List Env) (s : Shared) (H : Hp) (args : Args) (us : List Value) (vs : List V) (Q : VK) (E : XK), A.guards = some [] →
    Room k A → Env0 P w K mg base A outer s H → BindsTo s fd args (ps.zip us) → Vals vs us → sp vs H Q E → codeAny (model P w) A (.call (.ref f) args) (CR CX0 outer P w H s Q E) s
/-- from the body to the promise -/
theorem okG {x qual : Str} {st : Stmt} {f : Addr} {fd : FuncData} {N ps : List Str} {k : Nat} {sp : Sp} (F : Fun K x qual st f fd) (S : FnScope N ps (defScope st))
    (len : ∀ vs H Q E, sp vs H Q E → vs.length = ps.length)
    (hbody : ∀ (cdv : Value) (A : Around) (outer : List Env) (s : Shared) (H : Hp) (vs : List V) (Q : VK) (E : XK), A.guards = some [] →
      Room k (A.deeper (envOfC qual (defScope st) s.heap.objs.size f cdv)) → sp vs H Q E →
      ∃ t, PSs (cxOf CX0 P w K mg base N qual (defScope st) f cdv A outer s H E).nox (defBody st) t ∧ t { nx := fun _ H' => Q .non H', rt := Q } (start N vs) H) :
    FnG P w K mg base (k + 1) f fd ps sp := by
  obtain ⟨oc, od, kV, doc, pm, an, cdv, ct, osl, rfl, lk, hcd⟩ := F.ex
  constructor
  · exact len
  intro A outer s H args us vs Q E hgu room e0 bnd rel want
  have kin : K.In s.heap := e0.mod.kin.keeps fun b o e => (e0.bs b o e).1
  have nol : s.heap.NoLimit := e0.mod.nolimit.keeps fun b o e => (e0.bs b o e).1
  have kinds : ∀ y ∈ ps.zip us, (defScope st).names.lookup y.1 = some .local ∨
      ((defScope st).names.lookup y.1 = some .cell ∧ ((cellsFrom (s.heap.objs.size + 1) (defScope st).names []).lookup y.1).isSome = true) := by
    rintro ⟨n, v⟩ hy
    cases S.par n (List.of_mem_zip hy).1 with
    | inl q => exact Or.inl q
    | inr q => exact Or.inr ⟨q, PySem.W.cellsFrom_some _ _ _ (Or.inl q)⟩
  refine codeAny_call_function room.depth (kin _ _ lk) rfl S.co S.gen rfl (PySem.W.codeRec_of kin hcd) (bnd _ _ _ _ ?_)
  refine wpAny_newFunctionEnv_cells S.kind kinds fun env henv s1 inc => ?_
  subst henv
  refine ⟨nol.keeps inc.toInCall.keep, codeAny_func ?_⟩
  obtain ⟨t, ht0, hq⟩ := hbody cdv A outer s H vs Q E hgu (room.deeper _) want
  have ht := ht0.nox
  have J0 : Inv (cxOf CX0 P w K mg base N qual (defScope st) f cdv A outer s H E) [] (start N vs) H s1 := inv_start S room.hd e0 (len _ _ _ _ want) rel inc
  refine wpAny_mono (ht.run [] s1 (start N vs) H _ J0 hq) (fun fl s' hs => ?_) fun _ _ z => z
  cases fl with
  | brk => exact (hs.elim fun _ z => z.elim fun _ y => y.2.elim)
  | cont => exact (hs.elim fun _ z => z.elim fun _ y => y.2.elim)
  | next =>
    obtain ⟨σ', H', J, q⟩ := hs
    exact ⟨V.non, H', J.os, J.bare, J.base, J.hok, rfl, q⟩
  | ret u =>
    obtain ⟨v, σ', H', J, rv, q⟩ := hs
    exact ⟨v, H', J.os, J.bare, J.base, J.hok, rv, q⟩
/-- what holds at all callers holds at these -/
theorem FnG.of {k : Nat} {f : Addr} {fd : FuncData} {ps : List Str} {sp : Sp} (F : FnOk P w K mg base CX0 k f fd ps sp) : FnG P w K mg base k f fd ps sp :=
  ⟨F.len, fun A outer s H args us vs Q E _ hr he hb hv hs => F.run A outer s H args us vs Q E hr he hb hv hs⟩
end
section
variable {X : Cx} {k : Nat} {f : Addr} {fd : FuncData} {ps : List Str} {sp : Sp} {x : Str} {p pos : Pos} {e : Expr} {es : List Expr} {t : TA}
theorem runG {pins : List (Addr × Obj)} {σ : L2.St} {H : Hp} {s : Shared} {Q : VK} {us : List Value} {vs : List V} (F : FnG X.prog X.w X.K X.mg X.base k f fd ps sp) (hgu : X.A.guards = some [])
    (hr : Room k X.A) (hb : Binds X.K fd ps []) (I : Inv X pins σ H s) (r : Vals vs us) (h : sp vs H Q E0) :
    wpAny (model X.prog X.w) X.A (call (.ref f) us) (EP X pins σ Q) X.xe s := by
  have hl : us.length = ps.length := by rw [← r.length]; exact F.len _ _ _ _ h
  have bb : BindsTo s fd ⟨us, []⟩ (ps.zip us) := by
    have z := hb s us I.kIn (by rw [List.append_nil]; exact hl)
    rw [List.append_nil] at z
    exact z
  refine wpAny_call (codeAny_mono (F.run X.A X.stack s H ⟨us, []⟩ us vs Q E0 hgu hr I.env0 bb r h) fun r s' hq => ?_)
  match r, hq with
  | .error e, hq => exact (show False from hq).elim
  | .ok (.ret u), hq => exact I.after hq
  | .ok .next, hq => exact (show False from hq).elim
  | .ok .brk, hq => exact (show False from hq).elim
  | .ok .cont, hq => exact (show False from hq).elim
/-- f(e, ..) of such a def -/
theorem pe_callG (F : FnG X.prog X.w X.K X.mg X.base k f fd ps sp) (hgu : X.A.guards = some []) (hr : Room k X.A) (hg : Gl X x) (hm : X.mg x = some (.ref f)) (hk : PySem.W.keepIn X.K (.ref f) = true) (hb : Binds X.K fd ps [])
    (ha : PA X (e :: es) t) (hdb : (x == ("__debug__" : Str)) = false := by decide) (he : starEach (e :: es) X.env = (false, eval e X.env) :: starEach es X.env := by rfl)
    (hpl : (backTo pos (starEach es X.env)).any (·.1) = false := by rfl) : PE X (.Call (.Name x p) (e :: es) [] pos) (tCall sp [] E0 t) := by
  refine ⟨fun pins s σ H Q I h => wpAny_Call_Name_kw (ld_glob I hg hm ?_ hdb)⟩
  refine PySem.W.callWith_K (h₀ := X.base) I.ok.mod.kin hk (thn (ha.run pos pins s σ H _ I h) fun us s1 hh => ?_) he hpl
  obtain ⟨vs, H1, I1, r, q⟩ := hh
  rw [List.append_nil] at q
  exact ⟨I1.kIn, runG F hgu hr hb I1 r q⟩
end
end G1

set_option Elab.async false
set_option linter.all false
set_option maxRecDepth 100000
set_option maxHeartbeats 2000000
/-! repr and == of the values of many kinds. -/
namespace G1
open PySem PySem.Spec PyProof.Rows L2
/-- a value and what it shows -/
inductive Tg (K : PySem.W.Frag) (H : Hp) : V → PyData → Prop
  | dp {v : V} {d : PyData} : Dp K H v d → SeqAt.shaped d = true → PyData.eqv d d = true → d.hasDict = false → Tg K H v d
  | d0 {a : Addr} : H a = some (.dK []) → Tg K H (.ref a) (.dict [])
  | d1 {a : Addr} {x : Str} {i : Int} : H a = some (.dK [(.inr x, .int i)]) → Tg K H (.ref a) (.dict [(.str x, .int i)])
structure Gd (d : PyData) : Prop where
  sh : d.showable = true
  sz : d.shown.length ≤ sizeLine
  dp : d.depth ≤ 60
section
variable {X : Cx} {pins : List (Addr × Obj)} {σ : L2.St} {H : Hp} {s : Shared}
theorem Tg.reads (I : Inv X pins σ H s) {v : V} {d : PyData} {u : Value} (h : Tg X.K H v d) (r : RelV v u) : ∃ as, Reads s.heap u d as ∧ (d.hasDict = true → sysModules ∉ as) := by
  cases h with
  | dp h1 h2 h3 h4 =>
    obtain ⟨as, q⟩ := Dp.reads I _ _ _ h1 r
    exact ⟨as, q, PyData.noDict_hsm h4⟩
  | @d0 a e =>
    cases (show u = Value.ref a from r)
    obtain ⟨_, y, vs, rk, o, es, ep, ho, hx, hd, hl⟩ := (show ObjOk X.prog X.w H s.heap a (.dK []) from I.hok a _ e)
    cases rk
    have ne : a ≠ sysModules := fun z => by rw [z] at y; simp at y
    have e0 : es.toList = [] := by
      have z := hl.2.1
      generalize es.toList = l at z
      cases z
      rfl
    refine ⟨[a] ++ [], Reads.dict (as := []) (bs := []) ho hx.1 hd ?_ ?_, fun _ hm => ?_⟩
    · rw [e0]
      exact ReadsAll.nil
    · rw [e0]
      exact ReadsAll.nil
    · simp at hm
      exact ne hm.symm
  | @d1 a x i e =>
    cases (show u = Value.ref a from r)
    obtain ⟨_, y, vs, rk, o, es, ep, ho, hx, hd, hl⟩ := (show ObjOk X.prog X.w H s.heap a (.dK [(.inr x, .int i)]) from I.hok a _ e)
    have ne : a ≠ sysModules := fun z => by rw [z] at y; simp at y
    obtain ⟨en, t1, t2, e0, e1, e2⟩ : ∃ (en : DictEntry) (t1 t2 : Tok), es.toList = [en] ∧ en.key = .str x t1 ∧ en.val = .int i t2 := by
      have z := hl.2.1
      generalize es.toList = l at z
      cases rk with
      | @cons p q ps qs hp hn =>
        cases hn
        obtain ⟨hp1, t2, hp2⟩ := hp
        cases z with
        | @cons en kv es' kvs' k1 k2 k3 =>
          cases k3
          have k1' : keyIs q.1 en.key = true := k1
          rw [← hp1] at k1'
          rcases keyIs_shape k1' with ⟨j, t, c, _⟩ | ⟨z, t, c, ek⟩
          · cases c
          · cases c
            exact ⟨en, t, t2, rfl, ek, k2.trans hp2⟩
    refine ⟨a :: ([] ++ []) ++ ([] ++ []), Reads.dict ho hx.1 hd ?_ ?_, fun _ hm => ?_⟩
    · rw [e0]
      show ReadsAll s.heap [en.key] [.str x] _
      rw [e1]
      exact .cons (.str x t1) .nil
    · rw [e0]
      show ReadsAll s.heap [en.val] [.int i] _
      rw [e2]
      exact .cons (.int i t2) .nil
    · simp at hm
      exact ne hm.symm
/-- repr(x) -/
def rRepr (K : PySem.W.Frag) : List V → Hp → VK → Prop := fun xs H Q => ∃ (v : V) (d : PyData), xs = [v] ∧ Tg K H v d ∧ Gd d ∧ Q (.str d.shown) H
theorem call_repr (hg : X.A.guards = some []) (hu : X.A.units + 64 < cLine) : CallR X (.builtin "repr") (rRepr X.K) := by
  intro pins s σ H xs us Q I r h
  obtain ⟨v, d, rfl, th, gd, q⟩ := h
  obtain ⟨u, rfl, ru⟩ := vals1 r
  obtain ⟨as, rd, hsm⟩ := th.reads I ru
  cases v with
  | ref a =>
    cases (show u = Value.ref a from ru)
    refine repr_of_reads' rd gd.sh hsm hg (by have := gd.dp; omega) (fun _ _ e => e) (fun h' u tk k => ?_) gd.sz
    exact ⟨.str _, H, I.kept (t' := tk) k, ⟨u, rfl⟩, q⟩
  | non =>
    cases (show u = Value.none from ru)
    cases rd
    exact PySem.P.repr_of_none ⟨.str _, H, I.tok _, ⟨_, rfl⟩, q⟩
  | bl b =>
    cases (show u = Value.bool b from ru)
    cases rd
    refine PySem.P.repr_of_bool ⟨.str _, H, I.tok _, ⟨_, rfl⟩, ?_⟩
    rw [PyData.shown_bool] at q
    cases b <;> exact q
  | int i =>
    obtain ⟨t, e⟩ := (show ∃ t, u = Value.int i t from ru)
    cases e
    cases rd
    have z : i.natAbs.log2 < 1920 := of_decide_eq_true gd.sh
    exact PySem.P.repr_of_int z ⟨.str _, H, I.tok _, ⟨_, rfl⟩, q⟩
  | str x =>
    obtain ⟨t, e⟩ := (show ∃ t, u = Value.str x t from ru)
    cases e
    cases rd
    refine PySem.P.repr_of_str ⟨.str _, H, I.tok _, ⟨_, rfl⟩, ?_⟩ ?_
    · rw [PyData.shown_str] at q
      exact q
    · have z := gd.sz
      rw [PyData.shown_str] at z
      exact z
  | byt b =>
    obtain ⟨t, e⟩ := (show ∃ t, u = Value.bytes b t from ru)
    cases e
    cases rd
  | flt b =>
    obtain ⟨t, e⟩ := (show ∃ t, u = Value.float b t from ru)
    cases e
    cases rd
  | ty n =>
    cases (show u = Value.type n from ru)
    cases rd
/-- x == y, both the same thing -/
def rEqSame (K : PySem.W.Frag) : R2 := fun x y H Q => x = y ∧ (∃ d, Tg K H x d) ∧ Q (.bl true) H
theorem op_eqSame (hu : X.A.units + 64 < cLine) : OpR X (compareOp .Eq) (rEqSame X.K) := by
  intro pins s σ H x y v u Q I rx ry h
  obtain ⟨rfl, ⟨d, th⟩, q⟩ := h
  cases th with
  | dp h1 h2 h3 h4 => exact op_eqD hu pins s σ H x x v u Q I rx ry ⟨d, d, h1, h1, h2, h2, by rw [h3]; exact q⟩
  | @d0 a e => exact op_eqV hu pins s σ H _ _ v u Q I rx ry ⟨1, by decide, .inr ⟨a, a, _, _, rfl, rfl, e, e, rfl, fun p hp => by cases hp⟩, q⟩
  | @d1 a x i e =>
    refine op_eqV hu pins s σ H _ _ v u Q I rx ry ⟨1, by decide, .inr ⟨a, a, _, _, rfl, rfl, e, e, rfl, fun p hp => ?_⟩, q⟩
    have ep : p = (.inr x, .int i) := List.mem_singleton.mp hp
    subst ep
    exact ⟨.int i, by simp [valV], .inl ⟨rfl, rfl⟩⟩
end
end G1

set_option Elab.async false
set_option linter.all false
set_option maxRecDepth 100000
set_option maxHeartbeats 2000000
/-! Special methods of own classes: str, len, truth, ==, !=. -/
namespace G2
open PySem PySem.Spec PyProof.Rows L2 Builtin
section
variable {X : Cx} {CX : CXT} {n : Nat} {C g : Addr} {sp : Sp} {E : XK}
def rStrO (C : Addr) (sp : Sp) (E : XK) : List V → Hp → VK → Prop := fun xs H Q => ∃ a dx fs, xs = [.ref a] ∧ H a = some (.ins C dx fs) ∧ sp [.ref a] H (fun z H' => ∃ x, z = .str x ∧ Q z H') E
theorem call_strO (hs : PySem.W.findIn X.K (.ref C) "__str__" = some (some (.ref g))) (hf : PySem.W.isFn X.K (.ref g) = true) (F : FnR X.prog X.w X.K X.mg X.base CX n g sp) (hr : Room (n + 2) X.A) (hx : Passes CX X E) : CallR X (.type "str") (rStrO C sp E) := by
  intro pins s σ H xs us Q I r h
  obtain ⟨a, dx, fs, rfl, ha, q⟩ := h
  obtain ⟨u, rfl, ru⟩ := r.one
  cases (show u = Value.ref a from ru)
  obtain ⟨mA, J, _⟩ := ins_get I.hok ha
  obtain ⟨od, J, _⟩ := J.look
  have hr2 : Room n X.A.in1.in1 := (show Room (n + 1) X.A.in1 from Room.in1 hr).in1
  refine PySem.W.kso_call hr2.units0 I.kIn J hs hf (wpAny_mono (wpAny_call (SlX.run_at (us := [.ref a]) (ws := [.ref a]) F hr2 I.env0.in1.in1 hx I (.cons rfl .nil) q)) (fun w s' z => ?_) fun _ _ x => x)
  obtain ⟨z', H', I', rz, i, ei, qz⟩ := z
  subst ei
  obtain ⟨t, e⟩ := (show ∃ t, w = Value.str i t from rz)
  cases e
  exact ⟨.str i, H', I', ⟨t, rfl⟩, qz⟩
def rLenO (C : Addr) (sp : Sp) (E : XK) : List V → Hp → VK → Prop := fun xs H Q => ∃ a dx fs, xs = [.ref a] ∧ H a = some (.ins C dx fs) ∧ sp [.ref a] H (fun z H' => ∃ i : Int, z = .int i ∧ 0 ≤ i ∧ i < 2 ^ 63 ∧ Q z H') E
theorem call_lenO (hs : PySem.W.findIn X.K (.ref C) "__len__" = some (some (.ref g))) (hf : PySem.W.isFn X.K (.ref g) = true) (F : FnR X.prog X.w X.K X.mg X.base CX n g sp) (hr : Room (n + 1) X.A) (hx : Passes CX X E) : CallR X (.builtin "len") (rLenO C sp E) := by
  intro pins s σ H xs us Q I r h
  obtain ⟨a, dx, fs, rfl, ha, q⟩ := h
  obtain ⟨u, rfl, ru⟩ := r.one
  cases (show u = Value.ref a from ru)
  obtain ⟨mA, J, _⟩ := ins_get I.hok ha
  obtain ⟨od, J, _⟩ := J.look
  have hr1 : Room n X.A.in1 := Room.in1 hr
  obtain ⟨m, hF⟩ := I.fr
  refine PySem.W.len_K hF I.ok.mod.kin J hs hf (wpAny_mono (wpAny_call (SlX.run_at (us := [.ref a]) (ws := [.ref a]) F hr1 I.env0.in1 hx I (.cons rfl .nil) q)) (fun w s' z => ?_) fun _ _ x => x)
  obtain ⟨z', H', I', rz, i, ei, i0, i1, qz⟩ := z
  subst ei
  obtain ⟨t, e⟩ := (show ∃ t, w = Value.int i t from rz)
  cases e
  exact ⟨⟨i0, i1⟩, .int i, H', I'.tok _, ⟨_, rfl⟩, qz⟩
/-- the truth of an instance with a len of its own -/
theorem len_body {prog : Program} {w : World} {A : Around} {E : Value → Shared → Prop} {s : Shared} {K : PySem.W.Frag} {x C L f : Addr} {ox : Obj} {od : Option Obj} {Q : Bool → Shared → Prop} (X : K.In s.heap) (I : PySem.W.InstAt s.heap x ox C od)
    (hb : PySem.W.findIn K (.ref C) "__bool__" = some none) (hs : PySem.W.findIn K (.ref C) "__len__" = some (some (.ref f))) (hf : PySem.W.isFn K (.ref f) = true)
    (h : wpAny (model prog w) A.in1 (call (.ref f) [.ref x]) (fun v s' => ∃ (n : Int) (t : Tok), v = .int n t ∧ 0 ≤ n ∧ n < 2 ^ 63 ∧ Q (n != 0) { s' with toks := s'.toks + 1 }) E s) :
    wpAny (model prog w) A (truthy (.ref x)) Q E s := by
  have key : wpAny (model prog w) A (runValue (.builtin "len" ⟨[.ref x], []⟩)) (fun r s' => ∃ (n : Int) (t : Tok), r = .int n t ∧ Q (n != 0) s') E s := by
    refine wpAny_runValue (codeAny_builtin entry_len ?_)
    rw [Around.under_plainId plain_len _]
    unfold Builtin.«len»
    refine wpAny_bind (m := oneArg "len" _) (wpAny_pure ?_)
    refine wpAny_bind (m := callSpecial? (.ref x) (Str.ofString "__len__")) (PySem.W.special_fn X I hs (beq_iff_eq.mp hf) (wpAny_mono h (fun r s' hr => ?_) fun _ _ y => y))
    obtain ⟨n, t, rfl, h0, h1, hq⟩ := hr
    refine wpAny_bind (wpAny_holding (wpAny_pure ?_))
    refine wpAny_bind (wpAny_letGo ?_)
    show wpAny _ _ (if n < 0 then _ else _) _ _ _
    rw [if_neg (by omega)]
    show wpAny _ _ (if n ≥ 2 ^ 63 then _ else _) _ _ _
    rw [if_neg (by omega)]
    exact wpAny_bind (wpAny_mkInt (wpAny_pure ⟨n, _, rfl, hq⟩))
  unfold truthy
  refine wpAny_bind (m := callSpecial? (.ref x) (Str.ofString "__bool__")) (wpAny_bind (wpAny_bind (I.type.here ((PySem.W.looks_findIn X hb).here (wpAny_pure ?_)))))
  refine wpAny_bind (wpAny_bind (I.type.here ((PySem.W.looks_findIn X hs).here ?_)))
  refine wpAny_bind (wpAny_mono key (fun r s' hr => ?_) fun _ _ e => e)
  obtain ⟨n, t, rfl, hq⟩ := hr
  exact wpAny_pure hq
def rTruO (C : Addr) (sp : Sp) (E : XK) : V → Hp → (Bool → Hp → Prop) → Prop := fun x H Q => ∃ a dx fs, x = .ref a ∧ H a = some (.ins C dx fs) ∧ sp [.ref a] H (fun z H' => ∃ i : Int, z = .int i ∧ 0 ≤ i ∧ i < 2 ^ 63 ∧ Q (i != 0) H') E
theorem tru_lenO (hb : PySem.W.findIn X.K (.ref C) "__bool__" = some none) (hs : PySem.W.findIn X.K (.ref C) "__len__" = some (some (.ref g))) (hf : PySem.W.isFn X.K (.ref g) = true) (F : FnR X.prog X.w X.K X.mg X.base CX n g sp) (hr : Room (n + 1) X.A) (hx : Passes CX X E) :
    TruR X (rTruO C sp E) := by
  intro pins s σ H x v Q I rx h
  obtain ⟨a, dx, fs, rfl, ha, q⟩ := h
  cases (show v = Value.ref a from rx)
  obtain ⟨mA, J, _⟩ := ins_get I.hok ha
  obtain ⟨od, J, _⟩ := J.look
  have hr1 : Room n X.A.in1 := Room.in1 hr
  refine len_body (L := 0) I.kIn J hb hs hf (wpAny_mono (wpAny_call (SlX.run_at (us := [.ref a]) (ws := [.ref a]) F hr1 I.env0.in1 hx I (.cons rfl .nil) q)) (fun w s' z => ?_) fun _ _ x => x)
  obtain ⟨z', H', I', rz, i, ei, i0, i1, qz⟩ := z
  subst ei
  obtain ⟨t, e⟩ := (show ∃ t, w = Value.int i t from rz)
  exact ⟨i, t, e, i0, i1, H', I'.tok _, qz⟩
theorem pt_truO {a : Expr} {ta : TE} {r : V → Hp → (Bool → Hp → Prop) → Prop} (T : TruR X r) (ha : PE X a ta) (he : ∀ whole, isTrue a X.env whole = (do let v ← whole; standAt a.pos; holding [v] (truthy v))) :
    PT X a (fun σ H Q => ta σ H fun x H' => r x H' Q) := by
  refine ⟨fun pins s σ H Q I h => ?_⟩
  exact isTrue_plain (thn (ha.run pins s σ H _ I h) fun v s1 ⟨x, H1, I1, r1, q1⟩ => T pins s1 σ H1 x v Q I1 r1 q1) (he _)
/-! ### == and != -/
/-- the type of a value, and that it is no class below C's -/
def Beside (K : PySem.W.Frag) (C : Addr) (H : Hp) (y : V) : Prop := ∃ t : Value, TyX K H y t ∧ PySem.W.notFirst K C t = true
theorem ty_looks {pins : List (Addr × Obj)} {σ : L2.St} {H : Hp} {s : Shared} {y : V} {u t : Value} (I : Inv X pins σ H s) (r : RelV y u) (h : TyX X.K H y t) : PySem.W.Looks (model X.prog X.w) s.heap (typeOf u) t := by
  obtain ⟨P, Z, p, hx⟩ := kit_of I r h
  exact Z.ty _ _ I.kIn p
def rEqO (K : PySem.W.Frag) (C : Addr) (sp : Sp) (E : XK) : R2 := fun x y H Q => ∃ a dx fs, x = .ref a ∧ H a = some (.ins C dx fs) ∧ Beside K C H y ∧ sp [x, y] H (fun z H' => ∃ b, z = .bl b ∧ Q z H') E
theorem op_eqO (hs : PySem.W.findIn X.K (.ref C) "__eq__" = some (some (.ref g))) (hf : PySem.W.isFn X.K (.ref g) = true) (F : FnR X.prog X.w X.K X.mg X.base CX n g sp) (hr : Room n X.A) (hx : Passes CX X E) : OpR X (compareOp .Eq) (rEqO X.K C sp E) := by
  intro pins s σ H x y v u Q I rx ry h
  obtain ⟨a, dx, fs, rfl, ha, ⟨t, ht, hn⟩, q⟩ := h
  cases (show v = Value.ref a from rx)
  obtain ⟨mA, J, _⟩ := ins_get I.hok ha
  obtain ⟨od, J, _⟩ := J.look
  obtain ⟨m, hF⟩ := I.fr
  show wpAny (model X.prog X.w) X.A (richCompare .Eq (.ref a) u) (EP X pins σ Q) X.xe s
  refine PySem.W.cmp_K (op := .Eq) (tb := t) hr.units0 hF I.ok.mod.kin J (ty_looks I ry ht) hn hs hf ?_
  refine wpAny_mono (wpAny_call (run_fnR (us := [.ref a, u]) (vs := [.ref a, y]) F hr hx I (.cons rfl (.cons ry .nil)) q)) (fun w s' z => ?_) fun _ _ x => x
  obtain ⟨z', H', I', rz, b, eb, qz⟩ := z
  subst eb
  cases (show w = Value.bool b from rz)
  exact ⟨.bl b, H', I', rfl, qz⟩
end
end G2

set_option Elab.async false
set_option linter.all false
set_option maxRecDepth 100000
set_option maxHeartbeats 2000000
/-! != by an own __eq__, and == of another thing with an instance. -/
namespace G2
open PySem PySem.Spec PyProof.Rows L2 Builtin
section
variable {prog : Program} {w : World} {A : Around} {E : Value → Shared → Prop} {s : Shared} {K : PySem.W.Frag} {x C L f : Addr} {h₀ : Heap} {m : Str → Option Value} {ox : Obj} {od : Option Obj} {b tb : Value}
theorem ne_body {Q : Value → Shared → Prop} (hu : A.units < cLine) (X : K.In s.heap) (I : PySem.W.InstAt s.heap x ox C od) (hs : PySem.W.findIn K (.ref C) "__eq__" = some (some (.ref f))) (hf : PySem.W.isFn K (.ref f) = true)
    (h : wpAny (model prog w) A (call (.ref f) [.ref x, b]) (fun v s' => ∃ r, v = .bool r ∧ Q (.bool (!r)) s') E s) :
    wpAny (model prog w) A (Builtin.«object.__ne__» ⟨[.ref x, b], []⟩) (fun fin s' => ∃ v, fin = .done (.ret v) ∧ Q v s') E s := by
  unfold Builtin.«object.__ne__»
  refine wpAny_bind (wpAny_of_eq (a := ((Value.ref x : Value), [b])) (by first | rfl | (simp only [slotArgs]; rfl)) ?_)
  refine wpAny_bind (wpAny_cRoomFor hu ?_)
  refine wpAny_bind (m := callSpecialIfBound? (.ref x) (Str.ofString "__eq__") [b]) (PySem.W.ifBound_K X I hs hf (wpAny_mono h (fun v s' hv => ?_) fun _ _ e => e))
  obtain ⟨r, rfl, hq⟩ := hv
  exact wpAny_bind (wpAny_truthy_bool (wpAny_pure ⟨_, rfl, hq⟩))
theorem ne_try {Q : Option Value → Shared → Prop} (hu : A.units + 1 < cLine) (X : K.In s.heap) (I : PySem.W.InstAt s.heap x ox C od) (hn : PySem.W.findIn K (.ref C) "__ne__" = some (some (.builtin "object.__ne__")))
    (hob : PySem.W.mroIn K C (.type "object") = some true) (hs : PySem.W.findIn K (.ref C) "__eq__" = some (some (.ref f))) (hf : PySem.W.isFn K (.ref f) = true)
    (h : wpAny (model prog w) A.in1 (call (.ref f) [.ref x, b]) (fun v s' => ∃ r, v = .bool r ∧ Q (some (.bool (!r))) s') E s) :
    wpAny (model prog w) A (tryCompare (.ref x) "__ne__" b) Q E s := by
  have isO : PySem.W.Looks (model prog w) s.heap (isInstance (.ref x) (.type "object")) true := I.type.andThen (PySem.W.looks_mroIn X hob)
  have FB := PySem.F.cmp_object
  unfold tryCompare
  refine wpAny_bind ?_
  simp only [callSpecialIfBound?, bindSpecialIfBound?]
  refine wpAny_holding (wpAny_bind (wpAny_bind (wpAny_bind (I.type.here ((PySem.W.looks_findIn X hn).here ?_)))))
  simp only [FB.ne.bind]
  refine wpAny_bind (wpAny_askSetting (wpAny_ite ?_))
  have key : wpAny (model prog w) A (call (.builtin "object.__ne__") ([.ref x] ++ [b])) (fun v s' => ∃ r, v = .bool r ∧ Q (some (.bool r)) s') E s := by
    refine wpAny_call (codeAny_call_builtin FB.ne.plain PySem.F.cmpEntry_ne ?_)
    refine @PySem.W.check_slot (model prog w) _ _ s "object.__ne__" "object" "__ne__" (.ref x) [b] [] _ PySem.F.cmpKind_ne PySem.F.cmpSplit_ne isO (PySem.F.cmpArgs_ne _ _) ?_
    refine wpAny_mono (ne_body (A := A.in1) (Q := fun v s' => ∃ r, v = .bool r ∧ Q (some (.bool r)) s') hu X I hs hf (wpAny_mono h (fun v s' hv => ?_) fun _ _ e => e)) (fun fin s' hv => ?_) fun _ _ e => e
    · obtain ⟨r, rfl, hq⟩ := hv
      exact ⟨r, rfl, _, rfl, hq⟩
    · obtain ⟨v, rfl, hq⟩ := hv
      exact hq
  have fin : wpAny (model prog w) A (call (.builtin "object.__ne__") ([.ref x] ++ [b]) >>= fun v => pure (some v)) (fun r s' => ∃ q, r = some (.bool q) ∧ Q (some (.bool q)) s') E s :=
    wpAny_bind (wpAny_mono key (fun v s' h' => by obtain ⟨r, rfl, hq⟩ := h'; exact wpAny_pure ⟨r, rfl, hq⟩) fun _ _ h' => h')
  have fin2 := wpAny_mono fin (Q' := fun r s' => wpAny (model prog w) A (match r with | some .notImplemented => pure none | none => pure none | some v => pure (some v)) Q E s') (fun r s' h' => by
    obtain ⟨q, rfl, hq⟩ := h'
    exact wpAny_pure hq) fun _ _ h' => h'
  split
  · exact wpAny_bind (wpAny_pure (wpAny_pure fin2))
  · exact wpAny_tryCatch (wpAny_bind (wpAny_pure (wpAny_pure fin2)))
theorem ne_K {Q : Value → Shared → Prop} (hu : A.units + 1 < cLine) (X : K.In s.heap) (I : PySem.W.InstAt s.heap x ox C od) (hb : PySem.W.Looks (model prog w) s.heap (typeOf b) tb) (hnf : PySem.W.notFirst K C tb = true)
    (hn : PySem.W.findIn K (.ref C) "__ne__" = some (some (.builtin "object.__ne__"))) (hob : PySem.W.mroIn K C (.type "object") = some true)
    (hs : PySem.W.findIn K (.ref C) "__eq__" = some (some (.ref f))) (hf : PySem.W.isFn K (.ref f) = true)
    (h : wpAny (model prog w) A.in1 (call (.ref f) [.ref x, b]) (fun v s' => ∃ r, v = .bool r ∧ Q (.bool (!r)) s') E s) : wpAny (model prog w) A (richCompare .NotEq (.ref x) b) Q E s := by
  have one : wpAny (model prog w) A (tryCompare (.ref x) "__ne__" b) (fun r s' => ∃ v, r = some v ∧ Q v s') E s :=
    ne_try hu X I hn hob hs hf (wpAny_mono h (fun v s' hv => by obtain ⟨r, rfl, hq⟩ := hv; exact ⟨r, rfl, _, rfl, hq⟩) fun _ _ e => e)
  unfold richCompare
  simp only [oneThing_ref]
  refine wpAny_holding (wpAny_bind (wpAny_cRoomFor (Nat.lt_of_succ_lt hu) ?_))
  rw [cmpInfo_NotEq]
  dsimp only
  refine wpAny_bind (I.type.here (wpAny_bind (hb.here ?_)))
  split
  · rename_i q
    have e : PySem.W.subIn K tb (.ref C) = some false := by
      rcases Bool.or_eq_true_iff.mp hnf with e | e
      · rw [beq_iff_eq.mp e] at q; simp at q
      · exact beq_iff_eq.mp e
    refine wpAny_bind ((PySem.W.looks_subIn X e).here ?_)
    simp only [Bool.false_eq_true, if_false]
    refine wpAny_bind (wpAny_mono one (fun r s' z => ?_) fun _ _ e => e)
    obtain ⟨v, rfl, hq⟩ := z
    exact wpAny_pure hq
  · refine wpAny_bind (wpAny_pure ?_)
    simp only [Bool.false_eq_true, if_false]
    refine wpAny_bind (wpAny_mono one (fun r s' z => ?_) fun _ _ e => e)
    obtain ⟨v, rfl, hq⟩ := z
    exact wpAny_pure hq
/-- v == x, v of a built-in type that says nothing of it -/
theorem refl_K {v : Value} {T id : String} {Q : Value → Shared → Prop} (hu : A.units < cLine) (X : K.In s.heap) (I : PySem.W.InstAt s.heap x ox C od) (hT : s.TypeIs v T) (slot : Slot T "__eq__" id) (ho : oneThing? .Eq v (.ref x) = none)
    (hsub : PySem.W.subIn K (.ref C) (.type T) = some false) (hs : PySem.W.findIn K (.ref C) "__eq__" = some (some (.ref f))) (hf : PySem.W.isFn K (.ref f) = true)
    (first : wpAny (model prog w) A (call (.builtin id) [v, .ref x]) (fun r s' => r = .notImplemented ∧ s' = s) E s)
    (h : wpAny (model prog w) A (call (.ref f) [.ref x, v]) (fun v s' => ∃ r, v = .bool r ∧ Q (.bool r) s') E s) : wpAny (model prog w) A (richCompare .Eq v (.ref x)) Q E s := by
  unfold richCompare
  simp only [ho]
  refine wpAny_holding (wpAny_bind (wpAny_cRoomFor hu ?_))
  rw [cmpInfo_Eq]
  dsimp only
  refine wpAny_bind (wpAny_typeOf hT (wpAny_bind (I.type.here ?_)))
  rw [if_pos (by rfl)]
  refine wpAny_bind ((PySem.W.looks_subIn X hsub).here ?_)
  simp only [Bool.false_eq_true, if_false]
  have one : wpAny (model prog w) A (tryCompare v "__eq__" (.ref x)) (fun r s' => r = none ∧ s' = s) E s := by
    unfold tryCompare
    refine wpAny_bind (wpAny_callSpecialIfBound?_slot hT slot (wpAny_mono first (fun r s' z => ?_) fun _ _ e => e))
    obtain ⟨rfl, rfl⟩ := z
    exact wpAny_pure ⟨rfl, rfl⟩
  refine wpAny_bind (wpAny_mono one (fun r s' z => ?_) fun _ _ e => e)
  obtain ⟨rfl, rfl⟩ := z
  dsimp only
  rw [if_pos (by rfl)]
  have two : wpAny (model prog w) A (tryCompare (.ref x) "__eq__" v) (fun r s' => ∃ v, r = some v ∧ Q v s') E s' := by
    unfold tryCompare
    refine wpAny_bind (PySem.W.ifBound_K X I hs hf (wpAny_mono h (fun v s' hv => ?_) fun _ _ e => e))
    obtain ⟨r, rfl, hq⟩ := hv
    exact wpAny_pure ⟨_, rfl, hq⟩
  refine wpAny_bind (wpAny_mono two (fun r s' z => ?_) fun _ _ e => e)
  obtain ⟨v, rfl, hq⟩ := z
  exact wpAny_pure hq
end
section
variable {X : Cx} {CX : CXT} {n : Nat} {C g : Addr} {sp : Sp} {E : XK}
def rNeO (K : PySem.W.Frag) (C : Addr) (sp : Sp) (E : XK) : R2 := fun x y H Q => ∃ a dx fs, x = .ref a ∧ H a = some (.ins C dx fs) ∧ Beside K C H y ∧ sp [x, y] H (fun z H' => ∃ b, z = .bl b ∧ Q (.bl (!b)) H') E
theorem op_neO (hn : PySem.W.findIn X.K (.ref C) "__ne__" = some (some (.builtin "object.__ne__"))) (hob : PySem.W.mroIn X.K C (.type "object") = some true)
    (hs : PySem.W.findIn X.K (.ref C) "__eq__" = some (some (.ref g))) (hf : PySem.W.isFn X.K (.ref g) = true) (F : FnR X.prog X.w X.K X.mg X.base CX n g sp) (hr : Room (n + 1) X.A) (hx : Passes CX X E) : OpR X (compareOp .NotEq) (rNeO X.K C sp E) := by
  intro pins s σ H x y v u Q I rx ry h
  obtain ⟨a, dx, fs, rfl, ha, ⟨t, ht, hnf⟩, q⟩ := h
  cases (show v = Value.ref a from rx)
  obtain ⟨mA, J, _⟩ := ins_get I.hok ha
  obtain ⟨od, J, _⟩ := J.look
  have hr1 : Room n X.A.in1 := Room.in1 hr
  show wpAny (model X.prog X.w) X.A (richCompare .NotEq (.ref a) u) (EP X pins σ Q) X.xe s
  refine ne_K (tb := t) hr1.units0 I.kIn J (ty_looks I ry ht) hnf hn hob hs hf ?_
  refine wpAny_mono (wpAny_call (SlX.run_at (us := [.ref a, u]) (ws := [.ref a, y]) F hr1 I.env0.in1 hx I (.cons rfl (.cons ry .nil)) q)) (fun w s' z => ?_) fun _ _ x => x
  obtain ⟨z', H', I', rz, b, eb, qz⟩ := z
  subst eb
  cases (show w = Value.bool b from rz)
  exact ⟨b, rfl, .bl (!b), H', I', rfl, qz⟩
end
end G2

set_option Elab.async false
set_option linter.all false
set_option maxRecDepth 100000
set_option maxHeartbeats 2000000
namespace G2
open PySem PySem.Spec PyProof.Rows L2 Builtin
section
variable {prog : Program} {w : World} {A : Around} {E : Value → Shared → Prop} {s : Shared} {K : PySem.W.Frag} {x C L f a : Addr} {ox : Obj} {od : Option Obj}
theorem none_first (hx : s.heap.get? x = some ox) : wpAny (model prog w) A (call (.builtin "NoneType.__eq__") [.none, .ref x]) (fun r s' => r = .notImplemented ∧ s' = s) E s := by
  refine GQ.call_here PySem.F.slot_NoneType_eq rfl PySem.F.entry_NoneType_eq (PySem.F.args_NoneType_eq_2 _ _) ?_
  obtain ⟨hp, g, d, tk, os⟩ := s
  unfold Builtin.«NoneType.__eq__»
  repeat (first | with_reducible refine wpAny_loadPart_at hx ?_ | wp_step)
  all_goals first | exact ⟨rfl, rfl⟩ | skip
theorem int_first {i : Int} {t : Tok} (hx : s.heap.get? x = some ox) (hd : ox.data = .plain) : wpAny (model prog w) A (call (.builtin "int.__eq__") [.int i t, .ref x]) (fun r s' => r = .notImplemented ∧ s' = s) E s := by
  refine GQ.call_here PySem.F.slot_int_eq rfl PySem.F.entry_int_eq (PySem.F.args_int_eq_2 _ _) ?_
  obtain ⟨hp, g, d, tk, os⟩ := s
  obtain ⟨oc, odd, oda, osl⟩ := ox
  dsimp only at hd
  subst hd
  unfold Builtin.«int.__eq__»
  repeat (first | with_reducible refine wpAny_loadPart_at hx ?_ | with_reducible refine wpAny_load hx ?_ | wp_step)
  all_goals first | exact ⟨rfl, rfl⟩ | skip
theorem bool_first {b : Bool} (hx : s.heap.get? x = some ox) (hd : ox.data = .plain) : wpAny (model prog w) A (call (.builtin "int.__eq__") [.bool b, .ref x]) (fun r s' => r = .notImplemented ∧ s' = s) E s := by
  refine GQ.call_here PySem.F.slot_bool_eq rfl PySem.F.entry_int_eq (PySem.F.args_int_eq_2 _ _) ?_
  obtain ⟨hp, g, d, tk, os⟩ := s
  obtain ⟨oc, odd, oda, osl⟩ := ox
  dsimp only at hd
  subst hd
  unfold Builtin.«int.__eq__»
  repeat (first | with_reducible refine wpAny_loadPart_at hx ?_ | with_reducible refine wpAny_load hx ?_ | wp_step)
  all_goals first | exact ⟨rfl, rfl⟩ | skip
theorem str_first {z : Str} {t : Tok} (hx : s.heap.get? x = some ox) (hd : ox.data = .plain) : wpAny (model prog w) A (call (.builtin "str.__eq__") [.str z t, .ref x]) (fun r s' => r = .notImplemented ∧ s' = s) E s := by
  refine GQ.call_here PySem.F.slot_str_eq rfl PySem.F.entry_str_eq (PySem.F.args_str_eq_2 _ _) ?_
  obtain ⟨hp, g, d, tk, os⟩ := s
  obtain ⟨oc, odd, oda, osl⟩ := ox
  dsimp only at hd
  subst hd
  unfold Builtin.«str.__eq__»
  repeat (first | with_reducible refine wpAny_loadPart_at hx ?_ | with_reducible refine wpAny_load hx ?_ | wp_step)
  all_goals first | exact ⟨rfl, rfl⟩ | skip
theorem tup_first {o : Obj} (ha : s.heap.get? a = some o) (hc : o.cls = .type "tuple") (X : K.In s.heap) (I : PySem.W.InstAt s.heap x ox C od) (hs : PySem.W.subIn K (.ref C) (.type "tuple") = some false) :
    wpAny (model prog w) A (call (.builtin "tuple.__eq__") [.ref a, .ref x]) (fun r s' => r = .notImplemented ∧ s' = s) E s := by
  refine GQ.call_here PySem.F.slot_tuple_eq ⟨o, ha, hc⟩ PySem.F.entry_tuple_eq (PySem.F.args_tuple_eq_2 _ _) ?_
  have isO : PySem.W.Looks (model prog w) s.heap (isInstance (.ref x) (.type "tuple")) false := I.type.andThen (PySem.W.looks_subIn X hs)
  unfold Builtin.«tuple.__eq__»
  refine wpAny_bind (wpAny_of_eq (a := ((Value.ref a : Value), [Value.ref x])) (by first | rfl | (simp only [slotArgs]; rfl)) ?_)
  refine wpAny_bind (isO.here ?_)
  exact wpAny_pure ⟨rfl, rfl⟩
theorem lst_first {o : Obj} (ha : s.heap.get? a = some o) (hc : o.cls = .type "list") (X : K.In s.heap) (I : PySem.W.InstAt s.heap x ox C od) (hs : PySem.W.subIn K (.ref C) (.type "list") = some false) :
    wpAny (model prog w) A (call (.builtin "list.__eq__") [.ref a, .ref x]) (fun r s' => r = .notImplemented ∧ s' = s) E s := by
  refine GQ.call_here PySem.F.slot_list_eq ⟨o, ha, hc⟩ PySem.F.entry_list_eq (PySem.F.args_list_eq_2 _ _) ?_
  have isO : PySem.W.Looks (model prog w) s.heap (isInstance (.ref x) (.type "list")) false := I.type.andThen (PySem.W.looks_subIn X hs)
  unfold Builtin.«list.__eq__»
  refine wpAny_bind (wpAny_of_eq (a := ((Value.ref a : Value), [Value.ref x])) (by first | rfl | (simp only [slotArgs]; rfl)) ?_)
  refine wpAny_bind (isO.here ?_)
  exact wpAny_pure ⟨rfl, rfl⟩
end
/-- the class is none of the built-in ones -/
structure NoSub (K : PySem.W.Frag) (C : Addr) : Prop where
  non : PySem.W.subIn K (.ref C) (.type "NoneType") = some false
  bl : PySem.W.subIn K (.ref C) (.type "bool") = some false
  int : PySem.W.subIn K (.ref C) (.type "int") = some false
  str : PySem.W.subIn K (.ref C) (.type "str") = some false
  tup : PySem.W.subIn K (.ref C) (.type "tuple") = some false
  lst : PySem.W.subIn K (.ref C) (.type "list") = some false
/-- a thing that is no instance -/
inductive Bare (K : PySem.W.Frag) (H : Hp) : V → Prop
  | non : Bare K H .non
  | bl (b : Bool) : Bare K H (.bl b)
  | int (i : Int) : Bare K H (.int i)
  | str (x : Str) : Bare K H (.str x)
  | tup {a : Addr} {xs : List V} (h : SqT K H a xs) : Bare K H (.ref a)
  | lst {a : Addr} {xs : List V} (h : SqL K H a xs) : Bare K H (.ref a)
section
variable {X : Cx} {CX : CXT} {n : Nat} {C g : Addr} {sp : Sp} {E : XK}
def rEqR (K : PySem.W.Frag) (C : Addr) (sp : Sp) (E : XK) : R2 := fun x y H Q => ∃ a dx fs, y = .ref a ∧ H a = some (.ins C dx fs) ∧ Bare K H x ∧ sp [y, x] H (fun z H' => ∃ b, z = .bl b ∧ Q z H') E
theorem op_eqR (N : NoSub X.K C) (hs : PySem.W.findIn X.K (.ref C) "__eq__" = some (some (.ref g))) (hf : PySem.W.isFn X.K (.ref g) = true) (F : FnR X.prog X.w X.K X.mg X.base CX n g sp) (hr : Room n X.A) (hx : Passes CX X E) : OpR X (compareOp .Eq) (rEqR X.K C sp E) := by
  intro pins s σ H x y v u Q I rx ry h
  obtain ⟨a, dx, fs, rfl, ha, hb, q⟩ := h
  cases (show u = Value.ref a from ry)
  obtain ⟨mA, O, _⟩ := ins_get I.hok ha
  obtain ⟨od, J, _⟩ := O.look
  have hd : (PySem.W.instObj C dx).data = .plain := rfl
  have call2 : wpAny (model X.prog X.w) X.A (call (.ref g) [.ref a, v]) (fun v s' => ∃ r, v = .bool r ∧ EP X pins σ Q (.bool r) s') X.xe s := by
    refine wpAny_mono (wpAny_call (run_fnR (us := [.ref a, v]) (vs := [.ref a, x]) F hr hx I (.cons rfl (.cons rx .nil)) q)) (fun w s' z => ?_) fun _ _ x => x
    obtain ⟨z', H', I', rz, b, eb, qz⟩ := z
    subst eb
    cases (show w = Value.bool b from rz)
    exact ⟨b, rfl, .bl b, H', I', rfl, qz⟩
  show wpAny (model X.prog X.w) X.A (richCompare .Eq v (.ref a)) (EP X pins σ Q) X.xe s
  cases hb with
  | non =>
    cases (show v = Value.none from rx)
    exact refl_K hr.units0 I.kIn J rfl PySem.F.slot_NoneType_eq rfl N.non hs hf (none_first O.obj) call2
  | bl b =>
    cases (show v = Value.bool b from rx)
    exact refl_K hr.units0 I.kIn J rfl PySem.F.slot_bool_eq rfl N.bl hs hf (bool_first O.obj hd) call2
  | int i =>
    obtain ⟨t, e⟩ := (show ∃ t, v = Value.int i t from rx)
    cases e
    exact refl_K hr.units0 I.kIn J rfl PySem.F.slot_int_eq rfl N.int hs hf (int_first O.obj hd) call2
  | str z =>
    obtain ⟨t, e⟩ := (show ∃ t, v = Value.str z t from rx)
    cases e
    exact refl_K hr.units0 I.kIn J rfl PySem.F.slot_str_eq rfl N.str hs hf (str_first O.obj hd) call2
  | @tup b xs hq =>
    cases (show v = Value.ref b from rx)
    obtain ⟨its, rv, ⟨o, ho, hc, _⟩, hz⟩ := I.tuple hq
    exact refl_K hr.units0 I.kIn J ⟨o, ho, hc⟩ PySem.F.slot_tuple_eq rfl N.tup hs hf (tup_first ho hc I.kIn J N.tup) call2
  | @lst b xs hq =>
    cases (show v = Value.ref b from rx)
    obtain ⟨its, rv, pl, hz⟩ := I.list hq
    obtain ⟨o, m, ho, hc, d, q⟩ := pl
    exact refl_K hr.units0 I.kIn J ⟨o, ho, hc⟩ PySem.F.slot_list_eq rfl N.lst hs hf (lst_first ho hc I.kIn J N.lst) call2
end
end G2

set_option Elab.async false
set_option linter.all false
set_option maxRecDepth 100000
set_option maxHeartbeats 2000000
/-! Calls: C(k = v, ..), cls(..), C.m(k = v, ..). -/
namespace G2
open PySem PySem.Spec PyProof.Rows L2 Builtin ClX
section
variable {X : Cx} {CX : CXT} {k i : Nat} {f C p g : Addr} {mc : Value} {fd : FuncData} {ps ks : List Str} {sp : Sp} {dvs : List V} {ds : List Value} {E : XK} {x m : Str} {pp pos apos : Pos} {o e : Expr} {es : List Expr} {kws : List Keyword} {ta : TE} {t tk : TA}
  {gg : List Value → List Value → List Value} {gV : List V → List V → List V}
theorem pe_makeK (M : Mk X.K C f) (F : FnOk X.prog X.w X.K X.mg X.base CX k f fd ps sp) (hr : Room (k + 1) X.A) (hg : Gl X x) (hm : X.mg x = some (.ref C)) (hb : KBn X.K fd ps 1 ks gg gV) (hx : Passes CX X E)
    (hkw : PK X kws tk) (hall : (backToKw pos (keywordEach kws X.env)).all (·.1.isSome) = true := by rfl) (hks : (backToKw pos (keywordEach kws X.env)).filterMap (·.1) = ks := by rfl)
    (hdb : (x == ("__debug__" : Str)) = false := by decide)
    (hpl : ((backTo pos (starEach [] X.env)).any (·.1) || (backToKw pos (keywordEach kws X.env)).any (·.1.isNone)) = false := by rfl) :
    PE X (.Call (.Name x pp) [] kws pos) (tMakeN C 0 ks.length sp gV E tNil tk) := by
  refine ⟨fun pins s σ H Q I h => ?_⟩
  refine wpAny_Call_Name_kw (ld_glob I hg hm ?_ hdb)
  refine PySem.W.callWith_KW0 (h₀ := X.base) I.ok.mod.kin M.kp hall (thn (hkw.run pos pins s σ H _ I h) fun ws s2 ⟨zs, H2, I2, rz, l1, l2, q2⟩ => ⟨I2.kIn, ?_⟩) hpl
  rw [hks]
  exact run_makeN (us := []) (vs := []) M F hr hb hx I2 .nil rz l1 l2 q2
/-- cls(e, ..), cls a local that holds the class at C -/
def tMakeV (i : Nat) (C : Addr) (sp : Sp) (dvs : List V) (E : XK) (t : TA) : TE := fun σ H Q => σ[i]? = some (some (.ref C)) ∧ tMake C sp dvs E t σ H Q
theorem pe_makeV (i : Nat) (M : Mk X.K C f) (F : FnOk X.prog X.w X.K X.mg X.base CX k f fd ps sp) (hr : Room (k + 1) X.A) (hN : X.N[i]? = some x) (hv : Vis X.env.scope x) (hb : Binds X.K fd ps ds) (hd : Vals dvs ds) (hx : Passes CX X E)
    (ha : PA X (e :: es) t) (hdb : (x == ("__debug__" : Str)) = false := by decide) (hcd : (x == ("__classdict__" : Str)) = false := by decide)
    (he : starEach (e :: es) X.env = (false, eval e X.env) :: starEach es X.env := by rfl) (hpl : (backTo pos (starEach es X.env)).any (·.1) = false := by rfl) :
    PE X (.Call (.Name x pp) (e :: es) [] pos) (tMakeV i C sp dvs E t) := by
  refine ⟨fun pins s σ H Q I h => ?_⟩
  obtain ⟨hs, ht⟩ := h
  refine wpAny_Call_Name_kw (thn ((pe_var (pos := pp) hN hv hdb hcd).run pins s σ H (fun v H1 => v = .ref C ∧ H1 = H) I ⟨.ref C, hs, rfl, rfl⟩) fun u s1 ⟨v, H1, I1, r1, q1⟩ => ?_)
  obtain ⟨rfl, rfl⟩ := q1
  cases r1
  refine PySem.W.callWith_K (h₀ := X.base) I.ok.mod.kin M.kp (thn (ha.run pos pins s1 σ _ _ I1 ht) fun us s2 ⟨vs, H2, I2, r, q⟩ => ⟨I2.kIn, ?_⟩) he hpl
  exact run_make M F hr hb hd hx I2 r q
/-- C.m(k = v, ..), m a classmethod -/
def tCMethK (C : Addr) (n : Nat) (sp : Sp) (gV : List V → List V → List V) (E : XK) (ta : TE) (tk : TA) : TE := fun σ H Q => ta σ H fun x H1 => x = .ref C ∧ tk σ H1 fun zs H2 => zs.length = n ∧ sp (gV [.ref C] zs) H2 Q E
theorem pe_cmethK {pl : Sem Bool} (he : PE X o ta) (r : CRead X.K C mc) (c : CMet X.K C mc m p g) (F : FnOk X.prog X.w X.K X.mg X.base CX k g fd ps sp) (hr : Room k X.A) (hb : KBn X.K fd ps 1 ks gg gV) (hx : Passes CX X E) (hkw : PK X kws tk)
    (hall : (backToKw pos (keywordEach kws X.env)).all (·.1.isSome) = true := by rfl) (hks : (backToKw pos (keywordEach kws X.env)).filterMap (·.1) = ks := by rfl)
    (hpl : ((backTo pos (starEach [] X.env)).any (·.1) || (backToKw pos (keywordEach kws X.env)).any (·.1.isNone)) = false := by rfl)
    (ht : eval (.Call (.Attribute o m apos) [] kws pos) X.env = (do
      let ov ← eval o X.env
      standAt apos.atName
      let (f, first) ← holding [ov] (getMethod ov m pl)
      callWith pos f first (backTo pos (starEach [] X.env)) (backToKw pos (keywordEach kws X.env))) := by rfl) :
    PE X (.Call (.Attribute o m apos) [] kws pos) (tCMethK C ks.length sp gV E ta tk) := by
  refine ⟨fun pins s σ H Q I h => ?_⟩
  refine PySem.W.methodCall_KW (pl := pl) (thn (he.run pins s σ H _ I h) fun u s1 ⟨x, H1, I1, rx, ex, q⟩ => ?_) ht
  subst ex
  obtain rfl : u = Value.ref C := rx
  refine getmethcm_ok I1 r c fun s2 I2 => ?_
  refine PySem.W.callWith_of hpl (PySem.W.keeps_M (q := s1.heap.objs.size) (self := .ref C) c.fi) (evalArgs_kw2_nil hall (thn (hkw.run pos _ s2 σ H1 _ I2 q) fun ws s3 ⟨zs, H2, I3, rz, l2, q2⟩ => ⟨⟨pin_at I3, I3.kIn⟩, ?_⟩))
  rw [hks]
  have rr : Vals (gV [V.ref C] zs) (gg [Value.ref C] ws) := hb.rel (.cons rfl .nil) rz
  have e2 : ws.length = ks.length := rz.length.symm.trans l2
  refine thn (Q := EP X ((s1.heap.objs.size, PySem.W.methodObj (.ref g) (.ref C)) :: pins) σ Q) (wpAny_call (PySem.W.method_call (pin_at I3) (codeAny_mono (F.run X.A X.stack s3 H2 ⟨.ref C :: [], ks.zip ws⟩ (gg [Value.ref C] ws) (gV [V.ref C] zs) Q E hr I3.env0 (hb.to s3 [.ref C] ws I3.kIn rfl e2) rr q2) fun r s' hq => ?_))) fun _ _ y => unpinE y
  cases r with
  | error e => exact hx _ σ H2 s3 e s' I3 hq
  | ok fl =>
    cases fl with
    | ret u => exact I3.after hq
    | next => exact False.elim hq
    | brk => exact False.elim hq
    | cont => exact False.elim hq
end
end G2

set_option Elab.async false
set_option linter.all false
set_option maxRecDepth 100000
set_option maxHeartbeats 2000000
/-! head, *lines = a list; xs[1::2] of a list of seven. -/
namespace G2
open PySem PySem.Spec PyProof.Rows L2 Builtin
theorem star1 {prog : Program} {w : World} {A : Around} {E : Value → Shared → Prop} {s : Shared} {l : Addr} {items : Array Value} {Q : List Value → Shared → Prop} (hl : s.heap.IsList l items) (hh : A.handled = none) (hn : 1 ≤ items.size) (hz : items.size ≤ 16384)
    (h : ∀ h₂ tk, (∀ b o, s.heap.get? b = some o → h₂.get? b = some o) → wpAny (model prog w) A (newList (items.toList.drop 1) >>= fun d => pure (items.toList.take 1 ++ [d] ++ [])) Q E { s with heap := h₂, toks := tk }) :
    wpAny (model prog w) A (unpackItems (.ref l) 2 (some 1)) Q E s := by
  have hlt : l ≠ s.heap.objs.size := by obtain ⟨o, ho, _⟩ := hl; exact Nat.ne_of_lt (Heap.lt_size ho)
  unfold unpackItems
  refine wpAny_bind ?_
  unfold notIterableAtAll
  refine wpAny_bind (wpAny_specialOf hl.typeIs slot_list_iter.lookup ?_)
  refine wpAny_pure ?_
  simp only [Bool.false_eq_true, if_false]
  refine wpAny_bind (wpAny_holding (wpAny_pyIter_list hl ?_))
  refine wpAny_bind (wpAny_holding (PySem.W.kun_draw hlt 1 0 _ _ ⟨_, Heap.get?_push_size _ rfl, rfl, rfl⟩ (hl.push _) (by omega) fun h₁ hit₁ hs₁ => ?_))
  have hl₁ : h₁.IsList l items := (hl.push _).extBut hs₁.extBut hlt
  rw [Nat.zero_add] at hit₁
  have hit₁' := hit₁
  obtain ⟨oi, hoi, _⟩ := hit₁'
  have hl₁' := hl₁
  obtain ⟨ol, hol, _⟩ := hl₁'
  rw [List.drop_zero]
  have hfl : (items.toList.take 1).length = 1 := by rw [List.length_take, Array.length_toList]; omega
  rw [if_neg (show ¬ ((items.toList.take 1).length < 1) by rw [hfl]; omega)]
  refine wpAny_bind (wpAny_holding (PySem.W.kun_collect (s := { s with heap := h₁ }) (T := "list_iterator") (.inr (.inr (.inl rfl))) (Walks.list (A := A.in1) hh s.heap.objs.size l hlt items) (fun j u st => st.1.typeIs) (k := 1) (by omega) ⟨hit₁, hl₁⟩ (Heap.lt_size hoi) (Heap.lt_size hol) (fun h₂ tk hk => ?_) (by rw [sizeLine_eq]; omega)))
  show wpAny _ _ (if (items.toList.drop 1).length < 2 - 1 - 1 then _ else _) _ _ _
  rw [if_neg (by omega)]
  show wpAny _ _ (newList ((items.toList.drop 1).take ((items.toList.drop 1).length - (2 - 1 - 1))) >>= fun d => pure (items.toList.take 1 ++ [d] ++ (items.toList.drop 1).drop ((items.toList.drop 1).length - (2 - 1 - 1)))) _ _ _
  rw [show (items.toList.drop 1).length - (2 - 1 - 1) = (items.toList.drop 1).length from rfl, List.take_length, List.drop_length]
  exact h h₂ tk fun b o e => hk b o (Nat.ne_of_lt (Heap.lt_size e)) (hs₁.extBut b o (Nat.ne_of_lt (Heap.lt_size e)) (Heap.get?_push_of_some _ e))
section
variable {X : Cx}
/-- a, *b = a list -/
def gStar (K : PySem.W.Frag) (g1 g2 : TG) : TG := fun v σ H Q => ∃ l x xs, v = .ref l ∧ SqL K H l (x :: xs) ∧ xs.length ≤ 16000 ∧ ∀ p, H p = none → g1 x σ (upd H p (.lst xs)) fun σ1 H1 => g2 (.ref p) σ1 H1 Q
theorem pg_star {a b : Expr} {p1 pos : Pos} {k : Nat} {g1 g2 : TG} (hc : X.calm = true) (h1 : PG X a g1) (h2 : PG X b g2) (hn : (assignEach [a, .Starred b p1] X.env).length = 2 := by rfl)
    (hst : (assignEach [a, .Starred b p1] X.env).findIdx? (·.1) = some 1 := by rfl) (hs : (assignEach [a, .Starred b p1] X.env).map (·.2) = [assign a X.env, assign b X.env] := by rfl) : PG X (.Tuple [a, .Starred b p1] k pos) (gStar X.K g1 g2) := by
  refine ⟨fun pins s σ H v u Q I r hw => ?_⟩
  obtain ⟨l, x, xs, e1, hq, hz, hw⟩ := hw
  subst e1
  cases r
  obtain ⟨its, rv, pl, hz'⟩ := I.list hq
  have hl' : s.heap.IsList l its.toArray := by
    obtain ⟨o, m, e, c, d, q⟩ := pl
    exact ⟨o, e, c, m, q⟩
  cases rv with
  | @cons _ u1 _ us r1 rr =>
    have hlen := rr.length
    rw [PyProof.Rows.assign_Tuple]
    refine wpAny_bind (wpAny_standAt ?_)
    unfold unpack
    rw [hn, hst, hs]
    refine wpAny_bind (wpAny_holding (star1 hl' (I.ok.hd hc) (by simp) (by simp; omega) fun h₂ tk hk => ?_))
    have I1 : Inv X pins σ H { s with heap := h₂, toks := tk } := I.kept (t' := tk) hk
    show wpAny _ _ (newList us >>= fun d => pure ([u1] ++ [d] ++ [])) _ _ _
    refine wpAny_bind (wpAny_newObj_type ?_)
    refine wpAny_pure ?_
    have ok : ObjOk X.prog X.w (upd H h₂.objs.size (.lst xs)) (h₂.push { cls := .type "list", data := .seq us.toArray }) h₂.objs.size (.lst xs) := ⟨by rw [sizeLine_eq]; omega, us, 0, rr, Heap.get?_push_size _ rfl⟩
    have I2 : Inv X pins σ (upd H h₂.objs.size (.lst xs)) { s with heap := h₂.push { cls := .type "list", data := .seq us.toArray }, toks := tk } := I1.laid (t' := tk) (fun b o e => Heap.get?_push_of_some _ e) (Nat.le_refl _) ok
    show wpAny _ _ (assignInOrder [assign a X.env, assign b X.env] [u1, .ref h₂.objs.size]) _ _ _
    refine assignInOrder_cons (thn (h1.run pins _ σ _ _ _ _ I2 r1 (hw _ (I1.hok.fresh (Nat.le_refl _)))) fun _ s1 ⟨σ1, H1, I3, q1⟩ => ?_)
    refine assignInOrder_cons (thn (h2.run pins s1 σ1 H1 (.ref h₂.objs.size) _ Q I3 rfl q1) fun _ s2 ⟨σ2, H2, I4, q2⟩ => ?_)
    exact assignInOrder_nil ⟨σ2, H2, I4, q2⟩
/-- xs[1::2], xs of seven items -/
def tOdd (K : PySem.W.Frag) (te : TE) : TE := fun σ H Q => te σ H fun x H1 => ∃ l a b c d e f g, x = .ref l ∧ SqL K H1 l [a, b, c, d, e, f, g] ∧ ∀ p, H1 p = none → Q (.ref p) (upd H1 p (.lst [b, d, f]))
theorem pick7 (a b c d e f g : Value) : slicePick #[a, b, c, d, e, f, g] (some 1) none (some 2) = #[b, d, f] := by
  unfold slicePick
  show ((sliceRange _ _ _).filterMap (#[a, b, c, d, e, f, g][·]?)).toArray = _
  have h : sliceRange 1 7 2 = [1, 3, 5] := by decide +kernel
  show ((sliceRange 1 7 2).filterMap (#[a, b, c, d, e, f, g][·]?)).toArray = _
  rw [h]
  rfl
theorem pe_odd {e : Expr} {te : TE} {k1 k2 : Nat} {p1 p2 p3 pos : Pos} (he : PE X e te) : PE X (.Subscript e (.Slice (some (.Constant (.int 1) k1 p1)) none (some (.Constant (.int 2) k2 p2)) p3) pos) (tOdd X.K te) := by
  refine ⟨fun pins s σ H Q I h => ?_⟩
  refine Subscript_ (thn (he.run pins s σ H _ I h) fun v s1 ⟨x, H1, I1, r1, q1⟩ => ?_)
  obtain ⟨a, x1, x2, x3, x4, x5, x6, x7, ex, hx, q⟩ := q1
  subst ex
  cases r1
  have hst : ∀ (j : Int) (k : Nat) (p : Pos), PO X (some (.Constant (.int j) k p)) (tPart (tC (.int j))) := fun j k p => po_some pe_int
  refine wpAny_Slice (thn ((hst 1 k1 p1).run pins s1 σ H1 (fun o H2 => o = some 1 ∧ H2 = H1) I1 ⟨1, rfl, rfl, rfl⟩) fun vl s2 ⟨l, H2, I2, pl, el, e2⟩ => ?_)
  subst el e2
  refine thn (po_none.run pins s2 σ H2 (fun o H3 => o = none ∧ H3 = H2) I2 ⟨rfl, rfl⟩) fun vu s3 ⟨u, H3, I3, pu, eu, e3⟩ => ?_
  subst eu e3
  refine thn ((hst 2 k2 p2).run pins s3 σ H3 (fun o H4 => o = some 2 ∧ H4 = H3) I3 ⟨2, rfl, rfl, rfl⟩) fun vs s4 ⟨o, H4, I4, ps, eo, e4⟩ => ?_
  subst eo e4
  have I5 : Inv X pins σ H4 { s4 with heap := s4.heap.push { cls := .type "slice", data := .fields #[vl, vu, vs] } } := I4.kept (t' := s4.toks) fun b ob q => Heap.get?_push_of_some _ q
  obtain ⟨its, r, ht, hz⟩ := I5.list hx
  show wpAny (model X.prog X.w) X.A (subscriptTail e (.Slice (some (.Constant (.int 1) k1 p1)) none (some (.Constant (.int 2) k2 p2)) p3) (.ref a) (.ref s4.heap.objs.size)) (EP X pins σ Q) X.xe { s4 with heap := s4.heap.push { cls := .type "slice", data := .fields #[vl, vu, vs] } }
  refine tail_any (ops := [.ref a, .ref s4.heap.objs.size]) ht.isList.typeIs (PySem.slot_list_getitem.lookup) ?_ (by with_unfolding_all rfl)
  have hlen := r.length
  refine wpAny_getItem_list_slice ht.isList (Heap.IsSliceOf.new _ vl vu vs) pl pu ps (by decide) ?_ (by rw [List.size_toArray, ← hlen, sizeLine_eq]; show 7 ≤ _; omega)
  cases r with | cons r1 t => cases t with | cons r2 t => cases t with | cons r3 t => cases t with | cons r4 t => cases t with | cons r5 t => cases t with | cons r6 t => cases t with | cons r7 t => cases t with | nil =>
  rw [pick7]
  refine ⟨.ref _, _, I5.laid (t' := s4.toks) (o := .lst [x2, x4, x6]) (fun b ob q => Heap.get?_push_of_some _ q) (Nat.le_refl _) ?_, rfl, q _ (I5.hok.fresh (Nat.le_refl _))⟩
  exact ⟨by rw [sizeLine_eq]; show 3 ≤ _; omega, _, 0, .cons r2 (.cons r4 (.cons r6 .nil)), Heap.get?_push_size _ rfl⟩
end
end G2

set_option Elab.async false
set_option linter.all false
set_option maxRecDepth 100000
set_option maxHeartbeats 2000000
/-! for i, x in enumerate(a tuple). -/
namespace PySem
open Builtin
open AutoSeq1 (wpAny_loadPart')
set_option maxHeartbeats 4000000 in
theorem meets_enum_tup (l : Addr) (items : Array Value) (n : Nat) (dct : Option Addr) (sl : Array (Option Value)) :
    Meets (Builtin.«enumerate.__new__» ⟨[.type "enumerate", .ref l], []⟩) (fun _ R s => s.heap.get? l = some { cls := .type "tuple", dict := dct, data := .seq items n, slots := sl } ∧
      R (.ok (.ret (.ref (s.heap.push { cls := .type "tuple_iterator", data := .fields #[.ref l, .int 0 0] }).objs.size)))
        { s with heap := (s.heap.push { cls := .type "tuple_iterator", data := .fields #[.ref l, .int 0 0] }).push { cls := .type "enumerate", data := .fields #[.none, .bool false, .ref s.heap.objs.size, rawInt 0, .none, .none] } }) :=
  .of_wp fun prog w A R s h => by
    obtain ⟨hp, g, d, tk, os⟩ := s; obtain ⟨hl, h⟩ := h
    have hsub := sub_enumerate
    have hL : Heap.IsTuple (Shared.heap ⟨hp, g, d, tk, os⟩) l items := ⟨_, hl, rfl, n, rfl⟩
    wp_walk using wpAny_loadPart' hl
    refine wpAny_stack_any fun st => wpAny_pure ?_
    split
    · rename_i c _ _ _ _ _
      cases (c == Value.type "enumerate")
      · wp_walk using wpAny_loadPart' hl, wpAny_pyIter_tuple hL
        exact ⟨_, rfl, h⟩
      · wp_walk using wpAny_loadPart' hl, wpAny_pyIter_tuple hL
        exact ⟨_, rfl, h⟩
    · wp_walk using wpAny_loadPart' hl, wpAny_pyIter_tuple hL
      exact ⟨_, rfl, h⟩
theorem call_enum_tup {prog : Program} {w : World} {A : Around} {E : Value → Shared → Prop} {s : Shared} {l : Addr} {items : Array Value} {Q : Value → Shared → Prop} (hL : s.heap.IsTuple l items)
    (h : ∀ h', IsEnum h' (s.heap.objs.size + 1) s.heap.objs.size 0 .none → h'.IsTupleIter s.heap.objs.size l 0 → h'.objs.size = s.heap.objs.size + 2 →
      (∀ b o, s.heap.get? b = some o → h'.get? b = some o) → Q (.ref (s.heap.objs.size + 1)) { s with heap := h' }) :
    wpAny (model prog w) A (call (.type "enumerate") [.ref l]) Q E s := by
  obtain ⟨⟨c, dct, dt, sl⟩, hl, hc, n, hd⟩ := hL
  replace hc : c = .type "tuple" := hc
  replace hd : dt = .seq items n := hd
  subst hc hd
  refine callType_new F.called_enumerate (by decide) (F.typeCall_enumerate_1 _) (F.newCall_enumerate_1 _) (fun obj => F.args_object_init_2 obj _) F.entry_enumerate_new
    (meets_enum_tup l items n dct sl) ⟨hl, ?_⟩
  have hz : (s.heap.push { cls := .type "tuple_iterator", data := .fields #[.ref l, .int 0 0] }).objs.size = s.heap.objs.size + 1 := Heap.size_push ..
  show _ ∧ _
  rw [hz]
  have he : IsEnum ((s.heap.push { cls := .type "tuple_iterator", data := .fields #[.ref l, .int 0 0] }).push
      { cls := .type "enumerate", data := .fields #[.none, .bool false, .ref s.heap.objs.size, rawInt 0, .none, .none] }) (s.heap.objs.size + 1) s.heap.objs.size 0 .none := by
    have := Heap.get?_push_size (s.heap.push { cls := .type "tuple_iterator", data := .fields #[.ref l, .int 0 0] })
      (o := { cls := .type "enumerate", data := .fields #[.none, .bool false, .ref s.heap.objs.size, rawInt 0, .none, .none] }) rfl
    rw [hz] at this; exact this
  refine ⟨⟨_, he, rfl⟩, h _ he ⟨_, Heap.get?_push_of_some _ (Heap.get?_push_size _ rfl), rfl, rfl⟩ (by rw [Heap.size_push, hz]) fun b o x => Heap.get?_push_of_some _ (Heap.get?_push_of_some _ x)⟩
end PySem
namespace G2
open PySem PySem.Spec PyProof.Rows L2 Builtin
def ItT (K : PySem.W.Frag) (a : Addr) : It :=
  ⟨fun i H => ∃ (xs : List V) (x : V), SqT K H a xs ∧ xs[i]? = some x, fun i H v H' => ∃ T x, v = .ref T ∧ H T = none ∧ H' = upd H T (.tup [.int (i : Nat), x]) ∧ ∀ xs, SqT K H a xs → xs[i]? = some x, fun i H => ∃ xs : List V, SqT K H a xs ∧ xs.length = i⟩
theorem turn_enumT {P : Program} {w : World} {K : PySem.W.Frag} {elts : List Expr} {kk : Nat} {tpos : Pos} (a e it : Addr) (hea : e ≠ a) (hia : a ≠ it) :
    Turn P w K (.Tuple elts kk tpos) (ItT K a) [e, it] e (fun i h => (∃ old, IsEnum h e it ((i : Nat) : Int) old) ∧ h.IsTupleIter it a i ∧ e ≠ it) where
  mem := by simp
  obj := fun i h st b hb => by
    obtain ⟨⟨old, he⟩, ⟨o, ho, hc, hd⟩, _⟩ := st
    have e' : b = e ∨ b = it := by simpa using hb
    rcases e' with z | z
    · rw [z]; exact ⟨_, he, fun v q => nomatch q⟩
    · rw [z]; exact ⟨o, ho, fun v q => by rw [hd] at q; cases q⟩
  keep := fun i h h' st k => let ⟨⟨old, he⟩, hi, hne⟩ := st; ⟨⟨old, k e (by simp) _ he⟩, hi.at fun o q => k it (by simp) o q, hne⟩
  item := by
    intro X hP hw hK hc i pins s σ H E I hf st hg
    subst hP hw hK
    obtain ⟨⟨old, he⟩, hit, hne⟩ := st
    obtain ⟨xs, x, hq, hx⟩ := hg
    obtain ⟨its, rv, p, hz⟩ := I.tuple hq
    obtain ⟨u, hu, ru⟩ := rv.get hx
    have hel : e < s.heap.objs.size := Heap.lt_size he
    have hil : it < s.heap.objs.size := by obtain ⟨_, q, _⟩ := hit; exact Heap.lt_size q
    have hlt : i < its.toArray.size := by
      have z := (List.getElem?_eq_some_iff.mp hu).1
      simpa using z
    refine wpAny_pyNext_enum_itemD (Draws.tuple (A := X.A.in1) (I.ok.hd hc) it a hia its.toArray) he ⟨hit, p⟩ hlt hne (by simp [hne, hea]) fun x' h' tk hPx ho hst' hT hsz hk => ?_
    obtain ⟨hit', p'⟩ := hst'
    have ex : x' = u := by
      have z : its[i]? = some x' := by simpa using hPx
      rw [hu] at z
      exact (Option.some.inj z).symm
    subst ex
    refine ⟨_, rfl, wpAny_letOwnedTupleGo_enum (s := { s with heap := h', toks := tk + 1 }) ho fun h'' he' sb => ?_⟩
    have hT2 : h''.get? s.heap.objs.size = some { cls := .type "tuple", data := .seq #[.int i tk, x'] } := (sb.2 _ (Nat.ne_of_gt hel)).trans hT
    have new : ObjOk X.prog X.w (upd H s.heap.objs.size (.tup [.int (i : Nat), x])) h'' s.heap.objs.size (.tup [.int (i : Nat), x]) :=
      ⟨by show 2 ≤ sizeLine; decide, [.int i tk, x'], .cons ⟨_, rfl⟩ (.cons ru .nil), ⟨_, hT2, rfl, _, rfl⟩⟩
    have I1 : Inv X pins σ (upd H s.heap.objs.size (.tup [.int (i : Nat), x])) { s with heap := h'', toks := tk + 1 } :=
      I.turnedNew (ch := [e, it]) (fun b ob hb q => (sb.2 b (fun z => hb (by simp [z]))).trans (hk b ob (fun z => hb (by simp [z])) (fun z => hb (by simp [z])) q)) hf (Nat.le_refl _) new
    refine ⟨.ref s.heap.objs.size, _, I1, rfl, ⟨_, x, rfl, I.hok.fresh (Nat.le_refl _), rfl, fun ys hy => by rw [I.tuple_inj hy hq]; exact hx⟩, ⟨⟨x', ?_⟩, hit'.at fun o q => (sb.2 it (Ne.symm hne)).trans q, hne⟩, fun b hb => ?_⟩
    · have e1 : ((i + 1 : Nat) : Int) = (i : Int) + 1 := by omega
      rw [e1]; exact he'
    · have hb' : b < s.heap.objs.size := by
        have e' : b = e ∨ b = it := by simpa using hb
        rcases e' with z | z
        · rw [z]; exact hel
        · rw [z]; exact hil
      rw [upd_ne (Nat.ne_of_lt hb')]
      exact (hf b hb).1
  done := by
    intro X hP hw hK hc i pins s σ H E I hf st hg
    subst hP hw hK
    obtain ⟨⟨old, he⟩, hit, hne⟩ := st
    obtain ⟨xs, hq, hx⟩ := hg
    obtain ⟨its, rv, p, hz⟩ := I.tuple hq
    obtain ⟨f0, f1, f2, f3, f4, f5⟩ := hf it (by simp)
    have hl := rv.length
    have hn : i = its.toArray.size := by rw [List.size_toArray, ← hl, hx]
    rw [hn] at hit
    exact wpAny_pyNext_enum_endD (Draws.tuple (A := X.A.in1) (I.ok.hd hc) it a hia its.toArray) he ⟨hit, p⟩ fun h' eb => ⟨rfl, I.turned (t' := s.toks) (fun b o hb q => eb b o hb q) f0 f1 f3 f4 f5⟩
  self := fun A i s Q E st h => let ⟨⟨_, he⟩, _⟩ := st; wpAny_pyIter_enum he h
def iEnumT (K : PySem.W.Frag) (ta : TA) : TI := fun σ H R => ta σ H fun vs H1 => ∃ a xs, vs = [.ref a] ∧ SqT K H1 a xs ∧ R (ItT K a) H1
theorem pi_enumT {X : Cx} {e : Expr} {ta : TA} {p pos tpos : Pos} {elts : List Expr} {kk : Nat} (hg : Gl X "enumerate") (hm : X.mg "enumerate" = none) (ha : PA X [e] ta) (hs : starEach [e] X.env = [(false, eval e X.env)] := by rfl) :
    PI X (.Tuple elts kk tpos) (.Call (.Name "enumerate" p) [e] [] pos) (iEnumT X.K ta) := by
  refine ⟨fun pins s σ H R I h => ?_⟩
  refine Call_ (ld_blt I hg hm boot_enumerate (PyProof.Rows.callWith_type1 (thn (ha.run pos pins s σ H _ I h) fun us s1 ⟨vs, H1, I1, r1, q1⟩ => ?_) hs rfl))
  obtain ⟨a, xs, ex, hq, q⟩ := q1
  subst ex
  cases r1 with
  | cons r rr =>
    cases rr
    cases r
    obtain ⟨its, rv, p', hz⟩ := I1.tuple hq
    have hal : a < s1.heap.objs.size := by obtain ⟨o, ho, _⟩ := id p'; exact Heap.lt_size ho
    refine call_enum_tup p' fun h' he hit hsz hk => wpAny_pyIter_enum he ?_
    have I2 : Inv X pins σ H1 { s1 with heap := h' } := I1.kept (t' := s1.toks) hk
    refine ⟨s1.heap.objs.size + 1, [s1.heap.objs.size + 1, s1.heap.objs.size], _, _, H1, rfl, I2, turn_enumT a (s1.heap.objs.size + 1) s1.heap.objs.size (Nat.ne_of_gt (Nat.lt_succ_of_lt hal)) (Nat.ne_of_lt hal), ⟨⟨.none, he⟩, hit, Nat.succ_ne_self _⟩, fun b hb => ?_, q⟩
    have e' : b = s1.heap.objs.size + 1 ∨ b = s1.heap.objs.size := by simpa using hb
    have hle : s1.heap.objs.size ≤ b := by
      rcases e' with z | z
      · rw [z]; exact Nat.le_add_right _ _
      · rw [z]; exact Nat.le_refl _
    exact I1.fpOk hle (I1.hok.fresh hle)
/-- a loop over enumerate(a tuple) that is run through -/
theorem for_enumT {K : PySem.W.Frag} {a : Addr} {xs : List V} {g : TG} {tb : TS} {D : Ends} {σ : L2.St} {H : Hp} (Pv : Nat → L2.St → Hp → Prop) (h0 : Pv 0 σ H) (hl : ∀ i σ H, Pv i σ H → SqT K H a xs)
    (hs : ∀ i x T σ H, xs[i]? = some x → Pv i σ H → H T = none → g (.ref T) σ (upd H T (.tup [.int (i : Nat), x])) fun σ2 H2 => tb { D with nx := Pv (i + 1), ct := Pv (i + 1), bk := D.nx } σ2 H2)
    (hd : ∀ σ H, Pv xs.length σ H → D.nx σ H) :
    ∃ W : Nat → Nat → L2.St → Hp → Prop, (∃ m, W 0 m σ H) ∧ ∀ i m σ H, W i m σ H →
      ((ItT K a).stop i H ∧ D.nx σ H) ∨ ((ItT K a).go i H ∧ ∃ N : L2.St → Hp → Prop, (∀ σ' H', N σ' H' → ∃ m', m' < m ∧ W (i + 1) m' σ' H') ∧
        ∀ x H', (ItT K a).yld i H x H' → g x σ H' fun σ2 H2 => tb { D with nx := N, ct := N, bk := D.nx } σ2 H2) := by
  refine ⟨fun i m σ H => i + m = xs.length ∧ Pv i σ H, ⟨xs.length, by omega, h0⟩, fun i m σ H hW => ?_⟩
  obtain ⟨e, p⟩ := hW
  by_cases hm : m = 0
  · subst hm
    have e' : i = xs.length := by omega
    subst e'
    exact .inl ⟨⟨xs, hl _ _ _ p, rfl⟩, hd _ _ p⟩
  · have hi : i < xs.length := by omega
    refine .inr ⟨⟨xs, xs[i], hl _ _ _ p, List.getElem?_eq_getElem hi⟩, Pv (i + 1), fun σ' H' q => ⟨m - 1, by omega, by omega, q⟩, fun x H' y => ?_⟩
    obtain ⟨T, x', rfl, hT, rfl, hx⟩ := y
    exact hs i x' T σ H (hx xs (hl _ _ _ p)) p hT
end G2

set_option Elab.async false
set_option linter.all false
set_option maxRecDepth 100000
set_option maxHeartbeats 2000000
namespace K2
open PySem PySem.Spec PyProof.Rows L2 G1 G2
def topS (i : Nat) : Stmt := PySem.Challenge.pw_spareblocks_k04_texts_of_drives.main.body.getD i (.Pass ⟨0, 0, 0, 0⟩)
abbrev sCell : Stmt := topS 37
abbrev sPool : Stmt := topS 38
abbrev sDraw : Stmt := topS 39
/-- the built-in names are still the built-ins -/
structure Bl (mg : Str → Option Value) : Prop where
  len : mg "len" = none
  int : mg "int" = none
  abs : mg "abs" = none
  repr : mg "repr" = none
  isi : mg "isinstance" = none
  range : mg "range" = none
  max : mg "max" = none
  min : mg "min" = none
  all : mg "all" = none
  sum : mg "sum" = none
  enm : mg "enumerate" = none
  tup : mg "tuple" = none
  boo : mg "bool" = none
  str : mg "str" = none
theorem bInt : bootBuiltins "int" = some (.type "int") := by decide +kernel
theorem bAbs : bootBuiltins "abs" = some (.builtin "abs") := by decide +kernel
theorem scCell : FnScope ["_law_cells", "_law_k", "_law_found", "_law_cell_here"] ["_law_cells", "_law_k"] (defScope sCell) :=
  ⟨rfl, rfl, rfl, by decide +kernel, rfl, by decide +kernel, by decide +kernel⟩
theorem scPool : FnScope ["_law_cell_here", "_law_left"] ["_law_cell_here"] (defScope sPool) :=
  ⟨rfl, rfl, rfl, by decide +kernel, rfl, by decide +kernel, by decide +kernel⟩
theorem scDraw : FnScope ["_law_pool_here", "_law_many_here", "_law_seed", "_law_digit"] ["_law_pool_here", "_law_many_here"] (defScope sDraw) :=
  ⟨rfl, rfl, rfl, by decide +kernel, rfl, by decide +kernel, by decide +kernel⟩
/-- the number at an index, or a mixed one: some int -/
def spCell (K : PySem.W.Frag) : Sp := fun vs H Q _ => ∃ (l : Addr) (ns : List Int) (k : Nat), vs = [.ref l, .int (k : Int)] ∧ SqL K H l (ns.map V.int) ∧ ns.length ≤ 63 ∧ k ≤ 10 ∧ ∀ (H' : Hp) (i : Int), Same H H' → Q (.int i) H'
def spPool : Sp := fun vs H Q _ => ∃ c : Int, vs = [.int c] ∧ ∀ (p : Addr) (i j n : Int), H p = none → 0 ≤ i → i < 2 ^ 31 → Q (.ref p) (upd H p (.lst [.int i, .int j, .int n]))
/-- a draw changes the pool alone -/
def spDraw : Sp := fun vs H Q _ => ∃ (p : Addr) (m i j n : Int), vs = [.ref p, .int m] ∧ H p = some (.lst [.int i, .int j, .int n]) ∧ 0 ≤ i ∧ i < 2 ^ 31 ∧ 0 < m ∧ m < 2 ^ 60 ∧
  ∀ i' j' n' r : Int, 0 ≤ i' → i' < 2 ^ 31 → 0 ≤ r → r < m → Q (.int r) (upd H p (.lst [.int i', .int j', .int n']))
section
variable {P : Program} {w : World} {K : PySem.W.Frag} {mg : Str → Option Value} {base : Heap}
theorem ok_pool {f : Addr} {fd : FuncData} (F : Fun K "_law_pool" "_law_pool" sPool f fd) (B : Bl mg) : FnOk P w K mg base CX0 1 f fd ["_law_cell_here"] spPool := by
  refine F.ok scPool (fun vs H Q E h => ?_) (fun cdv A outer s H vs Q E hr h => ?_)
  · obtain ⟨c, rfl, _⟩ := h
    rfl
  obtain ⟨c, rfl, k⟩ := h
  refine ⟨_, pss_cons (ps_set (i := 1) scPool.nd rfl (.inl rfl) (pe_ifExp (PW.pt (pw_or (pt_cmpR op_lt (pv 0) pe_int (nomark _)) (pw_or1 (pt_cmpR op_ge (pv 0) (pe_op op_pow pe_int pe_int) (nomark _)))))
      (pe_callB call_abs (by rfl) B.abs bAbs (pa_cons (pv 0) pa_nil)) pe_int))
    (pss_one (ps_ret (pe_lst (pa_cons (pe_op op_mod (pe_callTy call_int1 (by rfl) B.int bInt (pa_cons (pv 0) pa_nil)) pe_int) (pa_cons (pv 1) (pa_cons pe_int pa_nil)))))), ?_⟩
  have rest : ∀ j : Int, tRet (tLst (tCons (tOp (rI (fun _ j => 0 < j) fun i j => .int (i % j)) (tCB (fun xs H Q => (∃ i, xs = [.int i] ∧ Q (.int i) H) ∨ ∃ k, xs = [.bl k] ∧ Q (.int (if k then 1 else 0)) H) (tCons (tVar 0) tNil)) (tC (.int 2147481949)))
      (tCons (tVar 1) (tCons (tC (.int 0)) tNil)))) { nx := fun _ H' => Q .non H', rt := Q } [some (.int c), some (.int j)] H := by
    intro j
    refine ⟨_, rfl, .inl ⟨c, rfl, _, _, rfl, rfl, (by show (0 : Int) < 2147481949; decide), _, rfl, by show 3 ≤ sizeLine; decide, fun p hp => k p _ _ _ hp (Int.emod_nonneg _ (by decide)) ?_⟩⟩
    have := Int.emod_lt_of_pos c (show (0 : Int) < 2147481949 by decide)
    omega
  refine ⟨_, rfl, _, _, rfl, rfl, _, rfl, ite2 (fun _ => ?_) (fun _ => ?_)⟩
  · exact iteT ⟨_, rfl, c, rfl, rest _⟩
  · refine ⟨_, rfl, _, _, rfl, rfl, ⟨by decide, by decide, by decide⟩, _, _, rfl, rfl, _, rfl, ite2 (fun _ => ?_) (fun _ => ?_)⟩
    · exact ⟨_, rfl, c, rfl, rest _⟩
    · exact rest _
theorem emod_box (x m : Int) (h : 0 < m) : 0 ≤ x % m ∧ x % m < m := ⟨Int.emod_nonneg _ (by omega), Int.emod_lt_of_pos _ h⟩
theorem ok_draw {f : Addr} {fd : FuncData} (F : Fun K "_law_draw" "_law_draw" sDraw f fd) (B : Bl mg) : FnOk P w K mg base CX0 1 f fd ["_law_pool_here", "_law_many_here"] spDraw := by
  refine F.ok scDraw (fun vs H Q E h => ?_) (fun cdv A outer s H vs Q E hr h => ?_)
  · obtain ⟨p, m, i, j, n, rfl, _⟩ := h
    rfl
  obtain ⟨p, m, i, j, n, rfl, hp, i0, i1, m0, m1, k⟩ := h
  refine ⟨_, pss_cons (ps_asg (pe_op op_add (pe_ix ix_list (pv 0) pe_int (fun _ _ => rfl)) pe_int) (pg_sub (pv 0) pe_int set_list))
    (pss_cons (ps_set (i := 2) scDraw.nd rfl (.inl rfl) (pe_op op_mod (pe_callTy call_int1 (by rfl) B.int bInt (pa_cons
        (pe_op op_add (pe_op op_add (pe_op op_mul (pe_ix ix_list (pv 0) pe_int (fun _ _ => rfl)) pe_int) (pe_op op_mul pe_int (pe_ix ix_list (pv 0) pe_int (fun _ _ => rfl)))) pe_int) pa_nil)) pe_int))
    (pss_cons (ps_asg (pe_op op_mod (pe_callTy call_int1 (by rfl) B.int bInt (pa_cons (pe_op op_add (pe_op op_mul (pv 2) (pv 2)) (pe_op op_mul pe_int (pe_ix ix_list (pv 0) pe_int (fun _ _ => rfl)))) pa_nil)) pe_int)
        (pg_sub (pv 0) pe_int set_list))
    (pss_cons (ps_if (pt_cmpR op_gt (pe_ix ix_list (pv 0) pe_int (fun _ _ => rfl)) pe_int (nomark _))
      (pss_cons (ps_set (i := 3) scDraw.nd rfl (.inl rfl) (pe_op op_mod (pe_callTy call_int1 (by rfl) B.int bInt (pa_cons (pe_ix ix_list (pv 0) pe_int (fun _ _ => rfl)) pa_nil)) (pv 1)))
        (pss_cons (ps_asg (pe_op op_fdivW (pe_ix ix_list (pv 0) pe_int (fun _ _ => rfl)) (pv 1)) (pg_sub (pv 0) pe_int set_list))
        (pss_one (ps_ret (pv 3))))) pss_nil)
    (pss_one (ps_ret (pe_op op_mod (pe_callTy call_int1 (by rfl) B.int bInt (pa_cons (pe_op op_fdiv (pe_ix ix_list (pv 0) pe_int (fun _ _ => rfl)) pe_int) pa_nil)) (pv 1))))))), ?_⟩
  -- pool[2] = pool[2] + 1
  refine ⟨_, rfl, p, _, _, .int n, rfl, rfl, SqL.of hp, rfl, _, _, rfl, rfl, _, rfl, p, _, _, 2, rfl, rfl, hp, rfl, ?_⟩
  have h1 : (upd H p (.lst [.int i, .int j, .int (n + 1)])) p = some (.lst [.int i, .int j, .int (n + 1)]) := upd_same
  show tSeq _ _ _ _ (upd H p (.lst [.int i, .int j, .int (n + 1)]))
  generalize e1 : upd H p (.lst [.int i, .int j, .int (n + 1)]) = H1 at h1 ⊢
  -- seed
  refine ⟨_, rfl, p, _, _, .int i, rfl, rfl, SqL.of h1, rfl, _, _, rfl, rfl, .inl ⟨by omega, by omega⟩, _, rfl, p, _, _, .int (n + 1), rfl, rfl, SqL.of h1, rfl, _, _, rfl, rfl, .inl ⟨by decide, by decide⟩,
    _, _, rfl, rfl, _, _, rfl, rfl, .inl ⟨_, rfl, _, _, rfl, rfl, (by show (0 : Int) < 2147481937; decide), ?_⟩⟩
  obtain ⟨s0, s1⟩ := emod_box (i * 46349 + 70001 * (n + 1) + 11) 2147481937 (by decide)
  show tSeq _ _ _ [some (.ref p), some (.int m), some (.int ((i * 46349 + 70001 * (n + 1) + 11) % 2147481937)), none] H1
  generalize (i * 46349 + 70001 * (n + 1) + 11) % 2147481937 = sd at s0 s1 ⊢
  -- pool[0]
  refine ⟨_, rfl, _, rfl, _, _, rfl, rfl, .inl ⟨by omega, by omega⟩, _, rfl, p, _, _, .int (n + 1), rfl, rfl, SqL.of h1, rfl, _, _, rfl, rfl, .inl ⟨by decide, by decide⟩, _, _, rfl, rfl,
    .inl ⟨_, rfl, _, _, rfl, rfl, (by show (0 : Int) < 2147481907; decide), _, rfl, p, _, _, 0, rfl, rfl, h1, rfl, ?_⟩⟩
  obtain ⟨t0, t1⟩ := emod_box (sd * sd + 46301 * (n + 1)) 2147481907 (by decide)
  show tSeq _ _ _ _ (upd H1 p (.lst [.int ((sd * sd + 46301 * (n + 1)) % 2147481907), .int j, .int (n + 1)]))
  generalize (sd * sd + 46301 * (n + 1)) % 2147481907 = i' at t0 t1 ⊢
  have e2 : upd H1 p (.lst [.int i', .int j, .int (n + 1)]) = upd H p (.lst [.int i', .int j, .int (n + 1)]) := by rw [← e1, upd_upd]
  rw [e2]
  have h2 : (upd H p (.lst [.int i', .int j, .int (n + 1)])) p = some (.lst [.int i', .int j, .int (n + 1)]) := upd_same
  refine ⟨_, rfl, p, _, _, .int j, rfl, rfl, SqL.of h2, rfl, _, _, rfl, rfl, _, rfl, ite2 (fun _ => ?_) (fun _ => ?_)⟩
  · refine ⟨_, rfl, p, _, _, .int j, rfl, rfl, SqL.of h2, rfl, .inl ⟨_, rfl, _, rfl, _, _, rfl, rfl, m0, ?_⟩⟩
    obtain ⟨r0, r1⟩ := emod_box j m m0
    refine ⟨_, rfl, p, _, _, .int j, rfl, rfl, SqL.of h2, rfl, _, rfl, _, _, rfl, rfl, wide_div (b := 60) m0 (by omega) (by decide) (by decide), _, rfl, p, _, _, 1, rfl, rfl, h2, rfl, _, rfl, ?_⟩
    have e3 : upd (upd H p (.lst [.int i', .int j, .int (n + 1)])) p (.lst [.int i', .int (j / m), .int (n + 1)]) = upd H p (.lst [.int i', .int (j / m), .int (n + 1)]) := upd_upd
    show Q _ (upd (upd H p (.lst [.int i', .int j, .int (n + 1)])) p (.lst [.int i', .int (j / m), .int (n + 1)]))
    rw [e3]
    exact k _ _ _ _ t0 (by omega) r0 r1
  · refine ⟨_, rfl, p, _, _, .int i', rfl, rfl, SqL.of h2, rfl, _, _, rfl, rfl, ⟨by decide, by decide⟩, .inl ⟨_, rfl, _, rfl, _, _, rfl, rfl, m0, ?_⟩⟩
    obtain ⟨r0, r1⟩ := emod_box (i' / 128) m m0
    exact k _ _ _ _ t0 (by omega) r0 r1
theorem ok_cell {f : Addr} {fd : FuncData} (F : Fun K "_law_cell" "_law_cell" sCell f fd) (B : Bl mg) : FnOk P w K mg base CX0 1 f fd ["_law_cells", "_law_k"] (spCell K) := by
  refine F.ok scCell (fun vs H Q E h => ?_) (fun cdv A outer s H vs Q E hr h => ?_)
  · obtain ⟨l, ns, k, rfl, _⟩ := h
    rfl
  obtain ⟨l, ns, k, rfl, hS, hlen, hk, q⟩ := h
  refine ⟨_, pss_cons (ps_if (pt_cmpR op_lt (pv 1) (pe_callB call_len_seq (by rfl) B.len PySem.boot_len (pa_cons (pv 0) pa_nil)) (nomark _))
      (pss_one (ps_ret (pe_callTy call_int1 (by rfl) B.int bInt (pa_cons (pe_ix ix_list (pv 0) (pv 1) (fun _ _ => rfl)) pa_nil)))) pss_nil)
    (pss_cons (ps_set (i := 2) scCell.nd rfl (.inl rfl) (pe_op op_add pe_int (pe_op op_mul pe_int (pv 1))))
    (pss_cons (ps_for PassesOwn.never rfl (pi_list (pe_slice sl_list (pv 0) po_none (po_some pe_int))) (pg_name (i := 3) scCell.nd rfl (.inl rfl))
      (pss_one (ps_set (i := 2) scCell.nd rfl (.inl rfl) (pe_op op_mod (pe_callTy call_int1 (by rfl) B.int bInt (pa_cons
        (pe_op op_add (pe_op op_mul (pv 2) pe_int) (pe_callTy call_int1 (by rfl) B.int bInt (pa_cons (pv 3) pa_nil))) pa_nil)) pe_int))))
    (pss_one (ps_ret (pe_op op_mod (pe_callTy call_int1 (by rfl) B.int bInt (pa_cons (pe_op op_add (pe_op op_mul (pv 2) (pv 2)) (pe_op op_mul pe_int (pv 1))) pa_nil)) pe_int))))), ?_⟩
  refine ⟨_, rfl, _, rfl, l, _, rfl, .inl hS, _, _, rfl, rfl, _, rfl, ite2 (fun c => ?_) (fun c => ?_)⟩
  · have c' : k < ns.length := by
      have z := of_decide_eq_true c
      rw [List.length_map] at z
      omega
    refine ⟨_, rfl, _, rfl, l, _, _, .int ns[k], rfl, rfl, hS, atI_nat (j := k) ?_, .inl ⟨_, rfl, q H _ (Same.refl H)⟩⟩
    rw [List.getElem?_map, List.getElem?_eq_getElem c']
    rfl
  · refine ⟨_, rfl, _, _, rfl, rfl, .inl ⟨by decide, by decide⟩, _, _, rfl, rfl, ?_⟩
    refine ⟨_, rfl, 5, rfl, l, _, rfl, hS, fun t ht => ?_⟩
    have hT : SqL K (upd H t (.lst (cutV (ns.map V.int) none (some 5)))) t (cutV (ns.map V.int) none (some 5)) := SqL.of upd_same
    have sm : Same H (upd H t (.lst (cutV (ns.map V.int) none (some 5)))) := fun b o e => by
      rw [upd_ne (ne_of_none e ht)]
      exact e
    refine ⟨t, rfl, ⟨_, hT⟩, for_list (K := K) (a := t) (xs := cutV (ns.map V.int) none (some 5))
      (fun i σ H' => ∃ (f : Int) (y : Option V), σ = [some (.ref l), some (.int (k : Int)), some (.int f), y] ∧ 0 ≤ f ∧ f < 2 ^ 31 ∧ H' = upd H t (.lst (cutV (ns.map V.int) none (some 5))))
      ⟨46021 + 733 * (k : Int), none, rfl, by omega, by omega, rfl⟩ (fun i σ H' _ hh => ?_) ?_ ?_⟩
    · obtain ⟨_, _, _, _, _, rfl⟩ := hh
      exact hT
    · rintro i y σ H' hi ⟨f, y0, rfl, f0, f1, rfl⟩
      obtain ⟨z, rfl⟩ : ∃ z, y = V.int z := by
        have hm := List.mem_of_getElem? hi
        unfold cutV at hm
        obtain ⟨z, _, e⟩ := List.mem_map.mp (List.mem_of_mem_drop (List.mem_of_mem_take hm))
        exact ⟨z, e.symm⟩
      refine ⟨_, rfl, _, _, rfl, rfl, .inl ⟨by omega, by omega⟩, _, rfl, .inl ⟨z, rfl, _, _, rfl, rfl, .inl ⟨_, rfl, _, _, rfl, rfl, (by show (0 : Int) < 2147481997; decide), ?_⟩⟩⟩
      obtain ⟨r0, r1⟩ := emod_box (f * 46327 + z) 2147481997 (by decide)
      exact ⟨_, _, rfl, r0, by omega, rfl⟩
    · rintro σ H' ⟨f, y0, rfl, f0, f1, rfl⟩
      refine ⟨_, rfl, _, rfl, _, _, rfl, rfl, .inl ⟨by omega, by omega⟩, _, rfl, _, _, rfl, rfl, .inl ⟨by decide, by decide⟩, _, _, rfl, rfl, .inl ⟨_, rfl, _, _, rfl, rfl, (by show (0 : Int) < 2147481967; decide), ?_⟩⟩
      exact q _ _ sm
end
end K2

set_option Elab.async false
set_option linter.all false
set_option maxRecDepth 100000
set_option maxHeartbeats 2000000
namespace K2
open PySem PySem.Spec PyProof.Rows L2 G1 G2
abbrev sSpr : Stmt := topS 2
abbrev sCnt : Stmt := topS 3
theorem scSpr : FnScope ["before", "pages", "total"] ["before", "pages"] (defScope sSpr) := ⟨rfl, rfl, rfl, by decide +kernel, rfl, by decide +kernel, by decide +kernel⟩
theorem scCnt : FnScope ["blocks", "pages", "names", "lasts", "written", "room", "before", "many", "used", "total", "ways"] ["blocks", "pages", "names"] (defScope sCnt) := ⟨rfl, rfl, rfl, by decide +kernel, rfl, by decide +kernel, by decide +kernel⟩
theorem bSum : bootBuiltins "sum" = some (.builtin "sum") := by decide +kernel
theorem bMax : bootBuiltins "max" = some (.builtin "max") := by decide +kernel
theorem bMin : bootBuiltins "min" = some (.builtin "min") := by decide +kernel
/-! openers -/
theorem seq_asg {te : TE} {g : TG} {t2 : TS} {D : Ends} {σ : L2.St} {H : Hp} (h : te σ H fun x H1 => g x σ H1 (t2 D)) : tSeq (tAsg te g) t2 D σ H := h
theorem lst_read {ta : TA} {σ : L2.St} {H : Hp} {Q : VK} (h : ta σ H fun xs H1 => xs.length ≤ sizeLine ∧ ∀ p, H1 p = none → Q (.ref p) (upd H1 p (.lst xs))) : tLst ta σ H Q := h
theorem tup_read {ta : TA} {σ : L2.St} {H : Hp} {Q : VK} (h : ta σ H fun xs H1 => xs.length ≤ sizeLine ∧ ∀ p, H1 p = none → Q (.ref p) (upd H1 p (.tup xs))) : tTup ta σ H Q := h
theorem cons_read {te : TE} {ta : TA} {σ : L2.St} {H : Hp} {Q : List V → Hp → Prop} (h : te σ H fun x H1 => ta σ H1 fun xs H2 => Q (x :: xs) H2) : tCons te ta σ H Q := h
theorem nil_read {σ : L2.St} {H : Hp} {Q : List V → Hp → Prop} (h : Q [] H) : tNil σ H Q := h
theorem op_read {r : R2} {ta tb : TE} {σ : L2.St} {H : Hp} {Q : VK} (h : ta σ H fun x H1 => tb σ H1 fun y H2 => r x y H2 Q) : tOp r ta tb σ H Q := h
theorem ret_read {te : TE} {D : Ends} {σ : L2.St} {H : Hp} (h : te σ H D.rt) : tRet te D σ H := h
theorem c_read {v : V} {σ : L2.St} {H : Hp} {Q : VK} (h : Q v H) : tC v σ H Q := h
theorem cb_read {r : List V → Hp → VK → Prop} {ta : TA} {σ : L2.St} {H : Hp} {Q : VK} (h : ta σ H fun vs H1 => r vs H1 Q) : tCB r ta σ H Q := h
theorem call_read {sp : Sp} {dvs : List V} {E : XK} {ta : TA} {σ : L2.St} {H : Hp} {Q : VK} (h : ta σ H fun vs H1 => sp (vs ++ dvs) H1 Q E) : tCall sp dvs E ta σ H Q := h
theorem seq_for {wi : TI} {g : TG} {tb t2 : TS} {D : Ends} {σ : L2.St} {H : Hp}
    (h : ∀ D' : Ends, D'.nx = t2 D → D'.rt = D.rt → wi σ H fun J H1 => ∃ W : Nat → Nat → L2.St → Hp → Prop, (∃ m, W 0 m σ H1) ∧ ∀ i m σ H, W i m σ H →
      (J.stop i H ∧ D'.nx σ H) ∨ (J.go i H ∧ ∃ N : L2.St → Hp → Prop, (∀ σ' H', N σ' H' → ∃ m', m' < m ∧ W (i + 1) m' σ' H') ∧
        ∀ x H', J.yld i H x H' → g x σ H' fun σ2 H2 => tb { D' with nx := N, ct := N, bk := D'.nx } σ2 H2)) : tSeq (tFor wi g tb) t2 D σ H := h { D with nx := t2 D } rfl rfl
theorem seq_aug {i : Nat} {te : TE} {ti : TIp} {t2 : TS} {D : Ends} {σ : L2.St} {H : Hp} (h : ∃ x, σ[i]? = some (some x) ∧ te σ H fun y H1 => ti x y H1 fun z H2 => t2 D (σ.set i (some z)) H2) : tSeq (tAug i te ti) t2 D σ H := h
theorem asg_read {te : TE} {g : TG} {D : Ends} {σ : L2.St} {H : Hp} (h : te σ H fun x H1 => g x σ H1 D.nx) : tAsg te g D σ H := h
/-- the cut of a list of ints, its sum -/
def cutI (l : List Int) (lo hi : Int) : List Int := (l.drop (HT.sIx l.length 0 (some lo))).take (HT.sIx l.length l.length (some hi) - HT.sIx l.length 0 (some lo))
theorem cut_map (l : List Int) (lo hi : Int) : cutV (l.map V.int) (some lo) (some hi) = (cutI l lo hi).map V.int := by
  unfold cutV cutI
  rw [List.length_map, List.map_take, List.map_drop]
def sprM (l : List Int) (p : Int) : List Int := (List.range l.length).map fun (t : Nat) => (cutI l (if (t : Int) - p > 0 then (t : Int) - p else 0) ((t : Int) + 1)).sum
def spSpr (K : PySem.W.Frag) : Sp := fun vs H Q _ => ∃ (a : Addr) (l : List Int) (p : Int), vs = [.ref a, .int p] ∧ SqL K H a (l.map V.int) ∧ l.length ≤ 1000 ∧ ∀ (H' : Hp) (q : Addr), Same H H' → H q = none → H' q = some (.lst ((sprM l p).map V.int)) → Q (.ref q) H'
abbrev rMax2 : List V → Hp → VK → Prop := fun xs H Q => ∃ i j, xs = [.int i, .int j] ∧ Q (.int (if j > i then j else i)) H
abbrev rMin2 : List V → Hp → VK → Prop := fun xs H Q => ∃ i j, xs = [.int i, .int j] ∧ Q (.int (if j < i then j else i)) H
abbrev rLen (K : PySem.W.Frag) : List V → Hp → VK → Prop := fun xs H Q => ∃ p ys, xs = [.ref p] ∧ (SqL K H p ys ∨ SqT K H p ys) ∧ Q (.int ys.length) H
abbrev rAdd : R2 := rI0 fun i j => .int (i + j)
abbrev rSub : R2 := rI0 fun i j => .int (i - j)
theorem same_lay {H : Hp} {p : Addr} {o : HO} (h : H p = none) : Same H (upd H p o) := fun b u e => by rw [upd_ne (ne_of_none e h)]; exact e
/-- a comprehension's list grows -/
theorem same_grow {H H1 H2 : Hp} {D : Addr} {o : HO} (hD : H D = none) (s1 : Same H H1) (s2 : Same H1 H2) : Same H (upd H2 D o) := fun b u e => by rw [upd_ne (ne_of_none e hD)]; exact s2 _ _ (s1 _ _ e)
section
variable {P : Program} {w : World} {K : PySem.W.Frag} {mg : Str → Option Value} {base : Heap}
theorem ok_spr {f : Addr} {fd : FuncData} (F : Fun K "spread" "spread" sSpr f fd) (B : Bl mg) : FnOk P w K mg base CX0 1 f fd ["before", "pages"] (spSpr K) := by
  refine F.ok scSpr (fun vs H Q E h => ?_) (fun cdv A outer s H vs Q E hr h => ?_)
  · obtain ⟨a, l, p, rfl, _⟩ := h
    rfl
  obtain ⟨a, l, p, rfl, hS, hlen, k⟩ := h
  refine ⟨_, pss_one (ps_ret (pe_lc (own := [("total", 2)]) (g := gName 2) (tt := tYes) (te := tCB (rSum K) (tCons (tSl (rSlL K) (tVar 0) (tPart (tCB rMax2 (tCons (tC (.int 0)) (tCons (tOp rSub (tVar 2) (tVar 1)) tNil)))) (tPart (tOp rAdd (tVar 2) (tC (.int 1))))) tNil)) rfl scSpr.nd
    (pi_range1 (by rfl) B.range (pa_cons (pe_callB call_len_seq (by rfl) B.len PySem.boot_len (pa_cons (pv 0) pa_nil)) pa_nil))
    (blkOk_by (own := [("total", 2)]) (N := ["before", "pages", "total"]) (sc := defScope sSpr) (by decide +kernel))
    (fun _ _ _ _ _ => pg_name (i := 2) scSpr.nd rfl (Or.inl rfl)) (fun _ _ _ _ _ => pts_nil)
    (fun _ _ _ _ _ => pe_callB (cr_sum rfl) (by rfl) B.sum bSum (pa_cons (pe_slice sl_list (pv 0) (po_some (pe_callB (call_max2 rfl) (by rfl) B.max bMax (pa_cons pe_int (pa_cons (pe_op op_sub (pv 2) (pv 1)) pa_nil)))) (po_some (pe_op op_add (pv 2) pe_int))) pa_nil)))), ?_⟩
  refine ⟨_, rfl, a, _, rfl, .inl hS, _, rfl, ?_, ?_, fun D hD => ?_⟩
  · rw [List.length_map]; omega
  · rw [List.length_map]; omega
  have e0 : (((l.map V.int).length : Int)).toNat = l.length := by rw [List.length_map]; omega
  rw [e0]
  refine lc_range (lo := 0) (n := l.length) (fun i H' => Same H H' ∧ H' D = some (.lst (((sprM l p).take i).map V.int))) ⟨same_lay hD, by rw [upd_same]; rfl⟩ ?_ ?_
  · rintro i H' hi ⟨s1, hy⟩
    refine ⟨rfl, ?_⟩
    unfold tYes
    dsimp only
    rw [if_pos rfl]
    refine ⟨_, rfl, _, rfl, _, rfl, _, _, rfl, rfl, _, _, rfl, _, rfl, _, rfl, _, _, rfl, rfl, _, rfl, a, _, rfl, s1.seq hS, fun t ht => ?_⟩
    refine ⟨t, cutI l (if 0 + (i : Int) - p > 0 then 0 + (i : Int) - p else 0) (0 + (i : Int) + 1), rfl, SqL.of (by rw [upd_same, cut_map]), ?_⟩
    refine ⟨((sprM l p).take i).map V.int, ?_, ?_, ?_, ?_⟩
    · rw [upd_ne (ne_of_none hy ht)]; exact hy
    · rw [List.length_map, List.length_take, sizeLine_eq]; omega
    · exact same_grow hD s1 (same_lay ht)
    · rw [upd_same]
      have hl : i < (sprM l p).length := by unfold sprM; rw [List.length_map, List.length_range]; exact hi
      rw [List.take_add_one, List.getElem?_eq_getElem hl, List.map_append]
      congr 3
      unfold sprM
      simp
  · rintro H' ⟨s1, hy⟩
    have el : (sprM l p).length = l.length := by unfold sprM; rw [List.length_map, List.length_range]
    rw [← el, List.take_length] at hy
    exact k H' D s1 hD hy
end
end K2

set_option Elab.async false
set_option linter.all false
set_option maxRecDepth 100000
set_option maxHeartbeats 2000000
namespace K2
open PySem PySem.Spec PyProof.Rows L2 G1 G2
/-- a comprehension over enumerate(a list) -/
theorem lc_enum {K : PySem.W.Frag} {a : Addr} {xs : List V} {g : TG} {tt : TT} {te : TE} {vs : List Nat} {σ : L2.St} {H1 : Hp} {D : Addr} {Qd : Hp → Prop} (Pv : Nat → Hp → Prop) (h0 : Pv 0 (upd H1 D (.lst []))) (hl : ∀ i H, Pv i H → SqL K H a xs)
    (hs : ∀ i x T H, xs[i]? = some x → Pv i H → H T = none → g (.ref T) (wipe σ vs) (upd H T (.tup [.int (i : Nat), x])) fun σ2 H2 => wipe σ2 vs = wipe σ vs ∧ tt σ2 H2 fun b H3 =>
      if b = true then te σ2 H3 fun y H4 => ∃ acc, H4 D = some (.lst acc) ∧ acc.length < sizeLine ∧ Pv (i + 1) (upd H4 D (.lst (acc ++ [y]))) else Pv (i + 1) H3) (hd : ∀ H, Pv xs.length H → Qd H) :
    ∃ W : Nat → Nat → Hp → Prop, (∃ m, W 0 m (upd H1 D (.lst []))) ∧ ∀ i m H, W i m H →
      ((Ite K a).stop i H ∧ Qd H) ∨ ((Ite K a).go i H ∧ ∃ Nx : Hp → Prop, (∀ H', Nx H' → ∃ m', m' < m ∧ W (i + 1) m' H') ∧ ∀ x H', (Ite K a).yld i H x H' → g x (wipe σ vs) H' fun σ2 H2 => wipe σ2 vs = wipe σ vs ∧ tt σ2 H2 fun b H3 =>
        if b = true then te σ2 H3 fun y H4 => ∃ acc, H4 D = some (.lst acc) ∧ acc.length < sizeLine ∧ Nx (upd H4 D (.lst (acc ++ [y]))) else Nx H3) := by
  refine ⟨fun i m H => i + m = xs.length ∧ Pv i H, ⟨xs.length, by omega, h0⟩, ?_⟩
  rintro i m H ⟨e, p⟩
  by_cases hm : m = 0
  · subst hm
    have e' : i = xs.length := by omega
    subst e'
    exact .inl ⟨⟨xs, hl _ _ p, Nat.le_refl _⟩, hd _ p⟩
  · have hi : i < xs.length := by omega
    refine .inr ⟨⟨xs, xs[i], hl _ _ p, List.getElem?_eq_getElem hi⟩, Pv (i + 1), fun H' q => ⟨m - 1, by omega, by omega, q⟩, fun x H' y => ?_⟩
    obtain ⟨T, x', rfl, hT, rfl, hx⟩ := y
    exact hs i x' T H (hx xs (hl _ _ p)) p hT
/-! ### the mirror -/
def rowM (p : Nat) (r : Int) : List Int := (List.range p).map fun (w : Nat) => (if r < 1 + (w : Int) then r else 1 + (w : Int)) + 1
def lastsM (p n : Nat) : List Int := (List.range (n + 1)).map fun (r : Nat) => (rowM p (r : Int)).sum
def waysM (lasts : List Int) (n : Nat) (before : List Int) : List Int := (List.range before.length).map fun (t : Nat) => before.getD t 0 * lasts.getD (n - t) 0
def stepM (p n : Nat) (s : Int × List Int) : Int × List Int := (s.1 + (waysM (lastsM p n) n s.2).sum, sprM s.2 (p : Int))
def loopM (p n : Nat) : Nat → Int × List Int → Int × List Int
  | 0, s => s
  | k + 1, s => stepM p n (loopM p n k s)
def startM (n : Nat) : List Int := 1 :: List.replicate (n - 1) 0
def cntM (b p n : Nat) : Int := (loopM p n (b - 1) (1, startM n)).1
theorem spr_len (l : List Int) (p : Int) : (sprM l p).length = l.length := by unfold sprM; rw [List.length_map, List.length_range]
theorem loop_len (p n : Nat) (h : 1 ≤ n) : ∀ k, (loopM p n k (1, startM n)).2.length = n
  | 0 => by show (startM n).length = n; unfold startM; rw [List.length_cons, List.length_replicate]; omega
  | k + 1 => by show (sprM _ _).length = n; rw [spr_len]; exact loop_len p n h k
theorem lasts_small : ∀ p, p < 6 → ∀ n, n < 26 → ((lastsM p n).all fun x => decide (-1000 < x ∧ x < 1000)) = true := by decide +kernel
theorem cnt_small : ∀ q ∈ [(3, 2), (3, 3), (3, 4), (3, 5), (4, 2), (4, 3), (5, 2)], ∀ n, n < 11 → cntM q.1 q.2 n ≤ 2000 := by decide +kernel
end K2

set_option Elab.async false
set_option linter.all false
set_option maxRecDepth 100000
set_option maxHeartbeats 4000000
namespace K2
open PySem PySem.Spec PyProof.Rows L2 G1 G2
abbrev rMul : R2 := rI CMul fun i j => .int (i * j)
def spCnt : Sp := fun vs H Q _ => ∃ b p n : Nat, vs = [.int (b : Int), .int (p : Int), .int (n : Int)] ∧ p < 6 ∧ 1 ≤ n ∧ n < 26 ∧ 1 ≤ b ∧ b < 7 ∧ ∀ H' : Hp, Same H H' → Q (.int (cntM b p n)) H'
abbrev NC : List Str := ["blocks", "pages", "names", "lasts", "written", "room", "before", "many", "used", "total", "ways"]
abbrev teIn : TE := tOp rAdd (tCB rMin2 (tCons (tVar 4) (tCons (tVar 5) tNil))) (tC (.int 1))
abbrev teRow (K : PySem.W.Frag) : TE := tCB (rSum K) (tCons (tLc (iRng2 (tCons (tC (.int 1)) (tCons (tOp rAdd (tVar 1) (tC (.int 1))) tNil))) (gName 4) tYes teIn [4]) tNil)
abbrev teWay (K : PySem.W.Frag) : TE := tOp rMul (tVar 10) (tOp (rIxL K) (tVar 3) (tOp rSub (tVar 2) (tVar 9)))
abbrev scRoom : Scope := { kind := ScopeKind.function, names := [(Str.ofString ".0", NameKind.local), (Str.ofString "room", NameKind.cell), (Str.ofString "sum", NameKind.globalImplicit), (Str.ofString "range", NameKind.globalImplicit), (Str.ofString "pages", NameKind.cell)], isGenerator := false, isCoroutine := false }
theorem grow_map (f : Nat → Int) (m i : Nat) (hi : i < m) : (((List.range m).map f).take (i + 1)).map V.int = (((List.range m).map f).take i).map V.int ++ [V.int (f i)] := by
  rw [List.take_add_one, List.map_append]
  congr 1
  rw [List.getElem?_map, List.getElem?_range hi]
  rfl
theorem row_read {K : PySem.W.Frag} {H : Hp} {Q : VK} {b n : Int} {p : Nat} {r : Int} {x3 x4 x6 x7 x8 x9 x10 : Option V} (hp : p < 6) (k : ∀ H', Same H H' → Q (.int (rowM p r).sum) H') :
    teRow K [some (.int b), some (.int (p : Int)), some (.int n), x3, x4, some (.int r), x6, x7, x8, x9, x10] H Q := by
  refine ⟨_, rfl, _, _, rfl, rfl, 1, (p : Int) + 1, rfl, ⟨by omega, by omega, by omega, by omega⟩, fun D hD => ?_⟩
  have e0 : ((p : Int) + 1 - 1).toNat = p := by omega
  rw [e0]
  refine lc_range (lo := 1) (n := p) (fun i H' => Same H H' ∧ H' D = some (.lst (((rowM p r).take i).map V.int))) ⟨same_lay hD, by rw [upd_same]; rfl⟩ ?_ ?_
  · rintro i H' hi ⟨s1, hy⟩
    refine ⟨rfl, ?_⟩
    unfold tYes
    dsimp only
    rw [if_pos rfl]
    refine ⟨_, rfl, _, rfl, _, _, rfl, _, _, rfl, rfl, ((rowM p r).take i).map V.int, hy, ?_, ?_, ?_⟩
    · rw [List.length_map, List.length_take, sizeLine_eq]; omega
    · exact same_grow hD s1 (Same.refl _)
    · rw [upd_same]
      exact congrArg (fun z => some (HO.lst z)) (grow_map (fun (w : Nat) => (if r < 1 + (w : Int) then r else 1 + (w : Int)) + 1) p i hi).symm
  · rintro H' ⟨s1, hy⟩
    have el : (rowM p r).length = p := by unfold rowM; rw [List.length_map, List.length_range]
    have e1 : (rowM p r).take p = rowM p r := List.take_of_length_le (by omega)
    rw [e1] at hy
    exact ⟨D, rowM p r, rfl, SqL.of hy, k H' s1⟩
theorem lasts_read {K : PySem.W.Frag} {H : Hp} {Q : VK} {b : Int} {p n : Nat} (hp : p < 6) (hn : n < 26) (k : ∀ (H' : Hp) (D : Addr), Same H H' → H' D = some (.lst ((lastsM p n).map V.int)) → Q (.ref D) H') :
    tLc (iRng1 (tCons (tOp rAdd (tVar 2) (tC (.int 1))) tNil)) (gName 5) tYes (teRow K) [5] [some (.int b), some (.int (p : Int)), some (.int (n : Int)), none, none, none, none, none, none, none, none] H Q := by
  refine ⟨_, rfl, _, _, rfl, rfl, (n : Int) + 1, rfl, by omega, by omega, fun D hD => ?_⟩
  have e0 : ((n : Int) + 1).toNat = n + 1 := by omega
  rw [e0]
  refine lc_range (lo := 0) (n := n + 1) (fun i H' => Same H H' ∧ H' D = some (.lst (((lastsM p n).take i).map V.int))) ⟨same_lay hD, by rw [upd_same]; rfl⟩ ?_ ?_
  · rintro i H' hi ⟨s1, hy⟩
    refine ⟨rfl, ?_⟩
    unfold tYes
    dsimp only
    rw [if_pos rfl]
    refine row_read (r := 0 + (i : Int)) hp fun H2 s2 => ⟨((lastsM p n).take i).map V.int, s2 _ _ hy, ?_, ?_, ?_⟩
    · rw [List.length_map, List.length_take, sizeLine_eq]; omega
    · exact same_grow hD s1 s2
    · rw [upd_same]
      rw [Int.zero_add]
      exact congrArg (fun z => some (HO.lst z)) (grow_map (fun (r : Nat) => (rowM p (r : Int)).sum) (n + 1) i hi).symm
  · rintro H' ⟨s1, hy⟩
    have el : (lastsM p n).length = n + 1 := by unfold lastsM; rw [List.length_map, List.length_range]
    have e1 : (lastsM p n).take (n + 1) = lastsM p n := List.take_of_length_le (by omega)
    rw [e1] at hy
    exact k H' D s1 hy
theorem ways_read {K : PySem.W.Frag} {H : Hp} {Q : VK} {b : Int} {p n : Nat} {l B6 : Addr} {bef : List Int} {x4 x5 x7 x8 x9 x10 : Option V} (hp : p < 6) (hn : n < 26) (hl : H l = some (.lst ((lastsM p n).map V.int))) (hb : H B6 = some (.lst (bef.map V.int))) (hlen : bef.length = n)
    (k : ∀ (H' : Hp) (D : Addr), Same H H' → H' D = some (.lst ((waysM (lastsM p n) n bef).map V.int)) → Q (.ref D) H') :
    tLc (iEnum K (tCons (tVar 6) tNil)) (gTup K 2 (gCons (gName 9) (gCons (gName 10) gNil))) tYes (teWay K) [9, 10] [some (.int b), some (.int (p : Int)), some (.int (n : Int)), some (.ref l), x4, x5, some (.ref B6), x7, x8, x9, x10] H Q := by
  refine ⟨_, rfl, B6, _, rfl, SqL.of hb, fun D hD => ?_⟩
  refine lc_enum (K := K) (xs := bef.map V.int) (fun i H' => Same H H' ∧ H' D = some (.lst (((waysM (lastsM p n) n bef).take i).map V.int))) ⟨same_lay hD, by rw [upd_same]; rfl⟩ (fun i H' q => SqL.of (q.1 _ _ hb)) ?_ ?_
  · rintro i x T H' hi ⟨s1, hy⟩ hT
    have hi' : i < bef.length := by
      have z := (List.getElem?_eq_some_iff.mp hi).1
      rwa [List.length_map] at z
    have ex : x = .int (bef.getD i 0) := by
      rw [List.getElem?_map, List.getElem?_eq_getElem hi'] at hi
      rw [List.getD_eq_getElem?_getD, List.getElem?_eq_getElem hi']
      exact (Option.some.inj hi).symm
    subst ex
    refine ⟨T, _, rfl, SqT.of upd_same, rfl, _, _, rfl, _, _, rfl, rfl, rfl, ?_⟩
    unfold tYes
    dsimp only
    rw [if_pos rfl]
    have hj : n - i < (lastsM p n).length := by unfold lastsM; rw [List.length_map, List.length_range]; omega
    have sT : Same H' (upd H' T (.tup [.int (i : Nat), .int (bef.getD i 0)])) := same_lay hT
    have hv : -1000 < (lastsM p n).getD (n - i) 0 ∧ (lastsM p n).getD (n - i) 0 < 1000 := by
      have z := lasts_small p hp n hn
      rw [List.all_eq_true] at z
      have q := z ((lastsM p n).getD (n - i) 0) (by rw [List.getD_eq_getElem?_getD, List.getElem?_eq_getElem hj]; exact List.getElem_mem _)
      exact of_decide_eq_true q
    refine ⟨_, rfl, _, rfl, _, rfl, _, rfl, _, _, rfl, rfl, l, _, _, .int ((lastsM p n).getD (n - i) 0), rfl, rfl, SqL.of (sT _ _ (s1 _ _ hl)), ?_, _, _, rfl, rfl, .inr ⟨by omega, by omega⟩, ?_⟩
    · have e2 : (n : Int) - ((i : Nat) : Int) = ((n - i : Nat) : Int) := by omega
      show atI _ ((n : Int) - ((i : Nat) : Int)) = _
      rw [e2]
      refine atI_nat ?_
      rw [List.getElem?_map, List.getElem?_eq_getElem hj, List.getD_eq_getElem?_getD, List.getElem?_eq_getElem hj]
      rfl
    refine ⟨((waysM (lastsM p n) n bef).take i).map V.int, sT _ _ hy, ?_, ?_, ?_⟩
    · rw [List.length_map, List.length_take, sizeLine_eq]; omega
    · exact same_grow hD s1 sT
    · rw [upd_same]
      exact congrArg (fun z => some (HO.lst z)) (grow_map (fun (t : Nat) => bef.getD t 0 * (lastsM p n).getD (n - t) 0) bef.length i hi').symm
  · rintro H' ⟨s1, hy⟩
    have el : (waysM (lastsM p n) n bef).length = (bef.map V.int).length := by unfold waysM; rw [List.length_map, List.length_range, List.length_map]
    rw [← el, List.take_length] at hy
    exact k H' D s1 hy
section
variable {P : Program} {w : World} {K : PySem.W.Frag} {mg : Str → Option Value} {base : Heap}
theorem ok_cnt {f fS : Addr} {fd fdS : FuncData} (F : Fun K "count_stands" "count_stands" sCnt f fd) (B : Bl mg) (GS : FnOk P w K mg base CX0 1 fS fdS ["before", "pages"] (spSpr K)) (kS : PySem.W.keepIn K (.ref fS) = true) (bS : Binds K fdS ["before", "pages"] []) (gS : mg "spread" = some (.ref fS)) :
    FnOk P w K mg base CX0 2 f fd ["blocks", "pages", "names"] spCnt := by
  refine F.ok scCnt (fun vs H Q E h => ?_) (fun cdv A outer s H vs Q E hr h => ?_)
  · obtain ⟨b, p, n, rfl, _⟩ := h
    rfl
  obtain ⟨b, p, n, rfl, hp, hn1, hn2, hb1, hb2, k⟩ := h
  refine ⟨_, pss_cons (ps_set (i := 3) scCnt.nd rfl (.inr rfl) (pe_lc (own := [("room", 5)]) (g := gName 5) (tt := tYes) (te := teRow K) rfl scCnt.nd
      (pi_range1 (by rfl) B.range (pa_cons (pe_op op_add (pv 2) pe_int) pa_nil)) (blkOk_by (own := [("room", 5)]) (N := NC) (sc := defScope sCnt) (by decide +kernel))
      (fun _ _ _ _ _ => pg_name (i := 5) scCnt.nd rfl (Or.inr rfl)) (fun _ _ _ _ _ => pts_nil)
      (fun _ _ _ _ _ => pe_callB (cr_sum rfl) (by rfl) B.sum bSum (pa_cons (pe_lc (own := [("written", 4)]) (g := gName 4) (tt := tYes) (te := teIn) rfl scCnt.nd
        (pi_range2 (by rfl) B.range (pa_cons pe_int (pa_cons (pe_op op_add (pv 1) pe_int) pa_nil))) (blkOk_by (own := [("written", 4)]) (N := NC) (sc := scRoom) (by decide +kernel))
        (fun _ _ _ _ _ => pg_name (i := 4) scCnt.nd rfl (Or.inl rfl)) (fun _ _ _ _ _ => pts_nil)
        (fun _ _ _ _ _ => pe_op op_add (pe_callB (call_min2 rfl) (by rfl) B.min bMin (pa_cons (pv 4) (pa_cons (pv 5) pa_nil))) pe_int)) pa_nil))))
    (pss_cons (ps_set (i := 6) scCnt.nd rfl (.inl rfl) (pe_op op_cat (pe_lst (pa_cons pe_int pa_nil)) (pe_op op_rep (pe_lst (pa_cons pe_int pa_nil)) (pe_op op_sub (pv 2) pe_int))))
    (pss_cons (ps_set (i := 7) scCnt.nd rfl (.inl rfl) pe_int)
    (pss_cons (ps_for PassesOwn.never rfl (pi_range2 (by rfl) B.range (pa_cons pe_int (pa_cons (pv 0) pa_nil))) (pg_name (i := 8) scCnt.nd rfl (.inl rfl))
      (pss_cons (ps_aug (i := 7) scCnt.nd rfl (.inl rfl) (pe_callB (cr_sum rfl) (by rfl) B.sum bSum (pa_cons (pe_lc (own := [("total", 9), ("ways", 10)]) (g := gTup K 2 (gCons (gName 9) (gCons (gName 10) gNil))) (tt := tYes) (te := teWay K) rfl scCnt.nd
          (pi_enum (by rfl) B.enm (pa_cons (pv 6) pa_nil)) (blkOk_by (own := [("total", 9), ("ways", 10)]) (N := NC) (sc := defScope sCnt) (by decide +kernel))
          (fun _ _ _ _ _ => pg_tup rfl (pgs_cons (pg_name (i := 9) scCnt.nd rfl (Or.inl rfl)) (pgs_cons (pg_name (i := 10) scCnt.nd rfl (Or.inl rfl)) pgs_nil))) (fun _ _ _ _ _ => pts_nil)
          (fun _ _ _ _ _ => pe_op op_mul (pv 10) (pe_ix ix_list (pv 3) (pe_op op_sub (pv 2) (pv 9)) (fun _ _ => rfl)))) pa_nil)) ip_add)
      (pss_one (ps_set (i := 6) scCnt.nd rfl (.inl rfl) (pe_call GS hr (by rfl) gS kS bS .nil pass0 (pa_cons (pv 6) (pa_cons (pv 1) pa_nil)))))))
    (pss_one (ps_ret (pv 7)))))), ?_⟩
  refine seq_asg (lasts_read (K := K) hp hn2 fun H1 l s1 hl => ?_)
  refine seq_asg ?_
  refine ⟨by show 1 ≤ sizeLine; decide, fun q1 h1 => ⟨by show 1 ≤ sizeLine; decide, fun q2 h2 => ⟨_, rfl, _, _, rfl, rfl, q2, (n : Int) - 1, _, rfl, rfl, upd_same, by omega, by omega, ?_, fun q3 h3 => ?_⟩⟩⟩
  · show 1 * ((n : Int) - 1).toNat ≤ sizeLine
    rw [sizeLine_eq]; omega
  have s2 := s1.trans ((same_lay (o := .lst [.int 1]) h1).trans ((same_lay (o := .lst [.int 0]) h2).trans (same_lay (o := .lst (List.replicate ((n : Int) - 1).toNat [V.int 0]).flatten) h3)))
  have hl2 := ((same_lay (o := .lst [.int 1]) h1).trans ((same_lay (o := .lst [.int 0]) h2).trans (same_lay (o := .lst (List.replicate ((n : Int) - 1).toNat [V.int 0]).flatten) h3))) _ _ hl
  have hq1 := ((same_lay (o := .lst [.int 0]) h2).trans (same_lay (o := .lst (List.replicate ((n : Int) - 1).toNat [V.int 0]).flatten) h3)) q1 _ upd_same
  have hq3 : (upd (upd (upd H1 q1 (.lst [.int 1])) q2 (.lst [.int 0])) q3 (.lst (List.replicate ((n : Int) - 1).toNat [V.int 0]).flatten)) q3 = some (.lst ((List.replicate (n - 1) (0 : Int)).map V.int)) := by
    rw [upd_same]
    have e1 : ((n : Int) - 1).toNat = n - 1 := by omega
    rw [e1, List.map_replicate]
    congr 2
    generalize n - 1 = m
    induction m with
    | zero => rfl
    | succ m ih => rw [List.replicate_succ, List.flatten_cons, ih, List.replicate_succ]; rfl
  generalize upd (upd (upd H1 q1 (.lst [.int 1])) q2 (.lst [.int 0])) q3 (.lst (List.replicate ((n : Int) - 1).toNat [V.int 0]).flatten) = H3 at s2 hl2 hq1 hq3 ⊢
  refine ⟨q1, q3, _, _, rfl, rfl, hq1, hq3, ?_, fun B6 h6 => ?_⟩
  · rw [List.length_map, List.length_replicate, sizeLine_eq]
    show 1 + (n - 1) ≤ _
    omega
  refine seq_asg ?_
  refine c_read ?_
  refine seq_for fun D' hD1 hD2 => ?_
  refine ⟨_, rfl, 1, (b : Int), rfl, ⟨by omega, by omega, by omega, by omega⟩, ?_⟩
  have e0 : ((b : Int) - 1).toNat = b - 1 := by omega
  rw [e0]
  refine for_range (lo := 1) (n := b - 1) (fun i σ H' => ∃ (B : Addr) (x8 : Option V), σ = [some (.int (b : Int)), some (.int (p : Int)), some (.int (n : Int)), some (.ref l), none, none, some (.ref B), some (.int (loopM p n i (1, startM n)).1), x8, none, none] ∧ Same H H' ∧
      H' l = some (.lst ((lastsM p n).map V.int)) ∧ H' B = some (.lst ((loopM p n i (1, startM n)).2.map V.int))) ⟨B6, none, rfl, s2.trans (same_lay h6), same_lay h6 _ _ hl2, by rw [upd_same]; rfl⟩ ?_ ?_
  · rintro i σ H' hi ⟨B, x8, rfl, s3, hl3, hB⟩
    refine seq_aug ⟨_, rfl, ?_⟩
    refine cb_read (cons_read ?_)
    refine ways_read (K := K) hp hn2 hl3 hB (loop_len p n hn1 i) fun H4 D4 s4 h4 => ⟨D4, _, rfl, SqL.of h4, _, _, rfl, rfl, ?_⟩
    refine asg_read (call_read (cons_read ⟨_, rfl, cons_read ⟨_, rfl, ?_⟩⟩))
    refine ⟨B, (loopM p n i (1, startM n)).2, (p : Int), rfl, SqL.of (s4 _ _ hB), by rw [loop_len p n hn1 i]; omega, fun H5 q5 s5 n5 h5 => ?_⟩
    exact ⟨q5, _, rfl, s3.trans (s4.trans s5), s5 _ _ (s4 _ _ hl3), h5⟩
  · rintro σ H' ⟨B, x8, rfl, s3, hl3, hB⟩
    rw [hD1]
    exact ⟨_, rfl, k H' s3⟩
end
end K2

set_option Elab.async false
set_option linter.all false
set_option maxRecDepth 100000
set_option maxHeartbeats 4000000
namespace K2
open PySem PySem.Spec PyProof.Rows L2 G1 G2
abbrev sIsI : Stmt := topS 14
abbrev sWit : Stmt := topS 15
abbrev sRow : Stmt := topS 24
abbrev sChk : Stmt := topS 25
abbrev sSiz : Stmt := topS 34
theorem scIsI : FnScope ["value"] ["value"] (defScope sIsI) := ⟨rfl, rfl, rfl, by decide +kernel, rfl, by decide +kernel, by decide +kernel⟩
theorem scWit : FnScope ["value", "least", "most"] ["value", "least", "most"] (defScope sWit) := ⟨rfl, rfl, rfl, by decide +kernel, rfl, by decide +kernel, by decide +kernel⟩
theorem scRow : FnScope ["value", "pages", "limit", "word"] ["value", "pages"] (defScope sRow) := ⟨rfl, rfl, rfl, by decide +kernel, rfl, by decide +kernel, by decide +kernel⟩
theorem scChk : FnScope ["rows", "pages", "index", "row", "last"] ["rows", "pages"] (defScope sChk) := ⟨rfl, rfl, rfl, by decide +kernel, rfl, by decide +kernel, by decide +kernel⟩
theorem scSiz : FnScope ["blocks", "pages", "names"] ["blocks", "pages", "names"] (defScope sSiz) := ⟨rfl, rfl, rfl, by decide +kernel, rfl, by decide +kernel, by decide +kernel⟩
theorem bIsi : bootBuiltins "isinstance" = some (.builtin "isinstance") := by decide +kernel
theorem bBool : bootBuiltins "bool" = some (.type "bool") := by decide +kernel
theorem bTup : bootBuiltins "tuple" = some (.type "tuple") := by decide +kernel
theorem bStr : bootBuiltins "str" = some (.type "str") := by decide +kernel
theorem nx_read {D : Ends} {σ : L2.St} {H : Hp} (h : D.nx σ H) : tNext D σ H := h
theorem paired_get {α β : Type} {F : α → β → Prop} : ∀ {l₁ : List α} {l₂ : List β}, Paired F l₁ l₂ → ∀ {i : Nat} {a : α}, l₁[i]? = some a → ∃ b, l₂[i]? = some b ∧ F a b
  | _, _, .nil, i, a, h => by simp at h
  | _, _, .cons r t, 0, a, h => by
    simp at h
    subst h
    exact ⟨_, rfl, r⟩
  | _, _, .cons r t, i + 1, a, h => paired_get t (i := i) (by simpa using h)
/-! ### rows -/
abbrev RowD := Int × Str
def wordsL : List Str := ["oldest", "youngest", "least", "most"]
/-- a row of a drive with p pages -/
def RowOk (p : Nat) (r : RowD) : Prop := 0 ≤ r.1 ∧ r.1 ≤ (p : Int) ∧ r.2 ∈ wordsL
theorem Same.tup {K : PySem.W.Frag} {H H' : Hp} {a : Addr} {xs : List V} (e : Same H H') (h : SqT K H a xs) : SqT K H' a xs :=
  h.elim (fun h => .inl (h.elim (fun h => .inl (e _ _ h)) fun ⟨o, h⟩ => .inr ⟨o, e _ _ h⟩)) fun h => .inr h
/-- the tuple at t holds these rows -/
def RowsAt (K : PySem.W.Frag) (H : Hp) (t : Addr) (rows : List RowD) : Prop := ∃ rs : List Addr, SqT K H t (rs.map V.ref) ∧ Paired (fun (a : Addr) (r : RowD) => SqT K H a [.int r.1, .str r.2]) rs rows
theorem RowsAt.same {K : PySem.W.Frag} {H H' : Hp} {t : Addr} {rows : List RowD} (h : RowsAt K H t rows) (e : Same H H') : RowsAt K H' t rows := by
  obtain ⟨rs, h1, h2⟩ := h
  exact ⟨rs, K2.Same.tup e h1, Paired.mapP h2 fun _ _ z => K2.Same.tup e z⟩
/-! ### promises -/
def spIsI : Sp := fun vs H Q _ => ∃ i : Int, vs = [.int i] ∧ Q (.bl true) H
def spWit : Sp := fun vs H Q _ => ∃ v lo hi : Int, vs = [.int v, .int lo, .int hi] ∧ lo ≤ v ∧ v ≤ hi ∧ Q (.bl true) H
section
variable {P : Program} {w : World} {K : PySem.W.Frag} {mg : Str → Option Value} {base : Heap}
theorem ok_isI {f : Addr} {fd : FuncData} (F : Fun K "is_integer" "is_integer" sIsI f fd) (B : Bl mg) : FnOk P w K mg base CX0 1 f fd ["value"] spIsI := by
  refine F.ok scIsI (fun vs H Q E h => ?_) (fun cdv A outer s H vs Q E hr h => ?_)
  · obtain ⟨i, rfl, _⟩ := h
    rfl
  obtain ⟨i, rfl, k⟩ := h
  refine ⟨_, pss_one (ps_ret (pe_and (pe_callB call_isi (by rfl) B.isi bIsi (pa_cons (pv 0) (pa_cons (pe_bltn (v := .ty "int") (by rfl) B.int bInt rfl) pa_nil)))
    (pe_one (pe_not (pe_callB call_isi (by rfl) B.isi bIsi (pa_cons (pv 0) (pa_cons (pe_bltn (v := .ty "bool") (by rfl) B.boo bBool rfl) pa_nil))))))), ?_⟩
  refine ⟨_, rfl, _, _, _, _, true, rfl, .ty _, .base (.int i), kit_ty (by decide +kernel), true, rfl, iteT ?_⟩
  exact ⟨_, rfl, _, _, _, _, false, rfl, .ty _, .base (.int i), kit_ty (by decide +kernel), false, rfl, k⟩
theorem ok_wit {f fI : Addr} {fd fdI : FuncData} (F : Fun K "is_within" "is_within" sWit f fd) (GI : FnOk P w K mg base CX0 1 fI fdI ["value"] spIsI) (kI : PySem.W.keepIn K (.ref fI) = true) (bI : Binds K fdI ["value"] []) (gI : mg "is_integer" = some (.ref fI)) :
    FnOk P w K mg base CX0 2 f fd ["value", "least", "most"] spWit := by
  refine F.ok scWit (fun vs H Q E h => ?_) (fun cdv A outer s H vs Q E hr h => ?_)
  · obtain ⟨v, lo, hi, rfl, _⟩ := h
    rfl
  obtain ⟨v, lo, hi, rfl, h1, h2, k⟩ := h
  refine ⟨_, pss_one (ps_ret (pe_and (pe_call GI hr (by rfl) gI kI bI .nil pass0 (pa_cons (pv 0) pa_nil)) (pe_one (pe_chain op_le op_le (pv 1) (pv 0) (pv 2))))), ?_⟩
  refine ⟨_, rfl, v, rfl, true, rfl, iteT ?_⟩
  refine ⟨_, rfl, _, rfl, _, _, rfl, rfl, _, rfl, ?_⟩
  rw [decide_eq_true h1]
  refine iteT ⟨_, rfl, _, _, rfl, rfl, ?_⟩
  show Q (.bl (decide (v ≤ hi))) H
  rw [decide_eq_true h2]
  exact k
def WordsAt (K : PySem.W.Frag) (aW : Addr) : Prop := ∀ H : Hp, SqT K H aW (wordsL.map V.str)
def spRow (K : PySem.W.Frag) : Sp := fun vs H Q _ => ∃ (a : Addr) (p : Nat) (r : RowD), vs = [.ref a, .int (p : Int)] ∧ SqT K H a [.int r.1, .str r.2] ∧ RowOk p r ∧ Q (.bl true) H
def spChk (K : PySem.W.Frag) : Sp := fun vs H Q _ => ∃ (t : Addr) (p : Nat) (rows : List RowD), vs = [.ref t, .int (p : Int)] ∧ RowsAt K H t rows ∧ (∀ r ∈ rows, RowOk p r) ∧ rows.length ≤ 4 ∧ (∃ x y, rows = x ++ [((p : Int), y)]) ∧ ∀ H' : Hp, Same H H' → Q .non H'
theorem tup_ty {K : PySem.W.Frag} {H : Hp} {a : Addr} {xs : List V} (h : SqT K H a xs) : TyX K H (.ref a) (.type "tuple") := by
  rcases h with (h | ⟨o, h⟩) | ⟨o, its, n, hk, hc, _⟩
  · exact .base (.tup h)
  · exact .fTuple h
  · exact .kTuple hk hc
theorem inW : ∀ w ∈ wordsL, flatV (.str w) = true ∧ inV (.str w) (wordsL.map V.str) = true := by decide +kernel
theorem flatW : (wordsL.map V.str).all flatV = true := by decide +kernel
theorem ok_row {f fI aW : Addr} {fd fdI : FuncData} (F : Fun K "is_row" "is_row" sRow f fd) (B : Bl mg) (GI : FnOk P w K mg base CX0 2 fI fdI ["value", "least", "most"] spWit) (kI : PySem.W.keepIn K (.ref fI) = true) (bI : Binds K fdI ["value", "least", "most"] []) (gI : mg "is_within" = some (.ref fI))
    (gW : mg "WORDS" = some (.ref aW)) (hW : WordsAt K aW) : FnOk P w K mg base CX0 3 f fd ["value", "pages"] (spRow K) := by
  refine F.ok scRow (fun vs H Q E h => ?_) (fun cdv A outer s H vs Q E hr h => ?_)
  · obtain ⟨a, p, r, rfl, _⟩ := h
    rfl
  obtain ⟨a, p, ⟨l, x⟩, rfl, hT, ⟨h1, h2, h3⟩, k⟩ := h
  refine ⟨_, pss_cons (ps_if (PW.pt (pw_or (pt_not (pt_val (pe_callB call_isi (by rfl) B.isi bIsi (pa_cons (pv 0) (pa_cons (pe_bltn (v := .ty "tuple") (by rfl) B.tup bTup rfl) pa_nil)))))
      (pw_or1 (pt_cmpR op_ne (pe_callB call_len_seq (by rfl) B.len PySem.boot_len (pa_cons (pv 0) pa_nil)) pe_int (nomark _))))) (pss_one (ps_ret pe_bl)) pss_nil)
    (pss_cons (ps_asg (pv 0) (pg_tup rfl (pgs_cons (pg_name (i := 2) scRow.nd rfl (.inl rfl)) (pgs_cons (pg_name (i := 3) scRow.nd rfl (.inl rfl)) pgs_nil))))
    (pss_one (ps_ret (pe_and (pe_call GI hr (by rfl) gI kI bI .nil pass0 (pa_cons (pv 2) (pa_cons pe_int (pa_cons (pv 1) pa_nil))))
      (pe_and (pe_callB call_isi (by rfl) B.isi bIsi (pa_cons (pv 3) (pa_cons (pe_bltn (v := .ty "str") (by rfl) B.str bStr rfl) pa_nil)))
      (pe_one (pe_cmpR op_in_seq (pv 3) (pe_glob (v := .ref aW) rfl gW rfl) (by rfl)))))))), ?_⟩
  refine ⟨_, rfl, _, _, _, _, true, rfl, .ty _, tup_ty hT, kit_ty (by decide +kernel), true, rfl, iteF ?_⟩
  refine ⟨_, rfl, a, _, rfl, .inr hT, rfl, _, rfl, iteF ?_⟩
  refine ⟨_, rfl, a, _, rfl, hT, rfl, _, _, rfl, _, _, rfl, rfl, ?_⟩
  refine ⟨_, rfl, _, rfl, l, 0, (p : Int), rfl, h1, h2, true, rfl, iteT ?_⟩
  refine ⟨_, rfl, _, _, _, _, true, rfl, .ty _, .base (.str x), kit_ty (by decide +kernel), true, rfl, iteT ?_⟩
  refine ⟨_, rfl, aW, _, rfl, .inr (hW H), (inW x h3).1, flatW, ?_⟩
  show Q (.bl (inV (.str x) (wordsL.map V.str))) H
  rw [(inW x h3).2]
  exact k
theorem ok_chk {f fI : Addr} {fd fdI : FuncData} (F : Fun K "check_rows" "check_rows" sChk f fd) (B : Bl mg) (GI : FnOk P w K mg base CX0 3 fI fdI ["value", "pages"] (spRow K)) (kI : PySem.W.keepIn K (.ref fI) = true) (bI : Binds K fdI ["value", "pages"] []) (gI : mg "is_row" = some (.ref fI))
    (gM : ∃ t, mg "MOST_ROWS" = some (.int 4 t)) : FnOk P w K mg base CX0 4 f fd ["rows", "pages"] (spChk K) := by
  refine F.ok scChk (fun vs H Q E h => ?_) (fun cdv A outer s H vs Q E hr h => ?_)
  · obtain ⟨a, p, r, rfl, _⟩ := h
    rfl
  obtain ⟨t, p, rows, rfl, ⟨rs, hT, hP⟩, hok, h4, ⟨ini, y, e⟩, k⟩ := h
  obtain ⟨tM, cM⟩ := gM
  refine ⟨_, pss_cons (ps_if (PW.pt (pw_or (pt_not (pt_val (pe_callB call_isi (by rfl) B.isi bIsi (pa_cons (pv 0) (pa_cons (pe_bltn (v := .ty "tuple") (by rfl) B.tup bTup rfl) pa_nil)))))
      (pw_or1 (pt_not (pt_truth (pv 0) (by intro _; rfl)))))) (pss_one ps_never) pss_nil)
    (pss_cons (ps_for PassesOwn.never rfl (pi_enumT (by rfl) B.enm (pa_cons (pv 0) pa_nil)) (pg_tup rfl (pgs_cons (pg_name (i := 2) scChk.nd rfl (.inl rfl)) (pgs_cons (pg_name (i := 3) scChk.nd rfl (.inl rfl)) pgs_nil)))
      (pss_one (ps_if (PW.pt (pw_or (pt_cmpR op_eq (pv 2) (pe_glob (v := .int 4) rfl cM ⟨_, rfl⟩) (nomark _)) (pw_or1 (pt_not (pt_val (pe_call GI hr (by rfl) gI kI bI .nil pass0 (pa_cons (pv 3) (pa_cons (pv 1) pa_nil)))))))) (pss_one ps_never) pss_nil)))
    (pss_cons (ps_set (i := 4) scChk.nd rfl (.inl rfl) (pe_op op_sub (pe_callB call_len_seq (by rfl) B.len PySem.boot_len (pa_cons (pv 0) pa_nil)) pe_int))
    (pss_one (ps_if (pt_cmpR op_ne (pe_ix ix_tup (pe_ix ix_tup (pv 0) (pv 4) (fun _ _ => rfl)) pe_int (fun _ _ => rfl)) (pv 1) (nomark _)) (pss_one ps_never) pss_nil)))), ?_⟩
  have hlen : rs.length = rows.length := Paired.length hP
  have hne : rs.map V.ref ≠ [] := by
    intro z
    have : rows.length = 0 := by rw [← hlen, ← List.length_map (f := V.ref), z]; rfl
    rw [e] at this
    simp at this
  refine ⟨_, rfl, _, _, _, _, true, rfl, .ty _, tup_ty hT, kit_ty (by decide +kernel), true, rfl, iteF ?_⟩
  refine ⟨_, rfl, true, .inr (.inl ⟨_, hT, ?_⟩), iteF ?_⟩
  · cases hq : rs.map V.ref with
    | nil => exact absurd hq hne
    | cons _ _ => rfl
  unfold tNext
  dsimp only
  refine seq_for fun D' hD1 hD2 => ?_
  refine ⟨_, rfl, t, _, rfl, hT, ?_⟩
  refine for_enumT (K := K) (xs := rs.map V.ref) (fun i σ H' => ∃ x2 x3, σ = [some (.ref t), some (.int (p : Int)), x2, x3, none] ∧ Same H H') ⟨none, none, rfl, Same.refl _⟩ (fun i σ H' q => ?_) ?_ ?_
  · obtain ⟨_, _, _, s1⟩ := q
    exact K2.Same.tup s1 hT
  · rintro i x T σ H' hi ⟨x2, x3, rfl, s1⟩ hN
    rw [List.getElem?_map] at hi
    obtain ⟨a, ha, rfl⟩ : ∃ a, rs[i]? = some a ∧ V.ref a = x := by
      cases hq : rs[i]? with
      | none => rw [hq] at hi; cases hi
      | some a => rw [hq] at hi; exact ⟨a, rfl, Option.some.inj hi⟩
    have hi4 : i < 4 := by
      have z := (List.getElem?_eq_some_iff.mp ha).1
      omega
    obtain ⟨r, hr1, hr2⟩ := paired_get hP ha
    have s2 : Same H (upd H' T (.tup [.int (i : Nat), .ref a])) := s1.trans (same_lay hN)
    refine ⟨T, _, rfl, SqT.of upd_same, rfl, _, _, rfl, _, _, rfl, rfl, ?_⟩
    refine ⟨_, rfl, rfl, _, rfl, ?_⟩
    have ne4 : decide (V.int (i : Nat) = V.int 4) = false := decide_eq_false (fun z => by injection z with z; omega)
    show (if decide (V.int ((i : Nat) : Int) = V.int 4) = true then _ else _)
    rw [ne4]
    refine iteF ⟨_, rfl, _, rfl, a, p, r, rfl, K2.Same.tup s2 hr2, hok r (List.mem_of_getElem? hr1), true, rfl, ?_⟩
    exact iteF ⟨_, _, rfl, s2⟩
  · rintro σ H' ⟨x2, x3, rfl, s1⟩
    rw [hD1]
    refine ⟨_, rfl, t, _, rfl, .inr (K2.Same.tup s1 hT), _, _, rfl, rfl, ?_⟩
    have hl : rs.length = ini.length + 1 := by rw [hlen, e, List.length_append]; rfl
    obtain ⟨a, ha⟩ : ∃ a, rs[ini.length]? = some a := ⟨rs[ini.length], List.getElem?_eq_getElem (by omega)⟩
    obtain ⟨r, hr1, hr2⟩ := paired_get hP ha
    have er : r = ((p : Int), y) := by
      rw [e, List.getElem?_append_right (Nat.le_refl _), Nat.sub_self] at hr1
      exact (Option.some.inj hr1).symm
    subst er
    refine ⟨_, rfl, _, rfl, t, _, _, .ref a, rfl, rfl, K2.Same.tup s1 hT, ?_, a, _, _, .int (p : Int), rfl, rfl, K2.Same.tup s1 hr2, rfl, _, rfl, rfl, _, rfl, ?_⟩
    · have e2 : (((rs.map V.ref).length : Nat) : Int) - 1 = ((ini.length : Nat) : Int) := by rw [List.length_map]; omega
      show atI _ ((((rs.map V.ref).length : Nat) : Int) - 1) = _
      rw [e2]
      exact atI_nat (by rw [List.getElem?_map, ha]; rfl)
    · have z : (!decide (V.int (p : Int) = V.int (p : Int))) = false := by rw [decide_eq_true rfl]; rfl
      show (if (!decide (V.int (p : Int) = V.int (p : Int))) = true then _ else _)
      rw [z]
      exact iteF (k H' s1)
end
end K2

set_option Elab.async false
set_option linter.all false
set_option maxRecDepth 100000
set_option maxHeartbeats 4000000
namespace K2
open PySem PySem.Spec PyProof.Rows L2 G1 G2
abbrev sTxt : Stmt := topS 29
theorem scTxt : FnScope ["blocks", "pages", "names", "rows", "lines", "limit", "word"] ["blocks", "pages", "names", "rows"] (defScope sTxt) := ⟨rfl, rfl, rfl, by decide +kernel, rfl, by decide +kernel, by decide +kernel⟩
structure Cn (mg : Str → Option Value) : Prop where
  lb : ∃ t, mg "LEAST_BLOCKS" = some (.int 3 t)
  mb : ∃ t, mg "MOST_BLOCKS" = some (.int 6 t)
  lp : ∃ t, mg "LEAST_PAGES" = some (.int 2 t)
  mp : ∃ t, mg "MOST_PAGES" = some (.int 5 t)
  mr : ∃ t, mg "MOST_ROWS" = some (.int 4 t)
  ms : ∃ t, mg "MOST_STANDS" = some (.int 2000 t)
  wh : ∃ t, mg "WORDS_OF_HEAD" = some (.int 7 t)
  md : ∃ t, mg "MOST_DIGITS" = some (.int 2 t)
/-- sizes of a drive -/
structure Sz (b p n : Nat) : Prop where
  b0 : 3 ≤ b
  b1 : b ≤ 6
  p0 : 2 ≤ p
  p1 : p ≤ 5
  n0 : 1 ≤ n
  n1 : n ≤ p * (b - 1)
theorem Sz.n25 {b p n : Nat} (h : Sz b p n) : n < 26 := by
  have z : p * (b - 1) ≤ 5 * 5 := Nat.mul_le_mul h.p1 (by have := h.b1; omega)
  have := h.n1
  omega
def spSiz : Sp := fun vs H Q _ => ∃ b p n : Nat, vs = [.int (b : Int), .int (p : Int), .int (n : Int)] ∧ Sz b p n ∧ Q .non H
/-! ### the mirror of the text -/
def numS (i : Int) : Str := toString i
def headM (b p n : Int) : Str := ((((((Str.empty ++ ("drive " : Str)) ++ numS b) ++ (" blocks " : Str)) ++ numS p) ++ (" pages " : Str)) ++ numS n) ++ (" names" : Str)
def lineM (r : RowD) : Str := (((Str.empty ++ ("at most " : Str)) ++ numS r.1) ++ (": " : Str)) ++ r.2
def anyM (w : Str) : Str := ("any: " : Str) ++ w
def linesM (b p n : Int) (ini : List RowD) (w : Str) : List Str := headM b p n :: (ini.map lineM ++ [anyM w])
def textM (b p n : Int) (ini : List RowD) (w : Str) : Str := Txt.join ("\n" : Str) (linesM b p n ini w)
section
variable {P : Program} {w : World} {K : PySem.W.Frag} {mg : Str → Option Value} {base : Heap}
theorem ok_siz {f fI : Addr} {fd fdI : FuncData} (F : Fun K "check_sizes" "check_sizes" sSiz f fd) (C : Cn mg) (GI : FnOk P w K mg base CX0 2 fI fdI ["value", "least", "most"] spWit) (kI : PySem.W.keepIn K (.ref fI) = true) (bI : Binds K fdI ["value", "least", "most"] []) (gI : mg "is_within" = some (.ref fI)) :
    FnOk P w K mg base CX0 3 f fd ["blocks", "pages", "names"] spSiz := by
  refine F.ok scSiz (fun vs H Q E h => ?_) (fun cdv A outer s H vs Q E hr h => ?_)
  · obtain ⟨a, p, r, rfl, _⟩ := h
    rfl
  obtain ⟨b, p, n, rfl, hz, k⟩ := h
  obtain ⟨t1, c1⟩ := C.lb
  obtain ⟨t2, c2⟩ := C.mb
  obtain ⟨t3, c3⟩ := C.lp
  obtain ⟨t4, c4⟩ := C.mp
  have b0 := hz.b0
  have b1 := hz.b1
  have p0 := hz.p0
  have p1 := hz.p1
  have n0 := hz.n0
  have n1 : (n : Int) ≤ (p : Int) * ((b : Int) - 1) := by
    have z := hz.n1
    have e : ((p * (b - 1) : Nat) : Int) = (p : Int) * ((b : Int) - 1) := by
      rw [Int.natCast_mul, Int.natCast_sub (by omega)]; rfl
    omega
  refine ⟨_, pss_cons (ps_if (pt_not (pt_val (pe_call GI hr (by rfl) gI kI bI .nil pass0 (pa_cons (pv 0) (pa_cons (pe_glob (v := .int 3) rfl c1 ⟨_, rfl⟩) (pa_cons (pe_glob (v := .int 6) rfl c2 ⟨_, rfl⟩) pa_nil)))))) (pss_one ps_never) pss_nil)
    (pss_cons (ps_if (pt_not (pt_val (pe_call GI hr (by rfl) gI kI bI .nil pass0 (pa_cons (pv 1) (pa_cons (pe_glob (v := .int 2) rfl c3 ⟨_, rfl⟩) (pa_cons (pe_glob (v := .int 5) rfl c4 ⟨_, rfl⟩) pa_nil)))))) (pss_one ps_never) pss_nil)
    (pss_one (ps_if (pt_not (pt_val (pe_call GI hr (by rfl) gI kI bI .nil pass0 (pa_cons (pv 2) (pa_cons pe_int (pa_cons (pe_op op_mul (pv 1) (pe_op op_sub (pv 0) pe_int)) pa_nil)))))) (pss_one ps_never) pss_nil))), ?_⟩
  refine ⟨_, rfl, (b : Int), 3, 6, rfl, by omega, by omega, true, rfl, iteF ?_⟩
  refine ⟨_, rfl, (p : Int), 2, 5, rfl, by omega, by omega, true, rfl, iteF ?_⟩
  exact ⟨_, rfl, _, rfl, _, rfl, _, _, rfl, rfl, _, _, rfl, rfl, .inl ⟨by omega, by omega⟩, (n : Int), 1, _, rfl, by omega, n1, true, rfl, iteF k⟩
end
end K2

set_option Elab.async false
set_option linter.all false
set_option maxRecDepth 100000
set_option maxHeartbeats 4000000
namespace K2
open PySem PySem.Spec PyProof.Rows L2 G1 G2
theorem num_len : ∀ i : Nat, i < 26 → (numS (i : Int)).length ≤ 2 := by decide +kernel
theorem word_len : ∀ w ∈ wordsL, w.length ≤ 8 := by decide +kernel
theorem log_small (i : Nat) (h : i < 26) : (i : Int).natAbs.log2 < 1920 := by
  have z : ∀ j : Nat, j < 26 → (j : Int).natAbs.log2 < 1920 := by decide +kernel
  exact z i h
theorem small_line {k : Nat} (h : k ≤ 1000) : k ≤ sizeLine := by rw [sizeLine_eq]; omega
theorem six_last (xs : List V) (x : V) : HT.sIx (xs ++ [x]).length (xs ++ [x]).length (some (-1)) = xs.length := by
  unfold HT.sIx
  dsimp only
  rw [if_pos (by decide), List.length_append, List.length_singleton]
  omega
theorem cut_last (xs : List V) (x : V) : cutV (xs ++ [x]) none (some (-1)) = xs := by
  unfold cutV
  rw [HT.sIx_none, six_last, List.drop_zero, Nat.sub_zero]
  simp
theorem cut_not (xs : List V) (x : V) : ¬ (HT.sIx (xs ++ [x]).length 0 none = 0 ∧ HT.sIx (xs ++ [x]).length (xs ++ [x]).length (some (-1)) = (xs ++ [x]).length) := by
  rintro ⟨_, h⟩
  rw [six_last, List.length_append] at h
  simp at h
theorem at_last (xs : List V) (x : V) : atI (xs ++ [x]) (-1) = some x := by
  have e : ixN (xs ++ [x]).length (-1) = some xs.length := by
    unfold ixN
    rw [if_neg (by decide), List.length_append, List.length_singleton, if_pos (by omega)]
    exact congrArg some (by omega)
  unfold atI
  rw [e]
  simp
/-- the rows, but for the last one -/
def IniOk (p : Nat) (ini : List RowD) : Prop := (∀ r ∈ ini, RowOk p r) ∧ ini.length ≤ 3
theorem len_head (b p n : Nat) (hb : b < 26) (hp : p < 26) (hn : n < 26) : (headM (b : Int) (p : Int) (n : Int)).length ≤ 40 := by
  have h1 := num_len b hb
  have h2 := num_len p hp
  have h3 := num_len n hn
  unfold headM
  simp only [Str.length_append]
  have e1 : (Str.ofString "drive ").length = 6 := by decide +kernel
  have e2 : (Str.ofString " blocks ").length = 8 := by decide +kernel
  have e3 : (Str.ofString " pages ").length = 7 := by decide +kernel
  have e4 : (Str.ofString " names").length = 6 := by decide +kernel
  have e5 : Str.empty.length = 0 := by decide +kernel
  rw [e1, e2, e3, e4, e5]
  omega
theorem len_line (r : RowD) (p : Nat) (hp : p < 26) (h : RowOk p r) : (lineM r).length ≤ 40 := by
  obtain ⟨h1, h2, h3⟩ := h
  have e0 : r.1 = ((r.1.toNat : Nat) : Int) := by omega
  have n1 : (numS r.1).length ≤ 2 := by rw [e0]; exact num_len _ (by omega)
  have n2 := word_len r.2 h3
  unfold lineM
  simp only [Str.length_append]
  have e1 : (Str.ofString "at most ").length = 8 := by decide +kernel
  have e2 : (Str.ofString ": ").length = 2 := by decide +kernel
  have e5 : Str.empty.length = 0 := by decide +kernel
  rw [e1, e2, e5]
  omega
theorem len_any (w : Str) (h : w ∈ wordsL) : (anyM w).length ≤ 40 := by
  have n2 := word_len w h
  unfold anyM
  simp only [Str.length_append]
  have e1 : (Str.ofString "any: ").length = 5 := by decide +kernel
  rw [e1]
  omega
theorem empty_app (x : Str) : Str.empty ++ x = x := by
  show (⟨#[] ++ x.cps⟩ : Str) = x
  rw [Array.empty_append]
def spTxt (K : PySem.W.Frag) : Sp := fun vs H Q _ => ∃ (b p n : Nat) (t : Addr) (ini : List RowD) (y : Str), vs = [.int (b : Int), .int (p : Int), .int (n : Int), .ref t] ∧ b < 26 ∧ p < 26 ∧ n < 26 ∧ RowsAt K H t (ini ++ [((p : Int), y)]) ∧ IniOk p ini ∧ y ∈ wordsL ∧
  ∀ H' : Hp, Same H H' → Q (.str (textM (b : Int) (p : Int) (n : Int) ini y)) H'
theorem paired_split {α β : Type} {F : α → β → Prop} : ∀ {l : List α} {m : List β} {y : β}, Paired F l (m ++ [y]) → ∃ l' x, l = l' ++ [x] ∧ Paired F l' m ∧ F x y
  | [], [], y, h => nomatch h
  | [], _ :: _, y, h => nomatch h
  | _ :: _, [], y, .cons r .nil => ⟨[], _, rfl, .nil, r⟩
  | _ :: _, _ :: _, y, .cons r t => by
    obtain ⟨l', x, e, h1, h2⟩ := paired_split t
    exact ⟨_ :: l', x, by rw [e]; rfl, .cons r h1, h2⟩
theorem sum_le (l : List Str) (h : ∀ x ∈ l, x.length ≤ 40) : (l.map (·.length)).sum ≤ l.length * 40 := by
  induction l with
  | nil => exact Nat.le_refl _
  | cons a l ih =>
    have h1 := h a (List.mem_cons_self ..)
    have h2 := ih fun x hx => h x (List.mem_cons_of_mem _ hx)
    rw [List.map_cons, List.sum_cons, List.length_cons]
    omega
theorem lines_len (b p n : Nat) (hb : b < 26) (hp : p < 26) (hn : n < 26) (ini : List RowD) (hi : IniOk p ini) (y : Str) (hy : y ∈ wordsL) : (∀ x ∈ linesM (b : Int) (p : Int) (n : Int) ini y, x.length ≤ 40) ∧ (linesM (b : Int) (p : Int) (n : Int) ini y).length ≤ 5 := by
  unfold linesM
  refine ⟨fun x hx => ?_, ?_⟩
  · rcases List.mem_cons.mp hx with rfl | hx
    · exact len_head b p n hb hp hn
    rcases List.mem_append.mp hx with hx | hx
    · obtain ⟨r, hr, rfl⟩ := List.mem_map.mp hx
      exact len_line r p hp (hi.1 r hr)
    · rw [List.mem_singleton.mp hx]
      exact len_any y hy
  · have := hi.2
    simp
    omega
theorem join_fits (l : List Str) (h : (∀ x ∈ l, x.length ≤ 40) ∧ l.length ≤ 5) : (l.map (·.length)).sum + l.length * (Str.ofString "\n").length ≤ 16777216 := by
  have z := sum_le l h.1
  have e : (Str.ofString "\n").length = 1 := by decide +kernel
  have := h.2
  rw [e]
  omega
end K2

set_option Elab.async false
set_option linter.all false
set_option maxRecDepth 100000
set_option maxHeartbeats 4000000
namespace K2
open PySem PySem.Spec PyProof.Rows L2 G1 G2
theorem js_c {x acc : Str} {ts : List TE} {σ : L2.St} {H : Hp} {Q : Str → Hp → Prop} (h1 : (acc ++ x).length ≤ sizeLine) (h2 : tJs ts (acc ++ x) σ H Q) : tJs (tC (.str x) :: ts) acc σ H Q := ⟨x, rfl, h1, h2⟩
theorem js_i {te : TE} {acc : Str} {ts : List TE} {σ : L2.St} {H : Hp} {Q : Str → Hp → Prop} {i : Int} (ht : ∀ R : VK, R (.int i) H → te σ H R) (h0 : i.natAbs.log2 < 1920) (h1 : (acc ++ numS i).length ≤ sizeLine) (h2 : tJs ts (acc ++ numS i) σ H Q) : tJs (tFmt te :: ts) acc σ H Q :=
  ht _ (.inr ⟨i, rfl, h0, _, rfl, h1, h2⟩)
theorem js_s {te : TE} {acc : Str} {ts : List TE} {σ : L2.St} {H : Hp} {Q : Str → Hp → Prop} {x : Str} (ht : ∀ R : VK, R (.str x) H → te σ H R) (h0 : x.length ≤ sizeLine) (h1 : (acc ++ x).length ≤ sizeLine) (h2 : tJs ts (acc ++ x) σ H Q) : tJs (tFmt te :: ts) acc σ H Q :=
  ht _ (.inl ⟨x, rfl, h0, _, rfl, h1, h2⟩)
theorem js_0 {acc : Str} {σ : L2.St} {H : Hp} {Q : Str → Hp → Prop} (h : Q acc H) : tJs [] acc σ H Q := h
theorem head_read {t1 t2 t3 : TE} {σ : L2.St} {H : Hp} {Q : Str → Hp → Prop} {b p n : Nat} (hb : b < 26) (hp : p < 26) (hn : n < 26) (h1 : ∀ R : VK, R (.int (b : Int)) H → t1 σ H R) (h2 : ∀ R : VK, R (.int (p : Int)) H → t2 σ H R) (h3 : ∀ R : VK, R (.int (n : Int)) H → t3 σ H R)
    (k : Q (headM (b : Int) (p : Int) (n : Int)) H) : tJs [tC (.str (Str.ofString "drive ")), tFmt t1, tC (.str (Str.ofString " blocks ")), tFmt t2, tC (.str (Str.ofString " pages ")), tFmt t3, tC (.str (Str.ofString " names"))] Str.empty σ H Q := by
  have z := len_head b p n hb hp hn
  unfold headM at z
  simp only [Str.length_append] at z
  refine js_c ?_ (js_i h1 (log_small b hb) ?_ (js_c ?_ (js_i h2 (log_small p hp) ?_ (js_c ?_ (js_i h3 (log_small n hn) ?_ (js_c ?_ (js_0 k)))))))
  all_goals
    refine small_line ?_
    simp only [Str.length_append]
    omega
theorem line_read {t1 t2 : TE} {σ : L2.St} {H : Hp} {Q : Str → Hp → Prop} {r : RowD} {p : Nat} (hp : p < 26) (hr : RowOk p r) (h1 : ∀ R : VK, R (.int r.1) H → t1 σ H R) (h2 : ∀ R : VK, R (.str r.2) H → t2 σ H R)
    (k : Q (lineM r) H) : tJs [tC (.str (Str.ofString "at most ")), tFmt t1, tC (.str (Str.ofString ": ")), tFmt t2] Str.empty σ H Q := by
  have z := len_line r p hp hr
  unfold lineM at z
  simp only [Str.length_append] at z
  have hl : r.1.natAbs.log2 < 1920 := by
    obtain ⟨a1, a2, _⟩ := hr
    have e0 : r.1 = ((r.1.toNat : Nat) : Int) := by omega
    rw [e0]
    exact log_small _ (by omega)
  refine js_c ?_ (js_i h1 hl ?_ (js_c ?_ (js_s h2 ?_ ?_ (js_0 k))))
  all_goals
    refine small_line ?_
    (try simp only [Str.length_append])
    omega
theorem any_read {t1 : TE} {σ : L2.St} {H : Hp} {Q : Str → Hp → Prop} {x : Str} (hx : x ∈ wordsL) (h1 : ∀ R : VK, R (.str x) H → t1 σ H R) (k : Q (anyM x) H) : tJs [tC (.str (Str.ofString "any: ")), tFmt t1] Str.empty σ H Q := by
  have z := len_any x hx
  unfold anyM at z
  simp only [Str.length_append] at z
  refine js_c ?_ (js_s h1 ?_ ?_ (js_0 ?_))
  · rw [empty_app]; exact small_line (by omega)
  · exact small_line (by omega)
  · rw [empty_app]; simp only [Str.length_append]; exact small_line (by omega)
  · rw [empty_app]; exact k
section
variable {P : Program} {w : World} {K : PySem.W.Frag} {mg : Str → Option Value} {base : Heap}
theorem ok_txt {f : Addr} {fd : FuncData} (F : Fun K "text_of" "text_of" sTxt f fd) (B : Bl mg) : FnOk P w K mg base CX0 1 f fd ["blocks", "pages", "names", "rows"] (spTxt K) := by
  refine F.ok scTxt (fun vs H Q E h => ?_) (fun cdv A outer s H vs Q E hr h => ?_)
  · obtain ⟨b, p, n, t, ini, y, rfl, _⟩ := h
    rfl
  obtain ⟨b, p, n, t, ini, y, rfl, hb, hp, hn, ⟨rs0, hT0, hP0⟩, hini, hy, k⟩ := h
  obtain ⟨rs, rl, rfl, hP, hl⟩ := paired_split hP0
  have hT : SqT K H t (rs.map V.ref ++ [V.ref rl]) := by
    have e : (rs ++ [rl]).map V.ref = rs.map V.ref ++ [V.ref rl] := by simp
    rwa [e] at hT0
  refine ⟨_, pss_cons (ps_set (i := 4) scTxt.nd rfl (.inl rfl) (pe_lst (pa_cons (pe_joined (.cons pe_str (.cons (pe_fmt (pv 0)) (.cons pe_str (.cons (pe_fmt (pv 1)) (.cons pe_str (.cons (pe_fmt (pv 2)) (.cons pe_str .nil)))))))) pa_nil)))
    (pss_cons (ps_for PassesOwn.never rfl (pi_tup (pe_slice sl_tup (pv 3) po_none (po_some (pe_un un_neg pe_int)))) (pg_tup rfl (pgs_cons (pg_name (i := 5) scTxt.nd rfl (.inl rfl)) (pgs_cons (pg_name (i := 6) scTxt.nd rfl (.inl rfl)) pgs_nil)))
      (pss_one (ps_expr (pe_bm PySem.F.plainAttrs_list PySem.F.slot_list_append PySem.F.type_list_append mt_append (pv 4) (pa_cons (pe_joined (.cons pe_str (.cons (pe_fmt (pv 5)) (.cons pe_str (.cons (pe_fmt (pv 6)) .nil))))) pa_nil)))))
    (pss_cons (ps_expr (pe_bm PySem.F.plainAttrs_list PySem.F.slot_list_append PySem.F.type_list_append mt_append (pv 4) (pa_cons (pe_joined (.cons pe_str (.cons (pe_fmt (pe_ix ix_tup (pe_ix ix_tup (pv 3) (pe_un un_neg pe_int) (fun _ _ => rfl)) pe_int (fun _ _ => rfl))) .nil))) pa_nil)))
    (pss_one (ps_ret (pe_join pe_str (pv 4)))))), ?_⟩
  refine seq_asg (lst_read (cons_read ?_))
  refine head_read hb hp hn (fun R q => ⟨_, rfl, q⟩) (fun R q => ⟨_, rfl, q⟩) (fun R q => ⟨_, rfl, q⟩) ?_
  refine nil_read ⟨by show 1 ≤ sizeLine; decide, fun l nl => ?_⟩
  refine seq_for fun D' hD1 hD2 => ?_
  have s1 : Same H (upd H l (.lst [.str (headM (b : Int) (p : Int) (n : Int))])) := same_lay nl
  refine ⟨_, rfl, _, rfl, _, rfl, t, _, rfl, K2.Same.tup s1 hT, cut_not _ _, fun u nu => ?_⟩
  rw [show (-(1 : Int)) = -1 from rfl, cut_last]
  have hu : (upd (upd H l (.lst [.str (headM (b : Int) (p : Int) (n : Int))])) u (.tup (rs.map V.ref))) u = some (.tup (rs.map V.ref)) := upd_same
  refine ⟨u, rfl, ⟨_, SqT.of hu⟩, ?_⟩
  have nul : u ≠ l := fun z => by rw [z, upd_same] at nu; cases nu
  refine for_tup (K := K) (xs := rs.map V.ref) (fun i σ H' => ∃ x5 x6, σ = [some (.int (b : Int)), some (.int (p : Int)), some (.int (n : Int)), some (.ref t), some (.ref l), x5, x6] ∧ Same H H' ∧ H' u = some (.tup (rs.map V.ref)) ∧
      H' l = some (.lst ((headM (b : Int) (p : Int) (n : Int) :: (ini.take i).map lineM).map V.str))) ⟨none, none, rfl, s1.trans (same_lay nu), hu, ?_⟩ (fun i σ H' _ q => ?_) ?_ ?_
  · rw [upd_ne (Ne.symm nul), upd_same]; rfl
  · obtain ⟨_, _, _, _, q, _⟩ := q
    exact SqT.of q
  · rintro i x σ H' hi ⟨x5, x6, rfl, s2, q1, q2⟩
    rw [List.getElem?_map] at hi
    obtain ⟨a, ha, rfl⟩ : ∃ a, rs[i]? = some a ∧ V.ref a = x := by
      cases hq : rs[i]? with
      | none => rw [hq] at hi; cases hi
      | some a => rw [hq] at hi; exact ⟨a, rfl, Option.some.inj hi⟩
    obtain ⟨r, hr1, hr2⟩ := paired_get hP ha
    have hrok : RowOk p r := hini.1 r (List.mem_of_getElem? hr1)
    refine ⟨a, _, rfl, K2.Same.tup s2 hr2, rfl, _, _, rfl, _, _, rfl, rfl, ?_⟩
    refine ⟨_, rfl, .inl ⟨rfl, _, SqL.of q2⟩, ?_⟩
    refine line_read hp hrok (fun R q => ⟨_, rfl, q⟩) (fun R q => ⟨_, rfl, q⟩) ?_
    refine ⟨l, _, _, rfl, rfl, q2, ?_, _, _, rfl, fun b o e => ?_, ?_, ?_⟩
    · rw [List.length_map, List.length_cons, List.length_map, List.length_take, sizeLine_eq]
      have := hini.2
      omega
    · rw [upd_ne (ne_of_none e nl)]; exact s2 _ _ e
    · rw [upd_ne nul]; exact q1
    · rw [upd_same, List.take_add_one, hr1]
      simp
  · rintro σ H' ⟨x5, x6, rfl, s2, q1, q2⟩
    rw [hD1]
    have el : (rs.map V.ref).length = ini.length := by rw [List.length_map]; exact Paired.length hP
    rw [el, List.take_length] at q2
    refine ⟨_, rfl, .inl ⟨rfl, _, SqL.of q2⟩, ?_⟩
    refine any_read hy (fun R q => ⟨_, rfl, _, rfl, t, _, _, .ref rl, rfl, rfl, K2.Same.tup s2 hT, at_last _ _, rl, _, _, .str y, rfl, rfl, K2.Same.tup s2 hl, rfl, q⟩) ?_
    refine ⟨l, _, _, rfl, rfl, q2, ?_, ?_⟩
    · rw [List.length_map, List.length_cons, List.length_map, sizeLine_eq]
      have := hini.2
      omega
    have q3 : (upd H' l (.lst ((headM (b : Int) (p : Int) (n : Int) :: ini.map lineM).map V.str ++ [.str (anyM y)]))) l = some (.lst ((linesM (b : Int) (p : Int) (n : Int) ini y).map V.str)) := by
      rw [upd_same]
      unfold linesM
      simp
    refine ⟨⟨_, rfl⟩, _, rfl, _, l, linesM (b : Int) (p : Int) (n : Int) ini y, rfl, rfl, .inl (SqL.of q3), join_fits _ (lines_len b p n hb hp hn ini hini y hy), k _ fun c o e => ?_⟩
    rw [upd_ne (ne_of_none e nl)]; exact s2 _ _ e
end
end K2

set_option Elab.async false
set_option linter.all false
set_option maxRecDepth 100000
set_option maxHeartbeats 4000000
namespace K2
open PySem PySem.Spec PyProof.Rows L2 G1 G2
abbrev sDrv : Stmt := topS 35
abbrev sIni : Stmt := inClass sDrv 0
theorem scIni : FnScope ["self", "blocks", "pages", "names", "rows"] ["self", "blocks", "pages", "names", "rows"] (defScope sIni) := ⟨rfl, rfl, rfl, by decide +kernel, rfl, by decide +kernel, by decide +kernel⟩
/-- what the written part says of the class -/
structure DCls (K : PySem.W.Frag) (C : Addr) : Prop where
  cl : Cls K C
  nb : NoAttr K C "kept_blocks"
  np : NoAttr K C "kept_pages"
  nn : NoAttr K C "kept_names"
  nr : NoAttr K C "kept_rows"
  nt : NoAttr K C "kept_text"
def drvF (b p n : Nat) (t : Addr) (x : Str) : List (Str × V) := [("kept_blocks", .int (b : Int)), ("kept_pages", .int (p : Int)), ("kept_names", .int (n : Int)), ("kept_rows", .ref t), ("kept_text", .str x)]
def Keep (x : Addr) (H H' : Hp) : Prop := ∀ a o, H a = some o → a ≠ x → H' a = some o
theorem Keep.tup {K : PySem.W.Frag} {x a C dx : Addr} {H H' : Hp} {fs : List (Str × V)} {xs : List V} (k : Keep x H H') (hx : H x = some (.ins C dx fs)) (h : SqT K H a xs) : SqT K H' a xs := by
  rcases h with (h | ⟨o, h⟩) | h
  · exact .inl (.inl (k _ _ h (ne_of h hx (by intro z; cases z))))
  · exact .inl (.inr ⟨o, k _ _ h (ne_of h hx (by intro z; cases z))⟩)
  · exact .inr h
theorem Keep.rows {K : PySem.W.Frag} {x t C dx : Addr} {H H' : Hp} {fs : List (Str × V)} {rows : List RowD} (k : Keep x H H') (hx : H x = some (.ins C dx fs)) (h : RowsAt K H t rows) : RowsAt K H' t rows := by
  obtain ⟨rs, h1, h2⟩ := h
  exact ⟨rs, k.tup hx h1, Paired.mapP h2 fun _ _ z => k.tup hx z⟩
theorem Keep.refl (x : Addr) (H : Hp) : Keep x H H := fun _ _ h _ => h
theorem Keep.trans {x : Addr} {H H1 H2 : Hp} (a : Keep x H H1) (b : Keep x H1 H2) : Keep x H H2 := fun c o h n => b c o (a c o h n) n
theorem Keep.of {x : Addr} {H H' : Hp} (s : Same H H') : Keep x H H' := fun a o h _ => s a o h
theorem Keep.upd (x : Addr) (H : Hp) (o : HO) : Keep x H (L2.upd H x o) := fun a u h n => by rw [upd_ne n]; exact h
/-- what a drive is made of -/
structure DP (b p n : Nat) (ini : List RowD) (y : Str) : Prop where
  sz : Sz b p n
  few : cntM b p n ≤ 2000
  ini : IniOk p ini
  y : y ∈ wordsL
def spIni (K : PySem.W.Frag) (C : Addr) : Sp := fun vs H Q _ => ∃ (x dx t : Addr) (b p n : Nat) (ini : List RowD) (y : Str), vs = [.ref x, .int (b : Int), .int (p : Int), .int (n : Int), .ref t] ∧ H x = some (.ins C dx []) ∧ DP b p n ini y ∧ RowsAt K H t (ini ++ [((p : Int), y)]) ∧
  ∀ H' : Hp, Keep x H H' → H' x = some (.ins C dx (drvF b p n t (textM (b : Int) (p : Int) (n : Int) ini y))) → Q .non H'
/-- the defs that a drive is made with -/
structure Base (P : Program) (w : World) (K : PySem.W.Frag) (mg : Str → Option Value) (base : Heap) (fZ fR fT fC : Addr) (dZ dR dT dC : FuncData) : Prop where
  Z : FnOk P w K mg base CX0 3 fZ dZ ["blocks", "pages", "names"] spSiz
  kZ : PySem.W.keepIn K (.ref fZ) = true
  bZ : Binds K dZ ["blocks", "pages", "names"] []
  gZ : mg "check_sizes" = some (.ref fZ)
  R : FnOk P w K mg base CX0 4 fR dR ["rows", "pages"] (spChk K)
  kR : PySem.W.keepIn K (.ref fR) = true
  bR : Binds K dR ["rows", "pages"] []
  gR : mg "check_rows" = some (.ref fR)
  T : FnOk P w K mg base CX0 1 fT dT ["blocks", "pages", "names", "rows"] (spTxt K)
  kT : PySem.W.keepIn K (.ref fT) = true
  bT : Binds K dT ["blocks", "pages", "names", "rows"] []
  gT : mg "text_of" = some (.ref fT)
  C : FnOk P w K mg base CX0 2 fC dC ["blocks", "pages", "names"] spCnt
  kC : PySem.W.keepIn K (.ref fC) = true
  bC : Binds K dC ["blocks", "pages", "names"] []
  gC : mg "count_stands" = some (.ref fC)
theorem rows_ok {p : Nat} {ini : List RowD} {y : Str} (h : IniOk p ini) (hy : y ∈ wordsL) : (∀ r ∈ ini ++ [((p : Int), y)], RowOk p r) ∧ (ini ++ [((p : Int), y)]).length ≤ 4 := by
  refine ⟨fun r hr => ?_, ?_⟩
  · rcases List.mem_append.mp hr with hr | hr
    · exact h.1 r hr
    · rw [List.mem_singleton.mp hr]
      exact ⟨by omega, by omega, hy⟩
  · rw [List.length_append]
    have := h.2
    simp
    omega
section
variable {P : Program} {w : World} {K : PySem.W.Frag} {mg : Str → Option Value} {base : Heap}
theorem ok_ini {f C fZ fR fT fC : Addr} {fd dZ dR dT dC : FuncData} (F : Fun K "__init__" "Drive.__init__" sIni f fd) (T : DCls K C) (Cm : Cn mg) (G : Base P w K mg base fZ fR fT fC dZ dR dT dC) :
    FnOk P w K mg base CX0 5 f fd ["self", "blocks", "pages", "names", "rows"] (spIni K C) := by
  refine F.ok scIni (fun vs H Q E h => ?_) (fun cdv A outer s H vs Q E hr h => ?_)
  · obtain ⟨x, dx, t, b, p, n, ini, y, rfl, _⟩ := h
    rfl
  obtain ⟨x, dx, t, b, p, n, ini, y, rfl, hx, ⟨hz, hfew, hini, hy⟩, hR, k⟩ := h
  obtain ⟨tm, cm⟩ := Cm.ms
  have hr1 : Room 1 _ := hr.mono (by decide)
  have hr2 : Room 2 _ := hr.mono (by decide)
  have hr3 : Room 3 _ := hr.mono (by decide)
  refine ⟨_, pss_cons (ps_expr (pe_call G.Z hr3 (by rfl) G.gZ G.kZ G.bZ .nil pass0 (pa_cons (pv 1) (pa_cons (pv 2) (pa_cons (pv 3) pa_nil)))))
    (pss_cons (ps_expr (pe_call G.R hr (by rfl) G.gR G.kR G.bR .nil pass0 (pa_cons (pv 4) (pa_cons (pv 2) pa_nil))))
    (pss_cons (ps_fld (pv 0) (pv 1) rfl) (pss_cons (ps_fld (pv 0) (pv 2) rfl) (pss_cons (ps_fld (pv 0) (pv 3) rfl) (pss_cons (ps_fld (pv 0) (pv 4) rfl)
    (pss_cons (ps_fld (pv 0) (pe_call G.T hr1 (by rfl) G.gT G.kT G.bT .nil pass0 (pa_cons (pv 1) (pa_cons (pv 2) (pa_cons (pv 3) (pa_cons (pv 4) pa_nil))))) rfl)
    (pss_one (ps_if (pt_cmpR op_gt (pe_call G.C hr2 (by rfl) G.gC G.kC G.bC .nil pass0 (pa_cons (pv 1) (pa_cons (pv 2) (pa_cons (pv 3) pa_nil)))) (pe_glob (v := .int 2000) rfl cm ⟨_, rfl⟩) (nomark _)) (pss_one ps_never) pss_nil)))))))), ?_⟩
  refine ⟨_, rfl, _, rfl, _, rfl, b, p, n, rfl, hz, ?_⟩
  refine ⟨_, rfl, _, rfl, t, p, _, rfl, hR, (rows_ok hini hy).1, (rows_ok hini hy).2, ⟨ini, y, rfl⟩, fun H1 s1 => ?_⟩
  have hx1 := s1 _ _ hx
  refine ⟨_, rfl, _, rfl, x, C, dx, _, rfl, hx1, T.cl, T.nb, by decide, ?_⟩
  refine ⟨_, rfl, _, rfl, x, C, dx, _, rfl, upd_same, T.cl, T.np, by show 1 < 1000; decide, ?_⟩
  rw [upd_upd]
  refine ⟨_, rfl, _, rfl, x, C, dx, _, rfl, upd_same, T.cl, T.nn, by show 2 < 1000; decide, ?_⟩
  rw [upd_upd]
  refine ⟨_, rfl, _, rfl, x, C, dx, _, rfl, upd_same, T.cl, T.nr, by show 3 < 1000; decide, ?_⟩
  rw [upd_upd]
  have k1 := Keep.upd x H1 (.ins C dx [("kept_blocks", .int (b : Int)), ("kept_pages", .int (p : Int)), ("kept_names", .int (n : Int)), ("kept_rows", .ref t)])
  have e1 : (upd H1 x (.ins C dx [("kept_blocks", .int (b : Int)), ("kept_pages", .int (p : Int)), ("kept_names", .int (n : Int)), ("kept_rows", .ref t)])) x = some (.ins C dx [("kept_blocks", .int (b : Int)), ("kept_pages", .int (p : Int)), ("kept_names", .int (n : Int)), ("kept_rows", .ref t)]) := upd_same
  show tSeq _ _ _ _ (upd H1 x (.ins C dx [("kept_blocks", .int (b : Int)), ("kept_pages", .int (p : Int)), ("kept_names", .int (n : Int)), ("kept_rows", .ref t)]))
  generalize upd H1 x (.ins C dx [("kept_blocks", .int (b : Int)), ("kept_pages", .int (p : Int)), ("kept_names", .int (n : Int)), ("kept_rows", .ref t)]) = H2 at k1 e1 ⊢
  have kA : Keep x H H2 := (Keep.of s1).trans k1
  have n25 := hz.n25
  have hp1 := hz.p1
  have hb1 := hz.b1
  refine ⟨_, rfl, _, rfl, _, rfl, _, rfl, b, p, n, t, ini, y, rfl, by omega, by omega, n25, kA.rows hx hR, hini, hy, fun H3 s3 => ?_⟩
  refine ⟨_, rfl, x, C, dx, _, rfl, s3 _ _ e1, T.cl, T.nt, by show 4 < 1000; decide, ?_⟩
  have hb0 := hz.b0
  have hn0 := hz.n0
  refine ⟨_, rfl, _, rfl, _, rfl, b, p, n, rfl, by omega, hn0, n25, by omega, by omega, fun H4 s4 => ?_⟩
  refine ⟨_, _, rfl, rfl, _, rfl, ?_⟩
  have z : decide ((2000 : Int) < cntM b p n) = false := decide_eq_false (by omega)
  show (if decide ((2000 : Int) < cntM b p n) = true then _ else _)
  rw [z]
  refine iteF (k H4 ?_ ?_)
  · exact kA.trans ((Keep.of s3).trans ((Keep.upd x H3 _).trans (Keep.of s4)))
  · exact s4 _ _ upd_same
end
end K2

set_option Elab.async false
set_option linter.all false
set_option maxRecDepth 100000
set_option maxHeartbeats 4000000
namespace K2
open PySem PySem.Spec PyProof.Rows L2 G1 G2
abbrev sNum : Stmt := topS 30
abbrev sRof : Stmt := topS 31
theorem scNum : FnScope ["word"] ["word"] (defScope sNum) := ⟨rfl, rfl, rfl, by decide +kernel, rfl, by decide +kernel, by decide +kernel⟩
theorem scRof : FnScope ["line", "pages", "start", "colon", "word", "limit"] ["line", "pages"] (defScope sRof) := ⟨rfl, rfl, rfl, by decide +kernel, rfl, by decide +kernel, by decide +kernel⟩
theorem num_facts : ∀ i : Nat, i < 26 → Txt.isascii (numS (i : Int)) = true ∧ Txt.isdigit (numS (i : Int)) = true ∧ PySem.intText? (numS (i : Int)) = some (i : Int) := by decide +kernel
theorem line_facts : ∀ l : Nat, l < 6 → ∀ w ∈ wordsL, Txt.partition (lineM ((l : Int), w)) (Str.ofString ": ") = (Str.ofString "at most " ++ numS (l : Int), Str.ofString ": ", w) ∧ (Str.ofString "at most " ++ numS (l : Int) = Str.ofString "any") = False ∧
    Txt.removeprefix (Str.ofString "at most " ++ numS (l : Int)) (Str.ofString "at most ") = numS (l : Int) := by
  have z : ∀ l : Nat, l < 6 → ∀ w ∈ wordsL, Txt.partition (lineM ((l : Int), w)) (Str.ofString ": ") = (Str.ofString "at most " ++ numS (l : Int), Str.ofString ": ", w) ∧ ¬ (Str.ofString "at most " ++ numS (l : Int) = Str.ofString "any") ∧
    Txt.removeprefix (Str.ofString "at most " ++ numS (l : Int)) (Str.ofString "at most ") = numS (l : Int) := by decide +kernel
  intro l hl w hw
  obtain ⟨a, b, c⟩ := z l hl w hw
  exact ⟨a, eq_false b, c⟩
theorem any_facts : ∀ w ∈ wordsL, Txt.partition (anyM w) (Str.ofString ": ") = (Str.ofString "any", Str.ofString ": ", w) := by decide +kernel
def spNum : Sp := fun vs H Q _ => ∃ i : Nat, vs = [.str (numS (i : Int))] ∧ i < 26 ∧ Q (.int (i : Int)) H
def LineOf (p : Nat) (ln : Str) (r : RowD) : Prop := (ln = lineM r ∧ RowOk p r) ∨ (ln = anyM r.2 ∧ r.1 = (p : Int) ∧ r.2 ∈ wordsL)
def spRof : Sp := fun vs H Q _ => ∃ (p : Nat) (ln : Str) (r : RowD), vs = [.str ln, .int (p : Int)] ∧ p < 6 ∧ LineOf p ln r ∧ ∀ (H' : Hp) (q : Addr), Same H H' → H q = none → H' q = some (.tup [.int r.1, .str r.2]) → Q (.ref q) H'
section
variable {P : Program} {w : World} {K : PySem.W.Frag} {mg : Str → Option Value} {base : Heap}
theorem ok_num {f : Addr} {fd : FuncData} (F : Fun K "number_of" "number_of" sNum f fd) (B : Bl mg) (C : Cn mg) : FnOk P w K mg base CX0 1 f fd ["word"] spNum := by
  refine F.ok scNum (fun vs H Q E h => ?_) (fun cdv A outer s H vs Q E hr h => ?_)
  · obtain ⟨i, rfl, _⟩ := h
    rfl
  obtain ⟨i, rfl, hi, k⟩ := h
  obtain ⟨tm, cm⟩ := C.md
  obtain ⟨f1, f2, f3⟩ := num_facts i hi
  have f4 := num_len i hi
  refine ⟨_, pss_cons (ps_if (PW.pt (pw_and (pt_val (pe_bm0 PySem.F.plainAttrs_str PySem.F.slot_str_isascii PySem.F.type_str_isascii mt_isascii (pv 0)))
      (pw_and (pt_val (pe_bm0 PySem.F.plainAttrs_str PySem.F.slot_str_isdigit PySem.F.type_str_isdigit mt_isdigit (pv 0)))
      (pw_and1 (pt_cmpR op_le (pe_callB call_len (by rfl) B.len PySem.boot_len (pa_cons (pv 0) pa_nil)) (pe_glob (v := .int 2) rfl cm ⟨_, rfl⟩) (nomark _))))))
      (pss_one (ps_ret (pe_callTy call_int_str (by rfl) B.int bInt (pa_cons (pv 0) pa_nil)))) pss_nil)
    (pss_one (ps_ret pe_non)), ?_⟩
  refine ⟨_, rfl, rfl, _, rfl, rfl, trivial, _, rfl, ?_⟩
  rw [f1]
  refine iteT ⟨_, rfl, rfl, _, rfl, rfl, trivial, _, rfl, ?_⟩
  rw [f2]
  refine iteT ⟨_, rfl, _, _, rfl, ⟨small_line (by omega), rfl⟩, _, _, rfl, rfl, _, rfl, ?_⟩
  have z : decide (((numS (i : Int)).length : Int) ≤ 2) = true := decide_eq_true (by omega)
  show (if decide (((numS (i : Int)).length : Int) ≤ 2) = true then _ else _)
  rw [z]
  exact iteT ⟨_, rfl, _, _, rfl, f3, by omega, k⟩
theorem ok_rof {f fN : Addr} {fd fdN : FuncData} (F : Fun K "row_of" "row_of" sRof f fd) (GN : FnOk P w K mg base CX0 1 fN fdN ["word"] spNum) (kN : PySem.W.keepIn K (.ref fN) = true) (bN : Binds K fdN ["word"] []) (gN : mg "number_of" = some (.ref fN)) :
    FnOk P w K mg base CX0 2 f fd ["line", "pages"] spRof := by
  refine F.ok scRof (fun vs H Q E h => ?_) (fun cdv A outer s H vs Q E hr h => ?_)
  · obtain ⟨p, ln, r, rfl, _⟩ := h
    rfl
  obtain ⟨p, ln, ⟨l, x⟩, rfl, hp, hl, k⟩ := h
  refine ⟨_, pss_cons (ps_asg (pe_partition (pv 0) pe_str) (pg_tup rfl (pgs_cons (pg_name (i := 2) scRof.nd rfl (.inl rfl)) (pgs_cons (pg_name (i := 3) scRof.nd rfl (.inl rfl)) (pgs_cons (pg_name (i := 4) scRof.nd rfl (.inl rfl)) pgs_nil)))))
    (pss_cons (ps_set (i := 5) scRof.nd rfl (.inl rfl) (pe_ifExp (pt_cmpR op_eq (pv 2) pe_str (nomark _)) (pv 1)
      (pe_call GN hr (by rfl) gN kN bN .nil pass0 (pa_cons (pe_bm PySem.F.plainAttrs_str PySem.F.slot_str_removeprefix PySem.F.type_str_removeprefix mt_removeprefix (pv 2) (pa_cons pe_str pa_nil)) pa_nil))))
    (pss_one (ps_ret (pe_tup (pa_cons (pv 5) (pa_cons (pv 4) pa_nil)))))), ?_⟩
  have lnl : ln.length ≤ sizeLine := by
    rcases hl with ⟨rfl, h⟩ | ⟨rfl, _, h⟩
    · exact small_line (Nat.le_trans (len_line _ p (by omega) h) (by decide))
    · exact small_line (Nat.le_trans (len_any _ h) (by decide))
  refine ⟨_, rfl, ⟨_, rfl⟩, _, _, rfl, rfl, by decide +kernel, lnl, fun t nt => ?_⟩
  refine ⟨t, _, rfl, SqT.of upd_same, rfl, _, _, rfl, _, _, rfl, _, _, rfl, rfl, ?_⟩
  have s1 : Same H (upd H t (.tup [.str (Txt.partition ln (Str.ofString ": ")).1, .str (Txt.partition ln (Str.ofString ": ")).2.1, .str (Txt.partition ln (Str.ofString ": ")).2.2])) := same_lay nt
  generalize upd H t (.tup [.str (Txt.partition ln (Str.ofString ": ")).1, .str (Txt.partition ln (Str.ofString ": ")).2.1, .str (Txt.partition ln (Str.ofString ": ")).2.2]) = H1 at s1 ⊢
  dsimp only
  refine seq_asg ?_
  rcases hl with ⟨rfl, h1, h2, h3⟩ | ⟨rfl, rfl, h3⟩
  · obtain ⟨j, rfl⟩ : ∃ j : Nat, l = (j : Int) := ⟨l.toNat, by show l = _; dsimp only at h1; omega⟩
    have hj : j < 6 := by dsimp only at h2; omega
    obtain ⟨e1, e2, e3⟩ := line_facts j hj x h3
    rw [e1]
    dsimp only
    refine ⟨_, rfl, rfl, _, rfl, ?_⟩
    have z : decide (V.str (Str.ofString "at most " ++ numS (j : Int)) = V.str (Str.ofString "any")) = false := decide_eq_false (fun z => by injection z with z; rw [e2] at z; exact z)
    show (if decide (V.str (Str.ofString "at most " ++ numS (j : Int)) = V.str (Str.ofString "any")) = true then _ else _)
    rw [z]
    refine iteF ⟨_, rfl, rfl, _, _, rfl, rfl, ?_, j, ?_, by omega, ?_⟩
    · rw [Str.length_append]
      have := num_len j (by omega)
      have e : (Str.ofString "at most ").length = 8 := by decide +kernel
      exact small_line (by omega)
    · rw [e3]; rfl
    · exact ⟨_, rfl, _, rfl, by show 2 ≤ sizeLine; decide, fun q nq => k _ q (s1.trans (same_lay nq)) (s1.free nq) upd_same⟩
  · dsimp only
    rw [any_facts x h3]
    dsimp only
    refine ⟨_, rfl, rfl, _, rfl, ?_⟩
    have z : decide (V.str (Str.ofString "any") = V.str (Str.ofString "any")) = true := decide_eq_true rfl
    show (if decide (V.str (Str.ofString "any") = V.str (Str.ofString "any")) = true then _ else _)
    rw [z]
    refine iteT ⟨_, rfl, ?_⟩
    exact ⟨_, rfl, _, rfl, by show 2 ≤ sizeLine; decide, fun q nq => k _ q (s1.trans (same_lay nq)) (s1.free nq) upd_same⟩
end
end K2

set_option Elab.async false
set_option linter.all false
set_option maxRecDepth 100000
set_option maxHeartbeats 4000000
namespace K2
open PySem PySem.Spec PyProof.Rows L2 G1 G2
abbrev sPar : Stmt := topS 32
abbrev NP : List Str := ["text", "head", "lines", "words", "blocks", "pages", "names", "word", "rows", "line"]
theorem scPar : FnScope NP ["text"] (defScope sPar) := ⟨rfl, rfl, rfl, by decide +kernel, rfl, by decide +kernel, by decide +kernel⟩
theorem join_len (sep : Str) (B : Nat) : ∀ l : List Str, (∀ x ∈ l, x.length ≤ B) → (Str.join sep l).length ≤ l.length * (B + sep.length)
  | [], _ => by
    show Str.empty.length ≤ _
    have e : Str.empty.length = 0 := by decide +kernel
    rw [e]
    exact Nat.zero_le _
  | [x], h => by
    show x.length ≤ 1 * (B + sep.length)
    have := h x (List.mem_singleton.mpr rfl)
    omega
  | x :: z :: r, h => by
    show (x ++ sep ++ Str.join sep (z :: r)).length ≤ _
    have h1 := h x (List.mem_cons_self ..)
    have h2 := join_len sep B (z :: r) fun y hy => h y (List.mem_cons_of_mem _ hy)
    rw [Str.length_append, Str.length_append, List.length_cons, Nat.succ_mul]
    omega
theorem text_len (b p n : Nat) (hb : b < 26) (hp : p < 26) (hn : n < 26) (ini : List RowD) (hi : IniOk p ini) (y : Str) (hy : y ∈ wordsL) : (textM (b : Int) (p : Int) (n : Int) ini y).length ≤ 205 := by
  have z := lines_len b p n hb hp hn ini hi y hy
  unfold textM
  rw [TL.join_eq]
  have q := join_len (Str.ofString "\n") 40 _ z.1
  have e : (Str.ofString "\n").length = 1 := by decide +kernel
  rw [e] at q
  have q2 : (linesM (b : Int) (p : Int) (n : Int) ini y).length * (40 + 1) ≤ 5 * 41 := Nat.mul_le_mul z.2 (Nat.le_refl _)
  omega
theorem num_nl : ∀ i : Nat, i < 26 → 10 ∉ TL.tl (numS (i : Int)) ∧ 32 ∉ TL.tl (numS (i : Int)) := by decide +kernel
theorem nl_head (b p n : Nat) (hb : b < 26) (hp : p < 26) (hn : n < 26) : 10 ∉ TL.tl (headM (b : Int) (p : Int) (n : Int)) := by
  have h1 := (num_nl b hb).1
  have h2 := (num_nl p hp).1
  have h3 := (num_nl n hn).1
  have c0 : 10 ∉ TL.tl Str.empty := by decide +kernel
  have c1 : 10 ∉ TL.tl (Str.ofString "drive ") := by decide +kernel
  have c2 : 10 ∉ TL.tl (Str.ofString " blocks ") := by decide +kernel
  have c3 : 10 ∉ TL.tl (Str.ofString " pages ") := by decide +kernel
  have c4 : 10 ∉ TL.tl (Str.ofString " names") := by decide +kernel
  unfold headM
  rw [TL.tl_append, TL.tl_append, TL.tl_append, TL.tl_append, TL.tl_append, TL.tl_append, TL.tl_append]
  intro h
  simp only [List.mem_append] at h
  rcases h with ((((((h | h) | h) | h) | h) | h) | h) | h <;> contradiction
theorem nl_line : ∀ l : Nat, l < 6 → ∀ w ∈ wordsL, 10 ∉ TL.tl (lineM ((l : Int), w)) := by decide +kernel
theorem nl_any : ∀ w ∈ wordsL, 10 ∉ TL.tl (anyM w) := by decide +kernel
theorem app_assoc (a b c : Str) : a ++ b ++ c = a ++ (b ++ c) := by
  show (⟨(a.cps ++ b.cps) ++ c.cps⟩ : Str) = ⟨a.cps ++ (b.cps ++ c.cps)⟩
  rw [Array.append_assoc]
theorem split_head (b p n : Nat) (hb : b < 26) (hp : p < 26) (hn : n < 26) : Txt.split (headM (b : Int) (p : Int) (n : Int)) (Str.ofString " ") = [Str.ofString "drive", numS (b : Int), Str.ofString "blocks", numS (p : Int), Str.ofString "pages", numS (n : Int), Str.ofString "names"] := by
  have e : headM (b : Int) (p : Int) (n : Int) = Txt.join (Str.ofString " ") [Str.ofString "drive", numS (b : Int), Str.ofString "blocks", numS (p : Int), Str.ofString "pages", numS (n : Int), Str.ofString "names"] := by
    rw [TL.join_eq]
    show headM (b : Int) (p : Int) (n : Int) = Str.ofString "drive" ++ Str.ofString " " ++ (numS (b : Int) ++ Str.ofString " " ++ (Str.ofString "blocks" ++ Str.ofString " " ++ (numS (p : Int) ++ Str.ofString " " ++ (Str.ofString "pages" ++ Str.ofString " " ++ (numS (n : Int) ++ Str.ofString " " ++ Str.ofString "names")))))
    have e1 : Str.ofString "drive " = Str.ofString "drive" ++ Str.ofString " " := by decide +kernel
    have e2 : Str.ofString " blocks " = Str.ofString " " ++ (Str.ofString "blocks" ++ Str.ofString " ") := by decide +kernel
    have e3 : Str.ofString " pages " = Str.ofString " " ++ (Str.ofString "pages" ++ Str.ofString " ") := by decide +kernel
    have e4 : Str.ofString " names" = Str.ofString " " ++ Str.ofString "names" := by decide +kernel
    unfold headM
    rw [empty_app, e1, e2, e3, e4]
    simp only [app_assoc]
  rw [e]
  refine TL.split_join (s := 32) (S := []) (by decide +kernel) (by decide +kernel) (by simp) fun x hx => ?_
  have c1 : 32 ∉ TL.tl (Str.ofString "drive") := by decide +kernel
  have c2 : 32 ∉ TL.tl (Str.ofString "blocks") := by decide +kernel
  have c3 : 32 ∉ TL.tl (Str.ofString "pages") := by decide +kernel
  have c4 : 32 ∉ TL.tl (Str.ofString "names") := by decide +kernel
  simp only [List.mem_cons, List.mem_nil_iff, or_false] at hx
  rcases hx with rfl | rfl | rfl | rfl | rfl | rfl | rfl
  · exact c1
  · exact (num_nl b hb).2
  · exact c2
  · exact (num_nl p hp).2
  · exact c3
  · exact (num_nl n hn).2
  · exact c4
theorem split_text (b p n : Nat) (hb : b < 26) (hp : p < 6) (hn : n < 26) (ini : List RowD) (hi : IniOk p ini) (y : Str) (hy : y ∈ wordsL) : Txt.split (textM (b : Int) (p : Int) (n : Int) ini y) (Str.ofString "\n") = linesM (b : Int) (p : Int) (n : Int) ini y := by
  unfold textM
  refine TL.split_join (s := 10) (S := []) (by decide +kernel) (by decide +kernel) (by unfold linesM; simp) fun x hx => ?_
  unfold linesM at hx
  rcases List.mem_cons.mp hx with rfl | hx
  · exact nl_head b p n hb (by omega) hn
  rcases List.mem_append.mp hx with hx | hx
  · obtain ⟨⟨l, w⟩, hr, rfl⟩ := List.mem_map.mp hx
    obtain ⟨a1, a2, a3⟩ := hi.1 _ hr
    dsimp only at a1 a2 a3
    obtain ⟨j, rfl⟩ : ∃ j : Nat, l = (j : Int) := ⟨l.toNat, by omega⟩
    exact nl_line j (by omega) w a3
  · rw [List.mem_singleton.mp hx]
    exact nl_any y hy
end K2

set_option Elab.async false
set_option linter.all false
set_option maxRecDepth 100000
set_option maxHeartbeats 4000000
namespace K2
open PySem PySem.Spec PyProof.Rows L2 G1 G2
def spPar (K : PySem.W.Frag) : Sp := fun vs H Q _ => ∃ (b p n : Nat) (ini : List RowD) (y : Str), vs = [.str (textM (b : Int) (p : Int) (n : Int) ini y)] ∧ b < 26 ∧ p < 6 ∧ n < 26 ∧ IniOk p ini ∧ y ∈ wordsL ∧
  ∀ (H' : Hp) (t q : Addr), Same H H' → RowsAt K H' t (ini ++ [((p : Int), y)]) → H' q = some (.tup [.int (b : Int), .int (p : Int), .int (n : Int), .ref t]) → Q (.ref q) H'
theorem lines_of (p : Nat) (ini : List RowD) (hi : IniOk p ini) (y : Str) (hy : y ∈ wordsL) (i : Nat) (x : V) (h : ((ini.map lineM ++ [anyM y]).map V.str)[i]? = some x) : ∃ (ln : Str) (r : RowD), x = .str ln ∧ (ini ++ [((p : Int), y)])[i]? = some r ∧ LineOf p ln r := by
  rw [List.getElem?_map] at h
  by_cases hlt : i < ini.length
  · have e1 : (ini.map lineM ++ [anyM y])[i]? = some (lineM ini[i]) := by
      rw [List.getElem?_append_left (by rw [List.length_map]; exact hlt), List.getElem?_map, List.getElem?_eq_getElem hlt]
      rfl
    rw [e1] at h
    refine ⟨lineM ini[i], ini[i], (Option.some.inj h).symm, ?_, .inl ⟨rfl, hi.1 _ (List.getElem_mem _)⟩⟩
    rw [List.getElem?_append_left hlt, List.getElem?_eq_getElem hlt]
  · by_cases he : i = ini.length
    · subst he
      have e1 : (ini.map lineM ++ [anyM y])[ini.length]? = some (anyM y) := by
        rw [List.getElem?_append_right (by rw [List.length_map]; exact Nat.le_refl _), List.length_map, Nat.sub_self]
        rfl
      rw [e1] at h
      refine ⟨anyM y, ((p : Int), y), (Option.some.inj h).symm, ?_, .inr ⟨rfl, rfl, hy⟩⟩
      rw [List.getElem?_append_right (Nat.le_refl _), Nat.sub_self]
      rfl
    · have e1 : (ini.map lineM ++ [anyM y])[i]? = none := List.getElem?_eq_none (by simp; omega)
      rw [e1] at h
      cases h
theorem paired_snoc {α β : Type} {F : α → β → Prop} : ∀ {l : List α} {m : List β} {a : α} {b : β}, Paired F l m → F a b → Paired F (l ++ [a]) (m ++ [b])
  | _, _, _, _, .nil, h => .cons h .nil
  | _, _, _, _, .cons r t, h => .cons r (paired_snoc t h)
section
variable {P : Program} {w : World} {K : PySem.W.Frag} {mg : Str → Option Value} {base : Heap}
theorem ok_par {f fN fR fT : Addr} {fd fdN fdR fdT : FuncData} (F : Fun K "parts_of" "parts_of" sPar f fd) (B : Bl mg) (C : Cn mg)
    (GN : FnOk P w K mg base CX0 1 fN fdN ["word"] spNum) (kN : PySem.W.keepIn K (.ref fN) = true) (bN : Binds K fdN ["word"] []) (gN : mg "number_of" = some (.ref fN))
    (GR : FnOk P w K mg base CX0 2 fR fdR ["line", "pages"] spRof) (kR : PySem.W.keepIn K (.ref fR) = true) (bR : Binds K fdR ["line", "pages"] []) (gR : mg "row_of" = some (.ref fR))
    (GT : FnOk P w K mg base CX0 1 fT fdT ["blocks", "pages", "names", "rows"] (spTxt K)) (kT : PySem.W.keepIn K (.ref fT) = true) (bT : Binds K fdT ["blocks", "pages", "names", "rows"] []) (gT : mg "text_of" = some (.ref fT)) :
    FnOk P w K mg base CX0 3 f fd ["text"] (spPar K) := by
  refine F.ok scPar (fun vs H Q E h => ?_) (fun cdv A outer s H vs Q E hr h => ?_)
  · obtain ⟨b, p, n, ini, y, rfl, _⟩ := h
    rfl
  obtain ⟨b, p, n, ini, y, rfl, hb, hp, hn, hini, hy, k⟩ := h
  obtain ⟨tw, cw⟩ := C.wh
  have hr1 : Room 1 _ := hr.mono (by decide)
  refine ⟨_, pss_cons (ps_asg (pe_split (pv 0) pe_str) (pg_star rfl (pg_name (i := 1) scPar.nd rfl (.inl rfl)) (pg_name (i := 2) scPar.nd rfl (.inl rfl))))
    (pss_cons (ps_set (i := 3) scPar.nd rfl (.inl rfl) (pe_split (pv 1) pe_str))
    (pss_cons (ps_if (PW.pt (pw_or (pt_cmpR op_ne (pe_callB call_len_seq (by rfl) B.len PySem.boot_len (pa_cons (pv 3) pa_nil)) (pe_glob (v := .int 7) rfl cw ⟨_, rfl⟩) (nomark _)) (pw_or1 (pt_not (pt_truth (pv 2) (by intro _; rfl)))))) (pss_one (ps_ret pe_non)) pss_nil)
    (pss_cons (ps_asg (pe_lc (own := [("word", 7)]) (g := gName 7) (tt := tYes) (te := tCall spNum [] E0 (tCons (tVar 7) tNil)) rfl scPar.nd (pi_list (pe_odd (pv 3))) (blkOk_by (own := [("word", 7)]) (N := NP) (sc := defScope sPar) (by decide +kernel))
        (fun _ _ _ _ _ => pg_name (i := 7) scPar.nd rfl (Or.inl rfl)) (fun _ _ _ _ _ => pts_nil) (fun _ _ _ _ _ => pe_call GN hr1 (by rfl) gN kN bN .nil pass0 (pa_cons (pv 7) pa_nil)))
      (pg_unl rfl (pgs_cons (pg_name (i := 4) scPar.nd rfl (.inl rfl)) (pgs_cons (pg_name (i := 5) scPar.nd rfl (.inr rfl)) (pgs_cons (pg_name (i := 6) scPar.nd rfl (.inl rfl)) pgs_nil)))))
    (pss_cons (ps_set (i := 8) scPar.nd rfl (.inl rfl) (pe_callTy call_tuple_of (by rfl) B.tup bTup (pa_cons (pe_lc (own := [("line", 9)]) (g := gName 9) (tt := tYes) (te := tCall spRof [] E0 (tCons (tVar 9) (tCons (tVar 5) tNil))) rfl scPar.nd (pi_list (pv 2))
        (blkOk_by (own := [("line", 9)]) (N := NP) (sc := defScope sPar) (by decide +kernel)) (fun _ _ _ _ _ => pg_name (i := 9) scPar.nd rfl (Or.inl rfl)) (fun _ _ _ _ _ => pts_nil)
        (fun _ _ _ _ _ => pe_call GR hr (by rfl) gR kR bR .nil pass0 (pa_cons (pv 9) (pa_cons (pv 5) pa_nil)))) pa_nil)))
    (pss_cons (ps_if (pt_cmpR op_ne (pe_call GT hr1 (by rfl) gT kT bT .nil pass0 (pa_cons (pv 4) (pa_cons (pv 5) (pa_cons (pv 6) (pa_cons (pv 8) pa_nil))))) (pv 0) (nomark _)) (pss_one (ps_ret pe_non)) pss_nil)
    (pss_one (ps_ret (pe_tup (pa_cons (pv 4) (pa_cons (pv 5) (pa_cons (pv 6) (pa_cons (pv 8) pa_nil)))))))))))), ?_⟩
  have tl := text_len b p n hb (by omega) hn ini hini y hy
  refine ⟨_, rfl, ⟨_, rfl⟩, _, _, rfl, rfl, by decide +kernel, ?_, fun l nl => ?_⟩
  · rw [sizeLine_eq]; omega
  rw [split_text b p n hb hp hn ini hini y hy]
  have s1 : Same H (upd H l (.lst ((linesM (b : Int) (p : Int) (n : Int) ini y).map V.str))) := same_lay nl
  have e1 : (upd H l (.lst ((linesM (b : Int) (p : Int) (n : Int) ini y).map V.str))) l = some (.lst (.str (headM (b : Int) (p : Int) (n : Int)) :: (ini.map lineM ++ [anyM y]).map V.str)) := upd_same
  generalize upd H l (.lst ((linesM (b : Int) (p : Int) (n : Int) ini y).map V.str)) = H1 at s1 e1 ⊢
  have hi3 := hini.2
  refine ⟨l, _, _, rfl, SqL.of e1, ?_, fun l2 n2 => ?_⟩
  · simp
    omega
  have s2 : Same H (upd H1 l2 (.lst ((ini.map lineM ++ [anyM y]).map V.str))) := s1.trans (same_lay n2)
  have e2 : (upd H1 l2 (.lst ((ini.map lineM ++ [anyM y]).map V.str))) l2 = some (.lst ((ini.map lineM ++ [anyM y]).map V.str)) := upd_same
  generalize upd H1 l2 (.lst ((ini.map lineM ++ [anyM y]).map V.str)) = H2 at s2 e2 ⊢
  have hl := len_head b p n hb (by omega) hn
  refine ⟨_, rfl, ⟨_, rfl⟩, _, _, rfl, rfl, by decide +kernel, ?_, fun l3 n3 => ?_⟩
  · rw [sizeLine_eq]; omega
  rw [split_head b p n hb (by omega) hn]
  have s3 : Same H2 (upd H2 l3 (.lst ([Str.ofString "drive", numS (b : Int), Str.ofString "blocks", numS (p : Int), Str.ofString "pages", numS (n : Int), Str.ofString "names"].map V.str))) := same_lay n3
  have e3 : (upd H2 l3 (.lst ([Str.ofString "drive", numS (b : Int), Str.ofString "blocks", numS (p : Int), Str.ofString "pages", numS (n : Int), Str.ofString "names"].map V.str))) l3 = some (.lst [.str (Str.ofString "drive"), .str (numS (b : Int)), .str (Str.ofString "blocks"), .str (numS (p : Int)), .str (Str.ofString "pages"), .str (numS (n : Int)), .str (Str.ofString "names")]) := upd_same
  generalize upd H2 l3 (.lst ([Str.ofString "drive", numS (b : Int), Str.ofString "blocks", numS (p : Int), Str.ofString "pages", numS (n : Int), Str.ofString "names"].map V.str)) = H3 at s3 e3 ⊢
  refine ⟨_, rfl, l3, _, rfl, .inl (SqL.of e3), rfl, _, rfl, iteF ?_⟩
  refine ⟨_, rfl, true, .inl ⟨_, SqL.of (s3 _ _ e2), ?_⟩, iteF ?_⟩
  · cases ini <;> rfl
  unfold tNext
  dsimp only
  refine seq_asg ?_
  refine ⟨_, rfl, l3, _, _, _, _, _, _, _, rfl, SqL.of e3, fun l4 n4 => ?_⟩
  have e4 : (upd H3 l4 (.lst [.str (numS (b : Int)), .str (numS (p : Int)), .str (numS (n : Int))])) l4 = some (.lst ([numS (b : Int), numS (p : Int), numS (n : Int)].map V.str)) := upd_same
  have s4 : Same H3 (upd H3 l4 (.lst [.str (numS (b : Int)), .str (numS (p : Int)), .str (numS (n : Int))])) := same_lay n4
  generalize upd H3 l4 (.lst [.str (numS (b : Int)), .str (numS (p : Int)), .str (numS (n : Int))]) = H4 at s4 e4 ⊢
  refine ⟨l4, rfl, ⟨_, SqL.of e4⟩, fun D nD => ?_⟩
  refine lc_list (K := K) (a := l4) (xs := [numS (b : Int), numS (p : Int), numS (n : Int)].map V.str) (fun i H' => Same H4 H' ∧ H' D = some (.lst (([(b : Int), (p : Int), (n : Int)].take i).map V.int))) ⟨same_lay nD, by rw [upd_same]; rfl⟩ (fun i H' _ q => SqL.of (q.1 _ _ e4)) ?_ ?_
  · rintro i x H' hi ⟨q1, q2⟩
    obtain ⟨j, ex, ej, hj, hi3⟩ : ∃ j : Nat, x = .str (numS (j : Int)) ∧ [(b : Int), (p : Int), (n : Int)][i]? = some (j : Int) ∧ j < 26 ∧ i < 3 := by
      match i, hi with
      | 0, hi => exact ⟨b, (Option.some.inj hi).symm, rfl, hb, by decide⟩
      | 1, hi => exact ⟨p, (Option.some.inj hi).symm, rfl, by omega, by decide⟩
      | 2, hi => exact ⟨n, (Option.some.inj hi).symm, rfl, hn, by decide⟩
    subst ex
    refine ⟨rfl, ?_⟩
    unfold tYes
    dsimp only
    rw [if_pos rfl]
    refine ⟨_, rfl, j, rfl, hj, _, q2, ?_, ?_, ?_⟩
    · rw [List.length_map, List.length_take, sizeLine_eq]; omega
    · exact fun c o z => by rw [upd_ne (ne_of_none z nD)]; exact q1 _ _ z
    · rw [upd_same, List.take_add_one, ej]
      simp
  rintro H5 ⟨s5, e5⟩
  have s6 : Same H2 H5 := s3.trans (s4.trans s5)
  refine ⟨D, _, rfl, SqL.of e5, rfl, _, _, rfl, _, _, rfl, _, _, rfl, rfl, ?_⟩
  refine seq_asg (cb_read (cons_read ?_))
  refine ⟨_, rfl, l2, rfl, ⟨_, SqL.of (s6 _ _ e2)⟩, fun D2 nD2 => ?_⟩
  refine lc_list (K := K) (a := l2) (xs := (ini.map lineM ++ [anyM y]).map V.str) (fun i H' => ∃ rs : List Addr, Same H5 H' ∧ H' D2 = some (.lst (rs.map V.ref)) ∧ rs.length = i ∧ Paired (fun (a : Addr) (r : RowD) => H' a = some (.tup [.int r.1, .str r.2])) rs ((ini ++ [((p : Int), y)]).take i))
    ⟨[], same_lay nD2, upd_same, rfl, .nil⟩ (fun i H' _ q => ?_) ?_ ?_
  · obtain ⟨_, q, _⟩ := q
    exact SqL.of (q _ _ (s6 _ _ e2))
  · rintro i x H' hi ⟨rs, q1, q2, q3, q4⟩
    have hil : i < 5 := by
      have z := (List.getElem?_eq_some_iff.mp hi).1
      simp at z
      omega
    obtain ⟨ln, r, rfl, er, hln⟩ := lines_of p ini hini y hy i x hi
    refine ⟨rfl, ?_⟩
    unfold tYes
    dsimp only
    rw [if_pos rfl]
    refine ⟨_, rfl, _, rfl, p, ln, r, rfl, hp, hln, fun H6 q s7 nq hq => ⟨rs.map V.ref, s7 _ _ q2, ?_, rs ++ [q], ?_, ?_, ?_, ?_⟩⟩
    · rw [List.length_map, q3, sizeLine_eq]; omega
    · exact fun c o z => by rw [upd_ne (ne_of_none z nD2)]; exact s7 _ _ (q1 _ _ z)
    · rw [upd_same]; simp
    · rw [List.length_append, q3]; rfl
    · rw [List.take_add_one, er]
      have nqD : q ≠ D2 := fun z => by rw [z, q2] at nq; cases nq
      refine paired_snoc (Paired.mapP q4 fun a r z => ?_) (by rw [upd_ne nqD]; exact hq)
      have na : a ≠ D2 := fun z2 => by rw [z2, q2] at z; cases z
      rw [upd_ne na]
      exact s7 _ _ z
  rintro H6 ⟨rs, q1, q2, q3, q4⟩
  have eT : (ini ++ [((p : Int), y)]).take ((ini.map lineM ++ [anyM y]).map V.str).length = ini ++ [((p : Int), y)] := List.take_of_length_le (by simp)
  rw [eT] at q4
  refine ⟨D2, _, rfl, .inl ⟨SqL.of q2, fun t nt => ?_⟩⟩
  have s8 : Same H (upd H6 t (.tup (rs.map V.ref))) := s2.trans (s6.trans (q1.trans (same_lay nt)))
  have hR : RowsAt K (upd H6 t (.tup (rs.map V.ref))) t (ini ++ [((p : Int), y)]) := ⟨rs, SqT.of upd_same, Paired.mapP q4 fun a r z => SqT.of (same_lay nt _ _ z)⟩
  generalize upd H6 t (.tup (rs.map V.ref)) = H7 at s8 hR ⊢
  refine ⟨_, rfl, _, rfl, _, rfl, _, rfl, b, p, n, t, ini, y, rfl, hb, by omega, hn, hR, hini, hy, fun H8 s9 => ?_⟩
  refine ⟨_, rfl, rfl, _, rfl, ?_⟩
  have z : (!decide (V.str (textM (b : Int) (p : Int) (n : Int) ini y) = V.str (textM (b : Int) (p : Int) (n : Int) ini y))) = false := by rw [decide_eq_true rfl]; rfl
  show (if (!decide (V.str (textM (b : Int) (p : Int) (n : Int) ini y) = V.str (textM (b : Int) (p : Int) (n : Int) ini y))) = true then _ else _)
  rw [z]
  refine iteF ⟨_, rfl, _, rfl, _, rfl, _, rfl, by show 4 ≤ sizeLine; decide, fun q nq => ?_⟩
  exact k _ t q (s8.trans (s9.trans (same_lay nq))) (hR.same (s9.trans (same_lay nq))) upd_same
end
end K2

set_option Elab.async false
set_option linter.all false
set_option maxRecDepth 100000
set_option maxHeartbeats 4000000
namespace K2
open PySem PySem.Spec PyProof.Rows L2 G1 G2
abbrev sEq : Stmt := inClass sDrv 9
abbrev sStr : Stmt := inClass sDrv 10
abbrev sLen : Stmt := inClass sDrv 11
theorem scEq : FnScope ["self", "other"] ["self", "other"] (defScope sEq) := ⟨rfl, rfl, rfl, by decide +kernel, rfl, by decide +kernel, by decide +kernel⟩
theorem scStr : FnScope ["self"] ["self"] (defScope sStr) := ⟨rfl, rfl, rfl, by decide +kernel, rfl, by decide +kernel, by decide +kernel⟩
theorem scLen : FnScope ["self"] ["self"] (defScope sLen) := ⟨rfl, rfl, rfl, by decide +kernel, rfl, by decide +kernel, by decide +kernel⟩
def DrvAt (K : PySem.W.Frag) (C : Addr) (H : Hp) (x : Addr) (b p n : Nat) (ini : List RowD) (y : Str) : Prop := ∃ dx t, H x = some (.ins C dx (drvF b p n t (textM (b : Int) (p : Int) (n : Int) ini y))) ∧ RowsAt K H t (ini ++ [((p : Int), y)])
theorem DrvAt.same {K : PySem.W.Frag} {C x : Addr} {H H' : Hp} {b p n : Nat} {ini : List RowD} {y : Str} (h : DrvAt K C H x b p n ini y) (s : Same H H') : DrvAt K C H' x b p n ini y := by
  obtain ⟨dx, t, h1, h2⟩ := h
  exact ⟨dx, t, s _ _ h1, h2.same s⟩
/-- what follows the making of a drive -/
def Made (K : PySem.W.Frag) (C : Addr) (H : Hp) (Q : VK) (b p n : Nat) (ini : List RowD) (y : Str) : Prop := ∀ (H' : Hp) (x : Addr), Same H H' → H x = none → DrvAt K C H' x b p n ini y → Q (.ref x) H'
theorem make_read {K : PySem.W.Frag} {C : Addr} {H : Hp} {Q : VK} {E : XK} {b p n : Nat} {ini : List RowD} {y : Str} {t : Addr} (d : DP b p n ini y) (hR : RowsAt K H t (ini ++ [((p : Int), y)])) (k : Made K C H Q b p n ini y) :
    ∀ x dx, H x = none → H dx = none → dx ≠ x → spIni K C (.ref x :: ([.int (b : Int), .int (p : Int), .int (n : Int), .ref t] ++ [])) (upd (upd H dx (.own x)) x (.ins C dx [])) (fun v H2 => v = .non ∧ Q (.ref x) H2) E := by
  intro x dx nx nd ne
  have sm : Same H (upd (upd H dx (.own x)) x (.ins C dx [])) := fun c o e => by rw [upd_ne (ne_of_none e nx), upd_ne (ne_of_none e nd)]; exact e
  refine ⟨x, dx, t, b, p, n, ini, y, rfl, upd_same, d, hR.same sm, fun H' kp e => ⟨rfl, ?_⟩⟩
  have sm2 : Same H H' := fun c o e => kp c o (sm c o e) (ne_of_none e nx)
  exact k H' x sm2 nx ⟨dx, t, e, hR.same sm2⟩
/-! ### promises -/
def spEqD (K : PySem.W.Frag) (C : Addr) : Sp := fun vs H Q _ => ∃ (a dx : Addr) (fs : List (Str × V)) (t1 : Str) (v : V), vs = [.ref a, v] ∧ H a = some (.ins C dx fs) ∧ fs.lookup (Str.ofString "kept_text") = some (V.str t1) ∧
  ((∃ (a2 dx2 : Addr) (fs2 : List (Str × V)) (t2 : Str), v = .ref a2 ∧ H a2 = some (.ins C dx2 fs2) ∧ fs2.lookup (Str.ofString "kept_text") = some (V.str t2) ∧ Q (.bl (decide (V.str t1 = V.str t2))) H) ∨ (Bare K H v ∧ Q (.bl false) H))
def spStrD (C : Addr) : Sp := fun vs H Q _ => ∃ (a dx : Addr) (fs : List (Str × V)) (t1 : Str), vs = [.ref a] ∧ H a = some (.ins C dx fs) ∧ fs.lookup (Str.ofString "kept_text") = some (V.str t1) ∧ Q (.str t1) H
def spLenD (K : PySem.W.Frag) (C : Addr) : Sp := fun vs H Q _ => ∃ (a dx t : Addr) (fs : List (Str × V)) (xs : List V), vs = [.ref a] ∧ H a = some (.ins C dx fs) ∧ fs.lookup (Str.ofString "kept_rows") = some (.ref t) ∧ SqT K H t xs ∧ Q (.int xs.length) H
/-- isinstance(.., Drive) -/
structure DKit (K : PySem.W.Frag) (C : Addr) : Prop where
  own : PySem.W.kitOne K (.ref C) (.ref C) = some true
  non : PySem.W.kitOne K (.type "NoneType") (.ref C) = some false
  bl : PySem.W.kitOne K (.type "bool") (.ref C) = some false
  int : PySem.W.kitOne K (.type "int") (.ref C) = some false
  str : PySem.W.kitOne K (.type "str") (.ref C) = some false
  tup : PySem.W.kitOne K (.type "tuple") (.ref C) = some false
  lst : PySem.W.kitOne K (.type "list") (.ref C) = some false
  ha : PySem.W.findIn K (.ref C) "__class__" = some (some (.builtin "object.__class__"))
  hn : PySem.W.specialIn K (.builtin "object.__class__") "__get__" = some (some (.builtin "getset_descriptor.__get__"))
  htk : PySem.W.takesIn K (.builtin "object.__class__") = some true
  hm : PySem.W.mroIn K C (.type "object") = some true
theorem lst_ty {K : PySem.W.Frag} {H : Hp} {a : Addr} {xs : List V} (h : SqL K H a xs) : TyX K H (.ref a) (.type "list") := by
  rcases h with (h | ⟨o, h⟩) | ⟨o, its, n, hk, hc, _⟩
  · exact .base (.lst h)
  · exact .base (.frz h)
  · exact .kList hk hc
theorem bare_ty {K : PySem.W.Frag} {C : Addr} {H : Hp} {v : V} (D : DKit K C) (h : Bare K H v) : ∃ t, TyX K H v t ∧ PySem.W.kitOne K t (.ref C) = some false := by
  cases h with
  | non => exact ⟨_, .base .non, D.non⟩
  | bl b => exact ⟨_, .base (.bl b), D.bl⟩
  | int i => exact ⟨_, .base (.int i), D.int⟩
  | str x => exact ⟨_, .base (.str x), D.str⟩
  | tup h => exact ⟨_, tup_ty h, D.tup⟩
  | lst h => exact ⟨_, lst_ty h, D.lst⟩
section
variable {P : Program} {w : World} {K : PySem.W.Frag} {mg : Str → Option Value} {base : Heap}
theorem ok_eq {f C : Addr} {fd : FuncData} (F : Fun K "__eq__" "Drive.__eq__" sEq f fd) (B : Bl mg) (T : DCls K C) (D : DKit K C) (gD : mg "Drive" = some (.ref C)) : FnOk P w K mg base CX0 1 f fd ["self", "other"] (spEqD K C) := by
  refine F.ok scEq (fun vs H Q E h => ?_) (fun cdv A outer s H vs Q E hr h => ?_)
  · obtain ⟨a, dx, fs, t1, v, rfl, _⟩ := h
    rfl
  obtain ⟨a, dx, fs, t1, v, rfl, ha, h1, h2⟩ := h
  refine ⟨_, pss_one (ps_ret (pe_and (pe_callB call_isi (by rfl) B.isi bIsi (pa_cons (pv 1) (pa_cons (pe_glob (v := .ref C) rfl gD rfl) pa_nil)))
    (pe_one (pe_cmpR op_eq (pe_fld (pv 0) rfl) (pe_fld (pv 1) rfl) (nomark _))))), ?_⟩
  rcases h2 with ⟨a2, dx2, fs2, t2, rfl, ha2, h3, k⟩ | ⟨hb, k⟩
  · refine ⟨_, rfl, _, _, _, _, true, rfl, .own C, .base (.ins ha2 T.cl D.ha D.hn D.htk D.hm), D.own, true, rfl, iteT ?_⟩
    exact ⟨_, rfl, a, C, dx, fs, _, rfl, ha, T.cl, T.nt, h1, _, rfl, a2, C, dx2, fs2, _, rfl, ha2, T.cl, T.nt, h3, rfl, k⟩
  · obtain ⟨t, ty, kf⟩ := bare_ty D hb
    exact ⟨_, rfl, _, _, _, _, false, rfl, .own C, ty, kf, false, rfl, iteF k⟩
theorem ok_str {f C : Addr} {fd : FuncData} (F : Fun K "__str__" "Drive.__str__" sStr f fd) (B : Bl mg) (T : DCls K C) : FnOk P w K mg base CX0 1 f fd ["self"] (spStrD C) := by
  refine F.ok scStr (fun vs H Q E h => ?_) (fun cdv A outer s H vs Q E hr h => ?_)
  · obtain ⟨a, dx, fs, t1, rfl, _⟩ := h
    rfl
  obtain ⟨a, dx, fs, t1, rfl, ha, h1, k⟩ := h
  refine ⟨_, pss_one (ps_ret (pe_callTy SkE.call_str_str (by rfl) B.str bStr (pa_cons (pe_fld (pv 0) rfl) pa_nil))), ?_⟩
  exact ⟨_, rfl, a, C, dx, fs, _, rfl, ha, T.cl, T.nt, h1, _, rfl, k⟩
theorem ok_len {f C : Addr} {fd : FuncData} (F : Fun K "__len__" "Drive.__len__" sLen f fd) (B : Bl mg) (T : DCls K C) : FnOk P w K mg base CX0 1 f fd ["self"] (spLenD K C) := by
  refine F.ok scLen (fun vs H Q E h => ?_) (fun cdv A outer s H vs Q E hr h => ?_)
  · obtain ⟨a, dx, t, fs, xs, rfl, _⟩ := h
    rfl
  obtain ⟨a, dx, t, fs, xs, rfl, ha, h1, hT, k⟩ := h
  refine ⟨_, pss_one (ps_ret (pe_callB call_len_seq (by rfl) B.len PySem.boot_len (pa_cons (pe_fld (pv 0) rfl) pa_nil))), ?_⟩
  exact ⟨_, rfl, a, C, dx, fs, _, rfl, ha, T.cl, T.nr, h1, t, _, rfl, .inr hT, k⟩
end
end K2

set_option Elab.async false
set_option linter.all false
set_option maxRecDepth 100000
set_option maxHeartbeats 4000000
namespace K2
open PySem PySem.Spec PyProof.Rows L2 G1 G2
abbrev sShp : Stmt := topS 40
abbrev sTab : Stmt := topS 41
theorem scShp : FnScope ["_law_pool_here", "_law_many_here", "_law_size", "_law_room"] ["_law_pool_here"] (defScope sShp) := ⟨rfl, rfl, rfl, by decide +kernel, rfl, by decide +kernel, by decide +kernel⟩
theorem scTab : FnScope ["_law_pool_here", "_law_size", "_law_tones", "_law_some", "_law_k"] ["_law_pool_here", "_law_size"] (defScope sTab) := ⟨rfl, rfl, rfl, by decide +kernel, rfl, by decide +kernel, by decide +kernel⟩
/-- the pool at p, and nothing else of what was there, has changed -/
def Stp (p : Addr) (H H' : Hp) : Prop := (∃ i j n : Int, H' p = some (.lst [.int i, .int j, .int n]) ∧ 0 ≤ i ∧ i < 2 ^ 31) ∧ ∀ b o, b ≠ p → H b = some o → H' b = some o
def PoolAt (H : Hp) (p : Addr) : Prop := ∃ i j n : Int, H p = some (.lst [.int i, .int j, .int n]) ∧ 0 ≤ i ∧ i < 2 ^ 31
theorem Stp.trans {p : Addr} {H H1 H2 : Hp} (a : Stp p H H1) (b : Stp p H1 H2) : Stp p H H2 := ⟨b.1, fun c o n e => b.2 c o n (a.2 c o n e)⟩
theorem Stp.upd {p : Addr} {H : Hp} {i j n : Int} (h0 : 0 ≤ i) (h1 : i < 2 ^ 31) : Stp p H (L2.upd H p (.lst [.int i, .int j, .int n])) := ⟨⟨i, j, n, upd_same, h0, h1⟩, fun b o hb e => by rw [upd_ne hb]; exact e⟩
theorem Stp.of {p : Addr} {H H' : Hp} (hp : PoolAt H p) (s : Same H H') : Stp p H H' := by
  obtain ⟨i, j, n, e, h0, h1⟩ := hp
  exact ⟨⟨i, j, n, s _ _ e, h0, h1⟩, fun b o _ z => s _ _ z⟩
theorem Stp.tup {K : PySem.W.Frag} {p a : Addr} {H H' : Hp} {xs : List V} (s : Stp p H H') (hp : PoolAt H p) (h : SqT K H a xs) : SqT K H' a xs := by
  obtain ⟨i, j, n, e, _⟩ := hp
  rcases h with (h | ⟨o, h⟩) | h
  · exact .inl (.inl (s.2 _ _ (ne_of h e (by intro z; cases z)) h))
  · exact .inl (.inr ⟨o, s.2 _ _ (ne_of h e (by intro z; cases z)) h⟩)
  · exact .inr h
theorem Stp.rows {K : PySem.W.Frag} {p t : Addr} {H H' : Hp} {rows : List RowD} (s : Stp p H H') (hp : PoolAt H p) (h : RowsAt K H t rows) : RowsAt K H' t rows := by
  obtain ⟨rs, h1, h2⟩ := h
  exact ⟨rs, s.tup hp h1, Paired.mapP h2 fun _ _ z => s.tup hp z⟩
theorem draw_read {H : Hp} {Q : VK} {E : XK} {p : Addr} {m : Int} (hp : PoolAt H p) (m0 : 0 < m) (m1 : m < 2 ^ 60) (k : ∀ (H' : Hp) (r : Int), Stp p H H' → 0 ≤ r → r < m → Q (.int r) H') : spDraw [.ref p, .int m] H Q E := by
  obtain ⟨i, j, n, e, h0, h1⟩ := hp
  exact ⟨p, m, i, j, n, rfl, e, h0, h1, m0, m1, fun i' j' n' r a0 a1 r0 r1 => k _ r (Stp.upd a0 a1) r0 r1⟩
theorem draw_c {σ : L2.St} {H : Hp} {Q : VK} {p : Addr} {i : Nat} {m : Int} (hσ : σ[i]? = some (some (.ref p))) (hp : PoolAt H p) (m0 : 0 < m) (m1 : m < 2 ^ 60) (k : ∀ (H' : Hp) (r : Int), Stp p H H' → 0 ≤ r → r < m → Q (.int r) H') :
    tCall spDraw [] E0 (tCons (tVar i) (tCons (tC (.int m)) tNil)) σ H Q := ⟨_, hσ, draw_read (E := E0) (m := m) hp m0 m1 k⟩
theorem draw_v {σ : L2.St} {H : Hp} {Q : VK} {p : Addr} {i j : Nat} {m : Int} (hσ : σ[i]? = some (some (.ref p))) (hj : σ[j]? = some (some (.int m))) (hp : PoolAt H p) (m0 : 0 < m) (m1 : m < 2 ^ 60) (k : ∀ (H' : Hp) (r : Int), Stp p H H' → 0 ≤ r → r < m → Q (.int r) H') :
    tCall spDraw [] E0 (tCons (tVar i) (tCons (tVar j) tNil)) σ H Q := ⟨_, hσ, _, hj, draw_read (E := E0) (m := m) hp m0 m1 k⟩
theorem draw_t {σ : L2.St} {H : Hp} {Q : VK} {p : Addr} {i : Nat} {m : Int} {te : TE} (hσ : σ[i]? = some (some (.ref p))) (ht : ∀ R : VK, R (.int m) H → te σ H R) (hp : PoolAt H p) (m0 : 0 < m) (m1 : m < 2 ^ 60) (k : ∀ (H' : Hp) (r : Int), Stp p H H' → 0 ≤ r → r < m → Q (.int r) H') :
    tCall spDraw [] E0 (tCons (tVar i) (tCons te tNil)) σ H Q := ⟨_, hσ, ht _ (draw_read (E := E0) (m := m) hp m0 m1 k)⟩
/-! ### displays of pairs -/
def tPair (q : Int × Int) : TE := tTup (tCons (tC (.int q.1)) (tCons (tC (.int q.2)) tNil))
def taPairs : List (Int × Int) → TA
  | [] => tNil
  | q :: l => tCons (tPair q) (taPairs l)
theorem pairs_read {σ : L2.St} : ∀ (l : List (Int × Int)) (H : Hp) (Q : List V → Hp → Prop), (∀ (H' : Hp) (as : List Addr), Same H H' → Paired (fun (a : Addr) (q : Int × Int) => H' a = some (.tup [.int q.1, .int q.2])) as l → Q (as.map V.ref) H') → taPairs l σ H Q
  | [], H, Q, k => k H [] (Same.refl H) .nil
  | q :: l, H, Q, k => by
    refine cons_read (tup_read (cons_read (c_read (cons_read (c_read (nil_read ⟨by show 2 ≤ sizeLine; decide, fun a na => ?_⟩))))))
    refine pairs_read l _ _ fun H' as s h => ?_
    refine k H' (a :: as) ((same_lay na).trans s) (.cons (s _ _ upd_same) h)
def shapesL : List (Int × Int) := [(3, 2), (3, 3), (4, 2), (3, 4), (4, 3), (3, 5), (5, 2), (4, 2)]
/-- a shape that the law draws -/
def Shp (b p n : Nat) : Prop := (b, p) ∈ [(3, 2), (3, 3), (3, 4), (3, 5), (4, 2), (4, 3), (5, 2)] ∧ 1 ≤ n ∧ n ≤ p * (b - 1)
theorem Shp.sz {b p n : Nat} (h : Shp b p n) : Sz b p n := by
  obtain ⟨h1, h2, h3⟩ := h
  simp only [List.mem_cons, List.mem_nil_iff, or_false, Prod.mk.injEq] at h1
  rcases h1 with ⟨rfl, rfl⟩ | ⟨rfl, rfl⟩ | ⟨rfl, rfl⟩ | ⟨rfl, rfl⟩ | ⟨rfl, rfl⟩ | ⟨rfl, rfl⟩ | ⟨rfl, rfl⟩ <;> exact ⟨by omega, by omega, by omega, by omega, h2, h3⟩
theorem Shp.few {b p n : Nat} (h : Shp b p n) : cntM b p n ≤ 2000 := by
  obtain ⟨h1, h2, h3⟩ := h
  refine cnt_small (b, p) h1 n ?_
  simp only [List.mem_cons, List.mem_nil_iff, or_false, Prod.mk.injEq] at h1
  rcases h1 with ⟨rfl, rfl⟩ | ⟨rfl, rfl⟩ | ⟨rfl, rfl⟩ | ⟨rfl, rfl⟩ | ⟨rfl, rfl⟩ | ⟨rfl, rfl⟩ | ⟨rfl, rfl⟩ <;> omega
theorem shape_at : ∀ q ∈ shapesL, ∃ b p : Nat, q = ((b : Int), (p : Int)) ∧ (b, p) ∈ [(3, 2), (3, 3), (3, 4), (3, 5), (4, 2), (4, 3), (5, 2)] := by
  intro q hq
  simp only [shapesL, List.mem_cons, List.mem_nil_iff, or_false] at hq
  rcases hq with rfl | rfl | rfl | rfl | rfl | rfl | rfl | rfl
  · exact ⟨3, 2, rfl, by decide⟩
  · exact ⟨3, 3, rfl, by decide⟩
  · exact ⟨4, 2, rfl, by decide⟩
  · exact ⟨3, 4, rfl, by decide⟩
  · exact ⟨4, 3, rfl, by decide⟩
  · exact ⟨3, 5, rfl, by decide⟩
  · exact ⟨5, 2, rfl, by decide⟩
  · exact ⟨4, 2, rfl, by decide⟩
def spShp (K : PySem.W.Frag) : Sp := fun vs H Q _ => ∃ pl : Addr, vs = [.ref pl] ∧ PoolAt H pl ∧ ∀ (H' : Hp) (q : Addr) (b p n : Nat), Stp pl H H' → Shp b p n → H' q = some (.tup [.int (b : Int), .int (p : Int), .int (n : Int)]) → Q (.ref q) H'
section
variable {P : Program} {w : World} {K : PySem.W.Frag} {mg : Str → Option Value} {base : Heap}
theorem ok_shp {f fD : Addr} {fd fdD : FuncData} (F : Fun K "_law_shape" "_law_shape" sShp f fd) (GD : FnOk P w K mg base CX0 1 fD fdD ["_law_pool_here", "_law_many_here"] spDraw) (kD : PySem.W.keepIn K (.ref fD) = true) (bD : Binds K fdD ["_law_pool_here", "_law_many_here"] [])
    (gD : mg "_law_draw" = some (.ref fD)) : FnOk P w K mg base CX0 2 f fd ["_law_pool_here"] (spShp K) := by
  refine F.ok scShp (fun vs H Q E h => ?_) (fun cdv A outer s H vs Q E hr h => ?_)
  · obtain ⟨pl, rfl, _⟩ := h
    rfl
  obtain ⟨pl, rfl, hp, k⟩ := h
  refine ⟨_, pss_cons (ps_asg (pe_ix ix_list (pe_lst (pa_cons (pe_tup (pa_cons pe_int (pa_cons pe_int pa_nil))) (pa_cons (pe_tup (pa_cons pe_int (pa_cons pe_int pa_nil))) (pa_cons (pe_tup (pa_cons pe_int (pa_cons pe_int pa_nil))) (pa_cons (pe_tup (pa_cons pe_int (pa_cons pe_int pa_nil)))
      (pa_cons (pe_tup (pa_cons pe_int (pa_cons pe_int pa_nil))) (pa_cons (pe_tup (pa_cons pe_int (pa_cons pe_int pa_nil))) (pa_cons (pe_tup (pa_cons pe_int (pa_cons pe_int pa_nil))) (pa_cons (pe_tup (pa_cons pe_int (pa_cons pe_int pa_nil))) pa_nil)))))))))
      (pe_call GD hr (by rfl) gD kD bD .nil pass0 (pa_cons (pv 0) (pa_cons pe_int pa_nil))) (fun _ _ => rfl)) (pg_tup rfl (pgs_cons (pg_name (i := 1) scShp.nd rfl (.inl rfl)) (pgs_cons (pg_name (i := 2) scShp.nd rfl (.inl rfl)) pgs_nil))))
    (pss_cons (ps_set (i := 3) scShp.nd rfl (.inl rfl) (pe_op op_mul (pv 2) (pe_op op_sub (pv 1) pe_int)))
    (pss_cons (ps_if (pt_cmpR op_eq (pe_call GD hr (by rfl) gD kD bD .nil pass0 (pa_cons (pv 0) (pa_cons pe_int pa_nil))) pe_int (nomark _)) (pss_one (ps_ret (pe_tup (pa_cons (pv 1) (pa_cons (pv 2) (pa_cons (pv 3) pa_nil)))))) pss_nil)
    (pss_one (ps_ret (pe_tup (pa_cons (pv 1) (pa_cons (pv 2) (pa_cons (pe_op op_add pe_int (pe_call GD hr (by rfl) gD kD bD .nil pass0 (pa_cons (pv 0) (pa_cons (pv 3) pa_nil)))) pa_nil)))))))), ?_⟩
  refine seq_asg (op_read (lst_read ?_))
  refine pairs_read shapesL H _ fun H1 as s1 hP => ⟨by rw [List.length_map, Paired.length hP, sizeLine_eq]; decide, fun l nl => ?_⟩
  have s2 : Same H1 (upd H1 l (.lst (as.map V.ref))) := same_lay nl
  have S2 : Stp pl H (upd H1 l (.lst (as.map V.ref))) := Stp.of hp (s1.trans s2)
  have hl : (upd H1 l (.lst (as.map V.ref))) l = some (.lst (as.map V.ref)) := upd_same
  have hP2 : Paired (fun (a : Addr) (q : Int × Int) => (upd H1 l (.lst (as.map V.ref))) a = some (.tup [.int q.1, .int q.2])) as shapesL := Paired.mapP hP fun _ _ z => s2 _ _ z
  have npl : l ≠ pl := by
    obtain ⟨i, j, n, e, _⟩ := hp
    exact fun z => by rw [z] at nl; rw [s1 _ _ e] at nl; cases nl
  generalize upd H1 l (.lst (as.map V.ref)) = H2 at s2 S2 hl hP2 ⊢
  refine draw_c (p := pl) rfl S2.1 (by decide) (by decide) fun H3 r S3 r0 r1 => ?_
  have hlen : as.length = 8 := Paired.length hP
  obtain ⟨a, ha⟩ : ∃ a, as[r.toNat]? = some a := ⟨as[r.toNat]'(by omega), List.getElem?_eq_getElem (by omega)⟩
  obtain ⟨q, hq1, hq2⟩ := paired_get hP2 ha
  obtain ⟨b, p, rfl, hbp⟩ := shape_at q (List.mem_of_getElem? hq1)
  have hl3 := S3.2 _ _ npl hl
  have ea : r = ((r.toNat : Nat) : Int) := by omega
  refine ⟨l, _, r, .ref a, rfl, rfl, SqL.of hl3, ?_, ?_⟩
  · rw [ea]
    exact atI_nat (by rw [List.getElem?_map, ha]; rfl)
  have ha3 : H3 a = some (.tup [.int (b : Int), .int (p : Int)]) := by
    refine S3.2 _ _ ?_ hq2
    obtain ⟨i, j, n, e, _⟩ := S2.1
    exact ne_of hq2 e (by intro z; cases z)
  refine ⟨a, _, rfl, SqT.of ha3, rfl, _, _, rfl, _, _, rfl, rfl, ?_⟩
  have S4 := S2.trans S3
  have hz : 3 ≤ b ∧ b ≤ 6 ∧ 2 ≤ p ∧ p ≤ 5 := by
    simp only [List.mem_cons, List.mem_nil_iff, or_false, Prod.mk.injEq] at hbp
    omega
  obtain ⟨z1, z2, z3, z4⟩ := hz
  have eroom : (p : Int) * ((b : Int) - 1) = ((p * (b - 1) : Nat) : Int) := by rw [Int.natCast_mul, Int.natCast_sub (by omega)]; rfl
  have hroom : 1 ≤ p * (b - 1) := Nat.mul_pos (by omega) (by omega)
  have hroom2 : p * (b - 1) ≤ 5 * 5 := Nat.mul_le_mul z4 (by omega)
  refine ⟨_, rfl, _, rfl, _, _, rfl, rfl, _, _, rfl, rfl, .inl ⟨by omega, by omega⟩, ?_⟩
  refine draw_c (p := pl) rfl S4.1 (by decide) (by decide) fun H5 r2 S5 r20 r21 => ?_
  refine ⟨rfl, _, rfl, ite2 (fun _ => ?_) (fun _ => ?_)⟩
  · refine ⟨_, rfl, _, rfl, _, rfl, by show 3 ≤ sizeLine; decide, fun q nq => ?_⟩
    refine k _ q b p (p * (b - 1)) ((S4.trans S5).trans (Stp.of S5.1 (same_lay nq))) ⟨hbp, hroom, Nat.le_refl _⟩ ?_
    rw [upd_same, ← eroom]
  · refine ⟨_, rfl, _, rfl, ?_⟩
    refine draw_v (p := pl) rfl rfl S5.1 (by rw [eroom]; omega) (by rw [eroom]; omega) fun H6 r3 S6 r30 r31 => ?_
    rw [eroom] at r31
    refine ⟨_, _, rfl, rfl, by show 3 ≤ sizeLine; decide, fun q nq => ?_⟩
    refine k _ q b p (1 + r3.toNat) ((S4.trans S5).trans (S6.trans (Stp.of S6.1 (same_lay nq)))) ⟨hbp, by omega, by omega⟩ ?_
    rw [upd_same]
    have e : ((1 + r3.toNat : Nat) : Int) = 1 + r3 := by omega
    rw [e]
end
end K2

set_option Elab.async false
set_option linter.all false
set_option maxRecDepth 100000
set_option maxHeartbeats 4000000
namespace K2
open PySem PySem.Spec PyProof.Rows L2 G1 G2
def spTab (K : PySem.W.Frag) : Sp := fun vs H Q _ => ∃ (pl : Addr) (p : Nat), vs = [.ref pl, .int (p : Int)] ∧ PoolAt H pl ∧ p < 26 ∧ ∀ (H' : Hp) (t : Addr) (ini : List RowD) (y : Str), Stp pl H H' → RowsAt K H' t (ini ++ [((p : Int), y)]) → IniOk p ini → y ∈ wordsL → Q (.ref t) H'
theorem tone_at (r : Int) (h0 : 0 ≤ r) (h1 : r < 4) : ∃ w ∈ wordsL, atI (wordsL.map V.str) r = some (.str w) := by
  have c : r = 0 ∨ r = 1 ∨ r = 2 ∨ r = 3 := by omega
  rcases c with rfl | rfl | rfl | rfl
  · exact ⟨Str.ofString "oldest", by decide, rfl⟩
  · exact ⟨Str.ofString "youngest", by decide, rfl⟩
  · exact ⟨Str.ofString "least", by decide, rfl⟩
  · exact ⟨Str.ofString "most", by decide, rfl⟩
theorem pool_ne {H : Hp} {pl a : Addr} {xs : List V} (hp : PoolAt H pl) (ha : H a = some (.tup xs)) : a ≠ pl := by
  obtain ⟨i, j, n, e, _⟩ := hp
  exact ne_of ha e (by intro z; cases z)
theorem pool_new {H : Hp} {pl a : Addr} (hp : PoolAt H pl) (ha : H a = none) : a ≠ pl := by
  obtain ⟨i, j, n, e, _⟩ := hp
  exact fun z => by rw [z, e] at ha; cases ha
section
variable {P : Program} {w : World} {K : PySem.W.Frag} {mg : Str → Option Value} {base : Heap}
theorem ok_tab {f fD : Addr} {fd fdD : FuncData} (F : Fun K "_law_table" "_law_table" sTab f fd) (B : Bl mg) (GD : FnOk P w K mg base CX0 1 fD fdD ["_law_pool_here", "_law_many_here"] spDraw) (kD : PySem.W.keepIn K (.ref fD) = true) (bD : Binds K fdD ["_law_pool_here", "_law_many_here"] [])
    (gD : mg "_law_draw" = some (.ref fD)) : FnOk P w K mg base CX0 2 f fd ["_law_pool_here", "_law_size"] (spTab K) := by
  refine F.ok scTab (fun vs H Q E h => ?_) (fun cdv A outer s H vs Q E hr h => ?_)
  · obtain ⟨pl, p, rfl, _⟩ := h
    rfl
  obtain ⟨pl, p, rfl, hp, hp26, k⟩ := h
  refine ⟨_, pss_cons (ps_set (i := 2) scTab.nd rfl (.inl rfl) (pe_lst (pa_cons pe_str (pa_cons pe_str (pa_cons pe_str (pa_cons pe_str pa_nil))))))
    (pss_cons (ps_set (i := 3) scTab.nd rfl (.inl rfl) (pe_lst pa_nil))
    (pss_cons (ps_for PassesOwn.never rfl (pi_range1 (by rfl) B.range (pa_cons (pe_call GD hr (by rfl) gD kD bD .nil pass0 (pa_cons (pv 0) (pa_cons pe_int pa_nil))) pa_nil)) (pg_name (i := 4) scTab.nd rfl (.inl rfl))
      (pss_one (ps_expr (pe_bm PySem.F.plainAttrs_list PySem.F.slot_list_append PySem.F.type_list_append mt_append (pv 3) (pa_cons (pe_tup (pa_cons (pe_call GD hr (by rfl) gD kD bD .nil pass0 (pa_cons (pv 0) (pa_cons (pe_op op_add (pv 1) pe_int) pa_nil)))
        (pa_cons (pe_ix ix_list (pv 2) (pe_call GD hr (by rfl) gD kD bD .nil pass0 (pa_cons (pv 0) (pa_cons pe_int pa_nil))) (fun _ _ => rfl)) pa_nil))) pa_nil)))))
    (pss_cons (ps_expr (pe_bm PySem.F.plainAttrs_list PySem.F.slot_list_append PySem.F.type_list_append mt_append (pv 3) (pa_cons (pe_tup (pa_cons (pv 1)
        (pa_cons (pe_ix ix_list (pv 2) (pe_call GD hr (by rfl) gD kD bD .nil pass0 (pa_cons (pv 0) (pa_cons pe_int pa_nil))) (fun _ _ => rfl)) pa_nil))) pa_nil)))
    (pss_one (ps_ret (pe_callTy call_tuple_of (by rfl) B.tup bTup (pa_cons (pv 3) pa_nil))))))), ?_⟩
  refine seq_asg ⟨by show 4 ≤ sizeLine; decide, fun tn ntn => ?_⟩
  have s1 : Same H (upd H tn (.lst (wordsL.map V.str))) := same_lay ntn
  have e1 : (upd H tn (.lst (wordsL.map V.str))) tn = some (.lst (wordsL.map V.str)) := upd_same
  show tSeq _ _ _ _ (upd H tn (.lst (wordsL.map V.str)))
  generalize upd H tn (.lst (wordsL.map V.str)) = H1 at s1 e1 ⊢
  refine seq_asg ⟨by show 0 ≤ sizeLine; decide, fun sm nsm => ?_⟩
  have nts : tn ≠ sm := ne_of_none e1 nsm
  have s2 : Same H (upd H1 sm (.lst [])) := s1.trans (same_lay nsm)
  have e2 : (upd H1 sm (.lst [])) sm = some (.lst (([] : List Addr).map V.ref)) := upd_same
  have e3 : (upd H1 sm (.lst [])) tn = some (.lst (wordsL.map V.str)) := by rw [upd_ne nts]; exact e1
  have nH : H sm = none := s1.free nsm
  generalize upd H1 sm (.lst []) = H2 at s2 e2 e3 ⊢
  have ntp : tn ≠ pl := pool_new hp ntn
  have nsp : sm ≠ pl := pool_new hp nH
  refine seq_for fun D' hD1 hD2 => ?_
  refine draw_c (p := pl) rfl (Stp.of hp s2).1 (by decide) (by decide) fun H3 m S3 m0 m1 => ⟨m, rfl, by omega, by omega, ?_⟩
  have S0 : Stp pl H H3 := (Stp.of hp s2).trans S3
  refine for_range (lo := 0) (n := m.toNat) (fun i σ H' => ∃ (x4 : Option V) (rs : List Addr) (rows : List RowD), σ = [some (.ref pl), some (.int (p : Int)), some (.ref tn), some (.ref sm), x4] ∧ Stp pl H H' ∧ H' tn = some (.lst (wordsL.map V.str)) ∧ H' sm = some (.lst (rs.map V.ref)) ∧
      Paired (fun (a : Addr) (r : RowD) => H' a = some (.tup [.int r.1, .str r.2])) rs rows ∧ rows.length = i ∧ ∀ r ∈ rows, RowOk p r) ⟨none, [], [], rfl, S0, S3.2 _ _ ntp e3, S3.2 _ _ nsp e2, .nil, rfl, fun _ z => nomatch z⟩ ?_ ?_
  · rintro i σ H' hi ⟨x4, rs, rows, rfl, S4, q1, q2, q3, q4, q5⟩
    refine ⟨_, rfl, .inl ⟨rfl, _, SqL.of q2⟩, ?_⟩
    refine cons_read (tup_read (cons_read ?_))
    refine draw_t (p := pl) (m := (p : Int) + 1) rfl (fun R q => ⟨_, rfl, _, _, rfl, rfl, q⟩) S4.1 (by omega) (by omega) fun H5 l S5 l0 l1 => ?_
    refine cons_read (op_read ⟨_, rfl, ?_⟩)
    refine draw_c (p := pl) rfl S5.1 (by decide) (by decide) fun H6 r S6 r0 r1 => ?_
    have S56 := S5.trans S6
    obtain ⟨x, hx, ex⟩ := tone_at r r0 r1
    refine ⟨tn, _, r, _, rfl, rfl, SqL.of (S56.2 _ _ ntp q1), ex, ?_⟩
    refine nil_read ⟨by show 2 ≤ sizeLine; decide, fun a na => ?_⟩
    have s7 : Same H6 (upd H6 a (.tup [.int l, .str x])) := same_lay na
    have hs6 := S56.2 _ _ nsp q2
    refine ⟨sm, _, _, rfl, rfl, s7 _ _ hs6, ?_, _, rs ++ [a], rows ++ [(l, x)], rfl, ?_, ?_, ?_, ?_, ?_, ?_⟩
    · have hl2 := Paired.length q3
      rw [List.length_map, sizeLine_eq]
      omega
    · have S7 : Stp pl H (upd H6 a (.tup [.int l, .str x])) := S4.trans (S56.trans (Stp.of S56.1 s7))
      obtain ⟨i1, j1, n1, z1, z2, z3⟩ := S7.1
      refine ⟨⟨i1, j1, n1, by rw [upd_ne (Ne.symm nsp)]; exact z1, z2, z3⟩, fun c o hc e => ?_⟩
      rw [upd_ne (ne_of_none e nH)]
      exact S7.2 c o hc e
    · rw [upd_ne nts]; exact s7 _ _ (S56.2 _ _ ntp q1)
    · rw [upd_same]; simp
    · have nas : a ≠ sm := fun z => by rw [z, hs6] at na; cases na
      refine paired_snoc (Paired.mapP q3 fun c r z => ?_) (by rw [upd_ne nas, upd_same])
      have hcp := pool_ne S4.1 z
      have hcs : c ≠ sm := ne_of z q2 (by intro z; cases z)
      rw [upd_ne hcs]
      exact s7 _ _ (S56.2 _ _ hcp z)
    · rw [List.length_append, q4]; rfl
    · intro r' hr'
      rcases List.mem_append.mp hr' with hr' | hr'
      · exact q5 r' hr'
      · rw [List.mem_singleton.mp hr']
        exact ⟨l0, by omega, hx⟩
  · rintro σ H' ⟨x4, rs, rows, rfl, S4, q1, q2, q3, q4, q5⟩
    rw [hD1]
    refine ⟨_, rfl, .inl ⟨rfl, _, SqL.of q2⟩, ?_⟩
    refine cons_read (tup_read (cons_read ⟨_, rfl, cons_read (op_read ⟨_, rfl, ?_⟩)⟩))
    refine draw_c (p := pl) rfl S4.1 (by decide) (by decide) fun H6 r S6 r0 r1 => ?_
    obtain ⟨x, hx, ex⟩ := tone_at r r0 r1
    refine ⟨tn, _, r, _, rfl, rfl, SqL.of (S6.2 _ _ ntp q1), ex, ?_⟩
    refine nil_read ⟨by show 2 ≤ sizeLine; decide, fun a na => ?_⟩
    have s7 : Same H6 (upd H6 a (.tup [.int (p : Int), .str x])) := same_lay na
    have hs6 := S6.2 _ _ nsp q2
    have hl2 := Paired.length q3
    refine ⟨sm, _, _, rfl, rfl, s7 _ _ hs6, ?_, ?_⟩
    · rw [List.length_map, sizeLine_eq]
      omega
    have S7 : Stp pl H (upd H6 a (.tup [.int (p : Int), .str x])) := S4.trans (S6.trans (Stp.of S6.1 s7))
    have hsm : (upd (upd H6 a (.tup [.int (p : Int), .str x])) sm (.lst (rs.map V.ref ++ [.ref a]))) sm = some (.lst ((rs ++ [a]).map V.ref)) := by rw [upd_same]; simp
    have S8 : Stp pl H (upd (upd H6 a (.tup [.int (p : Int), .str x])) sm (.lst (rs.map V.ref ++ [.ref a]))) := by
      obtain ⟨i1, j1, n1, z1, z2, z3⟩ := S7.1
      refine ⟨⟨i1, j1, n1, by rw [upd_ne (Ne.symm nsp)]; exact z1, z2, z3⟩, fun c o hc e => ?_⟩
      rw [upd_ne (ne_of_none e nH)]
      exact S7.2 c o hc e
    have hPr : Paired (fun (c : Addr) (r : RowD) => (upd (upd H6 a (.tup [.int (p : Int), .str x])) sm (.lst (rs.map V.ref ++ [.ref a]))) c = some (.tup [.int r.1, .str r.2])) (rs ++ [a]) (rows ++ [((p : Int), x)]) := by
      have nas : a ≠ sm := fun z => by rw [z, hs6] at na; cases na
      refine paired_snoc (Paired.mapP q3 fun c r z => ?_) (by rw [upd_ne nas, upd_same])
      have hcp := pool_ne S4.1 z
      have hcs : c ≠ sm := ne_of z q2 (by intro z; cases z)
      rw [upd_ne hcs]
      exact s7 _ _ (S6.2 _ _ hcp z)
    generalize upd (upd H6 a (.tup [.int (p : Int), .str x])) sm (.lst (rs.map V.ref ++ [.ref a])) = H8 at hsm S8 hPr ⊢
    refine ⟨_, rfl, sm, _, rfl, .inl ⟨SqL.of hsm, fun t nt => ?_⟩⟩
    refine k _ t rows x (S8.trans (Stp.of S8.1 (same_lay nt))) ⟨rs ++ [a], SqT.of upd_same, Paired.mapP hPr fun c r z => SqT.of (same_lay nt _ _ z)⟩ ⟨q5, by omega⟩ hx
end
end K2

set_option Elab.async false
set_option linter.all false
set_option maxRecDepth 100000
set_option maxHeartbeats 4000000
namespace K2
open PySem PySem.Spec PyProof.Rows L2 G1 G2
def rowD (r : RowD) : PyData := .tuple [.int r.1, .str r.2]
def seenD (b p n : Int) (rows : List RowD) (x : Str) : PyData := .list [.int b, .int p, .int n, .tuple (rows.map rowD), .int (rows.length : Int), .str x]
/-- a bundle of what repr and == ask of a datum -/
structure Fine (d : PyData) (k : Nat) : Prop where
  sh : d.showable = true
  ls : d.leavesShort 1921 = true
  wt : d.weight ≤ k
  dp : d.depth ≤ 3
  cl : d.canLay0 = true
  eq : PyData.eqv d d = true
  hd : d.hasDict = false
theorem fine_row : ∀ j : Nat, j < 26 → ∀ w ∈ wordsL, (rowD ((j : Int), w)).showable = true ∧ (rowD ((j : Int), w)).leavesShort 1921 = true ∧ (rowD ((j : Int), w)).weight ≤ 30 ∧ (rowD ((j : Int), w)).depth ≤ 1 ∧ (rowD ((j : Int), w)).canLay0 = true ∧
    PyData.eqv (rowD ((j : Int), w)) (rowD ((j : Int), w)) = true ∧ (rowD ((j : Int), w)).hasDict = false := by decide +kernel
theorem fine_int : ∀ j : Nat, j < 26 → (PyData.int (j : Int)).showable = true ∧ (PyData.int (j : Int)).leavesShort 1921 = true ∧ (PyData.int (j : Int)).weight ≤ 30 := by decide +kernel
theorem fine_rows (p : Nat) (hp : p < 26) : ∀ rows : List RowD, (∀ r ∈ rows, RowOk p r) → PyData.showableAll (rows.map rowD) = true ∧ PyData.leavesShortAll 1921 (rows.map rowD) = true ∧ PyData.weightAll (rows.map rowD) ≤ rows.length * 31 ∧ PyData.depthAll (rows.map rowD) ≤ 1 ∧
    PyData.canLayAll0 (rows.map rowD) = true ∧ PyData.eqvAll (rows.map rowD) (rows.map rowD) = true ∧ PyData.hasDictAll (rows.map rowD) = false
  | [], _ => by simp [PyData.showableAll, PyData.leavesShortAll, PyData.weightAll, PyData.depthAll, PyData.canLayAll0, PyData.eqvAll, PyData.hasDictAll]
  | (l, w) :: rows, h => by
    obtain ⟨a1, a2, a3⟩ := h _ (List.mem_cons_self ..)
    dsimp only at a1 a2 a3
    obtain ⟨j, rfl⟩ : ∃ j : Nat, l = (j : Int) := ⟨l.toNat, by omega⟩
    obtain ⟨c1, c2, c3, c4, c5, c6, c7⟩ := fine_row j (by omega) w a3
    obtain ⟨d1, d2, d3, d4, d5, d6, d7⟩ := fine_rows p hp rows fun r hr => h r (List.mem_cons_of_mem _ hr)
    rw [List.map_cons]
    refine ⟨?_, ?_, ?_, ?_, ?_, ?_, ?_⟩
    · rw [PyData.showableAll, c1, d1]; rfl
    · rw [PyData.leavesShortAll, c2, d2]; rfl
    · rw [PyData.weightAll, List.length_cons]; omega
    · rw [PyData.depthAll]; omega
    · rw [PyData.canLayAll0, c5, d5]; rfl
    · rw [PyData.eqvAll, c6, d6]; rfl
    · rw [PyData.hasDictAll, c7, d7]; rfl
/-! ### the text is plain -/
def Plain (x : Str) : Prop := ∀ c ∈ TL.tl x, c < 128
theorem plain_app {x y : Str} (hx : Plain x) (hy : Plain y) : Plain (x ++ y) := by
  intro c hc
  rw [TL.tl_append] at hc
  rcases List.mem_append.mp hc with h | h
  · exact hx c h
  · exact hy c h
theorem plain_join {sep : Str} (hs : Plain sep) : ∀ l : List Str, (∀ x ∈ l, Plain x) → Plain (Str.join sep l)
  | [], _ => by show Plain Str.empty; unfold Plain; decide +kernel
  | [x], h => h x (List.mem_singleton.mpr rfl)
  | x :: z :: r, h => by
    show Plain (x ++ sep ++ Str.join sep (z :: r))
    exact plain_app (plain_app (h x (List.mem_cons_self ..)) hs) (plain_join hs (z :: r) fun y hy => h y (List.mem_cons_of_mem _ hy))
theorem plain_num : ∀ i : Nat, i < 26 → ∀ c ∈ TL.tl (numS (i : Int)), c < 128 := by decide +kernel
theorem plain_word : ∀ w ∈ wordsL, ∀ c ∈ TL.tl w, c < 128 := by decide +kernel
theorem plain_text (b p n : Nat) (hb : b < 26) (hp : p < 26) (hn : n < 26) (ini : List RowD) (hi : IniOk p ini) (y : Str) (hy : y ∈ wordsL) : Plain (textM (b : Int) (p : Int) (n : Int) ini y) := by
  unfold textM
  rw [TL.join_eq]
  have e0 : Plain Str.empty := by unfold Plain; decide +kernel
  refine plain_join (by unfold Plain; decide +kernel) _ fun x hx => ?_
  unfold linesM at hx
  rcases List.mem_cons.mp hx with rfl | hx
  · unfold headM
    exact plain_app (plain_app (plain_app (plain_app (plain_app (plain_app (plain_app e0 (by unfold Plain; decide +kernel)) (plain_num b hb)) (by unfold Plain; decide +kernel)) (plain_num p hp)) (by unfold Plain; decide +kernel)) (plain_num n hn)) (by unfold Plain; decide +kernel)
  rcases List.mem_append.mp hx with hx | hx
  · obtain ⟨⟨l, w⟩, hr, rfl⟩ := List.mem_map.mp hx
    obtain ⟨a1, a2, a3⟩ := hi.1 _ hr
    dsimp only at a1 a2 a3
    obtain ⟨j, rfl⟩ : ∃ j : Nat, l = (j : Int) := ⟨l.toNat, by omega⟩
    unfold lineM
    exact plain_app (plain_app (plain_app (plain_app e0 (by unfold Plain; decide +kernel)) (plain_num j (by omega))) (by unfold Plain; decide +kernel)) (plain_word w a3)
  · rw [List.mem_singleton.mp hx]
    unfold anyM
    exact plain_app (by unfold Plain; decide +kernel) (plain_word y hy)
theorem fine_str {x : Str} (h : Plain x) : (PyData.str x).showable = true ∧ (PyData.str x).leavesShort 1921 = true ∧ (PyData.str x).canLay0 = true := by
  refine ⟨by simp [PyData.showable], ?_, ?_⟩
  · simp only [PyData.leavesShort, List.all_eq_true, decide_eq_true_eq]
    intro c hc
    have := h c hc
    omega
  · simp only [PyData.canLay0]
    unfold PyData.strOk
    rw [← Array.all_toList, List.all_eq_true]
    intro c hc
    have := h c hc
    exact decide_eq_true (by omega)
theorem fine_seen (b p n : Nat) (hb : b < 26) (hp : p < 26) (hn : n < 26) (rows : List RowD) (hr : ∀ r ∈ rows, RowOk p r) (h4 : rows.length ≤ 4) (x : Str) (hx : Plain x) (hl : x.length ≤ 205) : Fine (seenD (b : Int) (p : Int) (n : Int) rows x) 1000 := by
  obtain ⟨d1, d2, d3, d4, d5, d6, d7⟩ := fine_rows p hp rows hr
  obtain ⟨s1, s2, s3⟩ := fine_str hx
  obtain ⟨b1, b2, b3⟩ := fine_int b hb
  obtain ⟨p1, p2, p3⟩ := fine_int p hp
  obtain ⟨n1, n2, n3⟩ := fine_int n hn
  obtain ⟨l1, l2, l3⟩ := fine_int rows.length (by omega)
  unfold seenD
  refine ⟨?_, ?_, ?_, ?_, ?_, ?_, ?_⟩
  · simp only [PyData.showable, PyData.showableAll] at b1 p1 n1 l1 s1 d1 ⊢
    simp only [b1, p1, n1, l1, d1, Bool.and_self]
  · simp only [PyData.leavesShort, PyData.leavesShortAll] at b2 p2 n2 l2 s2 d2 ⊢
    simp only [b2, p2, n2, l2, s2, d2, Bool.and_self]
  · have hx2 : (PyData.str x).weight ≤ 205 := by simp only [PyData.weight]; exact hl
    rw [PyData.weight]
    simp only [PyData.weightAll]
    have ht : (PyData.tuple (rows.map rowD)).weight = PyData.weightAll (rows.map rowD) := by rw [PyData.weight]
    omega
  · rw [PyData.depth]
    simp only [PyData.depthAll, PyData.depth]
    omega
  · simp only [PyData.canLay0, PyData.canLayAll0] at s3 d5 ⊢
    simp only [s3, d5, Bool.and_self]
  · simp only [PyData.eqv, PyData.eqvAll, d6, beq_self_eq_true, Bool.and_self]
  · simp only [PyData.hasDict, PyData.hasDictAll, d7, Bool.or_self]
theorem gd_fine {d : PyData} (h : Fine d 1000) : Gd d := by
  refine ⟨h.sh, ?_, by have := h.dp; omega⟩
  have z := PyData.shown_le 1921 (by decide) d h.ls
  have := h.wt
  rw [sizeLine_eq]
  omega
theorem tg_fine {K : PySem.W.Frag} {H : Hp} {v : V} {d : PyData} (h : Fine d 1000) (hd : Dp K H v d) : Tg K H v d := by
  refine .dp hd ?_ h.eq h.hd
  unfold SeqAt.shaped
  rw [h.cl, Bool.true_and, decide_eq_true_eq]
  have := h.dp
  omega
theorem dp_rows {K : PySem.W.Frag} {H : Hp} : ∀ {rs : List Addr} {rows : List RowD}, Paired (fun (a : Addr) (r : RowD) => SqT K H a [.int r.1, .str r.2]) rs rows → DpAll K H (rs.map V.ref) (rows.map rowD)
  | _, _, .nil => .nil
  | _, _, .cons r t => .cons (.tup r (.cons (.int _) (.cons (.str _) .nil))) (dp_rows t)
theorem dp_tab {K : PySem.W.Frag} {H : Hp} {t : Addr} {rows : List RowD} (h : RowsAt K H t rows) : Dp K H (.ref t) (.tuple (rows.map rowD)) := by
  obtain ⟨rs, h1, h2⟩ := h
  exact .tup h1 (dp_rows h2)
end K2

set_option Elab.async false
set_option linter.all false
set_option maxRecDepth 100000
set_option maxHeartbeats 4000000
namespace K2
open PySem PySem.Spec PyProof.Rows L2 G1 G2 ClX
structure NotF (K : PySem.W.Frag) (C : Addr) : Prop where
  own : PySem.W.notFirst K C (.ref C) = true
  non : PySem.W.notFirst K C (.type "NoneType") = true
  bl : PySem.W.notFirst K C (.type "bool") = true
  int : PySem.W.notFirst K C (.type "int") = true
  str : PySem.W.notFirst K C (.type "str") = true
  tup : PySem.W.notFirst K C (.type "tuple") = true
  lst : PySem.W.notFirst K C (.type "list") = true
section
variable {P : Program} {w : World} {K : PySem.W.Frag} {mg : Str → Option Value} {base : Heap} {C : Addr}
theorem bare_not {H : Hp} {v : V} (F : NotF K C) (h : Bare K H v) : Beside K C H v := by
  cases h with
  | non => exact ⟨_, .base .non, F.non⟩
  | bl b => exact ⟨_, .base (.bl b), F.bl⟩
  | int i => exact ⟨_, .base (.int i), F.int⟩
  | str x => exact ⟨_, .base (.str x), F.str⟩
  | tup h => exact ⟨_, tup_ty h, F.tup⟩
  | lst h => exact ⟨_, lst_ty h, F.lst⟩
theorem drv_not {H : Hp} {x : Addr} {b p n : Nat} {ini : List RowD} {y : Str} (D : DKit K C) (T : DCls K C) (F : NotF K C) (h : DrvAt K C H x b p n ini y) : Beside K C H (.ref x) := by
  obtain ⟨dx, t, h1, _⟩ := h
  exact ⟨_, .base (.ins h1 T.cl D.ha D.hn D.htk D.hm), F.own⟩
theorem eq_in {H : Hp} {Q : VK} {E : XK} {x z : Addr} {b p n b' p' n' : Nat} {ini ini' : List RowD} {y y' : Str} (hx : DrvAt K C H x b p n ini y) (hz : DrvAt K C H z b' p' n' ini' y')
    (k : Q (.bl (decide (V.str (textM (b : Int) (p : Int) (n : Int) ini y) = V.str (textM (b' : Int) (p' : Int) (n' : Int) ini' y')))) H) : spEqD K C [.ref x, .ref z] H Q E := by
  obtain ⟨dx, t, h1, _⟩ := hx
  obtain ⟨dz, u, h2, _⟩ := hz
  exact ⟨x, dx, _, _, _, rfl, h1, rfl, .inl ⟨z, dz, _, _, rfl, h2, rfl, k⟩⟩
theorem eq_drv {H : Hp} {Q : VK} {E : XK} {x z : Addr} {b p n b' p' n' : Nat} {ini ini' : List RowD} {y y' : Str} (D : DKit K C) (T : DCls K C) (F : NotF K C) (hx : DrvAt K C H x b p n ini y) (hz : DrvAt K C H z b' p' n' ini' y')
    (k : Q (.bl (decide (V.str (textM (b : Int) (p : Int) (n : Int) ini y) = V.str (textM (b' : Int) (p' : Int) (n' : Int) ini' y')))) H) : rEqO K C (spEqD K C) E (.ref x) (.ref z) H Q := by
  have h := hx
  obtain ⟨dx, t, h1, _⟩ := h
  exact ⟨x, dx, _, rfl, h1, drv_not D T F hz, eq_in hx hz ⟨_, rfl, k⟩⟩
theorem ne_drv {H : Hp} {Q : VK} {E : XK} {x z : Addr} {b p n b' p' n' : Nat} {ini ini' : List RowD} {y y' : Str} (D : DKit K C) (T : DCls K C) (F : NotF K C) (hx : DrvAt K C H x b p n ini y) (hz : DrvAt K C H z b' p' n' ini' y')
    (k : Q (.bl (!decide (V.str (textM (b : Int) (p : Int) (n : Int) ini y) = V.str (textM (b' : Int) (p' : Int) (n' : Int) ini' y')))) H) : rNeO K C (spEqD K C) E (.ref x) (.ref z) H Q := by
  have h := hx
  obtain ⟨dx, t, h1, _⟩ := h
  exact ⟨x, dx, _, rfl, h1, drv_not D T F hz, eq_in hx hz ⟨_, rfl, k⟩⟩
theorem str_same (x : Str) : decide (V.str x = V.str x) = true := decide_eq_true rfl
theorem Shp.dp {b p n : Nat} {ini : List RowD} {y : Str} (h : Shp b p n) (hi : IniOk p ini) (hy : y ∈ wordsL) : DP b p n ini y := ⟨h.sz, h.few, hi, hy⟩
theorem nil_ini (p : Nat) : IniOk p [] := ⟨fun _ z => (nomatch z), Nat.zero_le _⟩
end
end K2

set_option Elab.async false
set_option linter.all false
set_option maxRecDepth 100000
set_option maxHeartbeats 4000000
/-! Texts of drives are equal only where all is the same. -/
namespace K2
open PySem PySem.Spec PyProof.Rows L2 G1 G2 ClX
theorem line_inj : ∀ l : Nat, l < 6 → ∀ w ∈ wordsL, ∀ l' : Nat, l' < 6 → ∀ w' ∈ wordsL, lineM ((l : Int), w) = lineM ((l' : Int), w') → l = l' ∧ w = w' := by decide +kernel
theorem any_inj : ∀ w ∈ wordsL, ∀ w' ∈ wordsL, anyM w = anyM w' → w = w' := by decide +kernel
theorem num_inj {i j : Nat} (hi : i < 26) (hj : j < 26) (h : numS (i : Int) = numS (j : Int)) : i = j := by
  have a := (num_facts i hi).2.2
  have b := (num_facts j hj).2.2
  rw [h, b] at a
  injection a with a
  omega
theorem lines_inj {p p' : Nat} (hp : p < 6) (hp' : p' < 6) : ∀ (l l' : List RowD), (∀ r ∈ l, RowOk p r) → (∀ r ∈ l', RowOk p' r) → l.map lineM = l'.map lineM → l = l'
  | [], [], _, _, _ => rfl
  | [], _ :: _, _, _, h => by simp at h
  | _ :: _, [], _, _, h => by simp at h
  | (i, w) :: l, (j, w') :: l', h1, h2, h => by
    rw [List.map_cons, List.map_cons] at h
    injection h with ha hb
    obtain ⟨a1, a2, a3⟩ := h1 _ (List.mem_cons_self ..)
    obtain ⟨b1, b2, b3⟩ := h2 _ (List.mem_cons_self ..)
    dsimp only at a1 a2 a3 b1 b2 b3
    obtain ⟨i, rfl⟩ : ∃ k : Nat, i = (k : Int) := ⟨i.toNat, by omega⟩
    obtain ⟨j, rfl⟩ : ∃ k : Nat, j = (k : Int) := ⟨j.toNat, by omega⟩
    obtain ⟨e1, e2⟩ := line_inj i (by omega) w a3 j (by omega) w' b3 ha
    rw [e1, e2, lines_inj hp hp' l l' (fun r hr => h1 r (List.mem_cons_of_mem _ hr)) (fun r hr => h2 r (List.mem_cons_of_mem _ hr)) hb]
theorem text_inj {b p n b' p' n' : Nat} {ini ini' : List RowD} {y y' : Str} (d : DP b p n ini y) (d' : DP b' p' n' ini' y') (h : textM (b : Int) (p : Int) (n : Int) ini y = textM (b' : Int) (p' : Int) (n' : Int) ini' y') :
    (b = b' ∧ p = p' ∧ n = n') ∧ ini = ini' ∧ y = y' := by
  have z := d.sz
  have z' := d'.sz
  have b1 := z.b1
  have p1 := z.p1
  have b1' := z'.b1
  have p1' := z'.p1
  have e := congrArg (fun t => Txt.split t (Str.ofString "\n")) h
  try dsimp only at e
  rw [split_text b p n (by omega) (by omega) z.n25 ini d.ini y d.y, split_text b' p' n' (by omega) (by omega) z'.n25 ini' d'.ini y' d'.y] at e
  unfold linesM at e
  injection e with e1 e2
  have f := congrArg (fun t => Txt.split t (Str.ofString " ")) e1
  try dsimp only at f
  rw [split_head b p n (by omega) (by omega) z.n25, split_head b' p' n' (by omega) (by omega) z'.n25] at f
  injection f with _ f
  injection f with f1 f
  injection f with _ f
  injection f with f2 f
  injection f with _ f
  injection f with f3 f
  have hl : (ini.map lineM).length = (ini'.map lineM).length := by
    have q := congrArg List.length e2
    rw [List.length_append, List.length_append] at q
    exact Nat.add_right_cancel q
  obtain ⟨g1, g2⟩ := List.append_inj e2 hl
  injection g2 with g2
  exact ⟨⟨num_inj (by omega) (by omega) f1, num_inj (by omega) (by omega) f2, num_inj z.n25 z'.n25 f3⟩, lines_inj (by omega) (by omega) _ _ d.ini.1 d'.ini.1 g1, any_inj y d.y y' d'.y g2⟩
/-! ### and so it is with == of shapes and tables -/
def shpD (b p n : Nat) : PyData := .tuple [.int (b : Int), .int (p : Int), .int (n : Int)]
theorem eqv_shp (b p n b' p' n' : Nat) : PyData.eqv (shpD b p n) (shpD b' p' n') = decide (b = b' ∧ p = p' ∧ n = n') := by
  unfold shpD
  rw [Bool.eq_iff_iff]
  simp [PyData.eqv, PyData.eqvAll, and_assoc]
  omega
theorem eqv_rows : ∀ l l' : List RowD, PyData.eqvAll (l.map rowD) (l'.map rowD) = decide (l = l')
  | [], [] => by simp [PyData.eqvAll]
  | [], _ :: _ => by simp [PyData.eqvAll]
  | _ :: _, [] => by simp [PyData.eqvAll]
  | (i, w) :: l, (j, w') :: l' => by
    rw [List.map_cons, List.map_cons, PyData.eqvAll, eqv_rows l l', Bool.eq_iff_iff]
    simp [rowD, PyData.eqv, PyData.eqvAll]
theorem eqv_tab (l l' : List RowD) : PyData.eqv (.tuple (l.map rowD)) (.tuple (l'.map rowD)) = decide (l = l') := by
  rw [PyData.eqv, eqv_rows]
theorem tab_shaped {p : Nat} (hp : p < 26) (rows : List RowD) (h : ∀ r ∈ rows, RowOk p r) : SeqAt.shaped (.tuple (rows.map rowD)) = true := by
  obtain ⟨d1, d2, d3, d4, d5, d6, d7⟩ := fine_rows p hp rows h
  unfold SeqAt.shaped
  rw [PyData.canLay0, d5, Bool.true_and, decide_eq_true_eq, PyData.depth]
  omega
end K2

set_option Elab.async false
set_option linter.all false
set_option maxRecDepth 100000
set_option maxHeartbeats 4000000
/-! What is seen of a drive is plain. -/
namespace K2
open PySem PySem.Spec PyProof.Rows L2 G1 G2 ClX
theorem hex_plain : ∀ c : Nat, c < 128 → ∀ d ∈ (Nat.toDigits 16 c).map Char.toNat, d < 128 := by decide +kernel
theorem char_plain {q c : Nat} (hq : q < 128) (hc : c < 128) : ∀ d ∈ Builtin.Str.reprChar q c, d < 128 := by
  intro d hd
  unfold Builtin.Str.reprChar at hd
  dsimp only at hd
  have hh : ∀ k, ∀ d ∈ List.replicate k 48 ++ (Nat.toDigits 16 c).map Char.toNat, d < 128 := by
    intro k d hd
    rcases List.mem_append.mp hd with h | h
    · rw [(List.mem_replicate.mp h).2]; decide
    · exact hex_plain c hc d h
  split at hd
  · simp at hd; omega
  split at hd
  · simp at hd; omega
  split at hd
  · simp at hd; omega
  split at hd
  · simp at hd; omega
  split at hd
  · simp at hd; omega
  split at hd
  · rcases List.mem_append.mp hd with h | h
    · simp at h; omega
    · exact hh _ d h
  · omega
theorem fold_plain {q : Nat} (hq : q < 128) : ∀ (l : List Nat) (acc : Array Nat), (∀ c ∈ l, c < 128) → (∀ c ∈ acc.toList, c < 128) → ∀ c ∈ (l.foldl (fun out c => out ++ (Builtin.Str.reprChar q c).toArray) acc).toList, c < 128
  | [], acc, _, h, c, hc => h c hc
  | x :: l, acc, h1, h2, c, hc => by
    refine fold_plain hq l _ (fun c hc => h1 c (List.mem_cons_of_mem _ hc)) (fun d hd => ?_) c hc
    simp only [Array.toList_append, List.mem_append] at hd
    rcases hd with hd | hd
    · exact h2 d hd
    · exact char_plain hq (h1 x (List.mem_cons_self ..)) d hd
theorem plain_repr {x : Str} (h : Plain x) : Plain (reprText x) := by
  have hq : reprQuote x < 128 := by
    unfold reprQuote
    split <;> decide
  intro c hc
  have e : TL.tl (reprText x) = ((x.cps.toList.foldl (fun out c => out ++ (Builtin.Str.reprChar (reprQuote x) c).toArray) #[reprQuote x]).push (reprQuote x)).toList := by
    unfold TL.tl reprText
    rw [← Array.foldl_toList]
  rw [e, Array.toList_push] at hc
  rcases List.mem_append.mp hc with hc | hc
  · exact fold_plain hq x.cps.toList _ h (fun d hd => by rw [List.mem_singleton.mp hd]; exact hq) c hc
  · rw [List.mem_singleton.mp hc]; exact hq
theorem plain_from : ∀ (ts : List Str) (k : Nat) (acc : Str), Plain acc → (∀ t ∈ ts, Plain t) → Plain (textFrom k acc ts)
  | [], _, acc, h, _ => h
  | t :: ts, k, acc, h, h2 => by
    refine plain_from ts (k + 1) _ (plain_app (plain_app h ?_) (h2 t (List.mem_cons_self ..))) fun x hx => h2 x (List.mem_cons_of_mem _ hx)
    split <;> (unfold Plain; decide +kernel)
theorem plain_list {ts : List Str} (h : ∀ t ∈ ts, Plain t) : Plain (listText ts) := plain_app (plain_from ts 0 _ (by unfold Plain; decide +kernel) h) (by unfold Plain; decide +kernel)
theorem plain_tup {ts : List Str} (h : ∀ t ∈ ts, Plain t) : Plain (tupleText ts) := by
  unfold tupleText
  refine plain_app (plain_app (by unfold Plain; decide +kernel) (plain_join (by unfold Plain; decide +kernel) ts h)) ?_
  split <;> (unfold Plain; decide +kernel)
theorem plain_int : ∀ i : Nat, i < 26 → ∀ c ∈ TL.tl ((PyData.int (i : Int)).shown), c < 128 := by decide +kernel
theorem plain_rows {p : Nat} (hp : p < 26) : ∀ rows : List RowD, (∀ r ∈ rows, RowOk p r) → ∀ t ∈ PyData.shownAll (rows.map rowD), Plain t
  | [], _, t, h => by simp [PyData.shownAll] at h
  | (l, w) :: rows, h, t, ht => by
    rw [List.map_cons, PyData.shownAll] at ht
    obtain ⟨a1, a2, a3⟩ := h _ (List.mem_cons_self ..)
    dsimp only at a1 a2 a3
    obtain ⟨j, rfl⟩ : ∃ j : Nat, l = (j : Int) := ⟨l.toNat, by omega⟩
    rcases List.mem_cons.mp ht with rfl | ht
    · unfold rowD
      rw [PyData.shown]
      refine plain_tup fun t ht => ?_
      rw [PyData.shownAll, PyData.shownAll, PyData.shownAll] at ht
      rcases List.mem_cons.mp ht with rfl | ht
      · exact plain_int j (by omega)
      · rw [List.mem_singleton.mp ht, PyData.shown]
        exact plain_repr (plain_word w a3)
    · exact plain_rows hp rows (fun r hr => h r (List.mem_cons_of_mem _ hr)) t ht
end K2

set_option Elab.async false
set_option linter.all false
set_option maxRecDepth 100000
set_option maxHeartbeats 4000000
/-! try with several clauses «except C as e», all with one name. -/
namespace G3
open PySem PySem.Spec PyProof.Rows L2
/-- behind a suite the name is gone -/
def offE (i : Nat) (D : Ends) : Ends := { nx := fun τ G => D.nx (τ.set i none) G, rt := D.rt, bk := fun τ G => D.bk (τ.set i none) G, ct := fun τ G => D.ct (τ.set i none) G }
abbrev SuT := Addr → Value → Option Addr → TS
def wManyA (K : PySem.W.Frag) (i : Nat) (Wo : WX) (D : Ends) : List (Value × SuT) → WX
  | [] => Wo
  | (c, ts) :: r => fun cls d τ G => ∃ b, PySem.W.exmOne K cls c = some b ∧ (b = true → ∀ ea, G ea = none → ts ea cls d (offE i D) (τ.set i (some (.ref ea))) G) ∧ (b = false → wManyA K i Wo D r cls d τ G)
inductive HdsA (Y : Cx) (nm : Str) : List ExceptHandler → List (Value × SuT) → Prop
  | nil : HdsA Y nm [] []
  | cons {x : Str} {c : Value} {ts : SuT} {b₀ : Stmt} {su : List Stmt} {np hp : Pos} {hds : List ExceptHandler} {l : List (Value × SuT)} (hc : Names Y x c)
      (hsu : ∀ (ea : Addr) (eo : Obj) (cls : Value) (d : Option Addr) (pn : List (Addr × Obj)), Zc cls d eo → (∃ vs, eo.data = .fields vs) → PSs (Y.suite ea ((ea, eo) :: pn)) (b₀ :: su) (ts ea cls d)) (r : HdsA Y nm hds l) :
      HdsA Y nm (.ExceptHandler (some (.Name x np)) (some nm) (b₀ :: su) hp :: hds) ((c, ts) :: l)
section
variable {Y : Cx} {body : List Stmt} {h₀ : ExceptHandler} {hds : List ExceptHandler} {l : List (Value × SuT)} {pos : Pos} {tb : WX → TS} {Wo : WX} {i : Nat} {nm : Str}
theorem ps_try_manyA (hs : Y.stack = Y.env :: Y.outer) (hf : Y.env.frame = some Y.env.locals) (hN : Y.N.Nodup) (hi : Y.N[i]? = some nm) (hln : Y.env.kindOf nm = some .local) (tk : Takes Y Wo)
    (hb : ∀ (W : WX) (pn : List (Addr × Obj)) (xe : Value → Shared → Prop), Takes (Y.tr pn xe) W → PassesOwn (model Y.prog Y.w) Y.A Y.env xe → PSs (Y.tr pn xe) body (tb W))
    (hh : HdsA Y nm (h₀ :: hds) l) : PS Y (.Try body (h₀ :: hds) [] [] pos) (fun D τ G => tb (wManyA Y.K i Wo D l) D τ G) := by
  refine ⟨fun pins s τ G D J0 hgo => ?_⟩
  have okY := J0.ok
  have frY : Y.A.frames = some (Y.env :: Y.outer) := by rw [okY.frames, hs]
  have locY : Loc Y.env.scope nm := .inl hln
  refine wpAny_Try_except ?_
  refine wpAny_mono ((hb (wManyA Y.K i Wo D l) (Y.pn ++ pins) (fun ex s₁ => wpAny (model Y.prog Y.w) Y.A (noteFrame ex Y.env) (fun _ s₂ => wpAny (model Y.prog Y.w) Y.A (setFlight ex none) (fun _ s₃ =>
    wpAny (model Y.prog Y.w) Y.A (handleBy ex Y.env (h₀ :: hds)) (SP Y pins D) Y.xe s₃) Y.xe s₂) Y.xe s₁) (fun u s' flown => ?_) PassesOwn.looking).run [] s τ G D (J0.toTry _) hgo) (fun fl s1 hsp => ?_) (fun ex s1 he => he)
  · obtain ⟨ea, B, sI, pins', τ', G', cls, d, rfl, J', nb, upw, sky, na, os, ag, wish⟩ := flown
    have J : Inv Y pins τ' G' sI := J'.ofTry okY
    have skyY : Sky B (Y.env :: Y.outer) ea (Zc cls d) Y.env.locals s'.heap := by rw [← hs]; exact sky
    show wpAny (model Y.prog Y.w) Y.A (noteFrame (.ref ea) Y.env) _ _ _
    refine Sky.land Zc.steady frY hf skyY fun h3 ld3 up3 => ?_
    have J3 : Inv Y pins τ' G' { s' with heap := h3 } := J.landed nb ld3.1 (upw.trans up3) os ag
    obtain ⟨eo3, vs3, he3, hz3, hd3⟩ := ld3.there
    have offFr : ea ∉ frs (Y.env :: Y.outer) := fun hm => by
      obtain ⟨_, o', e', hnf⟩ := ld3.2.2.1.mem hm
      rw [he3] at e'; cases e'
      exact hnf _ hd3
    have nL : ea ≠ Y.env.locals := fun z => offFr (List.mem_filterMap.mpr ⟨Y.env, List.mem_cons_self, by rw [hf, z]⟩)
    have nF : ea ∉ Y.fs := fun hm => by
      obtain ⟨ev, hev, q⟩ := List.mem_filterMap.mp hm
      exact offFr (List.mem_filterMap.mpr ⟨ev, List.mem_cons_of_mem _ hev, q⟩)
    have sS3 := J3.suite he3 hd3 na nL nF
    have go : ∀ {hds' : List ExceptHandler} {l' : List (Value × SuT)}, HdsA Y nm hds' l' → wManyA Y.K i Wo D l' cls d τ' G' →
        wpAny (model Y.prog Y.w) Y.A (handleBy (.ref ea) Y.env hds') (SP Y pins D) Y.xe { s' with heap := h3 } := by
      intro hds' l' hk
      induction hk with
      | nil =>
        intro wish
        refine wpAny_handleBy_nil ?_
        obtain ⟨q1, q2, q3, xo, xs, xt, xT, xts, xe0, xz, xd, x1, xr⟩ := id ld3
        unfold PySem.passOn
        refine wpAny_bind (wpAny_field xe0 xd x1 ?_)
        rw [if_neg (show ¬ ((Value.ref xt == Value.none) = true) from by simp)]
        have outE : wpAny (model Y.prog Y.w) Y.A (setFlight (.ref ea) Y.env.frame) (fun _ s4 => wpAny (model Y.prog Y.w) Y.A (throw (.ref ea) : Sem Flow) (SP Y pins D) Y.xe s4) Y.xe { s' with heap := h3 } := by
          rw [hf]
          refine HandSPX.setFlight_upZ ld3 fun h4 hh4 up4 => wpAny_throw (tk _ _ ?_)
          exact ⟨ea, B, sI, pins, τ', G', cls, d, rfl, J, nb, (upw.trans up3).trans up4, .inr (.inr (by rw [hs]; exact hh4)), na, os, ag, wish⟩
        first
          | exact wpAny_bind (wpAny_pure (wpAny_bind outE))
          | exact wpAny_bind outE
      | @cons x c ts b₀ su np hp hds2 l2 hc hsu r ih =>
        intro wish
        obtain ⟨b, hb1, hyes, hno⟩ := wish
        refine wpAny_handleBy_cons (codeAny_handlers_test ?_) (by intro qq; cases qq)
        have tyE : PySem.W.Looks (model Y.prog Y.w) h3 (typeOf (.ref ea)) cls := fun A Q E s k q => wpAny_typeOf_ref (k _ _ he3) (by rw [hz3.1]; exact q)
        have isE := PySem.W.exm_one (M := model Y.prog Y.w) (J3.kIn) tyE hb1
        have nameE : ∀ {Q : Value → Shared → Prop} {E : Value → Shared → Prop}, Q c { s' with heap := h3 } → wpAny (model Y.prog Y.w) (Y.A.mark (some (.ref ea))) (eval (.Name x np) Y.env) Q E { s' with heap := h3 } := fun {Q E} q => by
          obtain ⟨hg, hdb, hm | ⟨hm, hv, hnn⟩⟩ := hc
          · exact ld_glob (X := Y.suite ea ((ea, eo3) :: (Y.pn ++ pins))) sS3 hg hm q hdb
          · exact ld_blt (X := Y.suite ea ((ea, eo3) :: (Y.pn ++ pins))) sS3 hg hm hv q hnn hdb
        refine nameE (isE.here ?_)
        cases b with
        | true =>
          refine codeAny_handlers_suite_as (?_)
          refine HandSPX.lands_againZ ld3 fun h4 ld4 up4 => ?_
          have J4 : Inv Y pins τ' G' { s' with heap := h4 } := J.landed nb ld4.1 ((upw.trans up3).trans up4) os ag
          obtain ⟨eo4, vs4, he4, hz4, hd4⟩ := ld4.there
          have sS4 := J4.suite he4 hd4 na nL nF
          refine store_ok (X := Y.suite ea ((ea, eo4) :: (Y.pn ++ pins))) (v := .ref ea) sS4 hN hi locY rfl (fun s5 S5 => ?_) (.inr hln)
          refine wpAny_mono ((hsu ea eo4 cls d (Y.pn ++ pins) hz4 ⟨_, hd4⟩).run [] s5 _ G' _ S5 (hyes rfl ea na)) (fun fl s6 hsp => ?_) (fun _ _ z => False.elim z)
          have bye : ∀ {τ6 : L2.St} {G6 : Hp} {Q : Shared → Prop}, Inv (Y.suite ea ((ea, eo4) :: (Y.pn ++ pins))) [] τ6 G6 s6 → (∀ s7, Inv Y pins (τ6.set i none) G6 s7 → Q s7) →
              wpAny (model Y.prog Y.w) Y.A (do bindName Y.env nm .none; unbindBehindTheSuite Y.env nm hp) (fun _ s7 => Q s7) Y.xe s6 := fun {τ6 G6 Q} S6 hq => gone_ok (S6.unsuite okY) hN hi hln hq
          cases fl with
          | next =>
            obtain ⟨τ6, G6, S6, q6⟩ := hsp
            exact bye S6 fun s7 J7 => ⟨_, _, J7, q6⟩
          | brk =>
            obtain ⟨τ6, G6, S6, q6⟩ := hsp
            exact bye S6 fun s7 J7 => ⟨_, _, J7, q6⟩
          | cont =>
            obtain ⟨τ6, G6, S6, q6⟩ := hsp
            exact bye S6 fun s7 J7 => ⟨_, _, J7, q6⟩
          | ret u =>
            obtain ⟨v6, τ6, G6, S6, r6, q6⟩ := hsp
            exact bye S6 fun s7 J7 => ⟨_, _, _, J7, r6, q6⟩
        | false =>
          show wpAny _ Y.A (handleBy (.ref ea) Y.env hds2) _ _ _
          exact ih (hno rfl)
    exact go hh wish
  · cases fl with
    | next =>
      obtain ⟨τ', G', J', q⟩ := hsp
      exact wpAny_execs_nil ⟨τ', G', J'.ofTry okY, q⟩
    | brk =>
      obtain ⟨τ', G', J', q⟩ := hsp
      exact ⟨τ', G', J'.ofTry okY, q⟩
    | cont =>
      obtain ⟨τ', G', J', q⟩ := hsp
      exact ⟨τ', G', J'.ofTry okY, q⟩
    | ret u =>
      obtain ⟨v, τ', G', J', r, q⟩ := hsp
      exact ⟨v, τ', G', J'.ofTry okY, r, q⟩
end
end G3

set_option Elab.async false
set_option linter.all false
set_option maxRecDepth 100000
set_option maxHeartbeats 4000000
/-! a lambda handed through two calls. -/
namespace G3
open PySem PySem.Spec PyProof.Rows L2
/-- two calls, one in the other: the inner caller's frame L is new -/
theorem un_deep {fs : List Addr} {L : Addr} {H H1 H2 : Hp} {h h1 h2 : Heap} (a : Un fs [] H H1 h h1) (b : Un (L :: fs) [] H1 H2 h1 h2) (hL : h.get? L = none) : Un fs [] H H2 h h2 := by
  have ne : ∀ {c : Addr} {o : Obj}, h.get? c = some o → c ≠ L := fun {c o} q z => by
    rw [z, hL] at q
    cases q
  have nx : ∀ c : Addr, c ∉ ([] : List Addr) := fun c z => nomatch z
  refine ⟨fun c o q n hc _ => ?_, fun c o q n hc _ => ?_, fun c o q n _ => ?_, fun c o q _ => ?_, fun c xs q => b.tups c xs (a.tups c xs q), fun c o u q => b.frzs c o u (a.frzs c o u q), fun c ps q => ?_⟩
  · exact b.keep c o (a.keep c o q n hc (nx c)) (a.free c o q n (nx c)) (fun z => (List.mem_cons.mp z).elim (ne q) hc) (nx c)
  · obtain ⟨sl, e1⟩ := a.slot c o q n hc (nx c)
    obtain ⟨sl2, e2⟩ := b.slot c _ e1 (a.free c o q n (nx c)) (List.mem_cons_of_mem _ hc) (nx c)
    exact ⟨sl2, e2⟩
  · obtain ⟨sl, e1⟩ := a.any q n (nx c)
    exact b.free c _ e1 (a.free c o q n (nx c)) (nx c)
  · obtain ⟨o1, e1⟩ := a.there c o q (nx c)
    exact b.there c o1 e1 (nx c)
  · obtain ⟨m1, e1⟩ := a.tbls c ps q
    obtain ⟨m2, e2⟩ := b.tbls c _ e1
    exact ⟨m1 ++ m2, by rw [e2, Array.append_assoc]⟩
end G3

set_option Elab.async false
set_option linter.all false
set_option maxRecDepth 100000
set_option maxHeartbeats 4000000
namespace G3
open PySem PySem.Spec PyProof.Rows L2 LamX
section
variable {X : Cx} {pins : List (Addr × Obj)} {σ : L2.St} {H H1 : Hp} {s s1 : Shared}
theorem no_size (h : Heap) : h.get? h.objs.size = none := by
  cases e : h.get? h.objs.size with
  | none => rfl
  | some o => exact absurd (Heap.lt_size e) (Nat.lt_irrefl _)
/-- act() in a def that was called by a def that got the lambda -/
theorem act2 {CX2 : CXT} {E2 : XK} {N2 : List Str} {q1 q2 : Str} {sg1 sg2 : Scope} {g1 g2 f c' : Addr} {cd1 cd2 pm ctv : Value} {params : Arguments} {body : Expr} {scope : Scope} {k i : Nat} {nm : Str} {pn : List (Addr × Obj)} {xe : Value → Shared → Prop} {W : WX} {E : XK} {tb : TE} {p1 p2 : Pos}
    (I : Inv X pins σ H s) (L : LamS X.env.scope scope) (hf : s.heap.get? f = some (PySem.W.kla_obj "<lambda>" (X.env.qual ++ "<lambda>") params body scope (cloFrom X.env.cells scope.names []) pm c' ctv)) (hfn : H f = none) (hfr : f ∉ frs X.stack)
    (hbind : bindArgs (PySem.W.kla_fn "<lambda>" (X.env.qual ++ "<lambda>") params body scope (cloFrom X.env.cells scope.names []) pm (.ref c') ctv) ⟨[], []⟩ = pure [])
    (un1 : Un (frs X.stack) [] H H1 s.heap s1.heap)
    (tk : Takes ((cxOf CX2 X.prog X.w X.K X.mg X.base N2 q2 sg2 g2 cd2 (X.A.deeper (envOfC q1 sg1 s.heap.objs.size g1 cd1)) (envOfC q1 sg1 s.heap.objs.size g1 cd1 :: X.stack) s1 H1 E2).tr pn xe) W) (hW : ∀ cls d τ G, E cls d G → W cls d τ G)
    (hr : Room (k + 1) ((X.A.deeper (envOfC q1 sg1 s.heap.objs.size g1 cd1)).deeper (envOfC q2 sg2 s1.heap.objs.size g2 cd2)))
    (hbody : ∀ (A : Around) (outer : List Env) (s : Shared) (H : Hp), Room k (A.deeper (lamEnv X scope s.heap.objs.size f c')) → PE (lamCx X A outer s H E scope f c') body tb)
    (hN : N2[i]? = some nm) (hv : Vis sg2 nm) (hd : (nm == ("__debug__" : Str)) = false := by decide) (hcd : (nm == ("__classdict__" : Str)) = false := by decide) :
    PE ((cxOf CX2 X.prog X.w X.K X.mg X.base N2 q2 sg2 g2 cd2 (X.A.deeper (envOfC q1 sg1 s.heap.objs.size g1 cd1)) (envOfC q1 sg1 s.heap.objs.size g1 cd1 :: X.stack) s1 H1 E2).tr pn xe) (.Call (.Name nm p1) [] [] p2)
      (fun τ G Q => τ[i]? = some (some (.ref f)) ∧ G c' = some (CodeO c' (X.env.qual ++ "<lambda>")) ∧ tb σ G Q) := by
  refine ⟨fun pinsZ sZ τ G Q JZ want => ?_⟩
  obtain ⟨hs, hc, ht⟩ := want
  refine wpAny_Call_Name_kw (thn ((pe_var (pos := p1) (i := i) hN hv hd hcd).run pinsZ sZ τ G (fun v G1 => v = .ref f ∧ G1 = G) JZ ⟨.ref f, hs, rfl, rfl⟩) fun u s2 ⟨v, G1, J1, r1, qv⟩ => ?_)
  obtain ⟨ev, eG⟩ := qv
  subst ev
  rw [eG] at J1
  obtain rfl : u = Value.ref f := r1
  have ltf := Heap.lt_size hf
  have b2 : Un (s.heap.objs.size :: frs X.stack) [] H1 G s1.heap s2.heap := J1.base
  have un : Un (frs X.stack) [] H G s.heap s2.heap := un_deep un1 b2 (no_size s.heap)
  have of2 : s2.heap.get? f = some (PySem.W.kla_obj "<lambda>" (X.env.qual ++ "<lambda>") params body scope (cloFrom X.env.cells scope.names []) pm c' ctv) := un.keep f _ hf hfn hfr (fun z => nomatch z)
  refine PySem.W.callWith_F0 ⟨_, _, _, _, of2⟩ ?_
  obtain ⟨⟨oc, vs, t, hoc, hdc, hvc⟩, _, _⟩ := J1.hok c' _ hc
  have rc : codeAny (model X.prog X.w) ((X.A.deeper (envOfC q1 sg1 s.heap.objs.size g1 cd1)).deeper (envOfC q2 sg2 s1.heap.objs.size g2 cd2)) (.call (.ref f) ⟨[], []⟩)
      (CR (L2.CX X.prog X.w) (envOfC q2 sg2 s1.heap.objs.size g2 cd2 :: envOfC q1 sg1 s.heap.objs.size g1 cd1 :: X.stack) X.prog X.w G s2 Q E) s2 := by
    refine PySem.W.kla_callFunE hr.depth of2 rfl L.co L.gen rfl ⟨c', oc, vs, t, rfl, hoc, hdc, hvc⟩ ?_
    rw [hbind]
    refine wpAny_pure (wpAny_newFunctionEnv (fun y hy => (L.own y hy).2) (fun y hy => absurd hy (by simp)) (fun h₁ hns hsb => ⟨J1.nolimit.fresh _ hsb, ?_⟩) L.kind)
    show codeAny _ _ (.expr body (lamEnv X scope s2.heap.objs.size f c')) _ _
    have kp : ∀ b o, s2.heap.get? b = some o → h₁.get? b = some o := fun b o e => hsb.extBut b o (Nat.ne_of_lt (Heap.lt_size e)) (Heap.get?_push_of_some _ e)
    have JL : Inv (lamCx X ((X.A.deeper (envOfC q1 sg1 s.heap.objs.size g1 cd1)).deeper (envOfC q2 sg2 s1.heap.objs.size g2 cd2)) (envOfC q2 sg2 s1.heap.objs.size g2 cd2 :: envOfC q1 sg1 s.heap.objs.size g1 cd1 :: X.stack) s2 G E scope f c') [] σ G
        { s2 with heap := h₁, toks := s2.toks + ([] : List (Str × Value)).length } := lam_start2 I L J1.env0 hr.hd un hns kp
    refine PySem.W.kla_codeExpr (wpAny_mono ((hbody _ _ s2 G (hr.deeper _)).run [] _ _ G Q JL ht) (fun v s' hq => ?_) fun e s' hq => hq)
    obtain ⟨w', G', J', rv, q⟩ := hq
    exact ⟨w', G', J'.os, J'.bare, J'.base, J'.hok, rv, q⟩
  have hx := passes_call (E := E) tk hW
  refine wpAny_call (codeAny_mono rc fun r s' hq => ?_)
  cases r with
  | error e => exact hx pinsZ τ G s2 e s' J1 hq
  | ok fl =>
    cases fl with
    | ret u => exact J1.after hq
    | next => exact False.elim hq
    | brk => exact False.elim hq
    | cont => exact False.elim hq
end
end G3

set_option Elab.async false
set_option linter.all false
set_option maxRecDepth 100000
set_option maxHeartbeats 4000000
/-! a lambda handed on: x1(lambda: .., y) whose def says x2(a1); x1(lambda: ..) whose def says a1(). -/
namespace G3
open PySem PySem.Spec PyProof.Rows L2 LamX
section
variable {X : Cx} {pins : List (Addr × Obj)} {σ : L2.St} {H H1 : Hp} {s s1 : Shared}
/-- act() in a def that was called by a def that got the lambda -/
theorem act2W {CX2 : CXT} {E2 : XK} {N2 : List Str} {q1 q2 : Str} {sg1 sg2 : Scope} {g1 g2 f c' : Addr} {cd1 cd2 pm ctv : Value} {params : Arguments} {body : Expr} {scope : Scope} {k i : Nat} {nm : Str} {pn : List (Addr × Obj)} {xe : Value → Shared → Prop} {W : WX} {t : XK → TE} {p1 p2 : Pos}
    (I : Inv X pins σ H s) (L : LamS X.env.scope scope) (hf : s.heap.get? f = some (PySem.W.kla_obj "<lambda>" (X.env.qual ++ "<lambda>") params body scope (cloFrom X.env.cells scope.names []) pm c' ctv)) (hfn : H f = none) (hfr : f ∉ frs X.stack)
    (hbind : bindArgs (PySem.W.kla_fn "<lambda>" (X.env.qual ++ "<lambda>") params body scope (cloFrom X.env.cells scope.names []) pm (.ref c') ctv) ⟨[], []⟩ = pure [])
    (un1 : Un (frs X.stack) [] H H1 s.heap s1.heap)
    (tk : Takes ((cxOf CX2 X.prog X.w X.K X.mg X.base N2 q2 sg2 g2 cd2 (X.A.deeper (envOfC q1 sg1 s.heap.objs.size g1 cd1)) (envOfC q1 sg1 s.heap.objs.size g1 cd1 :: X.stack) s1 H1 E2).tr pn xe) W)
    (hr : Room (k + 1) ((X.A.deeper (envOfC q1 sg1 s.heap.objs.size g1 cd1)).deeper (envOfC q2 sg2 s1.heap.objs.size g2 cd2)))
    (hbody : ∀ (A : Around) (outer : List Env) (s : Shared) (H : Hp) (E : XK), Room k (A.deeper (lamEnv X scope s.heap.objs.size f c')) → PE (lamCx X A outer s H E scope f c') body (t E))
    (hN : N2[i]? = some nm) (hv : Vis sg2 nm) (hd : (nm == ("__debug__" : Str)) = false := by decide) (hcd : (nm == ("__classdict__" : Str)) = false := by decide) :
    PE ((cxOf CX2 X.prog X.w X.K X.mg X.base N2 q2 sg2 g2 cd2 (X.A.deeper (envOfC q1 sg1 s.heap.objs.size g1 cd1)) (envOfC q1 sg1 s.heap.objs.size g1 cd1 :: X.stack) s1 H1 E2).tr pn xe) (.Call (.Name nm p1) [] [] p2)
      (fun τ G Q => τ[i]? = some (some (.ref f)) ∧ G c' = some (CodeO c' (X.env.qual ++ "<lambda>")) ∧ t (WE W τ) σ G Q) := by
  refine ⟨fun pinsZ sZ τ G Q JZ want => ?_⟩
  obtain ⟨hs, hc, ht⟩ := want
  refine wpAny_Call_Name_kw (thn ((pe_var (pos := p1) (i := i) hN hv hd hcd).run pinsZ sZ τ G (fun v G1 => v = .ref f ∧ G1 = G) JZ ⟨.ref f, hs, rfl, rfl⟩) fun u s2 ⟨v, G1, J1, r1, qv⟩ => ?_)
  obtain ⟨ev, eG⟩ := qv
  subst ev
  rw [eG] at J1
  obtain rfl : u = Value.ref f := r1
  have ltf := Heap.lt_size hf
  have b2 : Un (s.heap.objs.size :: frs X.stack) [] H1 G s1.heap s2.heap := J1.base
  have un : Un (frs X.stack) [] H G s.heap s2.heap := un_deep un1 b2 (no_size s.heap)
  have of2 : s2.heap.get? f = some (PySem.W.kla_obj "<lambda>" (X.env.qual ++ "<lambda>") params body scope (cloFrom X.env.cells scope.names []) pm c' ctv) := un.keep f _ hf hfn hfr (fun z => nomatch z)
  refine PySem.W.callWith_F0 ⟨_, _, _, _, of2⟩ ?_
  obtain ⟨⟨oc, vs, t, hoc, hdc, hvc⟩, _, _⟩ := J1.hok c' _ hc
  have rc : codeAny (model X.prog X.w) ((X.A.deeper (envOfC q1 sg1 s.heap.objs.size g1 cd1)).deeper (envOfC q2 sg2 s1.heap.objs.size g2 cd2)) (.call (.ref f) ⟨[], []⟩)
      (CR (L2.CX X.prog X.w) (envOfC q2 sg2 s1.heap.objs.size g2 cd2 :: envOfC q1 sg1 s.heap.objs.size g1 cd1 :: X.stack) X.prog X.w G s2 Q (WE W τ)) s2 := by
    refine PySem.W.kla_callFunE hr.depth of2 rfl L.co L.gen rfl ⟨c', oc, vs, t, rfl, hoc, hdc, hvc⟩ ?_
    rw [hbind]
    refine wpAny_pure (wpAny_newFunctionEnv (fun y hy => (L.own y hy).2) (fun y hy => absurd hy (by simp)) (fun h₁ hns hsb => ⟨J1.nolimit.fresh _ hsb, ?_⟩) L.kind)
    show codeAny _ _ (.expr body (lamEnv X scope s2.heap.objs.size f c')) _ _
    have kp : ∀ b o, s2.heap.get? b = some o → h₁.get? b = some o := fun b o e => hsb.extBut b o (Nat.ne_of_lt (Heap.lt_size e)) (Heap.get?_push_of_some _ e)
    have JL : Inv (lamCx X ((X.A.deeper (envOfC q1 sg1 s.heap.objs.size g1 cd1)).deeper (envOfC q2 sg2 s1.heap.objs.size g2 cd2)) (envOfC q2 sg2 s1.heap.objs.size g2 cd2 :: envOfC q1 sg1 s.heap.objs.size g1 cd1 :: X.stack) s2 G (WE W τ) scope f c') [] σ G
        { s2 with heap := h₁, toks := s2.toks + ([] : List (Str × Value)).length } := lam_start2 I L J1.env0 hr.hd un hns kp
    refine PySem.W.kla_codeExpr (wpAny_mono ((hbody _ _ s2 G (WE W τ) (hr.deeper _)).run [] _ _ G Q JL ht) (fun v s' hq => ?_) fun e s' hq => hq)
    obtain ⟨w', G', J', rv, q⟩ := hq
    exact ⟨w', G', J'.os, J'.bare, J'.base, J'.hok, rv, q⟩
  have hx := passAt tk τ
  refine wpAny_call (codeAny_mono rc fun r s' hq => ?_)
  cases r with
  | error e => exact hx pinsZ G s2 e s' J1 hq
  | ok fl =>
    cases fl with
    | ret u => exact J1.after hq
    | next => exact False.elim hq
    | brk => exact False.elim hq
    | cont => exact False.elim hq
/-- act() in the def that got the lambda -/
theorem act1W {CX2 : CXT} {E2 : XK} {N2 : List Str} {q2 : Str} {sg2 : Scope} {g2 f c' : Addr} {cd2 pm ctv : Value} {params : Arguments} {body : Expr} {scope : Scope} {k i : Nat} {nm : Str} {pn : List (Addr × Obj)} {xe : Value → Shared → Prop} {W : WX} {t : XK → TE} {p1 p2 : Pos}
    (I : Inv X pins σ H s) (L : LamS X.env.scope scope) (hf : s.heap.get? f = some (PySem.W.kla_obj "<lambda>" (X.env.qual ++ "<lambda>") params body scope (cloFrom X.env.cells scope.names []) pm c' ctv)) (hfn : H f = none) (hfr : f ∉ frs X.stack)
    (hbind : bindArgs (PySem.W.kla_fn "<lambda>" (X.env.qual ++ "<lambda>") params body scope (cloFrom X.env.cells scope.names []) pm (.ref c') ctv) ⟨[], []⟩ = pure [])
    (tk : Takes ((cxOf CX2 X.prog X.w X.K X.mg X.base N2 q2 sg2 g2 cd2 X.A X.stack s H E2).tr pn xe) W)
    (hr : Room (k + 1) (X.A.deeper (envOfC q2 sg2 s.heap.objs.size g2 cd2)))
    (hbody : ∀ (A : Around) (outer : List Env) (s : Shared) (H : Hp) (E : XK), Room k (A.deeper (lamEnv X scope s.heap.objs.size f c')) → PE (lamCx X A outer s H E scope f c') body (t E))
    (hN : N2[i]? = some nm) (hv : Vis sg2 nm) (hd : (nm == ("__debug__" : Str)) = false := by decide) (hcd : (nm == ("__classdict__" : Str)) = false := by decide) :
    PE ((cxOf CX2 X.prog X.w X.K X.mg X.base N2 q2 sg2 g2 cd2 X.A X.stack s H E2).tr pn xe) (.Call (.Name nm p1) [] [] p2)
      (fun τ G Q => τ[i]? = some (some (.ref f)) ∧ G c' = some (CodeO c' (X.env.qual ++ "<lambda>")) ∧ t (WE W τ) σ G Q) := by
  refine ⟨fun pinsZ sZ τ G Q JZ want => ?_⟩
  obtain ⟨hs, hc, ht⟩ := want
  refine wpAny_Call_Name_kw (thn ((pe_var (pos := p1) (i := i) hN hv hd hcd).run pinsZ sZ τ G (fun v G1 => v = .ref f ∧ G1 = G) JZ ⟨.ref f, hs, rfl, rfl⟩) fun u s2 ⟨v, G1, J1, r1, qv⟩ => ?_)
  obtain ⟨ev, eG⟩ := qv
  subst ev
  rw [eG] at J1
  obtain rfl : u = Value.ref f := r1
  have ltf := Heap.lt_size hf
  have un : Un (frs X.stack) [] H G s.heap s2.heap := J1.base
  have of2 : s2.heap.get? f = some (PySem.W.kla_obj "<lambda>" (X.env.qual ++ "<lambda>") params body scope (cloFrom X.env.cells scope.names []) pm c' ctv) := un.keep f _ hf hfn hfr (fun z => nomatch z)
  refine PySem.W.callWith_F0 ⟨_, _, _, _, of2⟩ ?_
  obtain ⟨⟨oc, vs, t, hoc, hdc, hvc⟩, _, _⟩ := J1.hok c' _ hc
  have rc : codeAny (model X.prog X.w) (X.A.deeper (envOfC q2 sg2 s.heap.objs.size g2 cd2)) (.call (.ref f) ⟨[], []⟩)
      (CR (L2.CX X.prog X.w) (envOfC q2 sg2 s.heap.objs.size g2 cd2 :: X.stack) X.prog X.w G s2 Q (WE W τ)) s2 := by
    refine PySem.W.kla_callFunE hr.depth of2 rfl L.co L.gen rfl ⟨c', oc, vs, t, rfl, hoc, hdc, hvc⟩ ?_
    rw [hbind]
    refine wpAny_pure (wpAny_newFunctionEnv (fun y hy => (L.own y hy).2) (fun y hy => absurd hy (by simp)) (fun h₁ hns hsb => ⟨J1.nolimit.fresh _ hsb, ?_⟩) L.kind)
    show codeAny _ _ (.expr body (lamEnv X scope s2.heap.objs.size f c')) _ _
    have kp : ∀ b o, s2.heap.get? b = some o → h₁.get? b = some o := fun b o e => hsb.extBut b o (Nat.ne_of_lt (Heap.lt_size e)) (Heap.get?_push_of_some _ e)
    have JL : Inv (lamCx X (X.A.deeper (envOfC q2 sg2 s.heap.objs.size g2 cd2)) (envOfC q2 sg2 s.heap.objs.size g2 cd2 :: X.stack) s2 G (WE W τ) scope f c') [] σ G
        { s2 with heap := h₁, toks := s2.toks + ([] : List (Str × Value)).length } := lam_start2 I L J1.env0 hr.hd un hns kp
    refine PySem.W.kla_codeExpr (wpAny_mono ((hbody _ _ s2 G (WE W τ) (hr.deeper _)).run [] _ _ G Q JL ht) (fun v s' hq => ?_) fun e s' hq => hq)
    obtain ⟨w', G', J', rv, q⟩ := hq
    exact ⟨w', G', J'.os, J'.bare, J'.base, J'.hok, rv, q⟩
  have hx := passAt tk τ
  refine wpAny_call (codeAny_mono rc fun r s' hq => ?_)
  cases r with
  | error e => exact hx pinsZ G s2 e s' J1 hq
  | ok fl =>
    cases fl with
    | ret u => exact J1.after hq
    | next => exact False.elim hq
    | brk => exact False.elim hq
    | cont => exact False.elim hq
end
/-- the def that calls what it got, the errors' wish told at the very slots; TT: what it makes of the lambda's reading -/
def GivesW (X : Cx) (Ng : List Str) (x : Str) (sg : Scope) (g : Addr) (cdg : Value) (bg : List Stmt) (a : Str) (q : Str) (TT : (XK → Hp → VK → Prop) → Hp → VK → Prop) : Prop :=
  ∀ (f c' : Addr) (s : Shared) (H : Hp) (Q : VK) (tl : XK → Hp → VK → Prop),
    (∀ (W : WX) (pn : List (Addr × Obj)) (xe : Value → Shared → Prop) (p1 p2 : Pos), Takes ((cxOf C8.CX0 X.prog X.w X.K X.mg X.base Ng x sg g cdg X.A X.stack s H C8.E0).tr pn xe) W →
      PE ((cxOf C8.CX0 X.prog X.w X.K X.mg X.base Ng x sg g cdg X.A X.stack s H C8.E0).tr pn xe) (.Call (.Name a p1) [] [] p2) (fun τ G Q => τ[0]? = some (some (.ref f)) ∧ G c' = some (CodeO c' q) ∧ tl (WE W τ) G Q)) →
    H c' = some (CodeO c' q) → TT tl H Q →
    ∃ t, PSs (cxOf C8.CX0 X.prog X.w X.K X.mg X.base Ng x sg g cdg X.A X.stack s H C8.E0).nox bg t ∧ t { nx := fun _ H' => Q .non H', rt := Q } (L2.start Ng [.ref f]) H
section
variable {X : Cx} {pins : List (Addr × Obj)} {σ : L2.St} {H : Hp} {s : Shared}
/-- a slot is read, the state stays -/
theorem var_at {i : Nat} {y : Str} {py : Pos} {v : V} {Q : Value → Shared → Prop} {E : Value → Shared → Prop} (I : Inv X pins σ H s) (hN : X.N[i]? = some y) (hv : Vis X.env.scope y) (hs : σ[i]? = some (some v)) (q : ∀ u, RelV v u → Q u s)
    (hd : (y == ("__debug__" : Str)) = false := by decide) (hcd : (y == ("__classdict__" : Str)) = false := by decide) : wpAny (model X.prog X.w) X.A (eval (.Name y py) X.env) Q E s := by
  obtain ⟨m, hn, hl⟩ := I.loc
  obtain ⟨u, r, l⟩ := hl i y v hN hs hv
  have z := q u r
  rcases l with ⟨hk, hm⟩ | ⟨hk | hk, c, hc, hcell⟩
  · exact wpAny_Name (wpAny_loadName_local I.ok.kind hk hn hm z) hd
  · exact wpAny_Name (wpAny_loadName_cell I.ok.kind hk hc hcell z) hd
  · exact wpAny_Name (wpAny_loadName_free I.ok.kind hk hc hcell z hcd) hd
theorem pass_on {TC : (XK → Hp → VK → Prop) → Hp → VK → Prop} {q1 x2 a1 a2 : Str} {sg1 sg2 : Scope} {g1 g2 f c' : Addr} {cd1 cd2 pm ctv : Value} {N1 N2 : List Str} {params : Arguments} {body : Expr} {scope : Scope} {k : Nat} {pg : Arguments} {bg : List Stmt} {dV kV doc pm2 ct oc : Value} {an od : Option Addr} {osl : Array (Option Value)}
    {t : XK → TE} {p p1 p2 : Pos}
    (I : Inv X pins σ H s) (L : LamS X.env.scope scope) (hf : s.heap.get? f = some (PySem.W.kla_obj "<lambda>" (X.env.qual ++ "<lambda>") params body scope (cloFrom X.env.cells scope.names []) pm c' ctv)) (hfn : H f = none) (hfr : f ∉ frs X.stack)
    (hbind : bindArgs (PySem.W.kla_fn "<lambda>" (X.env.qual ++ "<lambda>") params body scope (cloFrom X.env.cells scope.names []) pm (.ref c') ctv) ⟨[], []⟩ = pure [])
    (hN1 : N1[0]? = some a1) (hv1 : Vis sg1 a1) (hg : Gl (cxOf C8.CX0 X.prog X.w X.K X.mg X.base N1 q1 sg1 g1 cd1 X.A X.stack s H C8.E0).nox x2) (hm : X.mg x2 = some (.ref g2)) (hk : PySem.W.keepIn X.K (.ref g2) = true)
    (lk : X.K.lookup g2 = some ⟨oc, od, .func (PySem.W.fnOf x2 x2 pg bg sg2 dV kV doc pm2 an cd2 ct), osl⟩) (hcg : PySem.W.codeIn X.K cd2 x2 = true) (hb : L2.Binds X.K (PySem.W.fnOf x2 x2 pg bg sg2 dV kV doc pm2 an cd2 ct) [a2] []) (Sg : FnScope N2 [a2] sg2) (hN2 : N2[0]? = some a2) (hv2 : Vis sg2 a2)
    (hG : GivesW (cxOf C8.CX0 X.prog X.w X.K X.mg X.base N1 q1 sg1 g1 cd1 X.A X.stack s H C8.E0).nox N2 x2 sg2 g2 cd2 bg a2 (X.env.qual ++ "<lambda>") TC)
    (hr : Room (k + 2) (X.A.deeper (envOfC q1 sg1 s.heap.objs.size g1 cd1)))
    (hbody : ∀ (A : Around) (outer : List Env) (s : Shared) (H : Hp) (E : XK), Room k (A.deeper (lamEnv X scope s.heap.objs.size f c')) → PE (lamCx X A outer s H E scope f c') body (t E))
    (hdb : (x2 == ("__debug__" : Str)) = false := by decide) (hd1 : (a1 == ("__debug__" : Str)) = false := by decide) (hcd1 : (a1 == ("__classdict__" : Str)) = false := by decide) (hd2 : (a2 == ("__debug__" : Str)) = false := by decide) (hcd2 : (a2 == ("__classdict__" : Str)) = false := by decide) :
    PE (cxOf C8.CX0 X.prog X.w X.K X.mg X.base N1 q1 sg1 g1 cd1 X.A X.stack s H C8.E0).nox (.Call (.Name x2 p) [.Name a1 p1] [] p2)
      (fun τ G Q => τ[0]? = some (some (.ref f)) ∧ G c' = some (CodeO c' (X.env.qual ++ "<lambda>")) ∧ TC (fun E G' Q' => t E σ G' Q') G Q) := by
  refine ⟨fun pinsZ sZ τ G Q JZ want => ?_⟩
  obtain ⟨h0, hc, ht⟩ := want
  refine wpAny_Call_Name_kw (ld_glob JZ hg hm ?_ hdb)
  refine PySem.W.callWith_K (h₀ := X.base) I.ok.mod.kin hk ?_ (by rfl) (by rfl)
  refine Calls.spliced_cons (var_at (i := 0) JZ hN1 hv1 h0 (fun u ru => ?_) hd1 hcd1)
  obtain rfl : u = Value.ref f := ru
  refine Calls.spliced_nil ⟨JZ.kIn, ?_⟩
  have rc : codeAny (model X.prog X.w) (X.A.deeper (envOfC q1 sg1 s.heap.objs.size g1 cd1)) (.call (.ref g2) ⟨[.ref f], []⟩) (CR C8.CX0 (envOfC q1 sg1 s.heap.objs.size g1 cd1 :: X.stack) X.prog X.w G sZ Q C8.E0) sZ := by
    refine run_ofS (N := N2) (ps := [a2]) (us := [.ref f]) (vs := [.ref f]) lk hcg Sg hr JZ.env0 (hb sZ [.ref f] JZ.kIn rfl) (.cons rfl .nil) rfl fun hr' => ?_
    obtain ⟨tt, h1, h2⟩ := hG f c' sZ G Q (fun E G' Q' => t E σ G' Q') (fun W pn xe r1 r2 tk => act2W (i := 0) I L hf hfn hfr hbind JZ.base tk hr' (fun A outer s H E hr2 => hbody A outer s H E hr2) hN2 hv2 hd2 hcd2) hc ht
    exact ⟨tt, h1.nox, h2⟩
  refine wpAny_call (codeAny_mono rc fun r sE hq => ?_)
  match r, hq with
  | .error e, hq => exact (show False from hq).elim
  | .ok (.ret u), hq => exact JZ.after hq
  | .ok .next, hq => exact (show False from hq).elim
  | .ok .brk, hq => exact (show False from hq).elim
  | .ok .cont, hq => exact (show False from hq).elim
/-- the def x1 that hands what it got (a1) on to x2; TC: what x2 makes of the lambda's reading, TT: what x1 makes of that -/
def GivesOn (X : Cx) (N1 : List Str) (x1 : Str) (sg1 : Scope) (g1 : Addr) (cd1 : Value) (b1 : List Stmt) (a1 x2 q : Str) (TC : (XK → Hp → VK → Prop) → Hp → VK → Prop) (TT : (XK → Hp → VK → Prop) → V → Hp → VK → Prop) : Prop :=
  ∀ (f c' : Addr) (v : V) (s : Shared) (H : Hp) (Q : VK) (tl : XK → Hp → VK → Prop),
    (∀ p p1 p2 : Pos, PE (cxOf C8.CX0 X.prog X.w X.K X.mg X.base N1 x1 sg1 g1 cd1 X.A X.stack s H C8.E0).nox (.Call (.Name x2 p) [.Name a1 p1] [] p2) (fun τ G Q => τ[0]? = some (some (.ref f)) ∧ G c' = some (CodeO c' q) ∧ TC tl G Q)) →
    H c' = some (CodeO c' q) → TT tl v H Q →
    ∃ t, PSs (cxOf C8.CX0 X.prog X.w X.K X.mg X.base N1 x1 sg1 g1 cd1 X.A X.stack s H C8.E0).nox b1 t ∧ t { nx := fun _ H' => Q .non H', rt := Q } (L2.start N1 [.ref f, v]) H
/-- x1(lambda: body, y), y in slot i -/
def tLam2 (T : List (Addr × Str)) (TT : (XK → Hp → VK → Prop) → V → Hp → VK → Prop) (t : XK → TE) (i : Nat) : TE := fun σ H Q => Tabs T H ∧ ∃ v, σ[i]? = some (some v) ∧ ∀ H1, ExtN H H1 → Tabs T H1 → TT (fun E H' Q' => t E σ H' Q') v H1 Q
end
section
variable {X : Cx}
theorem pe_lam2 {T : List (Addr × Str)} {TC : (XK → Hp → VK → Prop) → Hp → VK → Prop} {TT : (XK → Hp → VK → Prop) → V → Hp → VK → Prop} {x1 x2 a1 b1 a2 y : Str} {g1 g2 c P : Addr} {k i : Nat} {pg1 pg2 : Arguments} {bg1 bg2 : List Stmt} {sg1 sg2 : Scope}
    {dV1 kV1 doc1 pm1 cd1 ct1 oc1 dV2 kV2 doc2 pm2 cd2 ct2 oc2 : Value} {an1 od1 an2 od2 : Option Addr} {sl1 sl2 : Array (Option Value)} {N1 N2 : List Str} {params : Arguments} {body : Expr} {scope : Scope} {t : XK → TE} {p lpos py pos : Pos}
    (hg : Gl X x1) (hm : X.mg x1 = some (.ref g1)) (hk : PySem.W.keepIn X.K (.ref g1) = true)
    (lk1 : X.K.lookup g1 = some ⟨oc1, od1, .func (PySem.W.fnOf x1 x1 pg1 bg1 sg1 dV1 kV1 doc1 pm1 an1 cd1 ct1), sl1⟩) (hc1 : PySem.W.codeIn X.K cd1 x1 = true) (hb1 : L2.Binds X.K (PySem.W.fnOf x1 x1 pg1 bg1 sg1 dV1 kV1 doc1 pm1 an1 cd1 ct1) [a1, b1] []) (S1 : FnScope N1 [a1, b1] sg1) (hN1 : N1[0]? = some a1) (hv1 : Vis sg1 a1)
    (hg2 : sg1.names.lookup x2 = some .globalImplicit) (hm2 : X.mg x2 = some (.ref g2)) (hk2 : PySem.W.keepIn X.K (.ref g2) = true)
    (lk2 : X.K.lookup g2 = some ⟨oc2, od2, .func (PySem.W.fnOf x2 x2 pg2 bg2 sg2 dV2 kV2 doc2 pm2 an2 cd2 ct2), sl2⟩) (hc2 : PySem.W.codeIn X.K cd2 x2 = true) (hb2 : L2.Binds X.K (PySem.W.fnOf x2 x2 pg2 bg2 sg2 dV2 kV2 doc2 pm2 an2 cd2 ct2) [a2] []) (S2 : FnScope N2 [a2] sg2) (hN2 : N2[0]? = some a2) (hv2 : Vis sg2 a2)
    (hG2 : ∀ (s : Shared) (H : Hp), GivesW (cxOf C8.CX0 X.prog X.w X.K X.mg X.base N1 x1 sg1 g1 cd1 X.A X.stack s H C8.E0).nox N2 x2 sg2 g2 cd2 bg2 a2 (X.env.qual ++ "<lambda>") TC)
    (hG1 : GivesOn X N1 x1 sg1 g1 cd1 bg1 a1 x2 (X.env.qual ++ "<lambda>") TC TT)
    (TB : TabB X.base X.mg c P) (hcode : X.env.code = .ref c) (hmT : (P, X.env.qual ++ "<lambda>") ∈ T) (hu : ∀ z ∈ T, z.1 = P → z.2 = X.env.qual ++ "<lambda>") (hr : Room (k + 3) X.A) (L : LamS X.env.scope scope) (hdef : defaultsOf params X.env = ([], []))
    (hbind : ∀ (q : Str) (cl : List (Str × Addr)) (pm cv ctv : Value), bindArgs (PySem.W.kla_fn "<lambda>" q params body scope cl pm cv ctv) ⟨[], []⟩ = pure [])
    (hbody : ∀ (A : Around) (outer : List Env) (s : Shared) (H : Hp) (E : XK) (f c' : Addr), Room k (A.deeper (lamEnv X scope s.heap.objs.size f c')) → PE (lamCx X A outer s H E scope f c') body (t E))
    (hNy : X.N[i]? = some y) (hvy : Vis X.env.scope y)
    (hd1 : (x1 == ("__debug__" : Str)) = false := by decide) (hdy : (y == ("__debug__" : Str)) = false := by decide) (hcy : (y == ("__classdict__" : Str)) = false := by decide)
    (hd2 : (x2 == ("__debug__" : Str)) = false := by decide) (hd3 : (a1 == ("__debug__" : Str)) = false := by decide) (hcd3 : (a1 == ("__classdict__" : Str)) = false := by decide) (hd4 : (a2 == ("__debug__" : Str)) = false := by decide) (hcd4 : (a2 == ("__classdict__" : Str)) = false := by decide) :
    PE X (.Call (.Name x1 p) [.Lambda params body scope lpos, .Name y py] [] pos) (tLam2 T TT t i) := by
  refine ⟨fun pins s σ H Q I h => ?_⟩
  obtain ⟨hT, v, hsv, h⟩ := h
  refine wpAny_Call_Name_kw (ld_glob I hg hm ?_ hd1)
  refine PySem.W.callWith_K (h₀ := X.base) I.ok.mod.kin hk ?_ (by rfl) (by rfl)
  refine Calls.spliced_cons (lam_make2 I TB hcode hmT hu hT hdef (L.has I.ok) fun f c' pm' ctv H1 sM IM eN TM hf hfn hfr hco => ?_)
  refine Calls.spliced_cons (var_at (i := i) IM hNy hvy hsv (fun u ru => ?_) hdy hcy)
  refine Calls.spliced_nil ⟨IM.kIn, ?_⟩
  have rc : codeAny (model X.prog X.w) X.A (.call (.ref g1) ⟨[.ref f, u], []⟩) (CR C8.CX0 X.stack X.prog X.w H1 sM Q C8.E0) sM := by
    refine run_ofS (k := k + 2) (N := N1) (ps := [a1, b1]) (us := [.ref f, u]) (vs := [.ref f, v]) lk1 hc1 S1 hr IM.env0 (hb1 sM [.ref f, u] IM.kIn rfl) (.cons rfl (.cons ru .nil)) rfl fun hr' => ?_
    obtain ⟨tt, h1, h2⟩ := hG1 f c' v sM H1 Q (fun E G' Q' => t E σ G' Q') (fun r0 r1 r2 => pass_on IM L hf hfn hfr (hbind _ _ _ _ _) hN1 hv1 hg2 hm2 hk2 lk2 hc2 hb2 S2 hN2 hv2 (hG2 sM H1) hr' (fun A outer s H E hr2 => hbody A outer s H E f c' hr2) hd2 hd3 hcd3 hd4 hcd4) hco (h H1 eN TM)
    exact ⟨tt, h1.nox, h2⟩
  refine wpAny_call (codeAny_mono rc fun r sE hq => ?_)
  match r, hq with
  | .error e, hq => exact (show False from hq).elim
  | .ok (.ret u), hq => exact IM.after hq
  | .ok .next, hq => exact (show False from hq).elim
  | .ok .brk, hq => exact (show False from hq).elim
  | .ok .cont, hq => exact (show False from hq).elim
theorem pe_lam1 {T : List (Addr × Str)} {TT : (XK → Hp → VK → Prop) → Hp → VK → Prop} {x1 a1 : Str} {g1 c P : Addr} {k : Nat} {pg1 : Arguments} {bg1 : List Stmt} {sg1 : Scope} {dV1 kV1 doc1 pm1 cd1 ct1 oc1 : Value} {an1 od1 : Option Addr} {sl1 : Array (Option Value)} {N1 : List Str}
    {params : Arguments} {body : Expr} {scope : Scope} {t : XK → TE} {p lpos pos : Pos}
    (hg : Gl X x1) (hm : X.mg x1 = some (.ref g1)) (hk : PySem.W.keepIn X.K (.ref g1) = true)
    (lk1 : X.K.lookup g1 = some ⟨oc1, od1, .func (PySem.W.fnOf x1 x1 pg1 bg1 sg1 dV1 kV1 doc1 pm1 an1 cd1 ct1), sl1⟩) (hc1 : PySem.W.codeIn X.K cd1 x1 = true) (hb1 : L2.Binds X.K (PySem.W.fnOf x1 x1 pg1 bg1 sg1 dV1 kV1 doc1 pm1 an1 cd1 ct1) [a1] []) (S1 : FnScope N1 [a1] sg1) (hN1 : N1[0]? = some a1) (hv1 : Vis sg1 a1)
    (hG : GivesW X N1 x1 sg1 g1 cd1 bg1 a1 (X.env.qual ++ "<lambda>") TT)
    (TB : TabB X.base X.mg c P) (hcode : X.env.code = .ref c) (hmT : (P, X.env.qual ++ "<lambda>") ∈ T) (hu : ∀ z ∈ T, z.1 = P → z.2 = X.env.qual ++ "<lambda>") (hr : Room (k + 2) X.A) (L : LamS X.env.scope scope) (hdef : defaultsOf params X.env = ([], []))
    (hbind : ∀ (q : Str) (cl : List (Str × Addr)) (pm cv ctv : Value), bindArgs (PySem.W.kla_fn "<lambda>" q params body scope cl pm cv ctv) ⟨[], []⟩ = pure [])
    (hbody : ∀ (A : Around) (outer : List Env) (s : Shared) (H : Hp) (E : XK) (f c' : Addr), Room k (A.deeper (lamEnv X scope s.heap.objs.size f c')) → PE (lamCx X A outer s H E scope f c') body (t E))
    (hd1 : (x1 == ("__debug__" : Str)) = false := by decide) (hd3 : (a1 == ("__debug__" : Str)) = false := by decide) (hcd3 : (a1 == ("__classdict__" : Str)) = false := by decide) :
    PE X (.Call (.Name x1 p) [.Lambda params body scope lpos] [] pos) (tLam T TT t) := by
  refine ⟨fun pins s σ H Q I h => ?_⟩
  obtain ⟨hT, h⟩ := h
  refine wpAny_Call_Name_kw (ld_glob I hg hm ?_ hd1)
  refine PySem.W.callWith_K (h₀ := X.base) I.ok.mod.kin hk ?_ (by rfl) (by rfl)
  refine Calls.spliced_cons (lam_make2 I TB hcode hmT hu hT hdef (L.has I.ok) fun f c' pm' ctv H1 sM IM eN TM hf hfn hfr hco => ?_)
  refine Calls.spliced_nil ⟨IM.kIn, ?_⟩
  have rc : codeAny (model X.prog X.w) X.A (.call (.ref g1) ⟨[.ref f], []⟩) (CR C8.CX0 X.stack X.prog X.w H1 sM Q C8.E0) sM := by
    refine run_ofS (k := k + 1) (N := N1) (ps := [a1]) (us := [.ref f]) (vs := [.ref f]) lk1 hc1 S1 hr IM.env0 (hb1 sM [.ref f] IM.kIn rfl) (.cons rfl .nil) rfl fun hr' => ?_
    obtain ⟨tt, h1, h2⟩ := hG f c' sM H1 Q (fun E G' Q' => t E σ G' Q') (fun W pn xe r1 r2 tk => act1W (i := 0) IM L hf hfn hfr (hbind _ _ _ _ _) tk hr' (fun A outer s H E hr2 => hbody A outer s H E f c' hr2) hN1 hv1 hd3 hcd3) hco (h H1 eN TM)
    exact ⟨tt, h1.nox, h2⟩
  refine wpAny_call (codeAny_mono rc fun r sE hq => ?_)
  match r, hq with
  | .error e, hq => exact (show False from hq).elim
  | .ok (.ret u), hq => exact IM.after hq
  | .ok .next, hq => exact (show False from hq).elim
  | .ok .brk, hq => exact (show False from hq).elim
  | .ok .cont, hq => exact (show False from hq).elim
end
end G3

set_option Elab.async false
set_option linter.all false
set_option maxRecDepth 100000
set_option maxHeartbeats 4000000
/-! The end of a law row with tables of code objects, from a promise of the kind FnG. -/
namespace G3
open PySem PySem.Spec PyProof.Rows L2 LamX G1
section
variable {P : Program} {w : World} {K : PySem.W.Frag} {mg mb : Str → Option Value} {k : Nat} {fa a : Addr} {cs : List (Addr × Addr)} {fd : FuncData} {x : Str} {sp : Sp} {m : Shared} {vs : List Value} {ns : List Int}
abbrev tabs (cs : List (Addr × Addr)) : List Addr := cs.map (·.2)
/-- over an abstract heap in which nothing but the script and the tables may be tracked -/
theorem coreT (kin : K.In m.heap) (g1 : m.heap.Ns mainGlobals mg) (g2 : m.heap.Ns builtinsNs mb) (g3 : ∀ y : Str, y ≠ "__name__" → mb y = bootBuiltins y) (nol : m.heap.NoLimit) (gens : m.gens = #[])
    (tb : ∀ p ∈ cs, m.heap.get? p.2 = some { cls := .none, data := .fields #[] }) (tk : ∀ p ∈ cs, K.lookup p.2 = none) (cd : ∀ p ∈ cs, PySem.W.CodeHd m.heap p.1 p.2)
    (bmm : ∃ (bm : Addr) (ob : Obj), mg "__builtins__" = some (.ref bm) ∧ bm ≠ builtinsNs ∧ m.heap.get? bm = some ob ∧ ob.cls = .type "module" ∧ ob.dict = some builtinsNs ∧ ob.data = .plain)
    (there : m.heap.get? a = some { cls := .type "list", data := .seq vs.toArray }) (room : Room k callerA)
    (F : ∀ base : Heap, K.In base → base.Ns mainGlobals mg → (∀ p ∈ cs, TabB base mg p.1 p.2) → FnG P w K mg base k fa fd [x] sp) (bnd : ∀ (s : Shared) (u : Value), BindsTo s fd ⟨[u], []⟩ [(x, u)])
    (want : ∀ H : Hp, (∀ p ∈ cs, H p.2 = some (.tbl #[])) → SqL K H a (ns.map V.int) → sp [.ref a] H (fun v _ => v = .bl true) fun _ _ _ => False)
    (H : Hp) (hH : ∀ p ∈ cs, H p.2 = some (.tbl #[])) (only : ∀ b, H b = none ∨ b ∈ tabs cs ∨ ∃ o xs, H b = some (.frz o (.lst xs))) (seq : SqL K H a (ns.map V.int)) (ok : HOk P w H m.heap) (one : ∀ y, H y ≠ none → y = a ∨ y ∈ tabs cs) (apart : H a ≠ none → K.lookup a = none) :
    codeAny (model P w) callerA (.call (.ref fa) ⟨[.ref a], []⟩) (fun r m' => r = .ok (.ret (.bool true)) ∧ OldK m.heap m'.heap ∧ m'.os = m.os ∧ AllBare m'.gens) m := by
  have tbA : ∀ {y : Addr}, y ∈ tabs cs → m.heap.get? y = some { cls := .none, data := .fields #[] } := fun {y} hy => by
    obtain ⟨q, hq, e⟩ := List.mem_map.mp hy
    subst e
    exact tb q hq
  have hid : ∀ {y : Addr} {o : Obj}, m.heap.get? y = some o → H y = none → (hidT m.heap H).get? y = some o := fun e n => hidT_get e n
  -- an object that is neither a list nor an empty table is not tracked
  have untr : ∀ {y : Addr} {o : Obj}, m.heap.get? y = some o → (∀ l n, o.data ≠ .seq l n) → o.data ≠ .fields #[] → H y = none := fun {y o} e n1 n2 => by
    cases z : H y with
    | none => rfl
    | some u =>
      exfalso
      rcases one y (by rw [z]; simp) with hy | hy
      · subst hy
        rw [there] at e
        cases e
        exact n1 _ _ rfl
      · rw [tbA hy] at e
        cases e
        exact n2 rfl
  have nsH : ∀ {y : Addr} {f : Str → Option Value}, m.heap.Ns y f → (hidT m.heap H).Ns y f := fun {y f} z => by
    obtain ⟨o, es, ep, e, d, r⟩ := z
    refine ⟨o, es, ep, hid e (untr e (fun l n c => ?_) fun c => ?_), d, r⟩
    · rw [d] at c; cases c
    · rw [d] at c; cases c
  have kinH : K.In (hidT m.heap H) := fun y o e => by
    refine hid (kin y o e) ?_
    cases z : H y with
    | none => rfl
    | some u =>
      exfalso
      rcases one y (by rw [z]; simp) with hy | hy
      · subst hy
        rw [apart (by rw [z]; simp)] at e
        cases e
      · obtain ⟨q, hq, e'⟩ := List.mem_map.mp hy
        subst e'
        rw [tk q hq] at e
        cases e
  have md : Mod K mg (hidT m.heap H) := by
    obtain ⟨mc, h1, h2⟩ := nol
    exact ⟨kinH, nsH g1, ⟨mb, nsH g2, g3⟩, ⟨mc, nsH h1, h2⟩⟩
  have TBs : ∀ p ∈ cs, TabB (hidT m.heap H) mg p.1 p.2 := fun q hq => by
    have hTq := tb q hq
    refine ⟨?_, ?_, fun z => ?_⟩
    · obtain ⟨o, us, fl, tf, fg, tg, iF, tx, tt, e1, r1, r2, r3, r4, r5, r6, r7, r8, hne⟩ := cd q hq
      refine ⟨o, us, fl, tf, fg, tg, iF, tx, tt, hid e1 (untr e1 (fun l n c => ?_) fun c => ?_), r1, r2, r3, r4, r5, r6, r7, r8, hne⟩
      · rw [r2] at c; cases c
      · rw [r2] at c
        cases c
        simp at r3
    · obtain ⟨bm, ob, b1, b2, b3, b4, b5, b6⟩ := bmm
      refine ⟨bm, ob, b1, b2, fun z => ?_, fun z => ?_, hid b3 (untr b3 (fun l n c => ?_) fun c => ?_), b4, b5, b6⟩
      · obtain ⟨o, es, ep, e, d, _⟩ := g1
        rw [z, e] at b3
        cases b3
        rw [d] at b6
        cases b6
      · rw [z, hTq] at b3
        cases b3
        cases b6
      · rw [b6] at c; cases c
      · rw [b6] at c; cases c
    · obtain ⟨o, es, ep, e, d, _⟩ := g1
      rw [z, hTq] at e
      cases e
      cases d
  have e0 : Env0 P w K mg (hidT m.heap H) callerA [] m H :=
    ⟨rfl, md, fun y o e => of_hidT e, Nat.le_of_eq (hidT_size _ _), trivial, fun y hy => absurd (show y ∈ ([] : List Addr) from hy) (by simp), ok, .of_eq gens⟩
  have run := (F _ kinH (nsH g1) TBs).run callerA [] m H ⟨[.ref a], []⟩ [.ref a] [.ref a] _ _ rfl room e0 (bnd m (.ref a)) (.cons rfl .nil) (want H hH seq)
  refine codeAny_mono run fun r m' h => ?_
  match r, h with
  | .error e, h => exact (show False from h).elim
  | .ok .next, h => exact (show False from h).elim
  | .ok .brk, h => exact (show False from h).elim
  | .ok .cont, h => exact (show False from h).elim
  | .ok (.ret u), h =>
    obtain ⟨v, H', hos, hba, un, ok', rv, q⟩ := h
    obtain rfl : v = .bl true := q
    obtain rfl : u = Value.bool true := rv
    have stays : ∀ y o, y ∉ tabs cs → m.heap.get? y = some o → m'.heap.get? y = some o := fun y o ny e => by
      rcases only y with z | z | ⟨ob, xs, z⟩
      · exact un.keep y o e z (fun hm => absurd (show y ∈ ([] : List Addr) from hm) (by simp)) (by simp)
      · exact absurd z ny
      · obtain ⟨e1, _⟩ := ok y _ z
        obtain ⟨e2, _⟩ := ok' y _ (un.frzs y ob _ z)
        rw [e1] at e
        cases e
        exact e2
    have grows : ∀ q ∈ cs, ∃ more : Array Value, m'.heap.get? q.2 = some { cls := .none, data := .fields more } := fun q hq => by
      obtain ⟨more, z⟩ := un.tbls q.2 #[] (hH q hq)
      exact ⟨_, ok' q.2 _ z⟩
    refine ⟨rfl, ⟨fun y o e => ?_, fun y o e => ?_⟩, hos, hba⟩
    · by_cases hy : y ∈ tabs cs
      · obtain ⟨q, hq, e'⟩ := List.mem_map.mp hy
        subst e'
        obtain ⟨more, hm⟩ := grows q hq
        rw [tb q hq] at e
        cases e
        exact .inr (.inl ⟨((cd q hq).tab (tb q hq)).isCodeTable, rfl, #[], more, rfl, by rw [Array.empty_append]; exact hm⟩)
      · exact .inl (stays y o hy e)
    · by_cases hy : y ∈ tabs cs
      · obtain ⟨q, hq, e'⟩ := List.mem_map.mp hy
        subst e'
        obtain ⟨more, hm⟩ := grows q hq
        exact ⟨_, hm⟩
      · exact ⟨o, stays y o hy e⟩
theorem callLawT (kin : K.In m.heap) (g1 : m.heap.Ns mainGlobals mg) (g2 : m.heap.Ns builtinsNs mb) (g3 : ∀ y : Str, y ≠ "__name__" → mb y = bootBuiltins y) (nol : m.heap.NoLimit) (gens : m.gens = #[])
    (tb : ∀ p ∈ cs, m.heap.get? p.2 = some { cls := .none, data := .fields #[] }) (tk : ∀ p ∈ cs, K.lookup p.2 = none) (cd : ∀ p ∈ cs, PySem.W.CodeHd m.heap p.1 p.2)
    (bmm : ∃ (bm : Addr) (ob : Obj), mg "__builtins__" = some (.ref bm) ∧ bm ≠ builtinsNs ∧ m.heap.get? bm = some ob ∧ ob.cls = .type "module" ∧ ob.dict = some builtinsNs ∧ ob.data = .plain)
    (there : m.heap.get? a = some { cls := .type "list", data := .seq vs.toArray }) (hi : IntsAre vs ns) (hl : ns.length ≤ sizeLine) (room : Room k callerA)
    (F : ∀ base : Heap, K.In base → base.Ns mainGlobals mg → (∀ p ∈ cs, TabB base mg p.1 p.2) → FnG P w K mg base k fa fd [x] sp) (bnd : ∀ (s : Shared) (u : Value), BindsTo s fd ⟨[u], []⟩ [(x, u)])
    (want : ∀ H : Hp, (∀ p ∈ cs, H p.2 = some (.tbl #[])) → SqL K H a (ns.map V.int) → sp [.ref a] H (fun v _ => v = .bl true) fun _ _ _ => False) :
    codeAny (model P w) callerA (.call (.ref fa) ⟨[.ref a], []⟩) (fun r m' => r = .ok (.ret (.bool true)) ∧ OldK m.heap m'.heap ∧ m'.os = m.os ∧ AllBare m'.gens) m := by
  have rv := vals_ints hi
  have lv := hi.length
  have tbA : ∀ {y : Addr}, y ∈ tabs cs → m.heap.get? y = some { cls := .none, data := .fields #[] } := fun {y} hy => by
    obtain ⟨q, hq, e⟩ := List.mem_map.mp hy
    subst e
    exact tb q hq
  have aT : a ∉ tabs cs := fun z => by
    have q := tbA z
    rw [there] at q
    have z' : Data.seq vs.toArray _ = Data.fields #[] := congrArg Obj.data (Option.some.inj q)
    cases z'
  have inT : ∀ p ∈ cs, p.2 ∈ tabs cs := fun p hp => List.mem_map.mpr ⟨p, hp, rfl⟩
  cases hk : K.lookup a with
  | some o =>
    have e := kin a o hk
    rw [there] at e
    cases e
    have hn : ∀ y, y ∉ tabs cs → (if y ∈ tabs cs then some (HO.tbl #[]) else none) = none := fun y hy => if_neg hy
    refine coreT (ns := ns) kin g1 g2 g3 nol gens tb tk cd bmm there room F bnd want (fun y => if y ∈ tabs cs then some (.tbl #[]) else none) (fun q hq => if_pos (inT q hq)) (fun y => ?_) ?_ (fun y u z => ?_) (fun y z => ?_) fun z => absurd (hn a aT) z
    · by_cases hy : y ∈ tabs cs
      · exact .inr (.inl hy)
      · exact .inl (hn y hy)
    · exact .inr ⟨_, vs.toArray, _, hk, rfl, rfl, rfl, by rw [List.size_toArray, lv]; exact hl, by simpa using rv⟩
    · by_cases hy : y ∈ tabs cs
      · have z' := (if_pos hy).symm.trans z
        cases z'
        exact tbA hy
      · have z' := (hn y hy).symm.trans z
        cases z'
    · by_cases hy : y ∈ tabs cs
      · exact .inr hy
      · exact absurd (hn y hy) z
  | none =>
    have ha : ∀ y, y = a → (if y = a then some (HO.frz { cls := .type "list", data := .seq vs.toArray } (.lst (ns.map V.int))) else if y ∈ tabs cs then some (.tbl #[]) else none) = some (HO.frz { cls := .type "list", data := .seq vs.toArray } (.lst (ns.map V.int))) := fun y hy => if_pos hy
    have ht : ∀ y, y ≠ a → y ∈ tabs cs → (if y = a then some (HO.frz { cls := .type "list", data := .seq vs.toArray } (.lst (ns.map V.int))) else if y ∈ tabs cs then some (.tbl #[]) else none) = some (.tbl #[]) := fun y h1 h2 => (if_neg h1).trans (if_pos h2)
    have hn : ∀ y, y ≠ a → y ∉ tabs cs → (if y = a then some (HO.frz { cls := .type "list", data := .seq vs.toArray } (.lst (ns.map V.int))) else if y ∈ tabs cs then some (.tbl #[]) else none) = none := fun y h1 h2 => (if_neg h1).trans (if_neg h2)
    refine coreT (ns := ns) kin g1 g2 g3 nol gens tb tk cd bmm there room F bnd want (fun y => if y = a then some (HO.frz { cls := .type "list", data := .seq vs.toArray } (.lst (ns.map V.int))) else if y ∈ tabs cs then some (.tbl #[]) else none)
      (fun q hq => ht q.2 (fun z => aT (by rw [← z]; exact inT q hq)) (inT q hq)) (fun y => ?_) (.inl (.inr ⟨{ cls := .type "list", data := .seq vs.toArray }, if_pos rfl⟩)) (fun y u z => ?_) (fun y z => ?_) fun _ => hk
    · by_cases hy : y = a
      · exact .inr (.inr ⟨_, _, ha y hy⟩)
      · by_cases h2 : y ∈ tabs cs
        · exact .inr (.inl h2)
        · exact .inl (hn y hy h2)
    · by_cases hy : y = a
      · have z' := (ha y hy).symm.trans z
        cases z'
        subst hy
        exact ⟨there, by rw [List.length_map]; exact hl, vs, _, rv, there⟩
      · by_cases h2 : y ∈ tabs cs
        · have z' := (ht y hy h2).symm.trans z
          cases z'
          exact tbA h2
        · have z' := (hn y hy h2).symm.trans z
          cases z'
    · by_cases hy : y = a
      · exact .inl hy
      · by_cases h2 : y ∈ tabs cs
        · exact .inr h2
        · exact absurd (hn y hy h2) z
end
/-- what is known of the law at the head's heap -/
def LawT (l : PySem.W.OpenLaw) (w : World) (K : PySem.W.Frag) (k n : Nat) (x : Str) (mg : Str → Option Value) (fa : Addr) (h : Heap) : Prop :=
  ∃ (fd : FuncData) (cs : List (Addr × Addr)) (sp : Sp), (∀ p ∈ cs, h.get? p.2 = some { cls := .none, data := .fields #[] }) ∧ (∀ p ∈ cs, K.lookup p.2 = none) ∧ (∀ p ∈ cs, PySem.W.CodeHd h p.1 p.2) ∧ (∀ (s : Shared) (u : Value), BindsTo s fd ⟨[u], []⟩ [(x, u)]) ∧
    (∀ (H : Hp) (a : Addr) (ns : List Int), ns.length ≤ n → (∀ p ∈ cs, H p.2 = some (.tbl #[])) → SqL K H a (ns.map V.int) → sp [.ref a] H (fun v _ => v = .bl true) fun _ _ _ => False) ∧
    ∀ base : Heap, K.In base → base.Ns mainGlobals mg → (∀ p ∈ cs, TabB base mg p.1 p.2) → FnG l.prog w K mg base k fa fd [x] sp
theorem walkT {l : PySem.W.OpenLaw} {n k : Nat} {q : Program} {loose : List Str} {XP : (Str → Option Value) → Heap → Prop} {YP : World → Heap → Prop} {d : DefRec} {K : Params → PySem.W.Frag} {x : Str}
    (hn : l.most = some n) (hn2 : n ≤ sizeLine) (hdf : d.params.defaults = []) (room : Room k callerA) (hY : ∀ (w : World) (h : Heap), YP w h → (K w.params).In h)
    (F : ∀ (w : World) (mg : Str → Option Value) (fa : Addr) (h : Heap), YP w h → (K w.params).In h → h.Ns mainGlobals mg → mg d.name = some (.ref fa) → LawT l w (K w.params) k n x mg fa h) :
    PySem.W.WalkO q loose XP YP l.row.toRowW d [] (fun f vs => PySem.call f vs) := by
  refine Att.attach_call hn hdf fun w s₀ s₁ mg mb fa o pm cd doc a vs ns G Y ho hd hcd hmg hobj hints hlen hg => ?_
  have kin := hY w _ Y
  obtain ⟨fd, cs, sp, hT, nT, C, hb, hsp, hF⟩ := F w mg fa _ Y kin G.T.g hmg
  exact callLawT kin G.T.g G.T.b G.T.builtins G.T.nolimit hg hT nT C G.T.bmain hobj hints (Nat.le_trans hlen hn2) room hF hb fun H hH hS => hsp H a ns hlen hH hS
end G3

set_option Elab.async false
set_option linter.all false
set_option maxRecDepth 100000
set_option maxHeartbeats 4000000
/-! try: .. except (A, B): a suite that raises; own exceptions that are raised where nothing is handled. -/
namespace G3
open PySem PySem.Spec PyProof.Rows L2 L2H
theorem fly_keep {B h0 h1 : Heap} {l : List Env} {ea : Addr} {Z : Obj → Prop} (R : HandSPX.FlyingZ B l ea Z h0) (kp : ∀ b o, h0.get? b = some o → h1.get? b = some o) : HandSPX.FlyingZ B l ea Z h1 := by
  obtain ⟨st, nb, ff, oe, vs, T, oT, ts, he, hz, hd, v1, nT, ne, hT, dT, t3⟩ := R
  exact ⟨fun b o q => kp b o (st b o q), nb, ff.of_keeps fun b o q _ => ⟨o, kp b o q, rfl⟩, oe, vs, T, oT, ts, kp _ _ he, hz, hd, v1, nT, ne, kp _ _ hT, dT, t3⟩
/-- what one clause of two classes wishes -/
def wPair (K : PySem.W.Frag) (c1 c2 : Value) (ts : SuT) (D : Ends) : WX := fun cls d τ G => PySem.W.exmAny K cls [c1, c2] = some true ∧ ∀ ea, G ea = none → ts ea cls d D τ G
section
variable {Y : Cx} {x1 x2 : Str} {c1 c2 : Value} {body su : List Stmt} {b₀ : Stmt} {np1 np2 tp pos hp : Pos} {kk : Nat} {tb : WX → TS} {ts : SuT} {Wo : WX}
theorem ps_try_pair (hs : Y.stack = Y.env :: Y.outer) (hf : Y.env.frame = some Y.env.locals) (n1 : Names Y x1 c1) (n2 : Names Y x2 c2) (hpa : ∀ hd : Option Value, PassesOwnAt (model Y.prog Y.w) (Y.A.mark hd) Y.A Y.env Y.xe) (tk : L2.Takes Y Wo)
    (hb : ∀ (W : WX) (pn : List (Addr × Obj)) (xe : Value → Shared → Prop), L2N.Takes (Y.tr pn xe) W → PassesOwn (model Y.prog Y.w) Y.A Y.env xe → PSs (Y.tr pn xe) body (tb W))
    (hsu : ∀ (ea : Addr) (eo : Obj) (cls : Value) (d : Option Addr) (pn : List (Addr × Obj)), L2.Takes (suiteX Y ea ((ea, eo) :: pn)) Wo → HotC (suiteX Y ea ((ea, eo) :: pn)) → PSs (suiteX Y ea ((ea, eo) :: pn)) (b₀ :: su) (ts ea cls d)) :
    PS Y (.Try body [.ExceptHandler (some (.Tuple [.Name x1 np1, .Name x2 np2] kk tp)) none (b₀ :: su) hp] [] [] pos) (fun D τ G => tb (wPair Y.K c1 c2 ts D) D τ G) := by
  refine ⟨fun pins s τ G D J0 hgo => ?_⟩
  have okY := J0.ok
  have frY : Y.A.frames = some (Y.env :: Y.outer) := by rw [okY.frames, hs]
  refine wpAny_Try_except ?_
  refine wpAny_mono ((hb (wPair Y.K c1 c2 ts D) (Y.pn ++ pins) (fun ex sa => wpAny (model Y.prog Y.w) Y.A (noteFrame ex Y.env) (fun _ sb => wpAny (model Y.prog Y.w) Y.A (setFlight ex none) (fun _ sc =>
    wpAny (model Y.prog Y.w) Y.A (handleBy ex Y.env [.ExceptHandler (some (.Tuple [.Name x1 np1, .Name x2 np2] kk tp)) none (b₀ :: su) hp]) (SP Y pins D) Y.xe sc) Y.xe sb) Y.xe sa) (fun u s' flown => ?_) PassesOwn.looking).run [] s τ G D (J0.toTry _) hgo) (fun fl sd hsp => ?_) (fun ex se he => he)
  · obtain ⟨ea, B, sI, pins', τ', G', cls, d, rfl, J', nb, upw, sky, na, os, ag, hb1, wish⟩ := flown
    have J : Inv Y pins τ' G' sI := J'.ofTry okY
    have skyY : Sky B (Y.env :: Y.outer) ea (L2N.Zn cls d) Y.env.locals s'.heap := by rw [← hs]; exact sky
    show wpAny (model Y.prog Y.w) Y.A (noteFrame (.ref ea) Y.env) _ _ _
    refine L2N.Sky.land L2N.Zn.steady frY hf skyY fun h3 ld3 up3 => ?_
    have J3 : Inv Y pins τ' G' { s' with heap := h3 } := J.landed nb ld3.1 (upw.trans up3) os ag
    obtain ⟨eo3, vs3, he3, hz3, hd3⟩ := ld3.there
    have offFr : ea ∉ frs (Y.env :: Y.outer) := fun hm => by
      obtain ⟨_, o', e', hnf⟩ := ld3.2.2.1.mem hm
      rw [he3] at e'; cases e'
      exact hnf _ hd3
    have nL : ea ≠ Y.env.locals := fun z => offFr (List.mem_filterMap.mpr ⟨Y.env, List.mem_cons_self, by rw [hf, z]⟩)
    have nF : ea ∉ Y.fs := fun hm => by
      obtain ⟨ev, hev, q⟩ := List.mem_filterMap.mp hm
      exact offFr (List.mem_filterMap.mpr ⟨ev, List.mem_cons_of_mem _ hev, q⟩)
    have sS3 := J3.suite he3 hd3 na nL nF
    refine wpAny_handleBy_cons (codeAny_handlers_test ?_) (by intro qq; cases qq)
    have nameE : ∀ {x : Str} {c : Value} {np : Pos}, Names Y x c → ∀ {Q : Value → Shared → Prop} {E : Value → Shared → Prop}, Q c { s' with heap := h3 } → wpAny (model Y.prog Y.w) (Y.A.mark (some (.ref ea))) (eval (.Name x np) Y.env) Q E { s' with heap := h3 } := fun {x c np} hc {Q E} q => by
      obtain ⟨hg, hdb, hm | ⟨hm, hv, hnn⟩⟩ := hc
      · exact ld_glob (X := Y.suite ea ((ea, eo3) :: (Y.pn ++ pins))) sS3 hg hm q hdb
      · exact ld_blt (X := Y.suite ea ((ea, eo3) :: (Y.pn ++ pins))) sS3 hg hm hv q hnn hdb
    refine wpAny_Tuple ?_
    refine wpAny_items_cons (nameE n1 ?_)
    refine wpAny_items_cons (nameE n2 ?_)
    refine wpAny_items_nil ⟨by size_fits, ?_⟩
    have kp : ∀ q o, h3.get? q = some o → (h3.push { cls := .type "tuple", data := .seq [c1, c2].toArray }).get? q = some o := fun _ _ z => Heap.get?_push_of_some _ z
    have tyE : PySem.W.Looks (model Y.prog Y.w) h3 (typeOf (.ref ea)) cls := fun A Q E s k q => wpAny_typeOf_ref (k _ _ he3) (by rw [hz3.1]; exact q)
    refine (PySem.W.exm_tup2 (M := model Y.prog Y.w) (J3.kIn.keeps kp) (tyE.keeps kp) (Heap.get?_push_size h3 rfl) hb1).here ?_
    have ldT := fly_keep ld3 kp
    have upT : sI.heap.UpToSlots (h3.push { cls := .type "tuple", data := .seq [c1, c2].toArray }) := (upw.trans up3).trans (Heap.UpToSlots.of_keeps kp)
    generalize h3.push { cls := .type "tuple", data := .seq [c1, c2].toArray } = hT at ldT upT ⊢
    refine codeAny_handlers_suite ?_
    refine HandSPX.lands_againZ ldT fun h4 ld4 up4 => ?_
    have J4 : Inv Y pins τ' G' { s' with heap := h4 } := J.landed nb ld4.1 (upT.trans up4) os ag
    obtain ⟨eo4, vs4, he4, hz4, hd4⟩ := ld4.there
    have sS4 := J4.suite he4 hd4 na nL nF
    have tkS : L2.Takes (suiteX Y ea ((ea, eo4) :: (Y.pn ++ pins))) Wo := fun u2 s2 z2 => by
      obtain ⟨a2, B2, sI2, pn2, τ2, G2, cls2, d2, e2, I2, nb2, up2, sky2, na2, os2, ag2, w2⟩ := z2
      exact tk u2 s2 ⟨a2, B2, sI2, pins, τ2, G2, cls2, d2, e2, unsuiteX I2 okY, nb2, up2, sky2, na2, os2, ag2, w2⟩
    have hotS : HotC (suiteX Y ea ((ea, eo4) :: (Y.pn ++ pins))) := ⟨(ea, eo4), ⟨rfl, vs4, hd4, hz4.2.2 vs4 hd4⟩, List.mem_cons_self⟩
    refine wpAny_mono ((hsu ea eo4 cls d (Y.pn ++ pins) tkS hotS).run [] _ _ G' _ (suiteX_of sS4) (wish ea na)) (fun fl s6 hsp => ?_) (fun e6 s6 z => hpa (some (.ref ea)) e6 s6 z)
    cases fl with
    | next =>
      obtain ⟨τ6, G6, S6, q6⟩ := hsp
      exact ⟨_, _, unsuiteX S6 okY, q6⟩
    | brk =>
      obtain ⟨τ6, G6, S6, q6⟩ := hsp
      exact ⟨_, _, unsuiteX S6 okY, q6⟩
    | cont =>
      obtain ⟨τ6, G6, S6, q6⟩ := hsp
      exact ⟨_, _, unsuiteX S6 okY, q6⟩
    | ret u =>
      obtain ⟨v6, τ6, G6, S6, r6, q6⟩ := hsp
      exact ⟨_, _, _, unsuiteX S6 okY, r6, q6⟩
  · cases fl with
    | next =>
      obtain ⟨τ', G', J', q⟩ := hsp
      exact wpAny_execs_nil ⟨τ', G', J'.ofTry okY, q⟩
    | brk =>
      obtain ⟨τ', G', J', q⟩ := hsp
      exact ⟨τ', G', J'.ofTry okY, q⟩
    | cont =>
      obtain ⟨τ', G', J', q⟩ := hsp
      exact ⟨τ', G', J'.ofTry okY, q⟩
    | ret u =>
      obtain ⟨v, τ', G', J', r, q⟩ := hsp
      exact ⟨v, τ', G', J'.ofTry okY, r, q⟩
end
section
variable {Y : Cx} {e : Expr} {es : List Expr} {ta : TA} {p pos : Pos}
/-- C(e, ..) of an own class, made where nothing is handled: its context is None -/
theorem pmk_oexN {CXq : CXT} {nmC : Str} {C fI : Addr} {k : Nat} {fd : FuncData} {ps : List Str} {sp : Sp} {ds : List Value} {dvs : List V} (T : OexC Y.K C) (iC : PySem.W.findIn Y.K (.ref C) "__init__" = some (some (.ref fI))) (tI : PySem.W.typeIn Y.K (.ref fI) = some (.type "function"))
    (Fi : FnOk Y.prog Y.w Y.K Y.mg Y.base CXq k fI fd ps sp) (hr : Room (k + 1) Y.A) (bi : Binds Y.K fd ps ds) (hdv : Vals dvs ds) (hps : Passes CXq Y (fun _ _ _ => False)) (hg : Gl Y nmC) (hm : Y.mg nmC = some (.ref C)) (ha : PA Y (e :: es) ta)
    (hdb : (nmC == ("__debug__" : Str)) = false := by decide) (hst : starEach (e :: es) Y.env = (false, eval e Y.env) :: starEach es Y.env := by rfl) (hpl : (backTo pos (starEach es Y.env)).any (·.1) = false := by rfl) :
    L2N.PMk Y (.Call (.Name nmC p) (e :: es) [] pos) (tMkO C sp dvs ta) := by
  intro pins s τ G Q J want
  obtain ⟨nmx, qx, Nx, bs, bm, sn, sub, ab, col, dd, k0, k1, k2, k3, k5, hC, hbm⟩ := T.cls
  refine wpAny_Call_Name_kw (ld_glob J hg hm ?_ hdb)
  refine PySem.W.callWith_K (h₀ := Y.base) J.ok.mod.kin T.kC (thn (ha.run pos pins s τ G _ J want) fun us sa ⟨vs, Ga, Ja, ra, hz, qa⟩ => ⟨Ja.kIn, ?_⟩) hst hpl
  show wpAny _ _ (call (.ref C) us) _ _ _
  obtain ⟨hp0, gn, dr, tk, os⟩ := sa
  have sz1 : hp0.objs.size ≤ hp0.objs.size + 1 := Nat.le_succ _
  have fr1 : Ga (hp0.objs.size + 1) = none := Ja.hok.fresh sz1
  have want1 := qa (hp0.objs.size + 1) fr1
  have keep1 : ∀ b o, hp0.get? b = some o → ((hp0.push (PySem.W.kdv_tup us)).push (PySem.HandSPX.excO C hp0.objs.size)).get? b = some o := fun b o z => Heap.get?_push_of_some _ (Heap.get?_push_of_some _ z)
  have at1 : ((hp0.push (PySem.W.kdv_tup us)).push (PySem.HandSPX.excO C hp0.objs.size)).get? (hp0.objs.size + 1) = some (PySem.HandSPX.excO C hp0.objs.size) := by heap_get
  have Jb : Inv Y pins τ (upd Ga (hp0.objs.size + 1) (exo (hp0.objs.size + 1) C none)) ⟨(hp0.push (PySem.W.kdv_tup us)).push (PySem.HandSPX.excO C hp0.objs.size), gn, dr, tk, os⟩ :=
    Ja.laid (t' := tk) (a := hp0.objs.size + 1) (o := exo (hp0.objs.size + 1) C none) (h' := (hp0.push (PySem.W.kdv_tup us)).push (PySem.HandSPX.excO C hp0.objs.size)) keep1 sz1 (exo_ok at1)
  have rb : Vals (V.ref (hp0.objs.size + 1) :: (vs ++ dvs)) (Value.ref (hp0.objs.size + 1) :: (us ++ ds)) := .cons rfl (ra.append hdv)
  have lenb : (Value.ref (hp0.objs.size + 1) :: us ++ ds).length = ps.length := by
    have z := rb.length
    rw [Fi.len _ _ _ _ want1] at z
    exact z.symm
  have few : us.length ≤ sizeLine := by
    rw [← Paired.length ra, sizeLine_eq]
    omega
  refine wpAny_call (PySem.HandSPX.call_own F.excBase_ValueError (fun Z => PySem.HandSPX.refsVE_contains Z bm hbm) (Ja.kIn _ _ hC) (PySem.W.looks_findIn Ja.kIn iC) (fun self => PySem.W.bind_fn Ja.kIn self tI) few
    (codeAny_mono (Fi.run _ Y.stack _ _ ⟨Value.ref (hp0.objs.size + 1) :: us, []⟩ (Value.ref (hp0.objs.size + 1) :: (us ++ ds)) _ _ (fun _ _ _ => False) (hr.make C us []) (Jb.env0.make C us []) (bi _ (Value.ref (hp0.objs.size + 1) :: us) Jb.kIn lenb) rb want1) fun r s' hq' => ?_))
  cases r with
  | error er => exact hps pins τ _ _ er s' Jb hq'
  | ok fl =>
    cases fl with
    | ret u =>
      obtain ⟨v, Gb, osb, bareb, unb, hokb, rv, ev, d, fs, ea, ed, hd1, qb⟩ := hq'
      subst ev
      obtain ⟨h2, g2, d2, t2, os'⟩ := s'
      obtain ⟨t0, Gq, Jq, kG, ge, hoe, na⟩ := mk_end0 (d2 := d2) (t2 := t2) Ja sz1 keep1 unb hokb osb bareb ea ed hd1
      refine ⟨rv, hp0.objs.size + 1, _, _, ⟨Gq, g2, d2, t2, os'⟩, _, .ref C, some d, rfl, Jq, kG, ge, hoe, ⟨rfl, rfl, fun vs hv => ?_⟩, rfl, rfl, na, rfl, bareb, raises_own T.exC T.tyC, qb⟩
      cases hv
      rfl
    | next => exact False.elim hq'
    | brk => exact False.elim hq'
    | cont => exact False.elim hq'
end
section
variable {P : Program} {w : World} {K : PySem.W.Frag} {mg : Str → Option Value} {base : Heap}
/-- a def that may raise where nothing is handled -/
theorem okXN {x qual : Str} {st : Stmt} {f : Addr} {fd : FuncData} {N ps : List Str} {k : Nat} {sp : Sp} (F : Fun K x qual st f fd) (S : FnScope N ps (defScope st)) (len : ∀ vs H Q E, sp vs H Q E → vs.length = ps.length)
    (hbd : ∀ (cdv : Value) (A : Around) (outer : List Env) (s : Shared) (H : Hp) (vs : List V) (Q : VK) (E : XK), Room k (A.deeper (envOfC qual (defScope st) s.heap.objs.size f cdv)) → sp vs H Q E →
      ∃ t, PSs (cxOf (L2N.CX P w) P w K mg base N qual (defScope st) f cdv A outer s H E) (defBody st) t ∧ t { nx := fun _ H' => Q .non H', rt := Q } (start N vs) H) : FnOk P w K mg base (L2N.CX P w) (k + 1) f fd ps sp := by
  obtain ⟨oc, od, kV, doc, pm, an, cdv, ct, osl, rfl, lk, hcd⟩ := F.ex
  exact fn_of lk hcd S len fun A outer s H vs Q E hr hsp => hbd cdv A outer s H vs Q E hr hsp
/-- a def that is called while an exception is handled -/
theorem okH {x qual : Str} {st : Stmt} {f : Addr} {fd : FuncData} {N ps : List Str} {k : Nat} {sp : Sp} (F : Fun K x qual st f fd) (S : FnScope N ps (defScope st)) (len : ∀ vs H Q E, sp vs H Q E → vs.length = ps.length)
    (hbd : ∀ (cdv : Value) (A : Around) (outer : List Env) (s : Shared) (H : Hp) (vs : List V) (Q : VK) (E : XK) (p : Addr × Obj), Hot1 A p → RoomH k (A.deeper (envOfC qual (defScope st) s.heap.objs.size f cdv)) → sp vs H Q E →
      ∃ t, PSs (cxH CX0 P w K mg base N qual (defScope st) f cdv A outer s H E p) (defBody st) t ∧ t { nx := fun _ H' => Q .non H', rt := Q } (start N vs) H) : FnH P w K mg base CX0 (k + 1) f fd ps sp := by
  obtain ⟨oc, od, kV, doc, pm, an, cdv, ct, osl, rfl, lk, hcd⟩ := F.ex
  exact fn_ofH lk hcd S len fun A outer s H vs Q E p hot hr hsp => hbd cdv A outer s H vs Q E p hot hr hsp
end
end G3

set_option Elab.async false
set_option linter.all false
set_option maxRecDepth 100000
set_option maxHeartbeats 4000000
namespace K3
open PySem PySem.Spec PyProof.Rows L2 G1 G2 K2
/-- a value of some kind that is no tuple -/
inductive NonT (K : PySem.W.Frag) (H : Hp) : V → Prop
  | non : NonT K H .non
  | bl (b : Bool) : NonT K H (.bl b)
  | int (i : Int) : NonT K H (.int i)
  | str (x : Str) : NonT K H (.str x)
  | lst {a : Addr} {xs : List V} : SqL K H a xs → NonT K H (.ref a)
  | dct {a : Addr} {kvs : List (Key × V)} : H a = some (.dK kvs) → NonT K H (.ref a)
/-- a value of some kind -/
inductive Kd (K : PySem.W.Frag) (H : Hp) : V → Prop
  | nt {v : V} : NonT K H v → Kd K H v
  | tup {a : Addr} {xs : List V} : SqT K H a xs → Kd K H (.ref a)
def witB (v : V) (lo hi : Int) : Bool := match v with
  | .int i => decide (lo ≤ i) && decide (i ≤ hi)
  | _ => false
def intB : V → Bool
  | .int _ => true
  | _ => false
def strB : V → Bool
  | .str _ => true
  | _ => false
theorem NonT.ty {K : PySem.W.Frag} {H : Hp} {v : V} (h : NonT K H v) : ∃ t, TyX K H v t ∧ PySem.W.kitOne K t (.type "tuple") = some false := by
  cases h with
  | non => exact ⟨_, .base .non, kit_ty (by decide +kernel)⟩
  | bl b => exact ⟨_, .base (.bl b), kit_ty (by decide +kernel)⟩
  | int i => exact ⟨_, .base (.int i), kit_ty (by decide +kernel)⟩
  | str x => exact ⟨_, .base (.str x), kit_ty (by decide +kernel)⟩
  | lst h => exact ⟨_, lst_ty h, kit_ty (by decide +kernel)⟩
  | dct h => exact ⟨_, .base (.dK h), kit_ty (by decide +kernel)⟩
theorem Kd.isStr {K : PySem.W.Frag} {H : Hp} {v : V} (h : Kd K H v) : ∃ t, TyX K H v t ∧ PySem.W.kitOne K t (.type "str") = some (strB v) := by
  cases h with
  | nt h =>
    cases h with
    | non => exact ⟨_, .base .non, kit_ty (show _ = some _ from by first | exact (show _ = some false from by decide +kernel) | exact (show _ = some true from by decide +kernel))⟩
    | bl b => exact ⟨_, .base (.bl b), kit_ty (show _ = some _ from by first | exact (show _ = some false from by decide +kernel) | exact (show _ = some true from by decide +kernel))⟩
    | int i => exact ⟨_, .base (.int i), kit_ty (show _ = some _ from by first | exact (show _ = some false from by decide +kernel) | exact (show _ = some true from by decide +kernel))⟩
    | str x => exact ⟨_, .base (.str x), kit_ty (show _ = some _ from by first | exact (show _ = some false from by decide +kernel) | exact (show _ = some true from by decide +kernel))⟩
    | lst h => exact ⟨_, lst_ty h, kit_ty (show _ = some _ from by first | exact (show _ = some false from by decide +kernel) | exact (show _ = some true from by decide +kernel))⟩
    | dct h => exact ⟨_, .base (.dK h), kit_ty (show _ = some _ from by first | exact (show _ = some false from by decide +kernel) | exact (show _ = some true from by decide +kernel))⟩
  | tup h => exact ⟨_, tup_ty h, kit_ty (show _ = some _ from by first | exact (show _ = some false from by decide +kernel) | exact (show _ = some true from by decide +kernel))⟩
/-- isinstance(v, int) and not isinstance(v, bool) -/
theorem Kd.isInt {K : PySem.W.Frag} {H : Hp} {v : V} (h : Kd K H v) : ∃ t, TyX K H v t ∧ ((∃ b, v = .bl b ∧ PySem.W.kitOne K t (.type "int") = some true ∧ PySem.W.kitOne K t (.type "bool") = some true) ∨ (∃ i, v = .int i ∧ PySem.W.kitOne K t (.type "int") = some true ∧ PySem.W.kitOne K t (.type "bool") = some false) ∨
    (intB v = false ∧ PySem.W.kitOne K t (.type "int") = some false)) := by
  cases h with
  | nt h =>
    cases h with
    | non => exact ⟨_, .base .non, .inr (.inr ⟨rfl, kit_ty (by decide +kernel)⟩)⟩
    | bl b => exact ⟨_, .base (.bl b), .inl ⟨b, rfl, kit_ty (by decide +kernel), kit_ty (by decide +kernel)⟩⟩
    | int i => exact ⟨_, .base (.int i), .inr (.inl ⟨i, rfl, kit_ty (by decide +kernel), kit_ty (by decide +kernel)⟩)⟩
    | str x => exact ⟨_, .base (.str x), .inr (.inr ⟨rfl, kit_ty (by decide +kernel)⟩)⟩
    | lst h => exact ⟨_, lst_ty h, .inr (.inr ⟨rfl, kit_ty (by decide +kernel)⟩)⟩
    | dct h => exact ⟨_, .base (.dK h), .inr (.inr ⟨rfl, kit_ty (by decide +kernel)⟩)⟩
  | tup h => exact ⟨_, tup_ty h, .inr (.inr ⟨rfl, kit_ty (by decide +kernel)⟩)⟩
theorem wit_not {v : V} (h : intB v = false) (lo hi : Int) : witB v lo hi = false := by
  cases v <;> first | rfl | cases h
/-! ### stays -/
theorem NonT.same {K : PySem.W.Frag} {H H' : Hp} {v : V} (h : NonT K H v) (s : Same H H') : NonT K H' v := by
  cases h with
  | non => exact .non
  | bl b => exact .bl b
  | int i => exact .int i
  | str x => exact .str x
  | lst h => exact .lst (s.seq h)
  | dct h => exact .dct (s _ _ h)
theorem Kd.same {K : PySem.W.Frag} {H H' : Hp} {v : V} (h : Kd K H v) (s : Same H H') : Kd K H' v := by
  cases h with
  | nt h => exact .nt (h.same s)
  | tup h => exact .tup (K2.Same.tup s h)
def spIsA (K : PySem.W.Frag) : Sp := fun vs H Q _ => ∃ v, vs = [v] ∧ Kd K H v ∧ Q (.bl (intB v)) H
def spWtA (K : PySem.W.Frag) : Sp := fun vs H Q _ => ∃ (v : V) (lo hi : Int), vs = [v, .int lo, .int hi] ∧ Kd K H v ∧ Q (.bl (witB v lo hi)) H
section
variable {P : Program} {w : World} {K : PySem.W.Frag} {mg : Str → Option Value} {base : Heap}
theorem chain_read {v lo hi : Int} {H : Hp} {Q : VK} (k : Q (.bl (decide (lo ≤ v) && decide (v ≤ hi))) H) : if decide (lo ≤ v) = true then Q (.bl (decide (v ≤ hi))) H else Q (.bl false) H := by
  cases c : decide (lo ≤ v) with
  | true => rw [c, Bool.true_and] at k; exact iteT k
  | false => rw [c, Bool.false_and] at k; exact iteF k
theorem ok_isA {f : Addr} {fd : FuncData} (F : Fun K "is_integer" "is_integer" sIsI f fd) (B : Bl mg) : FnOk P w K mg base CX0 1 f fd ["value"] (spIsA K) := by
  refine F.ok scIsI (fun vs H Q E h => ?_) (fun cdv A outer s H vs Q E hr h => ?_)
  · obtain ⟨i, rfl, _⟩ := h
    rfl
  obtain ⟨v, rfl, kd, k⟩ := h
  refine ⟨_, pss_one (ps_ret (pe_and (pe_callB call_isi (by rfl) B.isi bIsi (pa_cons (pv 0) (pa_cons (pe_bltn (v := .ty "int") (by rfl) B.int bInt rfl) pa_nil)))
    (pe_one (pe_not (pe_callB call_isi (by rfl) B.isi bIsi (pa_cons (pv 0) (pa_cons (pe_bltn (v := .ty "bool") (by rfl) B.boo bBool rfl) pa_nil))))))), ?_⟩
  obtain ⟨t, ty, ⟨b, rfl, k1, k2⟩ | ⟨i, rfl, k1, k2⟩ | ⟨e, k1⟩⟩ := kd.isInt
  · exact ⟨_, rfl, _, _, _, _, true, rfl, .ty _, ty, k1, true, rfl, iteT ⟨_, rfl, _, _, _, _, true, rfl, .ty _, ty, k2, true, rfl, k⟩⟩
  · exact ⟨_, rfl, _, _, _, _, true, rfl, .ty _, ty, k1, true, rfl, iteT ⟨_, rfl, _, _, _, _, false, rfl, .ty _, ty, k2, false, rfl, k⟩⟩
  · rw [e] at k
    exact ⟨_, rfl, _, _, _, _, false, rfl, .ty _, ty, k1, false, rfl, iteF k⟩
theorem ok_wtA {f fI : Addr} {fd fdI : FuncData} (F : Fun K "is_within" "is_within" sWit f fd) (GI : FnOk P w K mg base CX0 1 fI fdI ["value"] (spIsA K)) (kI : PySem.W.keepIn K (.ref fI) = true) (bI : Binds K fdI ["value"] []) (gI : mg "is_integer" = some (.ref fI)) :
    FnOk P w K mg base CX0 2 f fd ["value", "least", "most"] (spWtA K) := by
  refine F.ok scWit (fun vs H Q E h => ?_) (fun cdv A outer s H vs Q E hr h => ?_)
  · obtain ⟨v, lo, hi, rfl, _⟩ := h
    rfl
  obtain ⟨v, lo, hi, rfl, kd, k⟩ := h
  refine ⟨_, pss_one (ps_ret (pe_and (pe_call GI hr (by rfl) gI kI bI .nil pass0 (pa_cons (pv 0) pa_nil)) (pe_one (pe_chain op_le op_le (pv 1) (pv 0) (pv 2))))), ?_⟩
  refine ⟨_, rfl, v, rfl, kd, intB v, rfl, ?_⟩
  cases e : intB v with
  | false =>
    rw [wit_not e] at k
    exact iteF k
  | true =>
    cases v with
    | int i =>
      refine iteT ⟨_, rfl, _, rfl, _, _, rfl, rfl, _, rfl, ?_⟩
      refine ite2 (fun c => ⟨_, rfl, _, _, rfl, rfl, ?_⟩) (fun c => ?_)
      · have z : witB (.int i) lo hi = decide (i ≤ hi) := by
          show (decide (lo ≤ i) && decide (i ≤ hi)) = _
          rw [show decide (lo ≤ i) = true from c, Bool.true_and]
        rw [z] at k
        exact k
      · have z : witB (.int i) lo hi = false := by
          show (decide (lo ≤ i) && decide (i ≤ hi)) = _
          rw [show decide (lo ≤ i) = false from by simpa using c, Bool.false_and]
        rw [z] at k
        have z2 : decide (lo ≤ i) = false := by simpa using c
        first
          | exact k
          | (show Q (.bl (decide (lo ≤ i))) H; rw [z2]; exact k)
    | _ => cases e
end
end K3

set_option Elab.async false
set_option linter.all false
set_option maxRecDepth 100000
set_option maxHeartbeats 4000000
namespace K3
open PySem PySem.Spec PyProof.Rows L2 G1 G2 K2
/-! ### own exceptions with one field -/
def spXi (C : Addr) (fld : Str) : Sp := fun vs H Q _ => ∃ (a : Addr) (v : V), vs = [.ref a, v] ∧ H a = some (exo a C none) ∧ ∀ dx, H dx = none → dx ≠ a → Q .non (upd (upd H dx (exd dx [(fld, v)])) a (exo a C (some dx)))
structure XCls (P : Program) (w : World) (K : PySem.W.Frag) (mg : Str → Option Value) (base : Heap) (x fld : Str) (C : Addr) : Prop where
  T : OexC K C
  xf : XfC K C
  no : PySem.W.findIn K (.ref C) fld = some none
  g : mg x = some (.ref C)
  ini : ∃ (fI : Addr) (fd : FuncData), PySem.W.findIn K (.ref C) "__init__" = some (some (.ref fI)) ∧ PySem.W.typeIn K (.ref fI) = some (.type "function") ∧ FnOk P w K mg base CX0 1 fI fd ["self", fld] (spXi C fld) ∧ Binds K fd ["self", fld] []
/-- what is wanted of a raised one -/
def Rsd (C : Addr) (fld : Str) (v : V) (H : Hp) (E : XK) : Prop := ∀ (d : Addr) (H' : Hp), Same H H' → H' d = some (.xd [(fld, v)]) → E (.ref C) (some d) H'
theorem mk_read {C : Addr} {fld : Str} {v : V} {H : Hp} {E : XK} {E2 : XK} (k : Rsd C fld v H E) : [v].length ≤ 1000 ∧ ∀ a, H a = none → spXi C fld (.ref a :: ([v] ++ [])) (upd H a (exo a C none))
    (fun u H2 => u = .non ∧ ∃ (d : Addr) (fs : List (Str × V)), H2 a = some (exo a C (some d)) ∧ H2 d = some (exd d fs) ∧ H d = none ∧ E (.ref C) (some d) (upd (del H2 a) d (.xd fs))) E2 := by
  refine ⟨(by show 1 ≤ 1000; decide), fun a na => ⟨a, v, rfl, upd_same, fun dx nd ne => ⟨rfl, dx, [(fld, v)], upd_same, ?_, ?_, ?_⟩⟩⟩
  · rw [upd_ne ne, upd_same]
  · rw [upd_ne ne] at nd
    exact nd
  · rw [upd_ne ne] at nd
    refine k dx _ (fun b o e => ?_) upd_same
    have n1 : b ≠ dx := ne_of_none e nd
    have n2 : b ≠ a := ne_of_none e na
    rw [upd_ne n1, del_ne n2, upd_ne n2, upd_ne n1, upd_ne n2]
    exact e
abbrev sIB : Stmt := inClass (topS 6) 0
abbrev sIP : Stmt := inClass (topS 7) 0
abbrev sIN : Stmt := inClass (topS 8) 0
abbrev sIR : Stmt := inClass (topS 10) 0
theorem scIB : FnScope ["self", "given"] ["self", "given"] (defScope sIB) := ⟨rfl, rfl, rfl, by decide +kernel, rfl, by decide +kernel, by decide +kernel⟩
theorem scIP : FnScope ["self", "given"] ["self", "given"] (defScope sIP) := ⟨rfl, rfl, rfl, by decide +kernel, rfl, by decide +kernel, by decide +kernel⟩
theorem scIN : FnScope ["self", "given"] ["self", "given"] (defScope sIN) := ⟨rfl, rfl, rfl, by decide +kernel, rfl, by decide +kernel, by decide +kernel⟩
theorem scIR : FnScope ["self", "index"] ["self", "index"] (defScope sIR) := ⟨rfl, rfl, rfl, by decide +kernel, rfl, by decide +kernel, by decide +kernel⟩
section
variable {P : Program} {w : World} {K : PySem.W.Frag} {mg : Str → Option Value} {base : Heap} {C f : Addr} {fd : FuncData}
theorem ok_xB (F : Fun K "__init__" "InvalidBlocks.__init__" sIB f fd) (T : OexC K C) (no : PySem.W.findIn K (.ref C) "given" = some none) : FnOk P w K mg base CX0 1 f fd ["self", "given"] (spXi C "given") := by
  refine F.ok scIB (fun vs H Q E h => ?_) (fun cdv A outer s H vs Q E hr h => ?_)
  · obtain ⟨a, v, rfl, _⟩ := h
    rfl
  obtain ⟨a, v, rfl, ha, k⟩ := h
  exact ⟨_, pss_one (ps_ost (pv 0) (pv 1)), _, rfl, _, rfl, a, C, rfl, T, no, .inl ⟨ha, k⟩⟩
theorem ok_xP (F : Fun K "__init__" "InvalidPages.__init__" sIP f fd) (T : OexC K C) (no : PySem.W.findIn K (.ref C) "given" = some none) : FnOk P w K mg base CX0 1 f fd ["self", "given"] (spXi C "given") := by
  refine F.ok scIP (fun vs H Q E h => ?_) (fun cdv A outer s H vs Q E hr h => ?_)
  · obtain ⟨a, v, rfl, _⟩ := h
    rfl
  obtain ⟨a, v, rfl, ha, k⟩ := h
  exact ⟨_, pss_one (ps_ost (pv 0) (pv 1)), _, rfl, _, rfl, a, C, rfl, T, no, .inl ⟨ha, k⟩⟩
theorem ok_xN (F : Fun K "__init__" "InvalidNames.__init__" sIN f fd) (T : OexC K C) (no : PySem.W.findIn K (.ref C) "given" = some none) : FnOk P w K mg base CX0 1 f fd ["self", "given"] (spXi C "given") := by
  refine F.ok scIN (fun vs H Q E h => ?_) (fun cdv A outer s H vs Q E hr h => ?_)
  · obtain ⟨a, v, rfl, _⟩ := h
    rfl
  obtain ⟨a, v, rfl, ha, k⟩ := h
  exact ⟨_, pss_one (ps_ost (pv 0) (pv 1)), _, rfl, _, rfl, a, C, rfl, T, no, .inl ⟨ha, k⟩⟩
theorem ok_xR (F : Fun K "__init__" "InvalidRows.__init__" sIR f fd) (T : OexC K C) (no : PySem.W.findIn K (.ref C) "index" = some none) : FnOk P w K mg base CX0 1 f fd ["self", "index"] (spXi C "index") := by
  refine F.ok scIR (fun vs H Q E h => ?_) (fun cdv A outer s H vs Q E hr h => ?_)
  · obtain ⟨a, v, rfl, _⟩ := h
    rfl
  obtain ⟨a, v, rfl, ha, k⟩ := h
  exact ⟨_, pss_one (ps_ost (pv 0) (pv 1)), _, rfl, _, rfl, a, C, rfl, T, no, .inl ⟨ha, k⟩⟩
end
/-! ### rows of any kind -/
def rowB (e : Option RowD) (p : Int) : Bool := match e with
  | some r => decide (0 ≤ r.1) && decide (r.1 ≤ p)
  | none => false
def pairE (x y : V) : Option RowD := match x, y with
  | .int l, .str w => if inV (.str w) (wordsL.map V.str) = true then some (l, w) else none
  | _, _ => none
inductive ElV (K : PySem.W.Frag) (H : Hp) : V → Option RowD → Prop
  | pair {a : Addr} {x y : V} : SqT K H a [x, y] → Kd K H x → Kd K H y → ElV K H (.ref a) (pairE x y)
  | len {a : Addr} {xs : List V} : SqT K H a xs → xs.length ≠ 2 → ElV K H (.ref a) none
  | oth {v : V} : NonT K H v → ElV K H v none
theorem ElV.same {K : PySem.W.Frag} {H H' : Hp} {v : V} {e : Option RowD} (h : ElV K H v e) (s : Same H H') : ElV K H' v e := by
  cases h with
  | pair h1 h2 h3 => exact .pair (K2.Same.tup s h1) (h2.same s) (h3.same s)
  | len h1 h2 => exact .len (K2.Same.tup s h1) h2
  | oth h => exact .oth (h.same s)
theorem pair_int {x y : V} (p : Int) (h : intB x = false) : rowB (pairE x y) p = false := by
  cases x <;> first | rfl | cases h
theorem pair_str {x y : V} (p : Int) (h : strB y = false) : rowB (pairE x y) p = false := by
  cases y <;> first | (cases x <;> rfl) | (exact absurd h (by decide)) | cases h
theorem pair_wit {x y : V} {p : Int} (h : witB x 0 p = false) : rowB (pairE x y) p = false := by
  cases x with
  | int l =>
    cases y with
    | str w =>
      unfold pairE
      dsimp only
      split
      · exact h
      · rfl
    | _ => rfl
  | _ => rfl
theorem pair_all {x : V} {t : Str} {p : Int} (h : witB x 0 p = true) : rowB (pairE x (.str t)) p = inV (.str t) (wordsL.map V.str) := by
  cases x with
  | int l =>
    unfold pairE
    dsimp only
    split
    · rename_i z
      rw [z]
      exact h
    · rename_i z
      cases c : inV (.str t) (wordsL.map V.str) with
      | true => exact absurd c z
      | false => rfl
  | _ => cases h
def spRwA (K : PySem.W.Frag) : Sp := fun vs H Q _ => ∃ (v : V) (p : Int) (e : Option RowD), vs = [v, .int p] ∧ ElV K H v e ∧ Q (.bl (rowB e p)) H
section
variable {P : Program} {w : World} {K : PySem.W.Frag} {mg : Str → Option Value} {base : Heap}
theorem ok_rwA {f fI aW : Addr} {fd fdI : FuncData} (F : Fun K "is_row" "is_row" sRow f fd) (B : Bl mg) (GI : FnOk P w K mg base CX0 2 fI fdI ["value", "least", "most"] (spWtA K)) (kI : PySem.W.keepIn K (.ref fI) = true) (bI : Binds K fdI ["value", "least", "most"] []) (gI : mg "is_within" = some (.ref fI))
    (gW : mg "WORDS" = some (.ref aW)) (hW : WordsAt K aW) : FnOk P w K mg base CX0 3 f fd ["value", "pages"] (spRwA K) := by
  refine F.ok scRow (fun vs H Q E h => ?_) (fun cdv A outer s H vs Q E hr h => ?_)
  · obtain ⟨a, p, r, rfl, _⟩ := h
    rfl
  obtain ⟨v, p, e, rfl, hE, k⟩ := h
  refine ⟨_, pss_cons (ps_if (PW.pt (pw_or (pt_not (pt_val (pe_callB call_isi (by rfl) B.isi bIsi (pa_cons (pv 0) (pa_cons (pe_bltn (v := .ty "tuple") (by rfl) B.tup bTup rfl) pa_nil)))))
      (pw_or1 (pt_cmpR op_ne (pe_callB call_len_seq (by rfl) B.len PySem.boot_len (pa_cons (pv 0) pa_nil)) pe_int (nomark _))))) (pss_one (ps_ret pe_bl)) pss_nil)
    (pss_cons (ps_asg (pv 0) (pg_tup rfl (pgs_cons (pg_name (i := 2) scRow.nd rfl (.inl rfl)) (pgs_cons (pg_name (i := 3) scRow.nd rfl (.inl rfl)) pgs_nil))))
    (pss_one (ps_ret (pe_and (pe_call GI hr (by rfl) gI kI bI .nil pass0 (pa_cons (pv 2) (pa_cons pe_int (pa_cons (pv 1) pa_nil))))
      (pe_and (pe_callB call_isi (by rfl) B.isi bIsi (pa_cons (pv 3) (pa_cons (pe_bltn (v := .ty "str") (by rfl) B.str bStr rfl) pa_nil)))
      (pe_one (pe_cmpR op_in_seq (pv 3) (pe_glob (v := .ref aW) rfl gW rfl) (by rfl)))))))), ?_⟩
  cases hE with
  | oth hn =>
    obtain ⟨t, ty, kf⟩ := hn.ty
    exact ⟨_, rfl, _, _, _, _, false, rfl, .ty _, ty, kf, false, rfl, iteT k⟩
  | @len a xs hT hl =>
    refine ⟨_, rfl, _, _, _, _, true, rfl, .ty _, tup_ty hT, kit_ty (by decide +kernel), true, rfl, iteF ?_⟩
    refine ⟨_, rfl, a, _, rfl, .inr hT, rfl, _, rfl, ?_⟩
    have z : (!decide (V.int (xs.length : Int) = V.int 2)) = true := by
      rw [decide_eq_false (fun z => by injection z with z; omega)]
      rfl
    show (if (!decide (V.int (xs.length : Int) = V.int 2)) = true then _ else _)
    rw [z]
    exact iteT k
  | @pair a x y hT hx hy =>
    refine ⟨_, rfl, _, _, _, _, true, rfl, .ty _, tup_ty hT, kit_ty (by decide +kernel), true, rfl, iteF ?_⟩
    refine ⟨_, rfl, a, _, rfl, .inr hT, rfl, _, rfl, iteF ?_⟩
    refine ⟨_, rfl, a, _, rfl, hT, rfl, _, _, rfl, _, _, rfl, rfl, ?_⟩
    refine ⟨_, rfl, _, rfl, x, 0, p, rfl, hx, witB x 0 p, rfl, ?_⟩
    cases c : witB x 0 p with
    | false =>
      rw [pair_wit c] at k
      exact iteF k
    | true =>
      obtain ⟨t, ty, ks⟩ := hy.isStr
      refine iteT ⟨_, rfl, _, _, _, _, strB y, rfl, .ty _, ty, ks, strB y, rfl, ?_⟩
      cases c2 : strB y with
      | false =>
        rw [pair_str p c2] at k
        exact iteF k
      | true =>
        cases y with
        | str t =>
          rw [pair_all c] at k
          exact iteT ⟨_, rfl, aW, _, rfl, .inr (hW H), rfl, flatW, k⟩
        | _ => cases c2
end
end K3

set_option Elab.async false
set_option linter.all false
set_option maxRecDepth 100000
set_option maxHeartbeats 4000000
namespace K3
open PySem PySem.Spec PyProof.Rows L2 G1 G2 K2
/-! ### which rows are refused -/
inductive RwV (K : PySem.W.Frag) (H : Hp) : V → Option (List (Option RowD)) → Prop
  | oth {v : V} : NonT K H v → RwV K H v none
  | nil {a : Addr} : SqT K H a [] → RwV K H (.ref a) none
  | tup {a : Addr} {xs : List V} {es : List (Option RowD)} : SqT K H a xs → xs ≠ [] → Paired (ElV K H) xs es → RwV K H (.ref a) (some es)
theorem RwV.same {K : PySem.W.Frag} {H H' : Hp} {v : V} {d : Option (List (Option RowD))} (h : RwV K H v d) (s : Same H H') : RwV K H' v d := by
  cases h with
  | oth h => exact .oth (h.same s)
  | nil h => exact .nil (K2.Same.tup s h)
  | tup h n p => exact .tup (K2.Same.tup s h) n (Paired.mapP p fun _ _ z => z.same s)
/-- the place of the first wrong row -/
def badM (p : Int) : List (Option RowD) → Nat → Option Nat
  | [], _ => none
  | e :: es, i => if i = 4 ∨ rowB e p = false then some i else badM p es (i + 1)
def lastE (es : List (Option RowD)) : Int := match es.getLast? with
  | some (some r) => r.1
  | _ => 0
def chkM (d : Option (List (Option RowD))) (p : Int) : Option (Option Nat) := match d with
  | none => some none
  | some es => match badM p es 0 with
    | some i => some (some i)
    | none => if lastE es = p then none else some (some (es.length - 1))
def ixV : Option Nat → V
  | none => .non
  | some i => .int (i : Int)
theorem bad_step {p : Int} {es : List (Option RowD)} {i : Nat} {e : Option RowD} (h : es[i]? = some e) : badM p (es.drop i) i = if i = 4 ∨ rowB e p = false then some i else badM p (es.drop (i + 1)) (i + 1) := by
  obtain ⟨hlt, ee⟩ := List.getElem?_eq_some_iff.mp h
  rw [List.drop_eq_getElem_cons hlt, ee]
  rfl
def spChA (K : PySem.W.Frag) (cR : Addr) : Sp := fun vs H Q E => ∃ (v : V) (p : Int) (d : Option (List (Option RowD))), vs = [v, .int p] ∧ RwV K H v d ∧ (chkM d p = none → ∀ H', Same H H' → Q .non H') ∧
  ∀ o, chkM d p = some o → Rsd cR "index" (ixV o) H E
theorem Rsd.same {C : Addr} {fld : Str} {v : V} {H H1 : Hp} {E : XK} (k : Rsd C fld v H E) (s : Same H H1) : Rsd C fld v H1 E := fun d H' s1 e => k d H' (s.trans s1) e
/-- all rows before i are right -/
theorem bad_none {p : Int} : ∀ {es : List (Option RowD)} {i : Nat}, badM p es i = none → ∀ e ∈ es, rowB e p = true
  | [], _, _, e, he => by cases he
  | x :: es, i, h, e, he => by
    unfold badM at h
    split at h
    · cases h
    · rename_i z
      rcases List.mem_cons.mp he with rfl | he
      · cases c : rowB e p with
        | true => rfl
        | false => exact absurd (.inr c) z
      · exact bad_none h e he
theorem bad_len {p : Int} : ∀ {es : List (Option RowD)} {i : Nat}, i ≤ 4 → badM p es i = none → i + es.length ≤ 4
  | [], i, hi, _ => by simpa using hi
  | x :: es, i, hi, h => by
    unfold badM at h
    split at h
    · cases h
    · rename_i z
      have : i ≠ 4 := fun c => z (.inl c)
      have q := bad_len (es := es) (i := i + 1) (by omega) h
      rw [List.length_cons]
      omega
section
variable {P : Program} {w : World} {K : PySem.W.Frag} {mg : Str → Option Value} {base : Heap}
theorem el_last {K : PySem.W.Frag} {H : Hp} {v : V} {e : Option RowD} {p : Int} (h : ElV K H v e) (hb : rowB e p = true) : ∃ a l t, v = .ref a ∧ e = some (l, t) ∧ SqT K H a [.int l, .str t] ∧ t ∈ wordsL := by
  cases h with
  | oth h => cases hb
  | len h1 h2 => cases hb
  | @pair a x y h1 h2 h3 =>
    cases x with
    | int l =>
      cases y with
      | str t =>
        unfold pairE at hb ⊢
        dsimp only at hb ⊢
        split at hb
        · rename_i z
          rw [if_pos z]
          refine ⟨a, l, t, rfl, rfl, h1, ?_⟩
          unfold inV at z
          rw [List.any_map, List.any_eq_true] at z
          obtain ⟨u, hu, e⟩ := z
          have e2 : u = t := by
            have e' : eqV (.str u) (.str t) = true := e
            unfold eqV at e'
            simpa using e'
          rw [← e2]
          exact hu
        · cases hb
      | _ => cases hb
    | _ => cases hb
theorem ok_chA {f fI cR : Addr} {fd fdI : FuncData} (F : Fun K "check_rows" "check_rows" sChk f fd) (B : Bl mg) (GI : FnOk P w K mg base CX0 3 fI fdI ["value", "pages"] (spRwA K)) (kI : PySem.W.keepIn K (.ref fI) = true) (bI : Binds K fdI ["value", "pages"] []) (gI : mg "is_row" = some (.ref fI))
    (gM : ∃ t, mg "MOST_ROWS" = some (.int 4 t)) (R : XCls P w K mg base "InvalidRows" "index" cR) : FnOk P w K mg base (L2N.CX P w) 4 f fd ["rows", "pages"] (spChA K cR) := by
  refine G3.okXN F scChk (fun vs H Q E h => ?_) (fun cdv A outer s H vs Q E hr h => ?_)
  · obtain ⟨a, p, r, rfl, _⟩ := h
    rfl
  obtain ⟨v, p, d, rfl, hR, kQ, kE⟩ := h
  obtain ⟨tM, cM⟩ := gM
  obtain ⟨fX, fdX, iX, tX, GX, bX⟩ := R.ini
  have hr2 : Room 2 _ := hr.mono (by decide)
  refine ⟨_, pss_cons (ps_if (PW.pt (pw_or (pt_not (pt_val (pe_callB call_isi (by rfl) B.isi bIsi (pa_cons (pv 0) (pa_cons (pe_bltn (v := .ty "tuple") (by rfl) B.tup bTup rfl) pa_nil)))))
      (pw_or1 (pt_not (pt_truth (pv 0) (by intro _; rfl)))))) (pss_one (L2N.ps_raise (W := fun cls d _ H => E cls d H) rfl (L2N.takes_of rfl rfl rfl rfl) (G3.pmk_oexN R.T iX tX GX hr2 bX .nil pass0 (by rfl) R.g (pa_cons pe_non pa_nil)))) pss_nil)
    (pss_cons (ps_for (passes_of rfl) rfl (pi_enumT (by rfl) B.enm (pa_cons (pv 0) pa_nil)) (pg_tup rfl (pgs_cons (pg_name (i := 2) scChk.nd rfl (.inl rfl)) (pgs_cons (pg_name (i := 3) scChk.nd rfl (.inl rfl)) pgs_nil)))
      (pss_one (ps_if (PW.pt (pw_or (pt_cmpR op_eq (pv 2) (pe_glob (v := .int 4) rfl cM ⟨_, rfl⟩) (nomark _)) (pw_or1 (pt_not (pt_val (pe_call GI hr (by rfl) gI kI bI .nil pass0 (pa_cons (pv 3) (pa_cons (pv 1) pa_nil)))))))) (pss_one (L2N.ps_raise (W := fun cls d _ H => E cls d H) rfl (L2N.takes_of rfl rfl rfl rfl) (G3.pmk_oexN R.T iX tX GX hr2 bX .nil pass0 (by rfl) R.g (pa_cons (pv 2) pa_nil)))) pss_nil)))
    (pss_cons (ps_set (i := 4) scChk.nd rfl (.inl rfl) (pe_op op_sub (pe_callB call_len_seq (by rfl) B.len PySem.boot_len (pa_cons (pv 0) pa_nil)) pe_int))
    (pss_one (ps_if (pt_cmpR op_ne (pe_ix ix_tup (pe_ix ix_tup (pv 0) (pv 4) (fun _ _ => rfl)) pe_int (fun _ _ => rfl)) (pv 1) (nomark _)) (pss_one (L2N.ps_raise (W := fun cls d _ H => E cls d H) rfl (L2N.takes_of rfl rfl rfl rfl) (G3.pmk_oexN R.T iX tX GX hr2 bX .nil pass0 (by rfl) R.g (pa_cons (pv 4) pa_nil)))) pss_nil)))), ?_⟩
  cases hR with
  | oth hn =>
    obtain ⟨t, ty, kf⟩ := hn.ty
    refine ⟨_, rfl, _, _, _, _, false, rfl, .ty _, ty, kf, false, rfl, iteT ?_⟩
    exact mk_read (kE none rfl)
  | @nil a hT =>
    refine ⟨_, rfl, _, _, _, _, true, rfl, .ty _, tup_ty hT, kit_ty (by decide +kernel), true, rfl, iteF ?_⟩
    refine ⟨_, rfl, false, .inr (.inl ⟨_, hT, rfl⟩), iteT ?_⟩
    exact mk_read (kE none rfl)
  | @tup a xs es hT hne hP =>
    refine ⟨_, rfl, _, _, _, _, true, rfl, .ty _, tup_ty hT, kit_ty (by decide +kernel), true, rfl, iteF ?_⟩
    refine ⟨_, rfl, true, .inr (.inl ⟨_, hT, ?_⟩), iteF ?_⟩
    · cases xs with
      | nil => exact absurd rfl hne
      | cons _ _ => rfl
    unfold tNext
    dsimp only
    refine seq_for fun D' hD1 hD2 => ?_
    refine ⟨_, rfl, a, _, rfl, hT, ?_⟩
    have hlen : xs.length = es.length := Paired.length hP
    refine for_enumT (K := K) (xs := xs) (fun i σ H' => ∃ x2 x3, σ = [some (.ref a), some (.int p), x2, x3, none] ∧ Same H H' ∧ badM p es 0 = badM p (es.drop i) i) ⟨none, none, rfl, Same.refl _, rfl⟩ (fun i σ H' q => ?_) ?_ ?_
    · obtain ⟨_, _, _, s1, _⟩ := q
      exact K2.Same.tup s1 hT
    · rintro i x T σ H' hi ⟨x2, x3, rfl, s1, hb⟩ hN
      obtain ⟨e, he1, he2⟩ := K2.paired_get hP hi
      rw [bad_step he1] at hb
      have s2 : Same H (upd H' T (.tup [.int (i : Nat), x])) := s1.trans (same_lay hN)
      refine ⟨T, _, rfl, SqT.of upd_same, rfl, _, _, rfl, _, _, rfl, rfl, ?_⟩
      refine ⟨_, rfl, rfl, _, rfl, ?_⟩
      by_cases c4 : i = 4
      · have z : decide (V.int (i : Nat) = V.int 4) = true := decide_eq_true (by rw [c4]; rfl)
        show (if decide (V.int ((i : Nat) : Int) = V.int 4) = true then _ else _)
        rw [z]
        rw [if_pos (.inl c4)] at hb
        refine iteT ⟨_, rfl, mk_read ((kE (some i) ?_).same s2)⟩
        unfold chkM
        dsimp only
        rw [hb]
      · have z : decide (V.int (i : Nat) = V.int 4) = false := decide_eq_false (fun z => by injection z with z; omega)
        show (if decide (V.int ((i : Nat) : Int) = V.int 4) = true then _ else _)
        rw [z]
        refine iteF ⟨_, rfl, _, rfl, x, p, e, rfl, he2.same s2, rowB e p, rfl, ?_⟩
        cases c : rowB e p with
        | false =>
          rw [if_pos (.inr c)] at hb
          refine iteT ⟨_, rfl, mk_read ((kE (some i) ?_).same s2)⟩
          unfold chkM
          dsimp only
          rw [hb]
        | true =>
          rw [if_neg (fun q => q.elim c4 (fun z => by rw [c] at z; cases z))] at hb
          exact iteF ⟨_, _, rfl, s2, hb⟩
    · rintro σ H' ⟨x2, x3, rfl, s1, hb⟩
      rw [hD1]
      have hb0 : badM p es 0 = none := by
        rw [hb, hlen, List.drop_length]
        rfl
      have hpos : 0 < xs.length := List.length_pos_iff.mpr hne
      refine ⟨_, rfl, a, _, rfl, .inr (K2.Same.tup s1 hT), _, _, rfl, rfl, ?_⟩
      obtain ⟨v, hv⟩ : ∃ v, xs[xs.length - 1]? = some v := ⟨xs[xs.length - 1], List.getElem?_eq_getElem (by omega)⟩
      obtain ⟨e, he1, he2⟩ := K2.paired_get hP hv
      obtain ⟨a2, l, t, rfl, rfl, hT2, _⟩ := el_last he2 (bad_none hb0 e (List.mem_of_getElem? he1))
      have hlast : lastE es = l := by
        unfold lastE
        rw [List.getLast?_eq_getElem?, ← hlen, he1]
      refine ⟨_, rfl, _, rfl, a, _, _, .ref a2, rfl, rfl, K2.Same.tup s1 hT, ?_, a2, _, _, .int l, rfl, rfl, K2.Same.tup s1 hT2, rfl, _, rfl, rfl, _, rfl, ?_⟩
      · have e2 : ((xs.length : Nat) : Int) - 1 = ((xs.length - 1 : Nat) : Int) := by omega
        show atI _ (((xs.length : Nat) : Int) - 1) = _
        rw [e2]
        exact atI_nat hv
      · by_cases c : l = p
        · have z : (!decide (V.int l = V.int p)) = false := by rw [c, decide_eq_true rfl]; rfl
          show (if (!decide (V.int l = V.int p)) = true then _ else _)
          rw [z]
          refine iteF (kQ ?_ H' s1)
          unfold chkM
          dsimp only
          rw [hb0]
          dsimp only
          rw [hlast, if_pos c]
        · have z : (!decide (V.int l = V.int p)) = true := by
            rw [decide_eq_false (fun z => c (by injection z))]
            rfl
          show (if (!decide (V.int l = V.int p)) = true then _ else _)
          rw [z]
          have e2 : V.int (((xs.length : Nat) : Int) - 1) = ixV (some (es.length - 1)) := by
            unfold ixV
            dsimp only
            congr 1
            omega
          refine iteT ⟨_, rfl, ?_⟩
          have hk := (kE (some (es.length - 1)) (by
            unfold chkM
            dsimp only
            rw [hb0]
            dsimp only
            rw [hlast, if_neg c])).same s1
          rw [← e2] at hk
          exact mk_read hk
end
end K3

set_option Elab.async false
set_option linter.all false
set_option maxRecDepth 100000
set_option maxHeartbeats 4000000
namespace K3
open PySem PySem.Spec PyProof.Rows L2 G1 G2 K2
/-! ### which argument is refused -/
inductive Due
  | blk | pag | nam
  | row (o : Option Nat)
def intOf : V → Int
  | .int i => i
  | _ => 0
def szM (b p n : V) : Option Due :=
  if witB b 3 6 = false then some .blk else if witB p 2 5 = false then some .pag else if witB n 1 (intOf p * (intOf b - 1)) = false then some .nam else none
def dueM (b p n : V) (d : Option (List (Option RowD))) : Option Due := match szM b p n with
  | some u => some u
  | none => match chkM d (intOf p) with
    | some o => some (.row o)
    | none => none
def fldOf : Due → Str
  | .row _ => "index"
  | _ => "given"
def valOf (b p n : V) : Due → V
  | .blk => b
  | .pag => p
  | .nam => n
  | .row o => ixV o
theorem wit_int {v : V} {lo hi : Int} (h : witB v lo hi = true) : ∃ i, v = .int i ∧ lo ≤ i ∧ i ≤ hi := by
  cases v with
  | int i =>
    have h' : (decide (lo ≤ i) && decide (i ≤ hi)) = true := h
    rw [Bool.and_eq_true] at h'
    exact ⟨i, rfl, of_decide_eq_true h'.1, of_decide_eq_true h'.2⟩
  | _ => cases h
theorem sz_none {b p n : V} (h : szM b p n = none) : ∃ b' p' n' : Nat, b = .int (b' : Int) ∧ p = .int (p' : Int) ∧ n = .int (n' : Int) ∧ Sz b' p' n' := by
  unfold szM at h
  split at h
  · cases h
  rename_i h1
  split at h
  · cases h
  rename_i h2
  split at h
  · cases h
  rename_i h3
  obtain ⟨i, rfl, i1, i2⟩ := wit_int (show witB b 3 6 = true by simpa using h1)
  obtain ⟨j, rfl, j1, j2⟩ := wit_int (show witB p 2 5 = true by simpa using h2)
  obtain ⟨k, rfl, k1, k2⟩ := wit_int (show witB n 1 _ = true by simpa using h3)
  have e1 : ((i.toNat : Nat) : Int) = i := Int.toNat_of_nonneg (by omega)
  have e2 : ((j.toNat : Nat) : Int) = j := Int.toNat_of_nonneg (by omega)
  have e3 : ((k.toNat : Nat) : Int) = k := Int.toNat_of_nonneg (by omega)
  refine ⟨i.toNat, j.toNat, k.toNat, by rw [e1], by rw [e2], by rw [e3], ?_⟩
  refine ⟨by omega, by omega, by omega, by omega, by omega, ?_⟩
  have k2' : k ≤ j * (i - 1) := k2
  have e : ((j.toNat * (i.toNat - 1) : Nat) : Int) = j * (i - 1) := by
    rw [Int.natCast_mul, Int.natCast_sub (by omega), e1, e2]; rfl
  omega
theorem rows_of {K : PySem.W.Frag} {H : Hp} {p : Nat} : ∀ {xs : List V} {es : List (Option RowD)}, Paired (ElV K H) xs es → (∀ e ∈ es, rowB e (p : Int) = true) →
    ∃ (rs : List Addr) (rows : List RowD), xs = rs.map V.ref ∧ es = rows.map some ∧ Paired (fun (a : Addr) (r : RowD) => SqT K H a [.int r.1, .str r.2]) rs rows ∧ ∀ r ∈ rows, RowOk p r
  | _, _, .nil, _ => ⟨[], [], rfl, rfl, .nil, fun r hr => by cases hr⟩
  | _, _, .cons h t, hb => by
    obtain ⟨a, l, y, rfl, rfl, hT, hy⟩ := el_last h (hb _ (List.mem_cons_self ..))
    have hb0 := hb _ (List.mem_cons_self ..)
    obtain ⟨rs, rows, e1, e2, h1, h2⟩ := rows_of t fun e he => hb e (List.mem_cons_of_mem _ he)
    refine ⟨a :: rs, (l, y) :: rows, by rw [e1]; rfl, by rw [e2]; rfl, .cons hT h1, fun r hr => ?_⟩
    rcases List.mem_cons.mp hr with rfl | hr
    · have z : (decide (0 ≤ l) && decide (l ≤ (p : Int))) = true := hb0
      rw [Bool.and_eq_true] at z
      exact ⟨of_decide_eq_true z.1, of_decide_eq_true z.2, hy⟩
    · exact h2 r hr
theorem snoc_of {α : Type} : ∀ {l : List α}, l ≠ [] → ∃ i x, l = i ++ [x]
  | [], h => absurd rfl h
  | [x], _ => ⟨[], x, rfl⟩
  | x :: y :: l, _ => by
    obtain ⟨i, z, e⟩ := snoc_of (l := y :: l) (by simp)
    exact ⟨x :: i, z, by rw [e]; rfl⟩
theorem chk_none {K : PySem.W.Frag} {H : Hp} {p : Nat} {v : V} {d : Option (List (Option RowD))} (h : RwV K H v d) (hc : chkM d (p : Int) = none) : ∃ (t : Addr) (ini : List RowD) (y : Str), v = .ref t ∧ d = some ((ini ++ [((p : Int), y)]).map some) ∧ RowsAt K H t (ini ++ [((p : Int), y)]) ∧ IniOk p ini ∧ y ∈ wordsL := by
  cases h with
  | oth _ => cases hc
  | nil _ => cases hc
  | @tup a xs es hT hne hP =>
    unfold chkM at hc
    dsimp only at hc
    split at hc
    · cases hc
    rename_i hb
    split at hc
    rotate_left
    · cases hc
    rename_i hl
    obtain ⟨rs, rows, e1, rfl, h1, h2⟩ := rows_of hP (bad_none hb)
    have hlen := bad_len (Nat.zero_le 4) hb
    have hne2 : rows ≠ [] := fun z => by
      subst z
      cases h1
      exact hne e1
    obtain ⟨ini, ⟨l, y⟩, rfl⟩ := snoc_of hne2
    have e3 : l = (p : Int) := by
      rw [← hl]
      unfold lastE
      simp
    subst e3
    refine ⟨a, ini, y, rfl, rfl, ⟨rs, by rw [← e1]; exact hT, h1⟩, ⟨fun r hr => h2 r (List.mem_append_left _ hr), ?_⟩, (h2 _ (List.mem_append_right _ (List.mem_singleton.mpr rfl))).2.2⟩
    simp at hlen
    omega
theorem due_none {K : PySem.W.Frag} {H : Hp} {b p n r : V} {d : Option (List (Option RowD))} (hR : RwV K H r d) (h : dueM b p n d = none) : ∃ (b' p' n' : Nat) (t : Addr) (ini : List RowD) (y : Str),
    b = .int (b' : Int) ∧ p = .int (p' : Int) ∧ n = .int (n' : Int) ∧ r = .ref t ∧ Sz b' p' n' ∧ RowsAt K H t (ini ++ [((p' : Int), y)]) ∧ IniOk p' ini ∧ y ∈ wordsL := by
  unfold dueM at h
  split at h
  · cases h
  rename_i hs
  obtain ⟨b', p', n', rfl, rfl, rfl, hz⟩ := sz_none hs
  split at h
  · cases h
  rename_i hc
  obtain ⟨t, ini, y, rfl, _, h1, h2, h3⟩ := chk_none hR (show chkM d (p' : Int) = none from hc)
  exact ⟨b', p', n', t, ini, y, rfl, rfl, rfl, rfl, hz, h1, h2, h3⟩
/-! ### check_sizes -/
def spSzA (K : PySem.W.Frag) (cl : Due → Addr) : Sp := fun vs H Q E => ∃ b p n : V, vs = [b, p, n] ∧ Kd K H b ∧ Kd K H p ∧ Kd K H n ∧ (szM b p n = none → Q .non H) ∧ ∀ u, szM b p n = some u → Rsd (cl u) (fldOf u) (valOf b p n u) H E
structure XAll (P : Program) (w : World) (K : PySem.W.Frag) (mg : Str → Option Value) (base : Heap) (cl : Due → Addr) : Prop where
  xB : XCls P w K mg base "InvalidBlocks" "given" (cl .blk)
  xP : XCls P w K mg base "InvalidPages" "given" (cl .pag)
  xN : XCls P w K mg base "InvalidNames" "given" (cl .nam)
  xR : XCls P w K mg base "InvalidRows" "index" (cl (.row none))
  rr : ∀ o, cl (.row o) = cl (.row none)
section
variable {P : Program} {w : World} {K : PySem.W.Frag} {mg : Str → Option Value} {base : Heap} {cl : Due → Addr}
theorem ok_szA {f fI : Addr} {fd fdI : FuncData} (F : Fun K "check_sizes" "check_sizes" sSiz f fd) (C : Cn mg) (GI : FnOk P w K mg base CX0 2 fI fdI ["value", "least", "most"] (spWtA K)) (kI : PySem.W.keepIn K (.ref fI) = true) (bI : Binds K fdI ["value", "least", "most"] []) (gI : mg "is_within" = some (.ref fI))
    (Z : XAll P w K mg base cl) : FnOk P w K mg base (L2N.CX P w) 3 f fd ["blocks", "pages", "names"] (spSzA K cl) := by
  refine G3.okXN F scSiz (fun vs H Q E h => ?_) (fun cdv A outer s H vs Q E hr h => ?_)
  · obtain ⟨a, p, r, rfl, _⟩ := h
    rfl
  obtain ⟨b, p, n, rfl, kb, kp, kn, kQ, kE⟩ := h
  obtain ⟨t1, c1⟩ := C.lb
  obtain ⟨t2, c2⟩ := C.mb
  obtain ⟨t3, c3⟩ := C.lp
  obtain ⟨t4, c4⟩ := C.mp
  obtain ⟨f1, d1, i1, y1, G1', b1⟩ := Z.xB.ini
  obtain ⟨f2, d2, i2, y2, G2', b2⟩ := Z.xP.ini
  obtain ⟨f3, d3, i3, y3, G3', b3⟩ := Z.xN.ini
  refine ⟨_, pss_cons (ps_if (pt_not (pt_val (pe_call GI hr (by rfl) gI kI bI .nil pass0 (pa_cons (pv 0) (pa_cons (pe_glob (v := .int 3) rfl c1 ⟨_, rfl⟩) (pa_cons (pe_glob (v := .int 6) rfl c2 ⟨_, rfl⟩) pa_nil))))))
      (pss_one (L2N.ps_raise (W := fun cls d _ H => E cls d H) rfl (L2N.takes_of rfl rfl rfl rfl) (G3.pmk_oexN Z.xB.T i1 y1 G1' hr b1 .nil pass0 (by rfl) Z.xB.g (pa_cons (pv 0) pa_nil)))) pss_nil)
    (pss_cons (ps_if (pt_not (pt_val (pe_call GI hr (by rfl) gI kI bI .nil pass0 (pa_cons (pv 1) (pa_cons (pe_glob (v := .int 2) rfl c3 ⟨_, rfl⟩) (pa_cons (pe_glob (v := .int 5) rfl c4 ⟨_, rfl⟩) pa_nil))))))
      (pss_one (L2N.ps_raise (W := fun cls d _ H => E cls d H) rfl (L2N.takes_of rfl rfl rfl rfl) (G3.pmk_oexN Z.xP.T i2 y2 G2' hr b2 .nil pass0 (by rfl) Z.xP.g (pa_cons (pv 1) pa_nil)))) pss_nil)
    (pss_one (ps_if (pt_not (pt_val (pe_call GI hr (by rfl) gI kI bI .nil pass0 (pa_cons (pv 2) (pa_cons pe_int (pa_cons (pe_op op_mul (pv 1) (pe_op op_sub (pv 0) pe_int)) pa_nil))))))
      (pss_one (L2N.ps_raise (W := fun cls d _ H => E cls d H) rfl (L2N.takes_of rfl rfl rfl rfl) (G3.pmk_oexN Z.xN.T i3 y3 G3' hr b3 .nil pass0 (by rfl) Z.xN.g (pa_cons (pv 2) pa_nil)))) pss_nil))), ?_⟩
  refine ⟨_, rfl, b, 3, 6, rfl, kb, witB b 3 6, rfl, ?_⟩
  cases e1 : witB b 3 6 with
  | false => exact iteT ⟨_, rfl, mk_read (kE .blk (by unfold szM; rw [if_pos e1]))⟩
  | true =>
  refine iteF ⟨_, rfl, p, 2, 5, rfl, kp, witB p 2 5, rfl, ?_⟩
  cases e2 : witB p 2 5 with
  | false => exact iteT ⟨_, rfl, mk_read (kE .pag (by unfold szM; rw [if_neg (by rw [e1]; decide), if_pos e2]))⟩
  | true =>
  obtain ⟨i, rfl, a1, a2⟩ := wit_int e1
  obtain ⟨j, rfl, a3, a4⟩ := wit_int e2
  refine iteF ⟨_, rfl, _, rfl, _, rfl, _, _, rfl, rfl, _, _, rfl, rfl, .inl ⟨by omega, by omega⟩, n, 1, _, rfl, kn, _, rfl, ?_⟩
  have e0 : szM (.int i) (.int j) n = if witB n 1 (j * (i - 1)) = false then some .nam else none := by
    unfold szM
    rw [if_neg (by rw [e1]; decide), if_neg (by rw [e2]; decide)]
    rfl
  cases e3 : witB n 1 (j * (i - 1)) with
  | false => exact iteT ⟨_, rfl, mk_read (kE .nam (by rw [e0, if_pos e3]))⟩
  | true => exact iteF (kQ (by rw [e0, if_neg (by rw [e3]; decide)]))
end
end K3

set_option Elab.async false
set_option linter.all false
set_option maxRecDepth 100000
set_option maxHeartbeats 4000000
namespace K3
open PySem PySem.Spec PyProof.Rows L2 G1 G2 K2
/-- what is wanted of a raised one, all but x standing -/
def RsdK (x : Addr) (C : Addr) (fld : Str) (v : V) (H : Hp) (E : XK) : Prop := ∀ (d : Addr) (H' : Hp), Keep x H H' → H' d = some (.xd [(fld, v)]) → E (.ref C) (some d) H'
theorem RsdK.rsd {x C : Addr} {fld : Str} {v : V} {H : Hp} {E : XK} (k : RsdK x C fld v H E) : Rsd C fld v H E := fun d H' s e => k d H' (Keep.of s) e
/-- what a drive with these arguments comes to -/
structure Wants (K : PySem.W.Frag) (H : Hp) (b p n r : V) (d : Option (List (Option RowD))) : Prop where
  kb : Kd K H b
  kp : Kd K H p
  kn : Kd K H n
  kr : RwV K H r d
  few : dueM b p n d = none → ∀ b' p' n' : Nat, b = .int (b' : Int) → p = .int (p' : Int) → n = .int (n' : Int) → cntM b' p' n' ≤ 2000
theorem Wants.same {K : PySem.W.Frag} {H H' : Hp} {b p n r : V} {d : Option (List (Option RowD))} (h : Wants K H b p n r d) (s : Same H H') : Wants K H' b p n r d := ⟨h.kb.same s, h.kp.same s, h.kn.same s, h.kr.same s, h.few⟩
def spInA (K : PySem.W.Frag) (C : Addr) (cl : Due → Addr) : Sp := fun vs H Q E => ∃ (x dx : Addr) (b p n r : V) (d : Option (List (Option RowD))), vs = [.ref x, b, p, n, r] ∧ H x = some (.ins C dx []) ∧ Wants K H b p n r d ∧
  (∀ (b' p' n' : Nat) (t : Addr) (ini : List RowD) (y : Str), dueM b p n d = none → b = .int (b' : Int) → p = .int (p' : Int) → n = .int (n' : Int) → r = .ref t → DP b' p' n' ini y → d = some ((ini ++ [((p' : Int), y)]).map some) →
    ∀ H' : Hp, Keep x H H' → H' x = some (.ins C dx (drvF b' p' n' t (textM (b' : Int) (p' : Int) (n' : Int) ini y))) → Q .non H') ∧
  ∀ u, dueM b p n d = some u → RsdK x (cl u) (fldOf u) (valOf b p n u) H E
/-- the defs that a drive is made with -/
structure BaseA (P : Program) (w : World) (K : PySem.W.Frag) (mg : Str → Option Value) (base : Heap) (cl : Due → Addr) : Prop where
  Z : ∃ (f : Addr) (fd : FuncData), FnOk P w K mg base (L2N.CX P w) 3 f fd ["blocks", "pages", "names"] (spSzA K cl) ∧ PySem.W.keepIn K (.ref f) = true ∧ Binds K fd ["blocks", "pages", "names"] [] ∧ mg "check_sizes" = some (.ref f)
  R : ∃ (f : Addr) (fd : FuncData), FnOk P w K mg base (L2N.CX P w) 4 f fd ["rows", "pages"] (spChA K (cl (.row none))) ∧ PySem.W.keepIn K (.ref f) = true ∧ Binds K fd ["rows", "pages"] [] ∧ mg "check_rows" = some (.ref f)
  T : ∃ (f : Addr) (fd : FuncData), FnOk P w K mg base CX0 1 f fd ["blocks", "pages", "names", "rows"] (spTxt K) ∧ PySem.W.keepIn K (.ref f) = true ∧ Binds K fd ["blocks", "pages", "names", "rows"] [] ∧ mg "text_of" = some (.ref f)
  C : ∃ (f : Addr) (fd : FuncData), FnOk P w K mg base CX0 2 f fd ["blocks", "pages", "names"] spCnt ∧ PySem.W.keepIn K (.ref f) = true ∧ Binds K fd ["blocks", "pages", "names"] [] ∧ mg "count_stands" = some (.ref f)
  rr : ∀ o, cl (.row o) = cl (.row none)
theorem due_sz {b p n : V} {d : Option (List (Option RowD))} {u : Due} (h : szM b p n = some u) : dueM b p n d = some u := by
  unfold dueM
  rw [h]
theorem due_row {b p n : V} {d : Option (List (Option RowD))} {o : Option Nat} (h : szM b p n = none) (hc : chkM d (intOf p) = some o) : dueM b p n d = some (.row o) := by
  unfold dueM
  rw [h]
  dsimp only
  rw [hc]
theorem due_ok {b p n : V} {d : Option (List (Option RowD))} (h : szM b p n = none) (hc : chkM d (intOf p) = none) : dueM b p n d = none := by
  unfold dueM
  rw [h]
  dsimp only
  rw [hc]
theorem chk_of {b n : V} {p : Int} {d : Option (List (Option RowD))} (h : dueM b (.int p) n d = none) : chkM d p = none := by
  unfold dueM at h
  split at h
  · cases h
  · split at h
    · cases h
    · rename_i z
      exact z
theorem some_inj {α : Type} : ∀ {l m : List α}, l.map some = m.map some → l = m
  | [], [], _ => rfl
  | [], _ :: _, h => by cases h
  | _ :: _, [], h => by cases h
  | x :: l, y :: m, h => by
    rw [List.map_cons, List.map_cons] at h
    injection h with h1 h2
    injection h1 with h1
    rw [h1, some_inj h2]
section
variable {P : Program} {w : World} {K : PySem.W.Frag} {mg : Str → Option Value} {base : Heap} {cl : Due → Addr}
theorem ok_inA {f C : Addr} {fd : FuncData} (F : Fun K "__init__" "Drive.__init__" sIni f fd) (T : DCls K C) (Cm : Cn mg) (G : BaseA P w K mg base cl) :
    FnOk P w K mg base (L2N.CX P w) 5 f fd ["self", "blocks", "pages", "names", "rows"] (spInA K C cl) := by
  refine G3.okXN F scIni (fun vs H Q E h => ?_) (fun cdv A outer s H vs Q E hr h => ?_)
  · obtain ⟨x, dx, b, p, n, r, d, rfl, _⟩ := h
    rfl
  obtain ⟨x, dx, b, p, n, r, d, rfl, hx, W, kQ, kE⟩ := h
  obtain ⟨tm, cm⟩ := Cm.ms
  obtain ⟨fZ, dZ, oZ, kZ, bZ, gZ⟩ := G.Z
  obtain ⟨fR, dR, oR, kR, bR, gR⟩ := G.R
  obtain ⟨fT, dT, oT, kT, bT, gT⟩ := G.T
  obtain ⟨fC, dC, oC, kC, bC, gC⟩ := G.C
  have hr1 : Room 1 _ := hr.mono (by decide)
  have hr2 : Room 2 _ := hr.mono (by decide)
  have hr3 : Room 3 _ := hr.mono (by decide)
  refine ⟨_, pss_cons (ps_expr (pe_call (E := E) oZ hr3 (by rfl) gZ kZ bZ .nil (L2N.passes_call (L2N.takes_of rfl rfl rfl rfl) (fun _ _ _ _ z => z)) (pa_cons (pv 1) (pa_cons (pv 2) (pa_cons (pv 3) pa_nil)))))
    (pss_cons (ps_expr (pe_call (E := E) oR hr (by rfl) gR kR bR .nil (L2N.passes_call (L2N.takes_of rfl rfl rfl rfl) (fun _ _ _ _ z => z)) (pa_cons (pv 4) (pa_cons (pv 2) pa_nil))))
    (pss_cons (ps_fld (pv 0) (pv 1) rfl) (pss_cons (ps_fld (pv 0) (pv 2) rfl) (pss_cons (ps_fld (pv 0) (pv 3) rfl) (pss_cons (ps_fld (pv 0) (pv 4) rfl)
    (pss_cons (ps_fld (pv 0) (pe_call oT hr1 (by rfl) gT kT bT .nil pass0 (pa_cons (pv 1) (pa_cons (pv 2) (pa_cons (pv 3) (pa_cons (pv 4) pa_nil))))) rfl)
    (pss_one (ps_if (pt_cmpR op_gt (pe_call oC hr2 (by rfl) gC kC bC .nil pass0 (pa_cons (pv 1) (pa_cons (pv 2) (pa_cons (pv 3) pa_nil)))) (pe_glob (v := .int 2000) rfl cm ⟨_, rfl⟩) (nomark _)) (pss_one ps_never) pss_nil)))))))), ?_⟩
  refine ⟨_, rfl, _, rfl, _, rfl, b, p, n, rfl, W.kb, W.kp, W.kn, fun hs => ?_, fun u hs => (kE u (due_sz hs)).rsd⟩
  obtain ⟨b', p', n', rfl, rfl, rfl, hz⟩ := sz_none hs
  refine ⟨_, rfl, _, rfl, r, (p' : Int), d, rfl, W.kr, fun hc H1 s1 => ?_, fun o hc => ?_⟩
  rotate_left
  · have z := (kE _ (due_row (d := d) hs hc)).rsd
    rw [G.rr o] at z
    exact z
  have hdue := due_ok (d := d) hs hc
  obtain ⟨t, ini, y, rfl, hd, hR, hini, hy⟩ := chk_none W.kr hc
  have hfew := W.few hdue b' p' n' rfl rfl rfl
  have k := kQ b' p' n' t ini y hdue rfl rfl rfl rfl ⟨hz, hfew, hini, hy⟩ hd
  have hx1 := s1 _ _ hx
  refine ⟨_, rfl, _, rfl, x, C, dx, _, rfl, hx1, T.cl, T.nb, by decide, ?_⟩
  refine ⟨_, rfl, _, rfl, x, C, dx, _, rfl, upd_same, T.cl, T.np, by show 1 < 1000; decide, ?_⟩
  rw [upd_upd]
  refine ⟨_, rfl, _, rfl, x, C, dx, _, rfl, upd_same, T.cl, T.nn, by show 2 < 1000; decide, ?_⟩
  rw [upd_upd]
  refine ⟨_, rfl, _, rfl, x, C, dx, _, rfl, upd_same, T.cl, T.nr, by show 3 < 1000; decide, ?_⟩
  rw [upd_upd]
  have k1 := Keep.upd x H1 (.ins C dx [("kept_blocks", .int (b' : Int)), ("kept_pages", .int (p' : Int)), ("kept_names", .int (n' : Int)), ("kept_rows", .ref t)])
  have e1 : (upd H1 x (.ins C dx [("kept_blocks", .int (b' : Int)), ("kept_pages", .int (p' : Int)), ("kept_names", .int (n' : Int)), ("kept_rows", .ref t)])) x = some (.ins C dx [("kept_blocks", .int (b' : Int)), ("kept_pages", .int (p' : Int)), ("kept_names", .int (n' : Int)), ("kept_rows", .ref t)]) := upd_same
  show tSeq _ _ _ _ (upd H1 x (.ins C dx [("kept_blocks", .int (b' : Int)), ("kept_pages", .int (p' : Int)), ("kept_names", .int (n' : Int)), ("kept_rows", .ref t)]))
  generalize upd H1 x (.ins C dx [("kept_blocks", .int (b' : Int)), ("kept_pages", .int (p' : Int)), ("kept_names", .int (n' : Int)), ("kept_rows", .ref t)]) = H2 at k1 e1 ⊢
  have kA : Keep x H H2 := (Keep.of s1).trans k1
  have n25 := hz.n25
  have hp1 := hz.p1
  have hb1 := hz.b1
  refine ⟨_, rfl, _, rfl, _, rfl, _, rfl, b', p', n', t, ini, y, rfl, by omega, by omega, n25, kA.rows hx hR, hini, hy, fun H3 s3 => ?_⟩
  refine ⟨_, rfl, x, C, dx, _, rfl, s3 _ _ e1, T.cl, T.nt, by show 4 < 1000; decide, ?_⟩
  have hb0 := hz.b0
  have hn0 := hz.n0
  refine ⟨_, rfl, _, rfl, _, rfl, b', p', n', rfl, by omega, hn0, n25, by omega, by omega, fun H4 s4 => ?_⟩
  refine ⟨_, _, rfl, rfl, _, rfl, ?_⟩
  have z : decide ((2000 : Int) < cntM b' p' n') = false := decide_eq_false (by omega)
  show (if decide ((2000 : Int) < cntM b' p' n') = true then _ else _)
  rw [z]
  refine iteF (k H4 ?_ ?_)
  · exact kA.trans ((Keep.of s3).trans ((Keep.upd x H3 _).trans (Keep.of s4)))
  · exact s4 _ _ upd_same
end
/-- a drive at x, its rows at t -/
def DrvT (K : PySem.W.Frag) (C : Addr) (H : Hp) (x : Addr) (b p n : Nat) (ini : List RowD) (y : Str) (t : Addr) : Prop := ∃ dx, H x = some (.ins C dx (drvF b p n t (textM (b : Int) (p : Int) (n : Int) ini y))) ∧ RowsAt K H t (ini ++ [((p : Int), y)])
theorem DrvT.drv {K : PySem.W.Frag} {C x t : Addr} {H : Hp} {b p n : Nat} {ini : List RowD} {y : Str} (h : DrvT K C H x b p n ini y t) : DrvAt K C H x b p n ini y := by
  obtain ⟨dx, h1, h2⟩ := h
  exact ⟨dx, t, h1, h2⟩
theorem DrvT.same {K : PySem.W.Frag} {C x t : Addr} {H H' : Hp} {b p n : Nat} {ini : List RowD} {y : Str} (h : DrvT K C H x b p n ini y t) (s : Same H H') : DrvT K C H' x b p n ini y t := by
  obtain ⟨dx, h1, h2⟩ := h
  exact ⟨dx, s _ _ h1, h2.same s⟩
def MadeT (K : PySem.W.Frag) (C : Addr) (H : Hp) (Q : VK) (b p n : Nat) (ini : List RowD) (y : Str) (t : Addr) : Prop := ∀ (H' : Hp) (x : Addr), Same H H' → H x = none → DrvT K C H' x b p n ini y t → Q (.ref x) H'
/-- what follows Drive(b, p, n, r) -/
structure DrvK (K : PySem.W.Frag) (C : Addr) (cl : Due → Addr) (H : Hp) (Q : VK) (E : XK) (b p n r : V) (d : Option (List (Option RowD))) : Prop where
  W : Wants K H b p n r d
  made : ∀ (b' p' n' : Nat) (t : Addr) (ini : List RowD) (y : Str), dueM b p n d = none → b = .int (b' : Int) → p = .int (p' : Int) → n = .int (n' : Int) → r = .ref t → DP b' p' n' ini y → d = some ((ini ++ [((p' : Int), y)]).map some) → MadeT K C H Q b' p' n' ini y t
  rais : ∀ u, dueM b p n d = some u → Rsd (cl u) (fldOf u) (valOf b p n u) H E
theorem drv_read {K : PySem.W.Frag} {C : Addr} {cl : Due → Addr} {H : Hp} {Q : VK} {E : XK} {b p n r : V} {d : Option (List (Option RowD))} (D : DrvK K C cl H Q E b p n r d) :
    ∀ x dx, H x = none → H dx = none → dx ≠ x → spInA K C cl (.ref x :: ([b, p, n, r] ++ [])) (upd (upd H dx (.own x)) x (.ins C dx [])) (fun v H2 => v = .non ∧ Q (.ref x) H2) E := by
  intro x dx nx nd ne
  have sm : Same H (upd (upd H dx (.own x)) x (.ins C dx [])) := fun c o e => by rw [upd_ne (ne_of_none e nx), upd_ne (ne_of_none e nd)]; exact e
  refine ⟨x, dx, b, p, n, r, d, rfl, upd_same, D.W.same sm, fun b' p' n' t ini y hd e1 e2 e3 e4 hDP hR H' kp e => ⟨rfl, ?_⟩, fun u hu dd H' kp e => ?_⟩
  · have sm2 : Same H H' := fun c o e => kp c o (sm c o e) (ne_of_none e nx)
    have hRH : RowsAt K H t (ini ++ [((p' : Int), y)]) := by
      obtain ⟨t2, ini2, y2, f4, f5, hR2, _, _⟩ := chk_none (p := p') D.W.kr (by
        rw [e2] at hd
        exact chk_of hd)
      rw [e4] at f4
      cases f4
      rw [hR] at f5
      have f6 : ini ++ [((p' : Int), y)] = ini2 ++ [((p' : Int), y2)] := some_inj (Option.some.inj f5)
      rw [f6]
      exact hR2
    exact D.made b' p' n' t ini y hd e1 e2 e3 e4 hDP hR H' x sm2 nx ⟨dx, e, hRH.same sm2⟩
  · exact D.rais u hu dd H' (fun c o e => kp c o (sm c o e) (ne_of_none e nx)) e
end K3

set_option Elab.async false
set_option linter.all false
set_option maxRecDepth 100000
set_option maxHeartbeats 4000000
namespace K3
open PySem PySem.Spec PyProof.Rows L2 G1 G2 K2
abbrev sLTx : Stmt := topS 42
theorem scLTx : FnScope ["_law_shape_here", "_law_table_here", "_law_lines", "_law_bound", "_law_tone"] ["_law_shape_here", "_law_table_here"] (defScope sLTx) := ⟨rfl, rfl, rfl, by decide +kernel, rfl, by decide +kernel, by decide +kernel⟩
/-- the three numbers in a tuple, in a list, or ahead in a list of four -/
def Shq (K : PySem.W.Frag) (H : Hp) (s : Addr) (b p n : Nat) : Prop := SqT K H s [.int (b : Int), .int (p : Int), .int (n : Int)] ∨ SqL K H s [.int (b : Int), .int (p : Int), .int (n : Int)] ∨ ∃ r, SqL K H s [.int (b : Int), .int (p : Int), .int (n : Int), r]
theorem Shq.same {K : PySem.W.Frag} {H H' : Hp} {s : Addr} {b p n : Nat} (h : Shq K H s b p n) (e : Same H H') : Shq K H' s b p n := by
  rcases h with h | h | ⟨r, h⟩
  · exact .inl (K2.Same.tup e h)
  · exact .inr (.inl (e.seq h))
  · exact .inr (.inr ⟨r, e.seq h⟩)
section
variable {K : PySem.W.Frag} {H : Hp} {s : Addr} {b p n : Nat} {Q : VK}
theorem Shq.i0 (h : Shq K H s b p n) (k : Q (.int (b : Int)) H) : rIx K (.ref s) (.int 0) H Q := by
  rcases h with h | h | ⟨r, h⟩
  · exact .inr (.inl ⟨s, _, _, _, rfl, rfl, h, rfl, k⟩)
  · exact .inl ⟨s, _, _, _, rfl, rfl, h, rfl, k⟩
  · exact .inl ⟨s, _, _, _, rfl, rfl, h, rfl, k⟩
theorem Shq.i1 (h : Shq K H s b p n) (k : Q (.int (p : Int)) H) : rIx K (.ref s) (.int 1) H Q := by
  rcases h with h | h | ⟨r, h⟩
  · exact .inr (.inl ⟨s, _, _, _, rfl, rfl, h, rfl, k⟩)
  · exact .inl ⟨s, _, _, _, rfl, rfl, h, rfl, k⟩
  · exact .inl ⟨s, _, _, _, rfl, rfl, h, rfl, k⟩
theorem Shq.i2 (h : Shq K H s b p n) (k : Q (.int (n : Int)) H) : rIx K (.ref s) (.int 2) H Q := by
  rcases h with h | h | ⟨r, h⟩
  · exact .inr (.inl ⟨s, _, _, _, rfl, rfl, h, rfl, k⟩)
  · exact .inl ⟨s, _, _, _, rfl, rfl, h, rfl, k⟩
  · exact .inl ⟨s, _, _, _, rfl, rfl, h, rfl, k⟩
end
def spLtL (K : PySem.W.Frag) : Sp := fun vs H Q _ => ∃ (s t : Addr) (b p n : Nat) (ini : List RowD) (y : Str), vs = [.ref s, .ref t] ∧ Shq K H s b p n ∧ DP b p n ini y ∧ RowsAt K H t (ini ++ [((p : Int), y)]) ∧ ∀ H' : Hp, Same H H' → Q (.str (textM (b : Int) (p : Int) (n : Int) ini y)) H'
/-! ### right arguments are not refused -/
theorem row_el {K : PySem.W.Frag} {H : Hp} {p : Nat} : ∀ {rs : List Addr} {rows : List RowD}, Paired (fun (a : Addr) (r : RowD) => SqT K H a [.int r.1, .str r.2]) rs rows → (∀ r ∈ rows, RowOk p r) → Paired (ElV K H) (rs.map V.ref) (rows.map some)
  | _, _, .nil, _ => .nil
  | _, _, .cons (a := a) (b := r) h t, hr => by
    have hw := (hr _ (List.mem_cons_self ..)).2.2
    have e : pairE (.int r.1) (.str r.2) = some r := by
      unfold pairE
      dsimp only
      rw [if_pos (inW r.2 hw).2]
    rw [List.map_cons, List.map_cons, ← e]
    exact .cons (.pair h (.nt (.int _)) (.nt (.str _))) (row_el t fun r hr' => hr r (List.mem_cons_of_mem _ hr'))
theorem bad_ok {p : Nat} : ∀ {rows : List RowD} {i : Nat}, (∀ r ∈ rows, RowOk p r) → i + rows.length ≤ 4 → badM (p : Int) (rows.map some) i = none
  | [], _, _, _ => rfl
  | r :: rows, i, h, hl => by
    rw [List.map_cons]
    unfold badM
    obtain ⟨a1, a2, _⟩ := h _ (List.mem_cons_self ..)
    rw [List.length_cons] at hl
    have z : rowB (some r) (p : Int) = true := by
      show (decide (0 ≤ r.1) && decide (r.1 ≤ (p : Int))) = true
      rw [decide_eq_true a1, decide_eq_true a2]
      rfl
    rw [if_neg (fun c => c.elim (fun q => by omega) (fun q => by rw [z] at q; cases q))]
    exact bad_ok (fun r hr => h r (List.mem_cons_of_mem _ hr)) (by omega)
theorem rw_rows {K : PySem.W.Frag} {H : Hp} {t : Addr} {p : Nat} {ini : List RowD} {y : Str} (h : RowsAt K H t (ini ++ [((p : Int), y)])) (hi : IniOk p ini) (hy : y ∈ wordsL) : RwV K H (.ref t) (some ((ini ++ [((p : Int), y)]).map some)) := by
  obtain ⟨rs, h1, h2⟩ := h
  refine .tup h1 (fun z => ?_) (row_el h2 (rows_ok hi hy).1)
  have hl := Paired.length h2
  rw [List.map_eq_nil_iff.mp z] at hl
  simp at hl
theorem chk_ok {p : Nat} {ini : List RowD} {y : Str} (hi : IniOk p ini) (hy : y ∈ wordsL) : chkM (some ((ini ++ [((p : Int), y)]).map some)) (p : Int) = none := by
  unfold chkM
  dsimp only
  rw [bad_ok (rows_ok hi hy).1 (by have := (rows_ok (y := y) hi hy).2; omega)]
  dsimp only
  rw [if_pos]
  unfold lastE
  simp
theorem wit_ok {i lo hi : Int} (h1 : lo ≤ i) (h2 : i ≤ hi) : witB (.int i) lo hi = true := by
  show (decide (lo ≤ i) && decide (i ≤ hi)) = true
  rw [decide_eq_true h1, decide_eq_true h2]
  rfl
theorem sz_ok {b p n : Nat} (h : Sz b p n) : szM (.int (b : Int)) (.int (p : Int)) (.int (n : Int)) = none := by
  have b0 := h.b0
  have b1 := h.b1
  have p0 := h.p0
  have p1 := h.p1
  have n0 := h.n0
  have n1 : (n : Int) ≤ (p : Int) * ((b : Int) - 1) := by
    have z := h.n1
    have e : ((p * (b - 1) : Nat) : Int) = (p : Int) * ((b : Int) - 1) := by
      rw [Int.natCast_mul, Int.natCast_sub (by omega)]; rfl
    omega
  unfold szM
  rw [wit_ok (by omega) (by omega), wit_ok (by omega) (by omega), if_neg (by decide), if_neg (by decide)]
  show (if witB (.int (n : Int)) 1 ((p : Int) * ((b : Int) - 1)) = false then some Due.nam else none) = none
  rw [wit_ok (by omega) n1, if_neg (by decide)]
theorem due_right {b p n : Nat} {ini : List RowD} {y : Str} (h : DP b p n ini y) : dueM (.int (b : Int)) (.int (p : Int)) (.int (n : Int)) (some ((ini ++ [((p : Int), y)]).map some)) = none := due_ok (sz_ok h.sz) (chk_ok h.ini h.y)
theorem drv_right {K : PySem.W.Frag} {C t : Addr} {cl : Due → Addr} {H : Hp} {Q : VK} {E : XK} {b p n : Nat} {ini : List RowD} {y : Str} (d : DP b p n ini y) (hR : RowsAt K H t (ini ++ [((p : Int), y)])) (k : MadeT K C H Q b p n ini y t) :
    DrvK K C cl H Q E (.int (b : Int)) (.int (p : Int)) (.int (n : Int)) (.ref t) (some ((ini ++ [((p : Int), y)]).map some)) := by
  have hd := due_right d
  refine ⟨⟨.nt (.int _), .nt (.int _), .nt (.int _), rw_rows hR d.ini d.y, fun _ b' p' n' e1 e2 e3 => ?_⟩, fun b' p' n' t' ini' y' _ e1 e2 e3 e4 hDP e5 => ?_, fun u hu => ?_⟩
  · injection e1 with e1
    injection e2 with e2
    injection e3 with e3
    have f1 : b = b' := by omega
    have f2 : p = p' := by omega
    have f3 : n = n' := by omega
    rw [← f1, ← f2, ← f3]
    exact d.few
  · injection e1 with e1
    injection e2 with e2
    injection e3 with e3
    have f1 : b = b' := by omega
    have f2 : p = p' := by omega
    have f3 : n = n' := by omega
    subst f1 f2 f3
    cases e4
    have z := some_inj (Option.some.inj e5)
    have z2 := List.append_inj' z rfl
    obtain ⟨z3, z4⟩ := z2
    subst z3
    injection z4 with z4
    injection z4 with _ z4
    subst z4
    exact k
  · rw [hd] at hu
    cases hu
section
variable {P : Program} {w : World} {K : PySem.W.Frag} {mg : Str → Option Value} {base : Heap} {cl : Due → Addr}
theorem ok_ltL {f : Addr} {fd : FuncData} (F : Fun K "_law_text" "_law_text" sLTx f fd) : FnOk P w K mg base CX0 1 f fd ["_law_shape_here", "_law_table_here"] (spLtL K) := by
  refine F.ok scLTx (fun vs H Q E h => ?_) (fun cdv A outer s H vs Q E hr h => ?_)
  · obtain ⟨s, t, b, p, n, ini, y, rfl, _⟩ := h
    rfl
  obtain ⟨s, t, b, p, n, ini, y, rfl, hs, hd, ⟨rs0, hT0, hP0⟩, k⟩ := h
  have hini := hd.ini
  have hy := hd.y
  have hz := hd.sz
  have hb : b < 26 := by have := hz.b1; omega
  have hp : p < 26 := by have := hz.p1; omega
  have hn := hz.n25
  obtain ⟨rs, rl, rfl, hP, hl⟩ := paired_split hP0
  have hT : SqT K H t (rs.map V.ref ++ [V.ref rl]) := by
    have e : (rs ++ [rl]).map V.ref = rs.map V.ref ++ [V.ref rl] := by simp
    rwa [e] at hT0
  refine ⟨_, pss_cons (ps_set (i := 2) scLTx.nd rfl (.inl rfl) (pe_lst (pa_cons (pe_joined (.cons pe_str (.cons (pe_fmt (pe_ix ix_seq (pv 0) pe_int (fun _ _ => rfl))) (.cons pe_str (.cons (pe_fmt (pe_ix ix_seq (pv 0) pe_int (fun _ _ => rfl))) (.cons pe_str (.cons (pe_fmt (pe_ix ix_seq (pv 0) pe_int (fun _ _ => rfl))) (.cons pe_str .nil)))))))) pa_nil)))
    (pss_cons (ps_for PassesOwn.never rfl (pi_tup (pe_slice sl_tup (pv 1) po_none (po_some (pe_un un_neg pe_int)))) (pg_tup rfl (pgs_cons (pg_name (i := 3) scLTx.nd rfl (.inl rfl)) (pgs_cons (pg_name (i := 4) scLTx.nd rfl (.inl rfl)) pgs_nil)))
      (pss_one (ps_expr (pe_bm PySem.F.plainAttrs_list PySem.F.slot_list_append PySem.F.type_list_append mt_append (pv 2) (pa_cons (pe_joined (.cons pe_str (.cons (pe_fmt (pv 3)) (.cons pe_str (.cons (pe_fmt (pv 4)) .nil))))) pa_nil)))))
    (pss_one (ps_ret (pe_join pe_str (pe_op op_cat (pv 2) (pe_lst (pa_cons (pe_op op_add_str pe_str (pe_ix ix_tup (pe_ix ix_tup (pv 1) (pe_un un_neg pe_int) (fun _ _ => rfl)) pe_int (fun _ _ => rfl))) pa_nil))))))), ?_⟩
  refine seq_asg (lst_read (cons_read ?_))
  refine head_read hb hp hn (fun R q => ⟨_, rfl, hs.i0 q⟩) (fun R q => ⟨_, rfl, hs.i1 q⟩) (fun R q => ⟨_, rfl, hs.i2 q⟩) ?_
  refine nil_read ⟨by show 1 ≤ sizeLine; decide, fun l nl => ?_⟩
  refine seq_for fun D' hD1 hD2 => ?_
  have s1 : Same H (upd H l (.lst [.str (headM (b : Int) (p : Int) (n : Int))])) := same_lay nl
  refine ⟨_, rfl, _, rfl, _, rfl, t, _, rfl, K2.Same.tup s1 hT, cut_not _ _, fun u nu => ?_⟩
  rw [show (-(1 : Int)) = -1 from rfl, cut_last]
  have hu : (upd (upd H l (.lst [.str (headM (b : Int) (p : Int) (n : Int))])) u (.tup (rs.map V.ref))) u = some (.tup (rs.map V.ref)) := upd_same
  refine ⟨u, rfl, ⟨_, SqT.of hu⟩, ?_⟩
  have nul : u ≠ l := fun z => by rw [z, upd_same] at nu; cases nu
  refine for_tup (K := K) (xs := rs.map V.ref) (fun i σ H' => ∃ x3 x4, σ = [some (.ref s), some (.ref t), some (.ref l), x3, x4] ∧ Same H H' ∧ H' u = some (.tup (rs.map V.ref)) ∧
      H' l = some (.lst ((headM (b : Int) (p : Int) (n : Int) :: (ini.take i).map lineM).map V.str))) ⟨none, none, rfl, s1.trans (same_lay nu), hu, ?_⟩ (fun i σ H' _ q => ?_) ?_ ?_
  · rw [upd_ne (Ne.symm nul), upd_same]; rfl
  · obtain ⟨_, _, _, _, q, _⟩ := q
    exact SqT.of q
  · rintro i x σ H' hi ⟨x3, x4, rfl, s2, q1, q2⟩
    rw [List.getElem?_map] at hi
    obtain ⟨a, ha, rfl⟩ : ∃ a, rs[i]? = some a ∧ V.ref a = x := by
      cases hq : rs[i]? with
      | none => rw [hq] at hi; cases hi
      | some a => rw [hq] at hi; exact ⟨a, rfl, Option.some.inj hi⟩
    obtain ⟨r, hr1, hr2⟩ := K2.paired_get hP ha
    have hrok : RowOk p r := hini.1 r (List.mem_of_getElem? hr1)
    refine ⟨a, _, rfl, K2.Same.tup s2 hr2, rfl, _, _, rfl, _, _, rfl, rfl, ?_⟩
    refine ⟨_, rfl, .inl ⟨rfl, _, SqL.of q2⟩, ?_⟩
    refine line_read hp hrok (fun R q => ⟨_, rfl, q⟩) (fun R q => ⟨_, rfl, q⟩) ?_
    refine ⟨l, _, _, rfl, rfl, q2, ?_, _, _, rfl, fun b o e => ?_, ?_, ?_⟩
    · rw [List.length_map, List.length_cons, List.length_map, List.length_take, sizeLine_eq]
      have := hini.2
      omega
    · rw [upd_ne (ne_of_none e nl)]; exact s2 _ _ e
    · rw [upd_ne nul]; exact q1
    · rw [upd_same, List.take_add_one, hr1]
      simp
  · rintro σ H' ⟨x3, x4, rfl, s2, q1, q2⟩
    rw [hD1]
    have el : (rs.map V.ref).length = ini.length := by rw [List.length_map]; exact Paired.length hP
    rw [el, List.take_length] at q2
    have hal := len_any y hy
    have hwl := word_len y hy
    refine ⟨⟨_, rfl⟩, _, rfl, ?_⟩
    refine lst_read (cons_read (op_read (c_read ?_)))
    refine ⟨_, rfl, _, rfl, t, _, _, .ref rl, rfl, rfl, K2.Same.tup s2 hT, at_last _ _, rl, _, _, .str y, rfl, rfl, K2.Same.tup s2 hl, rfl, _, _, rfl, rfl, ?_, ?_⟩
    · have e1 : (Str.ofString "any: ").length = 5 := by decide +kernel
      exact small_line (by omega)
    refine nil_read ⟨by show 1 ≤ sizeLine; decide, fun l2 n2 => ?_⟩
    refine ⟨l, l2, _, _, rfl, rfl, same_lay n2 _ _ q2, upd_same, ?_, fun l3 n3 => ?_⟩
    · rw [List.length_map, List.length_cons, List.length_map, sizeLine_eq]
      have := hini.2
      show ini.length + 1 + 1 ≤ _
      omega
    have q3 : (upd (upd H' l2 (.lst [.str (anyM y)])) l3 (.lst ((headM (b : Int) (p : Int) (n : Int) :: ini.map lineM).map V.str ++ [.str (anyM y)]))) l3 = some (.lst ((linesM (b : Int) (p : Int) (n : Int) ini y).map V.str)) := by
      rw [upd_same]
      unfold linesM
      simp
    exact ⟨_, l3, linesM (b : Int) (p : Int) (n : Int) ini y, rfl, rfl, .inl (SqL.of q3), join_fits _ (lines_len b p n hb hp hn ini hini y hy), k _ (s2.trans ((same_lay n2).trans (same_lay n3)))⟩
end
end K3

set_option Elab.async false
set_option linter.all false
set_option maxRecDepth 100000
set_option maxHeartbeats 4000000
namespace K3
open PySem PySem.Spec PyProof.Rows L2 G1 G2 K2
abbrev sSum : Stmt := topS 43
abbrev sHal : Stmt := topS 44
abbrev sMny : Stmt := topS 45
abbrev sSml : Stmt := topS 46
abbrev NS : List Str := ["_law_many_here", "_law_size", "_law_found", "_law_turn", "_law_k"]
abbrev NM : List Str := ["_law_shape_here", "_law_most", "_law_many_here", "_law_size", "_law_room", "_law_found", "_law_shut", "_law_sums_here", "_law_live"]
theorem scSum : FnScope NS ["_law_many_here", "_law_size"] (defScope sSum) := ⟨rfl, rfl, rfl, by decide +kernel, rfl, by decide +kernel, by decide +kernel⟩
theorem scHal : FnScope ["_law_size", "_law_found", "_law_k"] ["_law_size"] (defScope sHal) := ⟨rfl, rfl, rfl, by decide +kernel, rfl, by decide +kernel, by decide +kernel⟩
theorem scMny : FnScope NM ["_law_shape_here", "_law_most"] (defScope sMny) := ⟨rfl, rfl, rfl, by decide +kernel, rfl, by decide +kernel, by decide +kernel⟩
theorem scSml : FnScope ["_law_shape_here"] ["_law_shape_here"] (defScope sSml) := ⟨rfl, rfl, rfl, by decide +kernel, rfl, by decide +kernel, by decide +kernel⟩
theorem bList : bootBuiltins "list" = some (.type "list") := by decide +kernel
/-! ### the mirror -/
def cutN (l : List Int) (hi : Int) : List Int := (l.drop (HT.sIx l.length 0 none)).take (HT.sIx l.length l.length (some hi) - HT.sIx l.length 0 none)
theorem cutN_map (l : List Int) (hi : Int) : cutV (l.map V.int) none (some hi) = (cutN l hi).map V.int := by
  unfold cutV cutN
  rw [List.length_map, List.map_take, List.map_drop]
def sumF (l : List Int) (s : Nat) (t : Nat) : Int := (cutI l (if (t : Int) - (s : Int) > 0 then (t : Int) - (s : Int) else 0) ((t : Int) + 1)).sum
def sumS (l : List Int) (s : Nat) : List Int := (List.range (l.length + s)).map (sumF l s)
def sumsM (s : Nat) : Nat → List Int
  | 0 => [1]
  | i + 1 => sumS (sumsM s i) s
theorem sums_len (s : Nat) : ∀ i, (sumsM s i).length = 1 + i * s
  | 0 => by simp [sumsM]
  | i + 1 => by
    show (sumS _ _).length = _
    unfold sumS
    rw [List.length_map, List.length_range, sums_len s i, Nat.add_mul]
    omega
def halL : Nat → List Int
  | 0 => []
  | i + 1 => halL i ++ (List.range (i + 2)).map fun (j : Nat) => (j : Int)
def halM (s : Nat) : List Int := halL (s - 1)
def partM (l sums : List Int) (most : Int) : List Int := (l.filter fun x => decide (x ≤ most)).map fun x => (cutN sums (most - x + 1)).sum
def mStep (b s : Nat) (most : Int) (i : Nat) (acc : Int) : Int := if (i : Int) < (b : Int) - 1 then acc + (cutN (sumsM s i) (most + 1)).sum + (partM (halM s) (sumsM s i) most).sum else acc + (cutN (sumsM s i) (most + 1)).sum
def manyL (b s : Nat) (most : Int) : Nat → Int
  | 0 => 0
  | i + 1 => mStep b s most i (manyL b s most i)
def manyM (b s n : Nat) : Int := manyL b s (n : Int) b
theorem all_few : ((List.range 7).all fun b => (List.range 6).all fun p => (List.range 26).all fun n => !(decide (3 ≤ b) && decide (2 ≤ p) && decide (manyM b p n ≤ 300)) || decide (cntM b p n ≤ 2000)) = true := by decide +kernel
theorem small_few {b p n : Nat} (hb : b < 7) (hp : p < 6) (hn : n < 26) (h3 : 3 ≤ b) (h2 : 2 ≤ p) (h : manyM b p n ≤ 300) : cntM b p n ≤ 2000 := by
  have z := all_few
  rw [List.all_eq_true] at z
  have z1 := z b (List.mem_range.mpr hb)
  rw [List.all_eq_true] at z1
  have z2 := z1 p (List.mem_range.mpr hp)
  rw [List.all_eq_true] at z2
  have z3 := z2 n (List.mem_range.mpr hn)
  rw [decide_eq_true h3, decide_eq_true h2, decide_eq_true h] at z3
  exact of_decide_eq_true (by simpa using z3)
theorem hal_len : ∀ s, s < 6 → (halM s).length ≤ 100 := by decide +kernel
theorem halL_len : ∀ i, i < 6 → (halL i).length ≤ 100 := by decide +kernel
def spSum : Sp := fun vs H Q _ => ∃ m s : Nat, vs = [.int (m : Int), .int (s : Int)] ∧ m < 7 ∧ s < 6 ∧ ∀ (H' : Hp) (q : Addr), Same H H' → H' q = some (.lst ((sumsM s m).map V.int)) → Q (.ref q) H'
def spHal : Sp := fun vs H Q _ => ∃ s : Nat, vs = [.int (s : Int)] ∧ s < 6 ∧ 1 ≤ s ∧ ∀ (H' : Hp) (q : Addr), Same H H' → H' q = some (.lst ((halM s).map V.int)) → Q (.ref q) H'
def spMny (K : PySem.W.Frag) : Sp := fun vs H Q _ => ∃ (a : Addr) (b s n : Nat), vs = [.ref a, .int (n : Int)] ∧ SqT K H a [.int (b : Int), .int (s : Int), .int (n : Int)] ∧ b < 7 ∧ s < 6 ∧ 1 ≤ s ∧ n < 26 ∧ ∀ H' : Hp, Same H H' → Q (.int (manyM b s n)) H'
def spSml (K : PySem.W.Frag) : Sp := fun vs H Q _ => ∃ (a : Addr) (b s n : Nat), vs = [.ref a] ∧ SqT K H a [.int (b : Int), .int (s : Int), .int (n : Int)] ∧ b < 7 ∧ s < 6 ∧ 1 ≤ s ∧ n < 26 ∧ ∀ H' : Hp, Same H H' → Q (.bl (decide (manyM b s n ≤ 300))) H'
abbrev teSum (K : PySem.W.Frag) : TE := tCB (rSum K) (tCons (tSl (rSlL K) (tVar 2) (tPart (tCB rMax2 (tCons (tC (.int 0)) (tCons (tOp K2.rSub (tVar 4) (tVar 1)) tNil)))) (tPart (tOp K2.rAdd (tVar 4) (tC (.int 1))))) tNil)
abbrev tePart (K : PySem.W.Frag) : TE := tCB (rSum K) (tCons (tSl (rSlL K) (tVar 7) tNoPart (tPart (tOp K2.rAdd (tOp K2.rSub (tVar 1) (tVar 8)) (tC (.int 1))))) tNil)
section
variable {P : Program} {w : World} {K : PySem.W.Frag} {mg : Str → Option Value} {base : Heap}
theorem sums_read {K : PySem.W.Frag} {H : Hp} {Q : VK} {m : Int} {s i : Nat} {a : Addr} {x3 x4 : Option V} (hs : s < 6) (hi : i < 7) (ha : H a = some (.lst ((sumsM s i).map V.int))) (k : ∀ (H' : Hp) (D : Addr), Same H H' → H' D = some (.lst ((sumsM s (i + 1)).map V.int)) → Q (.ref D) H') :
    tLc (iRng1 (tCons (tOp K2.rAdd (tCB (K2.rLen K) (tCons (tVar 2) tNil)) (tVar 1)) tNil)) (gName 4) tYes (teSum K) [4] [some (.int m), some (.int (s : Int)), some (.ref a), x3, x4] H Q := by
  have hl := sums_len s i
  have hb : i * s ≤ 6 * 5 := Nat.mul_le_mul (by omega) (by omega)
  refine ⟨_, rfl, a, _, rfl, .inl (SqL.of ha), _, rfl, _, _, rfl, rfl, (((sumsM s i).map V.int).length : Int) + (s : Int), rfl, by rw [List.length_map]; omega, by rw [List.length_map]; omega, fun D hD => ?_⟩
  have e0 : ((((sumsM s i).map V.int).length : Int) + (s : Int)).toNat = (sumsM s i).length + s := by rw [List.length_map]; omega
  rw [e0]
  refine lc_range (lo := 0) (n := (sumsM s i).length + s) (fun j H' => Same H H' ∧ H' D = some (.lst (((sumsM s (i + 1)).take j).map V.int))) ⟨same_lay hD, by rw [upd_same]; rfl⟩ ?_ ?_
  · rintro j H' hj ⟨s1, hy⟩
    refine ⟨rfl, ?_⟩
    unfold tYes
    dsimp only
    rw [if_pos rfl]
    refine ⟨_, rfl, _, rfl, _, rfl, _, _, rfl, rfl, _, _, rfl, _, rfl, _, rfl, _, _, rfl, rfl, _, rfl, a, _, rfl, s1.seq (SqL.of ha), fun t ht => ?_⟩
    refine ⟨t, cutI (sumsM s i) (if 0 + (j : Int) - (s : Int) > 0 then 0 + (j : Int) - (s : Int) else 0) (0 + (j : Int) + 1), rfl, SqL.of (by rw [upd_same, cut_map]), ?_⟩
    refine ⟨((sumsM s (i + 1)).take j).map V.int, ?_, ?_, ?_, ?_⟩
    · rw [upd_ne (ne_of_none hy ht)]; exact hy
    · rw [List.length_map, List.length_take, sizeLine_eq]; omega
    · exact same_grow hD s1 (same_lay ht)
    · rw [upd_same, Int.zero_add]
      exact congrArg (fun z => some (HO.lst z)) (grow_map (sumF (sumsM s i) s) ((sumsM s i).length + s) j hj).symm
  · rintro H' ⟨s1, hy⟩
    have el : (sumsM s (i + 1)).length = (sumsM s i).length + s := by
      show (sumS _ _).length = _
      unfold sumS
      rw [List.length_map, List.length_range]
    rw [← el, List.take_length] at hy
    exact k H' D s1 hy
theorem ok_sum {f : Addr} {fd : FuncData} (F : Fun K "_law_sums" "_law_sums" sSum f fd) (B : Bl mg) : FnOk P w K mg base CX0 1 f fd ["_law_many_here", "_law_size"] spSum := by
  refine F.ok scSum (fun vs H Q E h => ?_) (fun cdv A outer s H vs Q E hr h => ?_)
  · obtain ⟨m, s, rfl, _⟩ := h
    rfl
  obtain ⟨m, s, rfl, hm, hs, k⟩ := h
  refine ⟨_, pss_cons (ps_set (i := 2) scSum.nd rfl (.inr rfl) (pe_lst (pa_cons pe_int pa_nil)))
    (pss_cons (ps_for PassesOwn.never rfl (pi_range1 (by rfl) B.range (pa_cons (pv 0) pa_nil)) (pg_name (i := 3) scSum.nd rfl (.inl rfl))
      (pss_one (ps_set (i := 2) scSum.nd rfl (.inr rfl) (pe_lc (own := [("_law_k", 4)]) (g := gName 4) (tt := tYes) (te := teSum K) rfl scSum.nd
        (pi_range1 (by rfl) B.range (pa_cons (pe_op op_add (pe_callB call_len_seq (by rfl) B.len PySem.boot_len (pa_cons (pv 2) pa_nil)) (pv 1)) pa_nil)) (blkOk_by (own := [("_law_k", 4)]) (N := NS) (sc := defScope sSum) (by decide +kernel))
        (fun _ _ _ _ _ => pg_name (i := 4) scSum.nd rfl (Or.inl rfl)) (fun _ _ _ _ _ => pts_nil)
        (fun _ _ _ _ _ => pe_callB (cr_sum rfl) (by rfl) B.sum bSum (pa_cons (pe_slice sl_list (pv 2) (po_some (pe_callB (call_max2 rfl) (by rfl) B.max bMax (pa_cons pe_int (pa_cons (pe_op op_sub (pv 4) (pv 1)) pa_nil)))) (po_some (pe_op op_add (pv 4) pe_int))) pa_nil))))))
    (pss_one (ps_ret (pv 2)))), ?_⟩
  refine seq_asg (lst_read (cons_read (c_read (nil_read ⟨by show 1 ≤ sizeLine; decide, fun q nq => ?_⟩))))
  refine seq_for fun D' hD1 hD2 => ?_
  refine ⟨_, rfl, _, rfl, by omega, by omega, ?_⟩
  have e0 : ((m : Int)).toNat = m := by omega
  rw [e0]
  refine for_range (lo := 0) (n := m) (fun i σ H' => ∃ (a : Addr) (x3 : Option V), σ = [some (.int (m : Int)), some (.int (s : Int)), some (.ref a), x3, none] ∧ Same H H' ∧ H' a = some (.lst ((sumsM s i).map V.int))) ⟨q, none, rfl, same_lay nq, upd_same⟩ ?_ ?_
  · rintro i σ H' hi ⟨a, x3, rfl, s1, ha⟩
    refine asg_read ?_
    exact sums_read hs (by omega) ha fun H2 D s2 h2 => ⟨D, _, rfl, s1.trans s2, h2⟩
  · rintro σ H' ⟨a, x3, rfl, s1, ha⟩
    rw [hD1]
    exact ⟨_, rfl, k H' a s1 ha⟩
theorem ok_hal {f : Addr} {fd : FuncData} (F : Fun K "_law_halves" "_law_halves" sHal f fd) (B : Bl mg) (bl : mg "list" = none) : FnOk P w K mg base CX0 1 f fd ["_law_size"] spHal := by
  refine F.ok scHal (fun vs H Q E h => ?_) (fun cdv A outer s H vs Q E hr h => ?_)
  · obtain ⟨s, rfl, _⟩ := h
    rfl
  obtain ⟨s, rfl, hs, hs1, k⟩ := h
  refine ⟨_, pss_cons (ps_set (i := 1) scHal.nd rfl (.inl rfl) (pe_lst pa_nil))
    (pss_cons (ps_for PassesOwn.never rfl (pi_range2 (by rfl) B.range (pa_cons pe_int (pa_cons (pv 0) pa_nil))) (pg_name (i := 2) scHal.nd rfl (.inl rfl))
      (pss_one (ps_set (i := 1) scHal.nd rfl (.inl rfl) (pe_op op_cat (pv 1) (pe_listRg rfl (by rfl) bl (prg_1 (by rfl) B.range (pe_op op_add (pv 2) pe_int)))))))
    (pss_one (ps_ret (pv 1)))), ?_⟩
  refine seq_asg (lst_read (nil_read ⟨by show 0 ≤ sizeLine; decide, fun q nq => ?_⟩))
  refine seq_for fun D' hD1 hD2 => ?_
  refine ⟨_, rfl, 1, (s : Int), rfl, ⟨by omega, by omega, by omega, by omega⟩, ?_⟩
  have e0 : ((s : Int) - 1).toNat = s - 1 := by omega
  rw [e0]
  refine for_range (lo := 1) (n := s - 1) (fun i σ H' => ∃ (a : Addr) (x2 : Option V), σ = [some (.int (s : Int)), some (.ref a), x2] ∧ Same H H' ∧ H' a = some (.lst ((halL i).map V.int))) ⟨q, none, rfl, same_lay nq, upd_same⟩ ?_ ?_
  · rintro i σ H' hi ⟨a, x2, rfl, s1, ha⟩
    refine asg_read (op_read ⟨_, rfl, ?_⟩)
    refine ⟨_, rfl, _, _, rfl, rfl, _, rfl, ⟨by omega, by omega, by omega, by omega, by omega⟩, fun r nr => ?_⟩
    have hlen := halL_len i (by omega)
    refine ⟨a, r, _, _, rfl, rfl, same_lay nr _ _ ha, upd_same, ?_, fun r2 n2 => ?_⟩
    · rw [List.length_map, rgV_length, sizeLine_eq]
      omega
    refine ⟨r2, _, rfl, s1.trans ((same_lay nr).trans (same_lay n2)), ?_⟩
    rw [upd_same]
    show some (HO.lst _) = some (HO.lst _)
    congr 2
    show _ = (halL i ++ (List.range (i + 2)).map fun (j : Nat) => (j : Int)).map V.int
    rw [List.map_append, List.map_map]
    congr 1
    unfold rgV
    have e3 : (1 + (i : Int) + 1 - 0).toNat = i + 2 := by omega
    rw [e3]
    refine List.map_congr_left fun j _ => ?_
    show V.int (0 + (j : Int)) = V.int (j : Int)
    rw [Int.zero_add]
  · rintro σ H' ⟨a, x2, rfl, s1, ha⟩
    rw [hD1]
    exact ⟨_, rfl, k H' a s1 ha⟩
end
end K3

set_option Elab.async false
set_option linter.all false
set_option maxRecDepth 100000
set_option maxHeartbeats 4000000
namespace K3
open PySem PySem.Spec PyProof.Rows L2 G1 G2 K2
section
variable {P : Program} {w : World} {K : PySem.W.Frag} {mg : Str → Option Value} {base : Heap}
theorem part_snoc (l sums : List Int) (most x : Int) : partM (l ++ [x]) sums most = partM l sums most ++ if x ≤ most then [(cutN sums (most - x + 1)).sum] else [] := by
  unfold partM
  rw [List.filter_append, List.map_append]
  congr 1
  by_cases c : x ≤ most
  · rw [if_pos c]
    simp [c]
  · rw [if_neg c]
    simp [c]
theorem part_len (l sums : List Int) (most : Int) : (partM l sums most).length ≤ l.length := by
  unfold partM
  rw [List.length_map]
  exact List.length_filter_le _ _
theorem part_read {K : PySem.W.Frag} {H : Hp} {Q : VK} {s : Nat} {sums : List Int} {n : Int} {a : Addr} {x0 x2 x4 x5 x6 x8 : Option V} (hs : s < 6) (hs1 : 1 ≤ s) (ha : H a = some (.lst (sums.map V.int)))
    (k : ∀ (H' : Hp) (D : Addr), Same H H' → H' D = some (.lst ((partM (halM s) sums n).map V.int)) → Q (.ref D) H') :
    tLc (iList K (tCall spHal [] E0 (tCons (tVar 3) tNil))) (gName 8) (tTest (tOp (rI0 fun i j => V.bl (decide (i ≤ j))) (tVar 8) (tVar 1))) (tePart K) [8] [x0, some (.int n), x2, some (.int (s : Int)), x4, x5, x6, some (.ref a), x8] H Q := by
  refine ⟨_, rfl, s, rfl, hs, hs1, fun H2 hh s2 h2 => ⟨hh, rfl, ⟨_, SqL.of h2⟩, fun D hD => ?_⟩⟩
  have nDh : hh ≠ D := ne_of_none h2 hD
  refine lc_list (K := K) (xs := (halM s).map V.int) (fun i H' => Same H H' ∧ H' hh = some (.lst ((halM s).map V.int)) ∧ H' D = some (.lst ((partM ((halM s).take i) sums n).map V.int))) ⟨s2.trans (same_lay hD), by rw [upd_ne nDh]; exact h2, by rw [upd_same]; rfl⟩ (fun i H' _ q => SqL.of q.2.1) ?_ ?_
  · rintro i x H' hi ⟨s1, q1, q2⟩
    rw [List.getElem?_map] at hi
    obtain ⟨z, hz, rfl⟩ : ∃ z, (halM s)[i]? = some z ∧ V.int z = x := by
      cases hq : (halM s)[i]? with
      | none => rw [hq] at hi; cases hi
      | some z => rw [hq] at hi; exact ⟨z, rfl, Option.some.inj hi⟩
    have et : (halM s).take (i + 1) = (halM s).take i ++ [z] := by rw [List.take_add_one, hz]; rfl
    have hps := part_snoc ((halM s).take i) sums n z
    rw [← et] at hps
    refine ⟨rfl, _, rfl, _, rfl, _, _, rfl, rfl, _, rfl, ite2 (fun c => ?_) (fun c => ?_)⟩
    · have c' : z ≤ n := of_decide_eq_true c
      rw [if_pos c'] at hps
      refine ⟨_, rfl, _, rfl, _, rfl, _, _, rfl, rfl, _, _, rfl, rfl, _, rfl, a, _, rfl, SqL.of (s1 _ _ ha), fun t ht => ?_⟩
      refine ⟨t, cutN sums (n - z + 1), rfl, SqL.of (by rw [upd_same, cutN_map]), ?_⟩
      refine ⟨(partM ((halM s).take i) sums n).map V.int, ?_, ?_, ?_, ?_, ?_⟩
      · rw [upd_ne (ne_of_none q2 ht)]; exact q2
      · have z1 := part_len ((halM s).take i) sums n
        have z2 := hal_len s hs
        rw [List.length_take] at z1
        rw [List.length_map, sizeLine_eq]
        omega
      · exact same_grow (s2.free hD) s1 (same_lay ht)
      · rw [upd_ne nDh, upd_ne (ne_of_none q1 ht)]; exact q1
      · rw [upd_same, hps, List.map_append]
        rfl
    · have c' : ¬ z ≤ n := fun z => c (decide_eq_true z)
      rw [if_neg c', List.append_nil] at hps
      refine ⟨s1, q1, ?_⟩
      rw [hps]
      exact q2
  · rintro H' ⟨s1, q1, q2⟩
    have e1 : (halM s).take ((halM s).map V.int).length = halM s := by rw [List.length_map, List.take_length]
    rw [e1] at q2
    exact k H' D s1 q2
theorem ok_mny {f fS fH : Addr} {fd dS dH : FuncData} (F : Fun K "_law_many" "_law_many" sMny f fd) (B : Bl mg) (GS : FnOk P w K mg base CX0 1 fS dS ["_law_many_here", "_law_size"] spSum) (kS : PySem.W.keepIn K (.ref fS) = true) (bS : Binds K dS ["_law_many_here", "_law_size"] []) (gS : mg "_law_sums" = some (.ref fS))
    (GH : FnOk P w K mg base CX0 1 fH dH ["_law_size"] spHal) (kH : PySem.W.keepIn K (.ref fH) = true) (bH : Binds K dH ["_law_size"] []) (gH : mg "_law_halves" = some (.ref fH)) : FnOk P w K mg base CX0 2 f fd ["_law_shape_here", "_law_most"] (spMny K) := by
  refine F.ok scMny (fun vs H Q E h => ?_) (fun cdv A outer s H vs Q E hr h => ?_)
  · obtain ⟨a, b, s, n, rfl, _⟩ := h
    rfl
  obtain ⟨a, b, s, n, rfl, hS, hb, hs, hs1, hn, k⟩ := h
  refine ⟨_, pss_cons (ps_asg (pv 0) (pg_tup rfl (pgs_cons (pg_name (i := 2) scMny.nd rfl (.inl rfl)) (pgs_cons (pg_name (i := 3) scMny.nd rfl (.inl rfl)) (pgs_cons (pg_name (i := 4) scMny.nd rfl (.inl rfl)) pgs_nil)))))
    (pss_cons (ps_set (i := 5) scMny.nd rfl (.inl rfl) pe_int)
    (pss_cons (ps_for PassesOwn.never rfl (pi_range1 (by rfl) B.range (pa_cons (pv 2) pa_nil)) (pg_name (i := 6) scMny.nd rfl (.inl rfl))
      (pss_cons (ps_set (i := 7) scMny.nd rfl (.inr rfl) (pe_call GS hr (by rfl) gS kS bS .nil pass0 (pa_cons (pv 6) (pa_cons (pv 3) pa_nil))))
      (pss_cons (ps_set (i := 5) scMny.nd rfl (.inl rfl) (pe_op op_add (pv 5) (pe_callB (cr_sum rfl) (by rfl) B.sum bSum (pa_cons (pe_slice sl_list (pv 7) po_none (po_some (pe_op op_add (pv 1) pe_int))) pa_nil))))
      (pss_one (ps_if (pt_cmpR op_lt (pv 6) (pe_op op_sub (pv 2) pe_int) (nomark _)) (pss_one (ps_set (i := 5) scMny.nd rfl (.inl rfl) (pe_op op_add (pv 5) (pe_callB (cr_sum rfl) (by rfl) B.sum bSum (pa_cons
        (pe_lc (own := [("_law_live", 8)]) (g := gName 8) (tt := _) (te := tePart K) rfl scMny.nd (pi_list (pe_call GH hr (by rfl) gH kH bH .nil pass0 (pa_cons (pv 3) pa_nil))) (blkOk_by (own := [("_law_live", 8)]) (N := NM) (sc := defScope sMny) (by decide +kernel))
          (fun _ _ _ _ _ => pg_name (i := 8) scMny.nd rfl (Or.inl rfl)) (fun _ _ _ _ _ => pts_one (pt_cmpR op_le (pv 8) (pv 1) (nomark _)))
          (fun _ _ _ _ _ => pe_callB (cr_sum rfl) (by rfl) B.sum bSum (pa_cons (pe_slice sl_list (pv 7) po_none (po_some (pe_op op_add (pe_op op_sub (pv 1) (pv 8)) pe_int))) pa_nil))) pa_nil))))) pss_nil)))))
    (pss_one (ps_ret (pv 5))))), ?_⟩
  refine ⟨_, rfl, a, _, rfl, hS, rfl, _, _, rfl, _, _, rfl, _, _, rfl, rfl, ?_⟩
  dsimp only
  refine seq_asg (c_read ?_)
  refine seq_for fun D' hD1 hD2 => ?_
  refine ⟨_, rfl, _, rfl, by omega, by omega, ?_⟩
  have e0 : ((b : Int)).toNat = b := by omega
  rw [e0]
  refine for_range (lo := 0) (n := b) (fun i σ H' => ∃ (x6 x7 : Option V), σ = [some (.ref a), some (.int (n : Int)), some (.int (b : Int)), some (.int (s : Int)), some (.int (n : Int)), some (.int (manyL b s (n : Int) i)), x6, x7, none] ∧ Same H H') ⟨none, none, rfl, Same.refl _⟩ ?_ ?_
  · rintro i σ H' hi ⟨x6, x7, rfl, s1⟩
    refine seq_asg (call_read (cons_read ⟨_, rfl, cons_read ⟨_, rfl, ?_⟩⟩))
    refine ⟨i, s, by rw [Int.zero_add]; rfl, by omega, hs, fun H2 q s2 hq => ?_⟩
    refine seq_asg (op_read ⟨_, rfl, ?_⟩)
    refine ⟨_, rfl, _, rfl, _, _, rfl, rfl, _, rfl, q, _, rfl, SqL.of hq, fun t ht => ?_⟩
    refine ⟨t, cutN (sumsM s i) ((n : Int) + 1), rfl, SqL.of (by rw [upd_same, cutN_map]), _, _, rfl, rfl, ?_⟩
    have hq2 := same_lay (o := .lst (cutV ((sumsM s i).map V.int) none (some ((n : Int) + 1)))) ht _ _ hq
    have s3 := s2.trans (same_lay (o := .lst (cutV ((sumsM s i).map V.int) none (some ((n : Int) + 1)))) ht)
    generalize upd H2 t (.lst (cutV ((sumsM s i).map V.int) none (some ((n : Int) + 1)))) = H3 at hq2 s3 ⊢
    refine ⟨_, rfl, _, rfl, _, _, rfl, rfl, _, _, rfl, rfl, _, rfl, ?_⟩
    rw [Int.zero_add]
    refine ite2 (fun c => ?_) (fun c => ?_)
    · have c' : (i : Int) < (b : Int) - 1 := of_decide_eq_true c
      refine asg_read (op_read ⟨_, rfl, cb_read (cons_read ?_)⟩)
      refine part_read (K := K) hs hs1 hq2 fun H4 D4 s4 h4 => ⟨D4, _, rfl, SqL.of h4, _, _, rfl, rfl, some (.int (i : Int)), some (.ref q), ?_, s1.trans (s3.trans s4)⟩
      show _ = [_, _, _, _, _, some (V.int (mStep b s (n : Int) i (manyL b s (n : Int) i))), _, _, _]
      unfold mStep
      rw [if_pos c']
      rfl
    · have c' : ¬ (i : Int) < (b : Int) - 1 := fun z => c (decide_eq_true z)
      refine ⟨some (.int (i : Int)), some (.ref q), ?_, s1.trans s3⟩
      show _ = [_, _, _, _, _, some (V.int (mStep b s (n : Int) i (manyL b s (n : Int) i))), _, _, _]
      unfold mStep
      rw [if_neg c']
      rfl
  · rintro σ H' ⟨x6, x7, rfl, s1⟩
    rw [hD1]
    exact ⟨_, rfl, k H' s1⟩
theorem ok_sml {f fM : Addr} {fd dM : FuncData} (F : Fun K "_law_is_small" "_law_is_small" sSml f fd) (GM : FnOk P w K mg base CX0 2 fM dM ["_law_shape_here", "_law_most"] (spMny K)) (kM : PySem.W.keepIn K (.ref fM) = true) (bM : Binds K dM ["_law_shape_here", "_law_most"] []) (gM : mg "_law_many" = some (.ref fM)) :
    FnOk P w K mg base CX0 3 f fd ["_law_shape_here"] (spSml K) := by
  refine F.ok scSml (fun vs H Q E h => ?_) (fun cdv A outer s H vs Q E hr h => ?_)
  · obtain ⟨a, b, s, n, rfl, _⟩ := h
    rfl
  obtain ⟨a, b, s, n, rfl, hS, hb, hs, hs1, hn, k⟩ := h
  refine ⟨_, pss_one (ps_ret (pe_cmpR op_le (pe_call GM hr (by rfl) gM kM bM .nil pass0 (pa_cons (pv 0) (pa_cons (pe_ix ix_tup (pv 0) pe_int (fun _ _ => rfl)) pa_nil))) pe_int (nomark _))), ?_⟩
  refine ⟨_, rfl, _, rfl, a, _, _, _, rfl, rfl, hS, rfl, ?_⟩
  exact ⟨a, b, s, n, rfl, hS, hb, hs, hs1, hn, fun H' s1 => ⟨_, _, rfl, rfl, k H' s1⟩⟩
end
end K3

set_option Elab.async false
set_option linter.all false
set_option maxRecDepth 100000
set_option maxHeartbeats 4000000
/-! k04: what the program makes of any text. -/
namespace K4
open PySem PySem.Spec PyProof.Rows L2 G1 G2 K2 K3
section
variable {X : Cx}
/-- {x}: a text, an int or None -/
def tFmtA (te : TE) : TE := fun σ H Q => te σ H fun x H1 => (∃ y : Str, x = .str y ∧ y.length ≤ sizeLine ∧ Q (.str y) H1) ∨ (∃ i : Int, x = .int i ∧ i.natAbs.log2 < 1920 ∧ Q (.str (toString i)) H1) ∨ (x = .non ∧ Q (.str "None") H1)
theorem pe_fmtA {e : Expr} {te : TE} {pos : Pos} (he : PE X e te) : PE X (.FormattedValue e (-1) none pos) (tFmtA te) := by
  refine ⟨fun pins s σ H Q I h => ?_⟩
  refine wpAny_FormattedValue_plain (thn (he.run pins s σ H _ I h) fun v s1 hv => ?_)
  obtain ⟨x, H1, I1, r1, q⟩ := hv
  rcases q with ⟨y, rfl, hz, q⟩ | ⟨i, rfl, hz, q⟩ | ⟨rfl, q⟩
  · obtain ⟨t, rfl⟩ := r1
    exact wpAny_formatField_str ⟨.str y, H1, I1, ⟨t, rfl⟩, q⟩ ⟨.str y, H1, I1.tok _, ⟨_, rfl⟩, q⟩ hz
  · obtain ⟨t, rfl⟩ := r1
    exact wpAny_formatField_int hz ⟨.str (toString i), H1, I1.tok _, ⟨_, rfl⟩, q⟩
  · cases r1
    exact wpAny_formatField_none ⟨.str "None", H1, I1.tok _, ⟨_, rfl⟩, q⟩
end
/-- a number that was read, or none -/
def optV : Option Nat → V
  | none => .non
  | some i => .int (i : Int)
def optS : Option Nat → Str
  | none => "None"
  | some i => numS (i : Int)
def numM (w : Str) : Option Nat := if Txt.isascii w && Txt.isdigit w && decide (w.length ≤ 2) then (PySem.intText? w).map Int.toNat else none
theorem dig_lt : ∀ c, c < 128 → Unicode.isDigit c = true → 48 ≤ c ∧ c < 58 := by decide +kernel
theorem int_one : ∀ c, c < 58 → 48 ≤ c → PySem.intText? ⟨#[c]⟩ = some ((c - 48 : Nat) : Int) := by decide +kernel
theorem int_two : ∀ c, c < 58 → 48 ≤ c → ∀ d, d < 58 → 48 ≤ d → PySem.intText? ⟨#[c, d]⟩ = some ((10 * (c - 48) + (d - 48) : Nat) : Int) := by decide +kernel
theorem int_dig (w : Str) (h1 : Txt.isascii w = true) (h2 : Txt.isdigit w = true) (h3 : w.length ≤ 2) : ∃ i : Nat, i < 100 ∧ PySem.intText? w = some (i : Int) := by
  obtain ⟨⟨l⟩⟩ := w
  unfold Txt.isascii at h1
  unfold Txt.isdigit at h2
  rw [Bool.and_eq_true] at h2
  obtain ⟨h0, h2⟩ := h2
  rw [Array.all_eq_true'] at h1 h2
  match l, h0, h3 with
  | [], h0, _ => exact absurd h0 (by decide)
  | [c], _, _ =>
    have a := h1 c (by simp)
    have b := h2 c (by simp)
    obtain ⟨b1, b2⟩ := dig_lt c (of_decide_eq_true a) b
    exact ⟨c - 48, by omega, int_one c b2 b1⟩
  | [c, d], _, _ =>
    have a := h1 c (by simp)
    have b := h2 c (by simp)
    obtain ⟨b1, b2⟩ := dig_lt c (of_decide_eq_true a) b
    have a' := h1 d (by simp)
    have b' := h2 d (by simp)
    obtain ⟨b1', b2'⟩ := dig_lt d (of_decide_eq_true a') b'
    exact ⟨10 * (c - 48) + (d - 48), by omega, int_two c b2 b1 d b2' b1'⟩
  | _ :: _ :: _ :: _, _, h => exact absurd h (by show ¬ (_ + 1 + 1 + 1 ≤ 2); omega)
theorem numM_lt {w : Str} {i : Nat} (h : numM w = some i) : i < 100 := by
  unfold numM at h
  split at h
  · rename_i c
    simp only [Bool.and_eq_true, decide_eq_true_eq] at c
    obtain ⟨j, hj, e⟩ := int_dig w c.1.1 c.1.2 c.2
    rw [e] at h
    have : j = i := Option.some.inj h
    omega
  · cases h
theorem numM_of : ∀ i : Nat, i < 26 → numM (numS (i : Int)) = some i := by decide +kernel
theorem num_len2 : ∀ i : Nat, i < 100 → (numS (i : Int)).length ≤ 2 := by decide +kernel
theorem log_hun : ∀ i : Nat, i < 100 → (i : Int).natAbs.log2 < 1920 := by decide +kernel
def spNumA : Sp := fun vs H Q _ => ∃ w : Str, vs = [.str w] ∧ w.length ≤ 2001 ∧ Q (optV (numM w)) H
/-- a row as the program reads it -/
abbrev RowA := Option Nat × Str
def rowM (ln : Str) (p : Option Nat) : RowA := ((if (Txt.partition ln ": ").1 = "any" then p else numM (Txt.removeprefix (Txt.partition ln ": ").1 "at most ")), (Txt.partition ln ": ").2.2)
def spRofA : Sp := fun vs H Q _ => ∃ (p : Option Nat) (ln : Str), vs = [.str ln, optV p] ∧ ln.length ≤ 2001 ∧ ∀ (H' : Hp) (q : Addr), Same H H' → H q = none → H' q = some (.tup [optV (rowM ln p).1, .str (rowM ln p).2]) → Q (.ref q) H'
section
variable {P : Program} {w : World} {K : PySem.W.Frag} {mg : Str → Option Value} {base : Heap}
theorem ok_numA {f : Addr} {fd : FuncData} (F : Fun K "number_of" "number_of" sNum f fd) (B : Bl mg) (C : Cn mg) : FnOk P w K mg base CX0 1 f fd ["word"] spNumA := by
  refine F.ok scNum (fun vs H Q E h => ?_) (fun cdv A outer s H vs Q E hr h => ?_)
  · obtain ⟨i, rfl, _⟩ := h
    rfl
  obtain ⟨x, rfl, hx, k⟩ := h
  obtain ⟨tm, cm⟩ := C.md
  refine ⟨_, pss_cons (ps_if (PW.pt (pw_and (pt_val (pe_bm0 PySem.F.plainAttrs_str PySem.F.slot_str_isascii PySem.F.type_str_isascii mt_isascii (pv 0)))
      (pw_and (pt_val (pe_bm0 PySem.F.plainAttrs_str PySem.F.slot_str_isdigit PySem.F.type_str_isdigit mt_isdigit (pv 0)))
      (pw_and1 (pt_cmpR op_le (pe_callB call_len (by rfl) B.len PySem.boot_len (pa_cons (pv 0) pa_nil)) (pe_glob (v := .int 2) rfl cm ⟨_, rfl⟩) (nomark _))))))
      (pss_one (ps_ret (pe_callTy call_int_str (by rfl) B.int bInt (pa_cons (pv 0) pa_nil)))) pss_nil)
    (pss_one (ps_ret pe_non)), ?_⟩
  unfold numM at k
  refine ⟨_, rfl, rfl, _, rfl, rfl, trivial, _, rfl, ?_⟩
  cases f1 : Txt.isascii x with
  | false =>
    rw [f1] at k
    exact iteF k
  | true =>
  rw [f1] at k
  refine iteT ⟨_, rfl, rfl, _, rfl, rfl, trivial, _, rfl, ?_⟩
  cases f2 : Txt.isdigit x with
  | false =>
    rw [f2] at k
    exact iteF k
  | true =>
  rw [f2] at k
  refine iteT ⟨_, rfl, _, _, rfl, ⟨by rw [sizeLine_eq]; omega, rfl⟩, _, _, rfl, rfl, _, rfl, ?_⟩
  by_cases f3 : x.length ≤ 2
  · have z : decide ((x.length : Int) ≤ 2) = true := decide_eq_true (by omega)
    show (if decide ((x.length : Int) ≤ 2) = true then _ else _)
    rw [z]
    obtain ⟨i, hi, e⟩ := int_dig x f1 f2 f3
    rw [decide_eq_true f3, e] at k
    exact iteT ⟨_, rfl, _, _, rfl, e, by omega, k⟩
  · have z : decide ((x.length : Int) ≤ 2) = false := decide_eq_false (by omega)
    show (if decide ((x.length : Int) ≤ 2) = true then _ else _)
    rw [z]
    rw [decide_eq_false f3] at k
    exact iteF k
end
end K4

set_option Elab.async false
set_option linter.all false
set_option maxRecDepth 100000
set_option maxHeartbeats 4000000
namespace K4
open PySem PySem.Spec PyProof.Rows L2 G1 G2 K2 K3
theorem len_pre (x y : Str) : (Txt.removeprefix x y).length ≤ x.length := by
  unfold Txt.removeprefix Txt.affix
  split
  · split
    · exact Nat.le_refl _
    · exact len_strSub _ _ _
  · exact Nat.le_refl _
def OkN (b : Option Nat) : Prop := ∀ i, b = some i → i < 100
theorem okn (w : Str) : OkN (numM w) := fun _ h => numM_lt h
def OkR (r : RowA) : Prop := OkN r.1 ∧ r.2.length ≤ 2001
theorem okr {ln : Str} {p : Option Nat} (hp : OkN p) (hl : ln.length ≤ 2001) : OkR (rowM ln p) := by
  have z := fact_partition ln (": " : Str)
  refine ⟨?_, Nat.le_trans z.2.2 hl⟩
  unfold rowM
  dsimp only
  split
  · exact hp
  · exact okn _
theorem opt_len {b : Option Nat} (h : OkN b) : (optS b).length ≤ 4 := by
  cases b with
  | none => show (Str.ofString "None").length ≤ 4; decide +kernel
  | some i => exact Nat.le_trans (num_len2 i (h i rfl)) (by decide)
def headA (b p n : Option Nat) : Str := ((((((Str.empty ++ ("drive " : Str)) ++ optS b) ++ (" blocks " : Str)) ++ optS p) ++ (" pages " : Str)) ++ optS n) ++ (" names" : Str)
def lineA (r : RowA) : Str := (((Str.empty ++ ("at most " : Str)) ++ optS r.1) ++ (": " : Str)) ++ r.2
def linesA (b p n : Option Nat) (ini : List RowA) (y : Str) : List Str := headA b p n :: (ini.map lineA ++ [anyM y])
def textA (b p n : Option Nat) (ini : List RowA) (y : Str) : Str := Txt.join ("\n" : Str) (linesA b p n ini y)
def RowsA (K : PySem.W.Frag) (H : Hp) (t : Addr) (rows : List RowA) : Prop := ∃ rs : List Addr, SqT K H t (rs.map V.ref) ∧ Paired (fun (a : Addr) (r : RowA) => SqT K H a [optV r.1, .str r.2]) rs rows
theorem RowsA.same {K : PySem.W.Frag} {H H' : Hp} {t : Addr} {rows : List RowA} (h : RowsA K H t rows) (s : Same H H') : RowsA K H' t rows := by
  obtain ⟨rs, h1, h2⟩ := h
  exact ⟨rs, K2.Same.tup s h1, Paired.mapP h2 fun _ _ z => K2.Same.tup s z⟩
def spTxA (K : PySem.W.Frag) : Sp := fun vs H Q _ => ∃ (b p n : Option Nat) (t : Addr) (ini : List RowA) (l : Option Nat) (y : Str), vs = [optV b, optV p, optV n, .ref t] ∧ OkN b ∧ OkN p ∧ OkN n ∧ RowsA K H t (ini ++ [(l, y)]) ∧ (∀ r ∈ ini, OkR r) ∧ y.length ≤ 2001 ∧ ini.length ≤ 2200 ∧
  ∀ H' : Hp, Same H H' → Q (.str (textA b p n ini y)) H'
section
variable {te : TE} {acc : Str} {ts : List TE} {σ : L2.St} {H : Hp} {Q : Str → Hp → Prop}
theorem js_o {b : Option Nat} (hb : OkN b) (ht : ∀ R : VK, R (optV b) H → te σ H R) (h1 : (acc ++ optS b).length ≤ sizeLine) (h2 : tJs ts (acc ++ optS b) σ H Q) : tJs (tFmtA te :: ts) acc σ H Q := by
  cases b with
  | none => exact ht _ (.inr (.inr ⟨rfl, _, rfl, h1, h2⟩))
  | some i => exact ht _ (.inr (.inl ⟨_, rfl, log_hun i (hb i rfl), _, rfl, h1, h2⟩))
theorem js_t {x : Str} (ht : ∀ R : VK, R (.str x) H → te σ H R) (h0 : x.length ≤ sizeLine) (h1 : (acc ++ x).length ≤ sizeLine) (h2 : tJs ts (acc ++ x) σ H Q) : tJs (tFmtA te :: ts) acc σ H Q :=
  ht _ (.inl ⟨x, rfl, h0, _, rfl, h1, h2⟩)
end
theorem len_headA {b p n : Option Nat} (hb : OkN b) (hp : OkN p) (hn : OkN n) : (headA b p n).length ≤ 40 := by
  have h1 := opt_len hb
  have h2 := opt_len hp
  have h3 := opt_len hn
  unfold headA
  simp only [Str.length_append]
  have e1 : (Str.ofString "drive ").length = 6 := by decide +kernel
  have e2 : (Str.ofString " blocks ").length = 8 := by decide +kernel
  have e3 : (Str.ofString " pages ").length = 7 := by decide +kernel
  have e4 : (Str.ofString " names").length = 6 := by decide +kernel
  have e5 : Str.empty.length = 0 := by decide +kernel
  rw [e1, e2, e3, e4, e5]
  omega
theorem len_lineA {r : RowA} (h : OkR r) : (lineA r).length ≤ 2030 := by
  have n1 := opt_len h.1
  have n2 := h.2
  unfold lineA
  simp only [Str.length_append]
  have e1 : (Str.ofString "at most ").length = 8 := by decide +kernel
  have e2 : (Str.ofString ": ").length = 2 := by decide +kernel
  have e5 : Str.empty.length = 0 := by decide +kernel
  rw [e1, e2, e5]
  omega
theorem len_anyA {y : Str} (h : y.length ≤ 2001) : (anyM y).length ≤ 2030 := by
  unfold anyM
  simp only [Str.length_append]
  have e1 : (Str.ofString "any: ").length = 5 := by decide +kernel
  rw [e1]
  omega
theorem big_line {k : Nat} (h : k ≤ 5000) : k ≤ sizeLine := by rw [sizeLine_eq]; omega
theorem headA_read {t1 t2 t3 : TE} {σ : L2.St} {H : Hp} {Q : Str → Hp → Prop} {b p n : Option Nat} (hb : OkN b) (hp : OkN p) (hn : OkN n) (h1 : ∀ R : VK, R (optV b) H → t1 σ H R) (h2 : ∀ R : VK, R (optV p) H → t2 σ H R) (h3 : ∀ R : VK, R (optV n) H → t3 σ H R)
    (k : Q (headA b p n) H) : tJs [tC (.str (Str.ofString "drive ")), tFmtA t1, tC (.str (Str.ofString " blocks ")), tFmtA t2, tC (.str (Str.ofString " pages ")), tFmtA t3, tC (.str (Str.ofString " names"))] Str.empty σ H Q := by
  have z := len_headA hb hp hn
  unfold headA at z
  simp only [Str.length_append] at z
  refine js_c ?_ (js_o hb h1 ?_ (js_c ?_ (js_o hp h2 ?_ (js_c ?_ (js_o hn h3 ?_ (js_c ?_ (js_0 k)))))))
  all_goals
    refine big_line ?_
    simp only [Str.length_append]
    omega
theorem lineA_read {t1 t2 : TE} {σ : L2.St} {H : Hp} {Q : Str → Hp → Prop} {r : RowA} (hr : OkR r) (h1 : ∀ R : VK, R (optV r.1) H → t1 σ H R) (h2 : ∀ R : VK, R (.str r.2) H → t2 σ H R)
    (k : Q (lineA r) H) : tJs [tC (.str (Str.ofString "at most ")), tFmtA t1, tC (.str (Str.ofString ": ")), tFmtA t2] Str.empty σ H Q := by
  have z := len_lineA hr
  unfold lineA at z
  simp only [Str.length_append] at z
  refine js_c ?_ (js_o hr.1 h1 ?_ (js_c ?_ (js_t h2 ?_ ?_ (js_0 k))))
  all_goals
    refine big_line ?_
    (try simp only [Str.length_append])
    omega
theorem anyA_read {t1 : TE} {σ : L2.St} {H : Hp} {Q : Str → Hp → Prop} {x : Str} (hx : x.length ≤ 2001) (h1 : ∀ R : VK, R (.str x) H → t1 σ H R) (k : Q (anyM x) H) : tJs [tC (.str (Str.ofString "any: ")), tFmtA t1] Str.empty σ H Q := by
  have z := len_anyA hx
  unfold anyM at z
  simp only [Str.length_append] at z
  refine js_c ?_ (js_t h1 ?_ ?_ (js_0 ?_))
  · rw [empty_app]; exact big_line (by omega)
  · exact big_line (by omega)
  · rw [empty_app]; simp only [Str.length_append]; exact big_line (by omega)
  · rw [empty_app]; exact k
theorem sumA_le (l : List Str) (h : ∀ x ∈ l, x.length ≤ 2030) : (l.map (·.length)).sum ≤ l.length * 2030 := by
  induction l with
  | nil => exact Nat.le_refl _
  | cons a l ih =>
    have h1 := h a (List.mem_cons_self ..)
    have h2 := ih fun x hx => h x (List.mem_cons_of_mem _ hx)
    rw [List.map_cons, List.sum_cons, List.length_cons]
    omega
theorem joinA_fits (l : List Str) (h : ∀ x ∈ l, x.length ≤ 2030) (h2 : l.length ≤ 2300) : (l.map (·.length)).sum + l.length * (Str.ofString "\n").length ≤ 16777216 := by
  have z := sumA_le l h
  have e : (Str.ofString "\n").length = 1 := by decide +kernel
  rw [e]
  omega
theorem linesA_ok {b p n : Option Nat} (hb : OkN b) (hp : OkN p) (hn : OkN n) {ini : List RowA} (hi : ∀ r ∈ ini, OkR r) {y : Str} (hy : y.length ≤ 2001) : ∀ x ∈ linesA b p n ini y, x.length ≤ 2030 := by
  unfold linesA
  intro x hx
  rcases List.mem_cons.mp hx with rfl | hx
  · exact Nat.le_trans (len_headA hb hp hn) (by decide)
  rcases List.mem_append.mp hx with hx | hx
  · obtain ⟨r, hr, rfl⟩ := List.mem_map.mp hx
    exact len_lineA (hi r hr)
  · rw [List.mem_singleton.mp hx]
    exact len_anyA hy
section
variable {P : Program} {w : World} {K : PySem.W.Frag} {mg : Str → Option Value} {base : Heap}
theorem ok_rofA {f fN : Addr} {fd fdN : FuncData} (F : Fun K "row_of" "row_of" sRof f fd) (GN : FnOk P w K mg base CX0 1 fN fdN ["word"] spNumA) (kN : PySem.W.keepIn K (.ref fN) = true) (bN : Binds K fdN ["word"] []) (gN : mg "number_of" = some (.ref fN)) :
    FnOk P w K mg base CX0 2 f fd ["line", "pages"] spRofA := by
  refine F.ok scRof (fun vs H Q E h => ?_) (fun cdv A outer s H vs Q E hr h => ?_)
  · obtain ⟨p, ln, rfl, _⟩ := h
    rfl
  obtain ⟨p, ln, rfl, hl, k⟩ := h
  refine ⟨_, pss_cons (ps_asg (pe_partition (pv 0) pe_str) (pg_tup rfl (pgs_cons (pg_name (i := 2) scRof.nd rfl (.inl rfl)) (pgs_cons (pg_name (i := 3) scRof.nd rfl (.inl rfl)) (pgs_cons (pg_name (i := 4) scRof.nd rfl (.inl rfl)) pgs_nil)))))
    (pss_cons (ps_set (i := 5) scRof.nd rfl (.inl rfl) (pe_ifExp (pt_cmpR op_eq (pv 2) pe_str (nomark _)) (pv 1)
      (pe_call GN hr (by rfl) gN kN bN .nil pass0 (pa_cons (pe_bm PySem.F.plainAttrs_str PySem.F.slot_str_removeprefix PySem.F.type_str_removeprefix mt_removeprefix (pv 2) (pa_cons pe_str pa_nil)) pa_nil))))
    (pss_one (ps_ret (pe_tup (pa_cons (pv 5) (pa_cons (pv 4) pa_nil)))))), ?_⟩
  have fp := fact_partition ln (Str.ofString ": ")
  unfold rowM at k
  refine ⟨_, rfl, ⟨_, rfl⟩, _, _, rfl, rfl, by decide +kernel, big_line (by omega), fun t nt => ?_⟩
  refine ⟨t, _, rfl, SqT.of upd_same, rfl, _, _, rfl, _, _, rfl, _, _, rfl, rfl, ?_⟩
  have s1 : Same H (upd H t (.tup [.str (Txt.partition ln (Str.ofString ": ")).1, .str (Txt.partition ln (Str.ofString ": ")).2.1, .str (Txt.partition ln (Str.ofString ": ")).2.2])) := same_lay nt
  generalize upd H t (.tup [.str (Txt.partition ln (Str.ofString ": ")).1, .str (Txt.partition ln (Str.ofString ": ")).2.1, .str (Txt.partition ln (Str.ofString ": ")).2.2]) = H1 at s1 ⊢
  dsimp only
  refine seq_asg ?_
  refine ⟨_, rfl, rfl, _, rfl, ?_⟩
  dsimp only at k
  by_cases c : (Txt.partition ln (Str.ofString ": ")).1 = Str.ofString "any"
  · have z : decide (V.str (Txt.partition ln (Str.ofString ": ")).1 = V.str (Str.ofString "any")) = true := decide_eq_true (by rw [c])
    show (if decide (V.str (Txt.partition ln (Str.ofString ": ")).1 = V.str (Str.ofString "any")) = true then _ else _)
    rw [z]
    rw [if_pos c] at k
    refine iteT ⟨_, rfl, ?_⟩
    exact ⟨_, rfl, _, rfl, by show 2 ≤ sizeLine; decide, fun q nq => k _ q (s1.trans (same_lay nq)) (s1.free nq) upd_same⟩
  · have z : decide (V.str (Txt.partition ln (Str.ofString ": ")).1 = V.str (Str.ofString "any")) = false := decide_eq_false (fun z => c (by injection z))
    show (if decide (V.str (Txt.partition ln (Str.ofString ": ")).1 = V.str (Str.ofString "any")) = true then _ else _)
    rw [z]
    rw [if_neg c] at k
    refine iteF ⟨_, rfl, rfl, _, _, rfl, rfl, big_line (by omega), _, rfl, Nat.le_trans (len_pre _ _) (by omega), ?_⟩
    exact ⟨_, rfl, _, rfl, by show 2 ≤ sizeLine; decide, fun q nq => k _ q (s1.trans (same_lay nq)) (s1.free nq) upd_same⟩
theorem ok_txA {f : Addr} {fd : FuncData} (F : Fun K "text_of" "text_of" sTxt f fd) (B : Bl mg) : FnOk P w K mg base CX0 1 f fd ["blocks", "pages", "names", "rows"] (spTxA K) := by
  refine F.ok scTxt (fun vs H Q E h => ?_) (fun cdv A outer s H vs Q E hr h => ?_)
  · obtain ⟨b, p, n, t, ini, l, y, rfl, _⟩ := h
    rfl
  obtain ⟨b, p, n, t, ini, lm, y, rfl, hb, hp, hn, ⟨rs0, hT0, hP0⟩, hini, hy, hlen, k⟩ := h
  obtain ⟨rs, rl, rfl, hP, hl⟩ := paired_split hP0
  have hT : SqT K H t (rs.map V.ref ++ [V.ref rl]) := by
    have e : (rs ++ [rl]).map V.ref = rs.map V.ref ++ [V.ref rl] := by simp
    rwa [e] at hT0
  refine ⟨_, pss_cons (ps_set (i := 4) scTxt.nd rfl (.inl rfl) (pe_lst (pa_cons (pe_joined (.cons pe_str (.cons (pe_fmtA (pv 0)) (.cons pe_str (.cons (pe_fmtA (pv 1)) (.cons pe_str (.cons (pe_fmtA (pv 2)) (.cons pe_str .nil)))))))) pa_nil)))
    (pss_cons (ps_for PassesOwn.never rfl (pi_tup (pe_slice sl_tup (pv 3) po_none (po_some (pe_un un_neg pe_int)))) (pg_tup rfl (pgs_cons (pg_name (i := 5) scTxt.nd rfl (.inl rfl)) (pgs_cons (pg_name (i := 6) scTxt.nd rfl (.inl rfl)) pgs_nil)))
      (pss_one (ps_expr (pe_bm PySem.F.plainAttrs_list PySem.F.slot_list_append PySem.F.type_list_append mt_append (pv 4) (pa_cons (pe_joined (.cons pe_str (.cons (pe_fmtA (pv 5)) (.cons pe_str (.cons (pe_fmtA (pv 6)) .nil))))) pa_nil)))))
    (pss_cons (ps_expr (pe_bm PySem.F.plainAttrs_list PySem.F.slot_list_append PySem.F.type_list_append mt_append (pv 4) (pa_cons (pe_joined (.cons pe_str (.cons (pe_fmtA (pe_ix ix_tup (pe_ix ix_tup (pv 3) (pe_un un_neg pe_int) (fun _ _ => rfl)) pe_int (fun _ _ => rfl))) .nil))) pa_nil)))
    (pss_one (ps_ret (pe_join pe_str (pv 4)))))), ?_⟩
  refine seq_asg (lst_read (cons_read ?_))
  refine headA_read hb hp hn (fun R q => ⟨_, rfl, q⟩) (fun R q => ⟨_, rfl, q⟩) (fun R q => ⟨_, rfl, q⟩) ?_
  refine nil_read ⟨by show 1 ≤ sizeLine; decide, fun l nl => ?_⟩
  refine seq_for fun D' hD1 hD2 => ?_
  have s1 : Same H (upd H l (.lst [.str (headA b p n)])) := same_lay nl
  refine ⟨_, rfl, _, rfl, _, rfl, t, _, rfl, K2.Same.tup s1 hT, cut_not _ _, fun u nu => ?_⟩
  rw [show (-(1 : Int)) = -1 from rfl, cut_last]
  have hu : (upd (upd H l (.lst [.str (headA b p n)])) u (.tup (rs.map V.ref))) u = some (.tup (rs.map V.ref)) := upd_same
  refine ⟨u, rfl, ⟨_, SqT.of hu⟩, ?_⟩
  have nul : u ≠ l := fun z => by rw [z, upd_same] at nu; cases nu
  refine for_tup (K := K) (xs := rs.map V.ref) (fun i σ H' => ∃ x5 x6, σ = [some (optV b), some (optV p), some (optV n), some (.ref t), some (.ref l), x5, x6] ∧ Same H H' ∧ H' u = some (.tup (rs.map V.ref)) ∧
      H' l = some (.lst ((headA b p n :: (ini.take i).map lineA).map V.str))) ⟨none, none, rfl, s1.trans (same_lay nu), hu, ?_⟩ (fun i σ H' _ q => ?_) ?_ ?_
  · rw [upd_ne (Ne.symm nul), upd_same]; rfl
  · obtain ⟨_, _, _, _, q, _⟩ := q
    exact SqT.of q
  · rintro i x σ H' hi ⟨x5, x6, rfl, s2, q1, q2⟩
    rw [List.getElem?_map] at hi
    obtain ⟨a, ha, rfl⟩ : ∃ a, rs[i]? = some a ∧ V.ref a = x := by
      cases hq : rs[i]? with
      | none => rw [hq] at hi; cases hi
      | some a => rw [hq] at hi; exact ⟨a, rfl, Option.some.inj hi⟩
    obtain ⟨r, hr1, hr2⟩ := K2.paired_get hP ha
    have hrok : OkR r := hini r (List.mem_of_getElem? hr1)
    refine ⟨a, _, rfl, K2.Same.tup s2 hr2, rfl, _, _, rfl, _, _, rfl, rfl, ?_⟩
    refine ⟨_, rfl, .inl ⟨rfl, _, SqL.of q2⟩, ?_⟩
    refine lineA_read hrok (fun R q => ⟨_, rfl, q⟩) (fun R q => ⟨_, rfl, q⟩) ?_
    refine ⟨l, _, _, rfl, rfl, q2, ?_, _, _, rfl, fun b o e => ?_, ?_, ?_⟩
    · rw [List.length_map, List.length_cons, List.length_map, List.length_take, sizeLine_eq]
      omega
    · rw [upd_ne (ne_of_none e nl)]; exact s2 _ _ e
    · rw [upd_ne nul]; exact q1
    · rw [upd_same, List.take_add_one, hr1]
      simp
  · rintro σ H' ⟨x5, x6, rfl, s2, q1, q2⟩
    rw [hD1]
    have el : (rs.map V.ref).length = ini.length := by rw [List.length_map]; exact Paired.length hP
    rw [el, List.take_length] at q2
    refine ⟨_, rfl, .inl ⟨rfl, _, SqL.of q2⟩, ?_⟩
    refine anyA_read hy (fun R q => ⟨_, rfl, _, rfl, t, _, _, .ref rl, rfl, rfl, K2.Same.tup s2 hT, at_last _ _, rl, _, _, .str y, rfl, rfl, K2.Same.tup s2 hl, rfl, q⟩) ?_
    refine ⟨l, _, _, rfl, rfl, q2, ?_, ?_⟩
    · rw [List.length_map, List.length_cons, List.length_map, sizeLine_eq]
      omega
    have q3 : (upd H' l (.lst ((headA b p n :: ini.map lineA).map V.str ++ [.str (anyM y)]))) l = some (.lst ((linesA b p n ini y).map V.str)) := by
      rw [upd_same]
      unfold linesA
      simp
    refine ⟨⟨_, rfl⟩, _, rfl, _, l, linesA b p n ini y, rfl, rfl, .inl (SqL.of q3), joinA_fits _ (linesA_ok hb hp hn hini hy) (by unfold linesA; simp; omega), k _ fun c o e => ?_⟩
    rw [upd_ne (ne_of_none e nl)]; exact s2 _ _ e
end
end K4

set_option Elab.async false
set_option linter.all false
set_option maxRecDepth 100000
set_option maxHeartbeats 4000000
namespace K4
open PySem PySem.Spec PyProof.Rows L2 G1 G2 K2 K3
def textR (b p n : Option Nat) (rows : List RowA) : Str := textA b p n rows.dropLast ((rows.getLast?.getD (none, Str.empty)).2)
def partsM (x : Str) : Option (Option Nat × Option Nat × Option Nat × List RowA) :=
  match Txt.split x ("\n" : Str) with
  | [] => none
  | hd :: lines => match Txt.split hd (" " : Str) with
    | [_, w1, _, w3, _, w5, _] => if lines = [] then none else if textR (numM w1) (numM w3) (numM w5) (lines.map fun ln => rowM ln (numM w3)) = x then some (numM w1, numM w3, numM w5, lines.map fun ln => rowM ln (numM w3)) else none
    | _ => none
theorem parts_no7 {x hd : Str} {lines : List Str} (h : Txt.split x ("\n" : Str) = hd :: lines) (h7 : (Txt.split hd (" " : Str)).length ≠ 7) : partsM x = none := by
  unfold partsM
  rw [h]
  dsimp only
  split
  · rename_i e
    rw [e] at h7
    exact absurd rfl h7
  · rfl
theorem parts_nil {x hd : Str} (h : Txt.split x ("\n" : Str) = [hd]) : partsM x = none := by
  unfold partsM
  rw [h]
  dsimp only
  split
  · rw [if_pos rfl]
  · rfl
theorem parts_is {x hd w0 w1 w2 w3 w4 w5 w6 : Str} {lines : List Str} (h : Txt.split x ("\n" : Str) = hd :: lines) (h7 : Txt.split hd (" " : Str) = [w0, w1, w2, w3, w4, w5, w6]) (hn : lines ≠ []) :
    partsM x = if textR (numM w1) (numM w3) (numM w5) (lines.map fun ln => rowM ln (numM w3)) = x then some (numM w1, numM w3, numM w5, lines.map fun ln => rowM ln (numM w3)) else none := by
  unfold partsM
  rw [h]
  dsimp only
  rw [h7]
  dsimp only
  rw [if_neg hn]
theorem mem_sum {l : List Str} {x : Str} (h : x ∈ l) : x.length ≤ (l.map (·.length)).sum := by
  induction l with
  | nil => cases h
  | cons a l ih =>
    rw [List.map_cons, List.sum_cons]
    rcases List.mem_cons.mp h with rfl | h
    · omega
    · have := ih h
      omega
theorem split_bounds (x y : Str) (hy : 1 ≤ y.length) : (∀ z ∈ Txt.split x y, z.length ≤ x.length) ∧ (Txt.split x y).length ≤ x.length + 1 := by
  have w := split_weight x y hy
  have p := split_pos x y
  refine ⟨fun z hz => ?_, by omega⟩
  have := mem_sum hz
  omega
def spPrA (K : PySem.W.Frag) : Sp := fun vs H Q _ => ∃ x : Str, vs = [.str x] ∧ x.length ≤ 2001 ∧ (partsM x = none → ∀ H', Same H H' → Q .non H') ∧
  ∀ b p n rows, partsM x = some (b, p, n, rows) → ∀ (H' : Hp) (t q : Addr), Same H H' → RowsA K H' t rows → H' q = some (.tup [optV b, optV p, optV n, .ref t]) → Q (.ref q) H'
theorem last_eq {α : Type} (l : List α) (h : l ≠ []) : ∃ m z, l = m ++ [z] := ⟨l.dropLast, l.getLast h, (List.dropLast_concat_getLast h).symm⟩
section
variable {P : Program} {w : World} {K : PySem.W.Frag} {mg : Str → Option Value} {base : Heap}
theorem ok_prA {f fN fR fT : Addr} {fd fdN fdR fdT : FuncData} (F : Fun K "parts_of" "parts_of" sPar f fd) (B : Bl mg) (C : Cn mg)
    (GN : FnOk P w K mg base CX0 1 fN fdN ["word"] spNumA) (kN : PySem.W.keepIn K (.ref fN) = true) (bN : Binds K fdN ["word"] []) (gN : mg "number_of" = some (.ref fN))
    (GR : FnOk P w K mg base CX0 2 fR fdR ["line", "pages"] spRofA) (kR : PySem.W.keepIn K (.ref fR) = true) (bR : Binds K fdR ["line", "pages"] []) (gR : mg "row_of" = some (.ref fR))
    (GT : FnOk P w K mg base CX0 1 fT fdT ["blocks", "pages", "names", "rows"] (spTxA K)) (kT : PySem.W.keepIn K (.ref fT) = true) (bT : Binds K fdT ["blocks", "pages", "names", "rows"] []) (gT : mg "text_of" = some (.ref fT)) :
    FnOk P w K mg base CX0 3 f fd ["text"] (spPrA K) := by
  refine F.ok scPar (fun vs H Q E h => ?_) (fun cdv A outer s H vs Q E hr h => ?_)
  · obtain ⟨x, rfl, _⟩ := h
    rfl
  obtain ⟨x, rfl, hx, kno, kis⟩ := h
  obtain ⟨tw, cw⟩ := C.wh
  have hr1 : Room 1 _ := hr.mono (by decide)
  refine ⟨_, pss_cons (ps_asg (pe_split (pv 0) pe_str) (pg_star rfl (pg_name (i := 1) scPar.nd rfl (.inl rfl)) (pg_name (i := 2) scPar.nd rfl (.inl rfl))))
    (pss_cons (ps_set (i := 3) scPar.nd rfl (.inl rfl) (pe_split (pv 1) pe_str))
    (pss_cons (ps_if (PW.pt (pw_or (pt_cmpR op_ne (pe_callB call_len_seq (by rfl) B.len PySem.boot_len (pa_cons (pv 3) pa_nil)) (pe_glob (v := .int 7) rfl cw ⟨_, rfl⟩) (nomark _)) (pw_or1 (pt_not (pt_truth (pv 2) (by intro _; rfl)))))) (pss_one (ps_ret pe_non)) pss_nil)
    (pss_cons (ps_asg (pe_lc (own := [("word", 7)]) (g := gName 7) (tt := tYes) (te := tCall spNumA [] E0 (tCons (tVar 7) tNil)) rfl scPar.nd (pi_list (pe_odd (pv 3))) (blkOk_by (own := [("word", 7)]) (N := NP) (sc := defScope sPar) (by decide +kernel))
        (fun _ _ _ _ _ => pg_name (i := 7) scPar.nd rfl (Or.inl rfl)) (fun _ _ _ _ _ => pts_nil) (fun _ _ _ _ _ => pe_call GN hr1 (by rfl) gN kN bN .nil pass0 (pa_cons (pv 7) pa_nil)))
      (pg_unl rfl (pgs_cons (pg_name (i := 4) scPar.nd rfl (.inl rfl)) (pgs_cons (pg_name (i := 5) scPar.nd rfl (.inr rfl)) (pgs_cons (pg_name (i := 6) scPar.nd rfl (.inl rfl)) pgs_nil)))))
    (pss_cons (ps_set (i := 8) scPar.nd rfl (.inl rfl) (pe_callTy call_tuple_of (by rfl) B.tup bTup (pa_cons (pe_lc (own := [("line", 9)]) (g := gName 9) (tt := tYes) (te := tCall spRofA [] E0 (tCons (tVar 9) (tCons (tVar 5) tNil))) rfl scPar.nd (pi_list (pv 2))
        (blkOk_by (own := [("line", 9)]) (N := NP) (sc := defScope sPar) (by decide +kernel)) (fun _ _ _ _ _ => pg_name (i := 9) scPar.nd rfl (Or.inl rfl)) (fun _ _ _ _ _ => pts_nil)
        (fun _ _ _ _ _ => pe_call GR hr (by rfl) gR kR bR .nil pass0 (pa_cons (pv 9) (pa_cons (pv 5) pa_nil)))) pa_nil)))
    (pss_cons (ps_if (pt_cmpR op_ne (pe_call GT hr1 (by rfl) gT kT bT .nil pass0 (pa_cons (pv 4) (pa_cons (pv 5) (pa_cons (pv 6) (pa_cons (pv 8) pa_nil))))) (pv 0) (nomark _)) (pss_one (ps_ret pe_non)) pss_nil)
    (pss_one (ps_ret (pe_tup (pa_cons (pv 4) (pa_cons (pv 5) (pa_cons (pv 6) (pa_cons (pv 8) pa_nil)))))))))))), ?_⟩
  have sb := split_bounds x ("\n" : Str) (by decide +kernel)
  obtain ⟨hd, lines, hs⟩ : ∃ hd lines, Txt.split x ("\n" : Str) = hd :: lines := by
    cases e : Txt.split x ("\n" : Str) with
    | nil =>
      have := split_pos x ("\n" : Str)
      rw [e] at this
      exact absurd this (by decide)
    | cons a l => exact ⟨a, l, rfl⟩
  rw [hs] at sb
  have hhd : hd.length ≤ 2001 := Nat.le_trans (sb.1 hd (List.mem_cons_self ..)) hx
  have hlns : ∀ z ∈ lines, z.length ≤ 2001 := fun z hz => Nat.le_trans (sb.1 z (List.mem_cons_of_mem _ hz)) hx
  have hcnt : lines.length ≤ 2002 := by
    have := sb.2
    rw [List.length_cons] at this
    omega
  refine ⟨_, rfl, ⟨_, rfl⟩, _, _, rfl, rfl, by decide +kernel, ?_, fun l nl => ?_⟩
  · rw [sizeLine_eq]; omega
  rw [hs]
  have s1 : Same H (upd H l (.lst ((hd :: lines).map V.str))) := same_lay nl
  have e1 : (upd H l (.lst ((hd :: lines).map V.str))) l = some (.lst (.str hd :: lines.map V.str)) := upd_same
  generalize upd H l (.lst ((hd :: lines).map V.str)) = H1 at s1 e1 ⊢
  refine ⟨l, _, _, rfl, SqL.of e1, ?_, fun l2 n2 => ?_⟩
  · rw [List.length_map]
    omega
  have s2 : Same H (upd H1 l2 (.lst (lines.map V.str))) := s1.trans (same_lay n2)
  have e2 : (upd H1 l2 (.lst (lines.map V.str))) l2 = some (.lst (lines.map V.str)) := upd_same
  generalize upd H1 l2 (.lst (lines.map V.str)) = H2 at s2 e2 ⊢
  have wb := split_bounds hd (" " : Str) (by decide +kernel)
  refine ⟨_, rfl, ⟨_, rfl⟩, _, _, rfl, rfl, by decide +kernel, ?_, fun l3 n3 => ?_⟩
  · rw [sizeLine_eq]; omega
  have hno7 := parts_no7 hs
  have his := fun w0 w1 w2 w3 w4 w5 w6 => parts_is (w0 := w0) (w1 := w1) (w2 := w2) (w3 := w3) (w4 := w4) (w5 := w5) (w6 := w6) hs
  generalize Txt.split hd (" " : Str) = ws at wb hno7 his ⊢
  have s3 : Same H2 (upd H2 l3 (.lst (ws.map V.str))) := same_lay n3
  have e3 : (upd H2 l3 (.lst (ws.map V.str))) l3 = some (.lst (ws.map V.str)) := upd_same
  generalize upd H2 l3 (.lst (ws.map V.str)) = H3 at s3 e3 ⊢
  refine ⟨_, rfl, l3, _, rfl, .inl (SqL.of e3), rfl, _, rfl, ?_⟩
  rw [List.length_map]
  by_cases h7 : ws.length = 7
  rotate_left
  · have z : (!decide (V.int (ws.length : Int) = V.int 7)) = true := by
      rw [decide_eq_false (fun z => by injection z with z; omega)]
      rfl
    show (if (!decide (V.int (ws.length : Int) = V.int 7)) = true then _ else _)
    rw [z]
    exact iteT (kno (hno7 h7) H3 (s2.trans s3))
  have z : (!decide (V.int (ws.length : Int) = V.int 7)) = false := by
    rw [decide_eq_true (by rw [h7]; rfl)]
    rfl
  show (if (!decide (V.int (ws.length : Int) = V.int 7)) = true then _ else _)
  rw [z]
  refine iteF ?_
  by_cases hne : lines = []
  · subst hne
    exact ⟨_, rfl, false, .inl ⟨_, SqL.of (s3 _ _ e2), rfl⟩, iteT (kno (parts_nil hs) H3 (s2.trans s3))⟩
  refine ⟨_, rfl, true, .inl ⟨_, SqL.of (s3 _ _ e2), ?_⟩, iteF ?_⟩
  · cases lines with
    | nil => exact absurd rfl hne
    | cons a b => rfl
  unfold tNext
  dsimp only
  refine seq_asg ?_
  match ws, h7, wb, his, e3 with
  | [w0, w1, w2, w3, w4, w5, w6], _, wb, his, e3 =>
  have hpm := his w0 w1 w2 w3 w4 w5 w6 rfl hne
  have b1 : w1.length ≤ 2001 := Nat.le_trans (wb.1 w1 (by simp)) hhd
  have b3 : w3.length ≤ 2001 := Nat.le_trans (wb.1 w3 (by simp)) hhd
  have b5 : w5.length ≤ 2001 := Nat.le_trans (wb.1 w5 (by simp)) hhd
  refine ⟨_, rfl, l3, _, _, _, _, _, _, _, rfl, SqL.of e3, fun l4 n4 => ?_⟩
  have e4 : (upd H3 l4 (.lst [.str w1, .str w3, .str w5])) l4 = some (.lst ([w1, w3, w5].map V.str)) := upd_same
  have s4 : Same H3 (upd H3 l4 (.lst [.str w1, .str w3, .str w5])) := same_lay n4
  generalize upd H3 l4 (.lst [.str w1, .str w3, .str w5]) = H4 at s4 e4 ⊢
  refine ⟨l4, rfl, ⟨_, SqL.of e4⟩, fun D nD => ?_⟩
  refine lc_list (K := K) (a := l4) (xs := [w1, w3, w5].map V.str) (fun i H' => Same H4 H' ∧ H' D = some (.lst (([numM w1, numM w3, numM w5].take i).map optV))) ⟨same_lay nD, by rw [upd_same]; rfl⟩ (fun i H' _ q => SqL.of (q.1 _ _ e4)) ?_ ?_
  · rintro i v H' hi ⟨q1, q2⟩
    obtain ⟨j, ex, ej, hj, hi3⟩ : ∃ j : Str, v = .str j ∧ [numM w1, numM w3, numM w5][i]? = some (numM j) ∧ j.length ≤ 2001 ∧ i < 3 := by
      match i, hi with
      | 0, hi => exact ⟨w1, (Option.some.inj hi).symm, rfl, b1, by decide⟩
      | 1, hi => exact ⟨w3, (Option.some.inj hi).symm, rfl, b3, by decide⟩
      | 2, hi => exact ⟨w5, (Option.some.inj hi).symm, rfl, b5, by decide⟩
    subst ex
    refine ⟨rfl, ?_⟩
    unfold tYes
    dsimp only
    rw [if_pos rfl]
    refine ⟨_, rfl, j, rfl, hj, _, q2, ?_, ?_, ?_⟩
    · rw [List.length_map, List.length_take, sizeLine_eq]; omega
    · exact fun c o z => by rw [upd_ne (ne_of_none z nD)]; exact q1 _ _ z
    · rw [upd_same, List.take_add_one, ej]
      simp
  rintro H5 ⟨s5, e5⟩
  have s6 : Same H2 H5 := s3.trans (s4.trans s5)
  refine ⟨D, _, rfl, SqL.of e5, rfl, _, _, rfl, _, _, rfl, _, _, rfl, rfl, ?_⟩
  refine seq_asg (cb_read (cons_read ?_))
  refine ⟨_, rfl, l2, rfl, ⟨_, SqL.of (s6 _ _ e2)⟩, fun D2 nD2 => ?_⟩
  refine lc_list (K := K) (a := l2) (xs := lines.map V.str) (fun i H' => ∃ rs : List Addr, Same H5 H' ∧ H' D2 = some (.lst (rs.map V.ref)) ∧ rs.length = i ∧ Paired (fun (a : Addr) (r : RowA) => H' a = some (.tup [optV r.1, .str r.2])) rs ((lines.map fun ln => rowM ln (numM w3)).take i))
    ⟨[], same_lay nD2, upd_same, rfl, .nil⟩ (fun i H' _ q => ?_) ?_ ?_
  · obtain ⟨_, q, _⟩ := q
    exact SqL.of (q _ _ (s6 _ _ e2))
  · rintro i v H' hi ⟨rs, q1, q2, q3, q4⟩
    have hil : i < lines.length := by
      have z := (List.getElem?_eq_some_iff.mp hi).1
      rwa [List.length_map] at z
    rw [List.getElem?_map, List.getElem?_eq_getElem hil] at hi
    obtain rfl : V.str lines[i] = v := Option.some.inj hi
    have er : (lines.map fun ln => rowM ln (numM w3))[i]? = some (rowM lines[i] (numM w3)) := by rw [List.getElem?_map, List.getElem?_eq_getElem hil]; rfl
    refine ⟨rfl, ?_⟩
    unfold tYes
    dsimp only
    rw [if_pos rfl]
    refine ⟨_, rfl, _, rfl, numM w3, lines[i], rfl, hlns _ (List.getElem_mem _), fun H6 q s7 nq hq => ⟨rs.map V.ref, s7 _ _ q2, ?_, rs ++ [q], ?_, ?_, ?_, ?_⟩⟩
    · rw [List.length_map, q3, sizeLine_eq]; omega
    · exact fun c o z => by rw [upd_ne (ne_of_none z nD2)]; exact s7 _ _ (q1 _ _ z)
    · rw [upd_same]; simp
    · rw [List.length_append, q3]; rfl
    · rw [List.take_add_one, er]
      have nqD : q ≠ D2 := fun z => by rw [z, q2] at nq; cases nq
      refine paired_snoc (Paired.mapP q4 fun a r z => ?_) (by rw [upd_ne nqD]; exact hq)
      have na : a ≠ D2 := fun z2 => by rw [z2, q2] at z; cases z
      rw [upd_ne na]
      exact s7 _ _ z
  rintro H6 ⟨rs, q1, q2, q3, q4⟩
  have eT : (lines.map fun ln => rowM ln (numM w3)).take (lines.map V.str).length = lines.map fun ln => rowM ln (numM w3) := List.take_of_length_le (by simp)
  rw [eT] at q4
  refine ⟨D2, _, rfl, .inl ⟨SqL.of q2, fun t nt => ?_⟩⟩
  have s8 : Same H (upd H6 t (.tup (rs.map V.ref))) := s2.trans (s6.trans (q1.trans (same_lay nt)))
  have hR : RowsA K (upd H6 t (.tup (rs.map V.ref))) t (lines.map fun ln => rowM ln (numM w3)) := ⟨rs, SqT.of upd_same, Paired.mapP q4 fun a r z => SqT.of (same_lay nt _ _ z)⟩
  generalize upd H6 t (.tup (rs.map V.ref)) = H7 at s8 hR ⊢
  have hok : ∀ r ∈ (lines.map fun ln => rowM ln (numM w3)), OkR r := fun r hr => by
    obtain ⟨ln, hl, rfl⟩ := List.mem_map.mp hr
    exact okr (okn _) (hlns _ hl)
  have hlen : (lines.map fun ln => rowM ln (numM w3)).length ≤ 2002 := by rw [List.length_map]; exact hcnt
  obtain ⟨ini, ⟨ll, y⟩, erows⟩ := last_eq (lines.map fun ln => rowM ln (numM w3)) (by simpa using hne)
  rw [erows] at hR hok hlen hpm
  have etx : textR (numM w1) (numM w3) (numM w5) (ini ++ [(ll, y)]) = textA (numM w1) (numM w3) (numM w5) ini y := by
    unfold textR
    rw [List.dropLast_concat, List.getLast?_concat]
    rfl
  rw [etx] at hpm
  rw [List.length_append, List.length_singleton] at hlen
  refine ⟨_, rfl, _, rfl, _, rfl, _, rfl, numM w1, numM w3, numM w5, t, ini, ll, y, rfl, okn _, okn _, okn _, hR, fun r hr => hok r (List.mem_append_left _ hr), (hok (ll, y) (List.mem_append_right _ (List.mem_singleton.mpr rfl))).2, by omega, fun H8 s9 => ?_⟩
  refine ⟨_, rfl, rfl, _, rfl, ?_⟩
  by_cases ht : textA (numM w1) (numM w3) (numM w5) ini y = x
  · have z : (!decide (V.str (textA (numM w1) (numM w3) (numM w5) ini y) = V.str x)) = false := by rw [decide_eq_true (by rw [ht])]; rfl
    show (if (!decide (V.str (textA (numM w1) (numM w3) (numM w5) ini y) = V.str x)) = true then _ else _)
    rw [z]
    rw [if_pos ht] at hpm
    refine iteF ⟨_, rfl, _, rfl, _, rfl, _, rfl, by show 4 ≤ sizeLine; decide, fun q nq => ?_⟩
    exact kis _ _ _ _ hpm _ t q (s8.trans (s9.trans (same_lay nq))) (hR.same (s9.trans (same_lay nq))) upd_same
  · have z : (!decide (V.str (textA (numM w1) (numM w3) (numM w5) ini y) = V.str x)) = true := by rw [decide_eq_false (fun z => ht (by injection z))]; rfl
    show (if (!decide (V.str (textA (numM w1) (numM w3) (numM w5) ini y) = V.str x)) = true then _ else _)
    rw [z]
    rw [if_neg ht] at hpm
    exact iteT (kno hpm H8 (s8.trans s9))
end
end K4

set_option Elab.async false
set_option linter.all false
set_option maxRecDepth 100000
set_option maxHeartbeats 4000000
/-! right texts: what is read of them, and that nothing else is read as a drive. -/
namespace K4
open PySem PySem.Spec PyProof.Rows L2 G1 G2 K2 K3
/-- sizes and rows of a drive, whatever the number of its stands -/
structure Rt (b p n : Nat) (ini : List RowD) (y : Str) : Prop where
  sz : Sz b p n
  ini : IniOk p ini
  y : y ∈ wordsL
def Right (x : Str) : Prop := ∃ b p n ini y, x = textM ((b : Nat) : Int) ((p : Nat) : Int) ((n : Nat) : Int) ini y ∧ Rt b p n ini y
def toA (r : RowD) : RowA := (some r.1.toNat, r.2)
theorem line_toA {r : RowD} (h : 0 ≤ r.1) : lineA (toA r) = lineM r := by
  unfold lineA lineM toA optS
  dsimp only
  rw [Int.toNat_of_nonneg h]
theorem map_line {ini : List RowD} (h : ∀ r ∈ ini, 0 ≤ r.1) : (ini.map toA).map lineA = ini.map lineM := by
  rw [List.map_map]
  exact List.map_congr_left fun r hr => line_toA (h r hr)
theorem text_toA {b p n : Nat} {ini : List RowD} {z : RowD} (h : ∀ r ∈ ini, 0 ≤ r.1) : textR (some b) (some p) (some n) ((ini ++ [z]).map toA) = textM (b : Int) (p : Int) (n : Int) ini z.2 := by
  have e : (ini ++ [z]).map toA = ini.map toA ++ [toA z] := by simp
  unfold textR
  rw [e, List.dropLast_concat, List.getLast?_concat]
  unfold textA textM linesA linesM
  rw [map_line h]
  rfl
theorem ini_nn {p : Nat} {ini : List RowD} (h : IniOk p ini) : ∀ r ∈ ini, 0 ≤ r.1 := fun r hr => (h.1 r hr).1
theorem row_line {p : Nat} (hp : p < 6) {r : RowD} (h : RowOk p r) (q : Option Nat) : rowM (lineM r) q = toA r := by
  obtain ⟨l, w⟩ := r
  obtain ⟨a1, a2, a3⟩ := h
  dsimp only at a1 a2 a3
  obtain ⟨j, rfl⟩ : ∃ j : Nat, l = (j : Int) := ⟨l.toNat, by omega⟩
  obtain ⟨e1, e2, e3⟩ := line_facts j (by omega) w a3
  unfold rowM toA
  show ((if (Txt.partition (lineM ((j : Int), w)) (Str.ofString ": ")).1 = Str.ofString "any" then q else numM (Txt.removeprefix (Txt.partition (lineM ((j : Int), w)) (Str.ofString ": ")).1 (Str.ofString "at most "))), (Txt.partition (lineM ((j : Int), w)) (Str.ofString ": ")).2.2) = _
  rw [e1]
  dsimp only
  rw [if_neg (fun z => by rw [e2] at z; exact z), e3, numM_of j (by omega)]
  rfl
theorem row_any {w : Str} (h : w ∈ wordsL) (q : Option Nat) : rowM (anyM w) q = (q, w) := by
  unfold rowM
  show ((if (Txt.partition (anyM w) (Str.ofString ": ")).1 = Str.ofString "any" then q else numM (Txt.removeprefix (Txt.partition (anyM w) (Str.ofString ": ")).1 (Str.ofString "at most "))), (Txt.partition (anyM w) (Str.ofString ": ")).2.2) = _
  rw [any_facts w h]
  rfl
theorem right_parts {b p n : Nat} {ini : List RowD} {y : Str} (h : Rt b p n ini y) : partsM (textM (b : Int) (p : Int) (n : Int) ini y) = some (some b, some p, some n, (ini ++ [((p : Int), y)]).map toA) := by
  have hz := h.sz
  have b1 := hz.b1
  have p1 := hz.p1
  have n1 := hz.n25
  have hsx := split_text b p n (by omega) (by omega) n1 ini h.ini y h.y
  have hsh := split_head b p n (by omega) (by omega) n1
  unfold linesM at hsx
  have hr : (ini.map lineM ++ [anyM y]).map (fun ln => rowM ln (some p)) = (ini ++ [((p : Int), y)]).map toA := by
    rw [List.map_append, List.map_append, List.map_map]
    congr 1
    · exact List.map_congr_left fun r hr => row_line (by omega) (h.ini.1 r hr) _
    · show [rowM (anyM y) (some p)] = [toA ((p : Int), y)]
      rw [row_any h.y]
      rfl
  rw [parts_is hsx hsh (by simp), numM_of b (by omega), numM_of p (by omega), numM_of n n1, hr, text_toA (ini_nn h.ini), if_pos rfl]
theorem pair_toA {l : Option Nat} {w : Str} {r : RowD} (h : pairE (optV l) (.str w) = some r) : (l, w) = toA r ∧ 0 ≤ r.1 := by
  cases l with
  | none => cases h
  | some i =>
    have h' : (if inV (.str w) (wordsL.map V.str) = true then some ((i : Int), w) else none) = some r := h
    split at h'
    · cases h'
      exact ⟨rfl, Int.natCast_nonneg i⟩
    · cases h'
def rowsE (rows : List RowA) : List (Option RowD) := rows.map fun r => pairE (optV r.1) (.str r.2)
theorem rows_toA : ∀ {rows : List RowA} {ds : List RowD}, rowsE rows = ds.map some → rows = ds.map toA ∧ ∀ r ∈ ds, 0 ≤ r.1
  | [], [], _ => ⟨rfl, fun _ h => by cases h⟩
  | [], _ :: _, h => by cases h
  | _ :: _, [], h => by cases h
  | (l, w) :: rows, r :: ds, h => by
    unfold rowsE at h
    rw [List.map_cons, List.map_cons] at h
    injection h with h1 h2
    obtain ⟨e1, e2⟩ := pair_toA h1
    obtain ⟨e3, e4⟩ := rows_toA (rows := rows) (ds := ds) h2
    refine ⟨by rw [List.map_cons, e1, e3], fun z hz => ?_⟩
    rcases List.mem_cons.mp hz with rfl | hz
    · exact e2
    · exact e4 z hz
theorem opt_inj {l : Option Nat} {i : Nat} (h : optV l = .int (i : Int)) : l = some i := by
  cases l with
  | none => cases h
  | some j =>
    have h' : V.int (j : Int) = .int (i : Int) := h
    injection h' with h'
    rw [show j = i from by omega]
theorem opt_kd {K : PySem.W.Frag} {H : Hp} (l : Option Nat) : Kd K H (optV l) := by
  cases l with
  | none => exact .nt .non
  | some i => exact .nt (.int _)
theorem rowsA_rw {K : PySem.W.Frag} {H : Hp} {t : Addr} {rows : List RowA} (h : RowsA K H t rows) (hne : rows ≠ []) : RwV K H (.ref t) (some (rowsE rows)) := by
  obtain ⟨rs, h1, h2⟩ := h
  refine .tup h1 (fun z => hne ?_) ?_
  · have l1 := Paired.length h2
    have l2 : rs = [] := by simpa using z
    rw [l2] at l1
    exact List.length_eq_zero_iff.mp l1.symm
  · clear h1 hne
    unfold rowsE
    induction h2 with
    | nil => exact .nil
    | cons r _ ih => exact .cons (.pair r (opt_kd _) (.nt (.str _))) ih
theorem parts_text {x : Str} {b p n : Option Nat} {rows : List RowA} (h : partsM x = some (b, p, n, rows)) : textR b p n rows = x ∧ rows ≠ [] := by
  unfold partsM at h
  split at h
  · cases h
  · split at h
    · split at h
      · cases h
      · rename_i hne
        split at h
        · rename_i e
          cases h
          exact ⟨e, by simpa using hne⟩
        · cases h
    · cases h
/-- what is read and passes the checks is a right text -/
theorem parts_right {K : PySem.W.Frag} {H : Hp} {t : Addr} {x : Str} {b p n : Option Nat} {rows : List RowA} (h : partsM x = some (b, p, n, rows)) (hR : RowsA K H t rows) (hd : dueM (optV b) (optV p) (optV n) (some (rowsE rows)) = none) :
    ∃ b' p' n' ini y, b = some b' ∧ p = some p' ∧ n = some n' ∧ rows = (ini ++ [((p' : Int), y)]).map toA ∧ x = textM (b' : Int) (p' : Int) (n' : Int) ini y ∧ Rt b' p' n' ini y := by
  obtain ⟨ht, hne⟩ := parts_text h
  have hw := rowsA_rw hR hne
  obtain ⟨b', p', n', _, _, _, f1, f2, f3, _, hz, _, _, _⟩ := due_none hw hd
  have g1 := opt_inj f1
  have g2 := opt_inj f2
  have g3 := opt_inj f3
  subst g1 g2 g3
  obtain ⟨t5, ini, y, k1, k2, hR5, hi, hy⟩ := chk_none hw (chk_of hd)
  obtain ⟨e1, e2⟩ := rows_toA (Option.some.inj k2)
  refine ⟨b', p', n', ini, y, rfl, rfl, rfl, e1, ?_, ⟨hz, hi, hy⟩⟩
  rw [← ht, e1]
  exact text_toA fun r hr => e2 r (List.mem_append_left _ hr)
end K4

set_option Elab.async false
set_option linter.all false
set_option maxRecDepth 100000
set_option maxHeartbeats 4000000
namespace K4
open PySem PySem.Spec PyProof.Rows L2 G1 G2 G3 K2 K3 L2H
section
variable {X : Cx} {CXq : CXT} {k i : Nat} {f C : Addr} {fd : FuncData} {ps : List Str} {sp : Sp} {dvs : List V} {ds : List Value} {Eq : L2.St → XK} {x : Str} {pp pos : Pos} {e : Expr} {es : List Expr} {t : TA}
theorem run_makeS {pins : List (Addr × Obj)} {τ : L2.St} {G : Hp} {s : Shared} {Q : VK} {us : List Value} {vs : List V} (M : Mk X.K C f) (Fi : FnOk X.prog X.w X.K X.mg X.base CXq k f fd ps sp) (hr : Room (k + 1) X.A) (bi : Binds X.K fd ps ds) (hdv : Vals dvs ds)
    (hps : PassesAt CXq X τ (Eq τ)) (J : Inv X pins τ G s) (ra : Vals vs us)
    (want : ∀ a da, G a = none → G da = none → da ≠ a → sp (.ref a :: (vs ++ dvs)) (upd (upd G da (.own a)) a (.ins C da [])) (fun v Gb => v = .non ∧ Q (.ref a) Gb) (Eq τ)) :
    wpAny (model X.prog X.w) X.A (call (.ref C) us) (EP X pins τ Q) X.xe s := by
  have w1 := want (s.heap.objs.size + 1) s.heap.objs.size (J.hok.fresh (Nat.le_succ _)) (J.hok.fresh (Nat.le_refl _)) (Nat.ne_of_lt (Nat.lt_succ_self _))
  have Jm := Inv.made (C := C) J
  have rm : Vals (V.ref (s.heap.objs.size + 1) :: (vs ++ dvs)) (Value.ref (s.heap.objs.size + 1) :: (us ++ ds)) := .cons rfl (ra.append hdv)
  have lm : (Value.ref (s.heap.objs.size + 1) :: us ++ ds).length = ps.length := by
    have z := rm.length
    rw [Fi.len _ _ _ _ w1] at z
    exact z.symm
  refine wpAny_call (make_map (f := f) J.kIn M.makes M.init (beq_iff_eq.mp M.fn) (codeAny_mono (Fi.run _ X.stack _ _ ⟨Value.ref (s.heap.objs.size + 1) :: us, []⟩ (Value.ref (s.heap.objs.size + 1) :: (us ++ ds)) _ _ (Eq τ) (hr.make C us [])
    (Jm.env0.make C us []) (bi _ (Value.ref (s.heap.objs.size + 1) :: us) Jm.kIn lm) rm w1) fun r s' hq' => ?_))
  cases r with
  | error er => exact hps pins _ _ er s' Jm hq'
  | ok fl =>
    cases fl with
    | ret u =>
      obtain ⟨v, Gb, Jb, rv, ev, qb⟩ := Jm.after hq'
      subst ev
      exact ⟨rv, ⟨V.ref (s.heap.objs.size + 1), Gb, Jb, rfl, qb⟩⟩
    | next => exact False.elim hq'
    | brk => exact False.elim hq'
    | cont => exact False.elim hq'
/-- cls(e, ..), its exceptions taken by a try around -/
def tMakeVS (i : Nat) (C : Addr) (sp : Sp) (dvs : List V) (Eq : L2.St → XK) (t : TA) : TE := fun τ G Q => τ[i]? = some (some (.ref C)) ∧ tMake C sp dvs (Eq τ) t τ G Q
theorem pe_makeVS (i : Nat) (M : Mk X.K C f) (Fi : FnOk X.prog X.w X.K X.mg X.base CXq k f fd ps sp) (hr : Room (k + 1) X.A) (hN : X.N[i]? = some x) (hv : Vis X.env.scope x) (bi : Binds X.K fd ps ds) (hdv : Vals dvs ds) (hps : ∀ τ, PassesAt CXq X τ (Eq τ))
    (ha : PA X (e :: es) t) (hdb : (x == ("__debug__" : Str)) = false := by decide) (hcd : (x == ("__classdict__" : Str)) = false := by decide)
    (hst : starEach (e :: es) X.env = (false, eval e X.env) :: starEach es X.env := by rfl) (hpl : (backTo pos (starEach es X.env)).any (·.1) = false := by rfl) :
    PE X (.Call (.Name x pp) (e :: es) [] pos) (tMakeVS i C sp dvs Eq t) := by
  refine ⟨fun pins s τ G Q J want => ?_⟩
  obtain ⟨h0, h1⟩ := want
  refine wpAny_Call_Name_kw (thn ((pe_var (pos := pp) hN hv hdb hcd).run pins s τ G (fun v Ga => v = .ref C ∧ Ga = G) J ⟨.ref C, h0, rfl, rfl⟩) fun u s1 ⟨v, Ga, Ja, r1, q1⟩ => ?_)
  obtain ⟨rfl, rfl⟩ := q1
  cases r1
  refine PySem.W.callWith_K (h₀ := X.base) J.ok.mod.kin M.kp (thn (ha.run pos pins s1 τ _ _ Ja h1) fun us s2 ⟨vs, Gb, Jb, r, q⟩ => ⟨Jb.kIn, ?_⟩) hst hpl
  exact run_makeS M Fi hr bi hdv (hps τ) Jb r q
end
theorem in_words : ∀ w ∈ wordsL, inV (.str w) (wordsL.map V.str) = true := by decide +kernel
theorem rowsE_toA : ∀ {ds : List RowD}, (∀ r ∈ ds, 0 ≤ r.1 ∧ r.2 ∈ wordsL) → rowsE (ds.map toA) = ds.map some
  | [], _ => rfl
  | r :: ds, h => by
    obtain ⟨h1, h2⟩ := h r (List.mem_cons_self ..)
    have z := rowsE_toA (ds := ds) fun q hq => h q (List.mem_cons_of_mem _ hq)
    unfold rowsE at z ⊢
    rw [List.map_cons, List.map_cons, List.map_cons, z]
    congr 1
    show (if inV (.str r.2) (wordsL.map V.str) = true then some (((r.1.toNat : Nat) : Int), r.2) else none) = some r
    rw [if_pos (in_words _ h2), Int.toNat_of_nonneg h1]
theorem rows_ok2 {b p n : Nat} {ini : List RowD} {y : Str} (h : Rt b p n ini y) : ∀ r ∈ ini ++ [((p : Int), y)], 0 ≤ r.1 ∧ r.2 ∈ wordsL := fun r hr => by
  rcases List.mem_append.mp hr with hr | hr
  · exact ⟨(h.ini.1 r hr).1, (h.ini.1 r hr).2.2⟩
  · rw [List.mem_singleton.mp hr]
    exact ⟨Int.natCast_nonneg p, h.y⟩
abbrev sIT : Stmt := inClass (topS 9) 0
abbrev sRead : Stmt := inClass sDrv 2
theorem scIT : FnScope ["self", "given"] ["self", "given"] (defScope sIT) := ⟨rfl, rfl, rfl, by decide +kernel, rfl, by decide +kernel, by decide +kernel⟩
theorem scRead : FnScope ["cls", "text", "parts", "blocks", "pages", "names", "rows"] ["cls", "text"] (defScope sRead) := ⟨rfl, rfl, rfl, by decide +kernel, rfl, by decide +kernel, by decide +kernel⟩
section
variable {P : Program} {w : World} {K : PySem.W.Frag} {mg : Str → Option Value} {base : Heap} {C f : Addr} {fd : FuncData}
theorem ok_xT (F : Fun K "__init__" "InvalidText.__init__" sIT f fd) (T : OexC K C) (no : PySem.W.findIn K (.ref C) "given" = some none) : FnOk P w K mg base CX0 1 f fd ["self", "given"] (spXi C "given") := by
  refine F.ok scIT (fun vs H Q E h => ?_) (fun cdv A outer s H vs Q E hr h => ?_)
  · obtain ⟨a, v, rfl, _⟩ := h
    rfl
  obtain ⟨a, v, rfl, ha, k⟩ := h
  exact ⟨_, pss_one (ps_ost (pv 0) (pv 1)), _, rfl, _, rfl, a, C, rfl, T, no, .inl ⟨ha, k⟩⟩
theorem ok_xTH (F : Fun K "__init__" "InvalidText.__init__" sIT f fd) (T : OexC K C) (no : PySem.W.findIn K (.ref C) "given" = some none) : FnH P w K mg base CX0 1 f fd ["self", "given"] (spXi C "given") := by
  refine okH F scIT (fun vs H Q E h => ?_) (fun cdv A outer s H vs Q E p hot hr h => ?_)
  · obtain ⟨a, v, rfl, _⟩ := h
    rfl
  obtain ⟨a, v, rfl, ha, k⟩ := h
  exact ⟨_, pss_one (ps_ost (pv 0) (pv 1)), _, rfl, _, rfl, a, C, rfl, T, no, .inl ⟨ha, k⟩⟩
end
/-- what Drive.read of any value gives -/
def spRdA (K : PySem.W.Frag) (C xT : Addr) : Sp := fun vs H Q E => ∃ v : V, vs = [.ref C, v] ∧ Kd K H v ∧
  ((∃ x : Str, v = .str x ∧ x.length ≤ 2001 ∧ (∀ b p n ini y, x = textM ((b : Nat) : Int) ((p : Nat) : Int) ((n : Nat) : Int) ini y → Rt b p n ini y → cntM b p n ≤ 2000 ∧ Made K C H Q b p n ini y) ∧ (¬ Right x → Rsd xT "given" v H E)) ∨ (strB v = false ∧ Rsd xT "given" v H E))
/-- InvalidText, raised in both places -/
structure TxC (P : Program) (w : World) (K : PySem.W.Frag) (mg : Str → Option Value) (base : Heap) (xT bV tM : Addr) (cl : K3.Due → Addr) : Prop where
  x : XCls P w K mg base "InvalidText" "given" xT
  h : ∃ (fI : Addr) (fd : FuncData), PySem.W.findIn K (.ref xT) "__init__" = some (some (.ref fI)) ∧ PySem.W.typeIn K (.ref fI) = some (.type "function") ∧ FnH P w K mg base CX0 1 fI fd ["self", "given"] (spXi xT "given") ∧ Binds K fd ["self", "given"] []
  gB : mg "BadValue" = some (.ref bV)
  gM : mg "TooMany" = some (.ref tM)
  ex : ∀ u, PySem.W.exmAny K (.ref (cl u)) [.ref bV, .ref tM] = some true
section
variable {P : Program} {w : World} {K : PySem.W.Frag} {mg : Str → Option Value} {base : Heap} {cl : K3.Due → Addr}
theorem ok_rdA {f C fI fP xT bV tM : Addr} {fd fdI fdP : FuncData} (F : Fun K "read" "Drive.read" sRead f fd) (B : Bl mg) (M : Mk K C fI) (TX : TxC P w K mg base xT bV tM cl)
    (GI : FnOk P w K mg base (L2N.CX P w) 5 fI fdI ["self", "blocks", "pages", "names", "rows"] (spInA K C cl)) (bI : Binds K fdI ["self", "blocks", "pages", "names", "rows"] [])
    (GP : FnOk P w K mg base CX0 3 fP fdP ["text"] (spPrA K)) (kP : PySem.W.keepIn K (.ref fP) = true) (bP : Binds K fdP ["text"] []) (gP : mg "parts_of" = some (.ref fP)) :
    FnOk P w K mg base (L2.CX P w) 7 f fd ["cls", "text"] (spRdA K C xT) := by
  refine F.okX scRead (fun vs H Q E h => ?_) (fun cdv A outer s H vs Q E hr h => ?_)
  · obtain ⟨v, rfl, _⟩ := h
    rfl
  obtain ⟨v, rfl, hk, hv⟩ := h
  have hr3 : Room 3 _ := hr.mono (by decide)
  have hr2 : Room 2 _ := hr.mono (by decide)
  have hr6 : Room 6 _ := hr.mono (by decide)
  obtain ⟨fX, dX, iX, tX, GX, bX⟩ := TX.x.ini
  obtain ⟨fH, dH, iH, tH, GH, bH⟩ := TX.h
  refine ⟨_, pss_cons (ps_set (i := 2) scRead.nd rfl (.inl rfl) (pe_ifExp (pt_val (pe_callB call_isi (by rfl) B.isi bIsi (pa_cons (pv 1) (pa_cons (pe_bltn (v := .ty "str") (by rfl) B.str bStr rfl) pa_nil))))
      (pe_call GP hr3 (by rfl) gP kP bP .nil pass0 (pa_cons (pv 1) pa_nil)) pe_non))
    (pss_cons (ps_if (pt_cmpR op_isN (pv 2) pe_non (nomark _)) (pss_one (L2.ps_raise (W := fun cls d _ H => E cls d H) rfl (L2.takes_of rfl rfl rfl rfl) (pmk_oex TX.x.T iX tX GX hr2 bX .nil pass0 (by rfl) TX.x.g (pa_cons (pv 1) pa_nil)))) pss_nil)
    (pss_cons (ps_asg (pv 2) (pg_tup rfl (pgs_cons (pg_name (i := 3) scRead.nd rfl (.inl rfl)) (pgs_cons (pg_name (i := 4) scRead.nd rfl (.inl rfl)) (pgs_cons (pg_name (i := 5) scRead.nd rfl (.inl rfl)) (pgs_cons (pg_name (i := 6) scRead.nd rfl (.inl rfl)) pgs_nil))))))
    (pss_one (ps_try_pair (Wo := fun cls d _ H => E cls d H) (c1 := .ref bV) (c2 := .ref tM) (tb := fun W => tRet (tMakeVS 0 C (spInA K C cl) [] (WE W) (tCons (tVar 3) (tCons (tVar 4) (tCons (tVar 5) (tCons (tVar 6) tNil))))))
      (ts := fun _ _ _ => fun _ τ G => tMkO xT (spXi xT "given") [] (tCons (tVar 1) tNil) τ G fun cls d H' => E cls d H')
      rfl rfl ⟨rfl, by decide, .inl TX.gB⟩ ⟨rfl, by decide, .inl TX.gM⟩ (passesAt_of rfl) (L2.takes_of rfl rfl rfl rfl)
      (fun W pn xe tk _ => pss_one (ps_ret (pe_makeVS 0 M GI hr6 rfl (.inl rfl) bI .nil (fun τ => L2N.passAt tk τ) (pa_cons (pv 3) (pa_cons (pv 4) (pa_cons (pv 5) (pa_cons (pv 6) pa_nil)))))))
      (fun ea eo cls d pn tkS hot => pss_one (ps_raiseHN (W := fun cls d _ H => E cls d H) hot tkS (pmk5_oexH TX.x.T iH tH GH (roomH_mark hr2 _) hot bH pass0 (by rfl) TX.x.g (pa_cons (pv 1) pa_nil)))))))), ?_⟩
  obtain ⟨ty, hty, kty⟩ := hk.isStr
  refine ⟨_, rfl, _, _, _, _, strB v, rfl, .ty _, hty, kty, _, rfl, ?_⟩
  rcases hv with ⟨x, rfl, hx, kok, kno⟩ | ⟨hs, kno⟩
  rotate_left
  · rw [hs]
    refine iteF ⟨_, rfl, rfl, _, rfl, iteT ?_⟩
    exact ⟨_, rfl, mk_read kno⟩
  refine iteT ⟨_, rfl, x, rfl, hx, fun hn H1 s1 => ?_, fun b p n rows hp H1 t q s1 hR hq => ?_⟩
  · refine ⟨_, rfl, rfl, _, rfl, iteT ⟨_, rfl, mk_read ((kno ?_).same s1)⟩⟩
    rintro ⟨b, p, n, ini, y, rfl, hrt⟩
    rw [right_parts hrt] at hn
    cases hn
  · have z : decide (V.ref q = V.non) = false := decide_eq_false (fun z => nomatch z)
    refine ⟨_, rfl, rfl, _, rfl, ?_⟩
    show (if decide (V.ref q = V.non) = true then _ else _)
    rw [z]
    refine iteF ⟨_, rfl, q, _, rfl, SqT.of hq, rfl, _, _, rfl, _, _, rfl, _, _, rfl, _, _, rfl, rfl, ?_⟩
    obtain ⟨htx, hne⟩ := parts_text hp
    refine ⟨rfl, _, rfl, _, rfl, _, rfl, _, rfl, ?_⟩
    refine drv_read (K := K) (d := some (rowsE rows)) ⟨⟨opt_kd _, opt_kd _, opt_kd _, rowsA_rw hR hne, fun hd b' p' n' e1 e2 e3 => ?_⟩, ?_, fun u hu dd H3 u3 hd3 => ?_⟩
    · obtain ⟨b2, p2, n2, ini, y, rfl, rfl, rfl, er, ex, hrt⟩ := parts_right hp hR hd
      have f1 := opt_inj e1
      have f2 := opt_inj e2
      have f3 := opt_inj e3
      cases f1
      cases f2
      cases f3
      exact (kok _ _ _ _ _ ex hrt).1
    · intro b' p' n' t' ini' y' hd e1 e2 e3 e4 hDP ed H3 x3 s3 nx dv
      obtain ⟨b2, p2, n2, ini, y, rfl, rfl, rfl, er, ex, hrt⟩ := parts_right hp hR hd
      have f1 := opt_inj e1
      have f2 := opt_inj e2
      have f3 := opt_inj e3
      cases f1
      cases f2
      cases f3
      obtain ⟨r1, _⟩ := rows_toA (Option.some.inj ed)
      have ex2 : x = textM (b' : Int) (p' : Int) (n' : Int) ini' y' := by
        rw [← htx, r1]
        exact text_toA (ini_nn hDP.ini)
      exact (kok _ _ _ _ _ ex2 ⟨hDP.sz, hDP.ini, hDP.y⟩).2 H3 x3 (s1.trans s3) (s1.free nx) dv.drv
    · refine ⟨TX.ex u, fun ea na => ⟨_, rfl, mk_read ((kno ?_).same (s1.trans u3))⟩⟩
      rintro ⟨b2, p2, n2, ini, y, rfl, hrt⟩
      rw [right_parts hrt] at hp
      cases hp
      have z : dueM (optV (some b2)) (optV (some p2)) (optV (some n2)) (some (rowsE ((ini ++ [((p2 : Int), y)]).map toA))) = none := by
        rw [rowsE_toA (rows_ok2 hrt)]
        exact due_ok (sz_ok hrt.sz) (chk_ok hrt.ini hrt.y)
      rw [z] at hu
      cases hu
end
end K4

set_option Elab.async false
set_option linter.all false
set_option maxRecDepth 100000
set_option maxHeartbeats 4000000
namespace K4
open PySem PySem.Spec PyProof.Rows L2 G1 G2 G3 K2 K3
abbrev sLnu : Stmt := topS 47
abbrev NLnu : List Str := ["_law_word_here", "_law_some", "_law_k"]
theorem scLnu : FnScope NLnu ["_law_word_here"] (defScope sLnu) := ⟨rfl, rfl, rfl, by decide +kernel, rfl, by decide +kernel, by decide +kernel⟩
def hitL (w : Str) (n : Nat) : List Nat := (List.range n).filter fun k => decide (numS (k : Int) = w)
/-- the number that a text writes, or -1 -/
def lnM (w : Str) : Int := match hitL w 31 with
  | [] => -1
  | k :: _ => (k : Int)
theorem hit_succ (w : Str) (n : Nat) : hitL w (n + 1) = hitL w n ++ (if numS (n : Int) = w then [n] else []) := by
  unfold hitL
  rw [List.range_succ, List.filter_append]
  congr 1
  by_cases c : numS (n : Int) = w
  · rw [if_pos c]; simp [c]
  · rw [if_neg c]; simp [c]
theorem hit_len (w : Str) (n : Nat) : (hitL w n).length ≤ n := Nat.le_trans (List.length_filter_le _ _) (by rw [List.length_range]; exact Nat.le_refl _)
theorem ints_lay : ∀ l : List Nat, PyData.canLayAll0 (l.map fun (k : Nat) => PyData.int (k : Int)) = true ∧ PyData.depthAll (l.map fun (k : Nat) => PyData.int (k : Int)) ≤ 1
  | [] => ⟨rfl, by decide⟩
  | k :: l => by
    obtain ⟨a, b⟩ := ints_lay l
    rw [List.map_cons]
    simp only [PyData.canLayAll0, PyData.canLay0, PyData.depthAll, PyData.depth]
    exact ⟨by simp [a], by omega⟩
theorem ints_shaped (l : List Nat) : SeqAt.shaped (.list (l.map fun (k : Nat) => PyData.int (k : Int))) = true := by
  obtain ⟨a, b⟩ := ints_lay l
  unfold SeqAt.shaped
  simp only [PyData.canLay0, PyData.depth]
  rw [a]
  simp
  omega
theorem ints_dp {K : PySem.W.Frag} {H : Hp} : ∀ l : List Nat, DpAll K H (l.map fun (k : Nat) => V.int (k : Int)) (l.map fun (k : Nat) => PyData.int (k : Int))
  | [] => .nil
  | k :: l => .cons (.int _) (ints_dp l)
def spLnu : Sp := fun vs H Q _ => ∃ w : Str, vs = [.str w] ∧ ∀ H', Same H H' → Q (.int (lnM w)) H'
section
variable {P : Program} {w : World} {K : PySem.W.Frag} {mg : Str → Option Value} {base : Heap}
theorem ok_lnu {f : Addr} {fd : FuncData} (F : Fun K "_law_number" "_law_number" sLnu f fd) (B : Bl mg) : FnOk P w K mg base CX0 1 f fd ["_law_word_here"] spLnu := by
  refine F.ok scLnu (fun vs H Q E h => ?_) (fun cdv A outer s H vs Q E hr h => ?_)
  · obtain ⟨x, rfl, _⟩ := h
    rfl
  obtain ⟨x, rfl, k⟩ := h
  refine ⟨_, pss_cons (ps_setLc (i := 1) (own := [("_law_k", 2)]) (g := gName 2) (tt := _) (te := tVar 2) rfl scLnu.nd rfl rfl (by rfl) (pi_range1 (by rfl) B.range (pa_cons pe_int pa_nil)) (blkOk_by (own := [("_law_k", 2)]) (N := NLnu) (sc := defScope sLnu) (by decide +kernel))
      (fun _ _ _ _ _ => pg_name (i := 2) scLnu.nd rfl (Or.inl rfl)) (fun _ _ _ _ _ => pts_one (pt_cmpR op_eq (pe_callTy call_str_int (by rfl) B.str bStr (pa_cons (pv 2) pa_nil)) (pv 0) (nomark _))) (fun _ _ _ _ _ => pv 2))
    (pss_one (ps_ret (pe_ifExp (pt_cmpR (op_neD hr.units) (pv 1) (pe_lst pa_nil) (nomark _)) (pe_ix ix_list (pv 1) pe_int (fun _ _ => rfl)) (pe_un un_neg pe_int)))), ?_⟩
  refine seq_asg ?_
  refine ⟨_, rfl, by decide, by decide, fun D hD => ?_⟩
  refine lc_range (lo := 0) (n := 31) (fun i H' => Same H H' ∧ H' D = some (.lst ((hitL x i).map fun (k : Nat) => V.int (k : Int)))) ⟨same_lay hD, by rw [upd_same]; rfl⟩ ?_ ?_
  · rintro i H' hi ⟨s1, q⟩
    have e0 : (0 : Int) + (i : Int) = (i : Int) := Int.zero_add _
    refine ⟨rfl, _, rfl, _, rfl, by rw [e0]; exact log_hun i (by omega), _, rfl, rfl, _, rfl, ?_⟩
    show (if decide (V.str (numS (0 + (i : Int))) = V.str x) = true then _ else _)
    rw [e0]
    by_cases c : numS (i : Int) = x
    · rw [decide_eq_true (by rw [c])]
      refine iteT ⟨_, rfl, _, q, ?_, ?_, ?_⟩
      · have := hit_len x i
        rw [List.length_map, sizeLine_eq]
        omega
      · exact fun d o z => by rw [upd_ne (ne_of_none z hD)]; exact s1 _ _ z
      · rw [upd_same, hit_succ, if_pos c, List.map_append]
        rfl
    · rw [decide_eq_false (fun z => c (by injection z))]
      refine iteF ⟨s1, ?_⟩
      rw [hit_succ, if_neg c, List.append_nil]
      exact q
  · rintro H1 ⟨s1, q⟩
    refine ret_read ?_
    refine ⟨_, rfl, by show 0 ≤ sizeLine; decide, fun l nl => ?_⟩
    have s2 : Same H1 (upd H1 l (.lst [])) := same_lay nl
    refine ⟨_, _, .lst (SqL.of (s2 _ _ q)) (ints_dp _), .lst (SqL.of upd_same) .nil, ints_shaped _, by decide +kernel, _, rfl, ?_⟩
    have k' := k (upd H1 l (.lst [])) (s1.trans s2)
    unfold lnM at k'
    have q2 := s2 _ _ q
    generalize hitL x 31 = hl at k' q2 ⊢
    cases hl with
    | nil => exact iteF ⟨_, rfl, k'⟩
    | cons a r => exact iteT ⟨_, rfl, D, _, _, .int (a : Int), rfl, rfl, SqL.of q2, atI_nat (j := 0) rfl, k'⟩
end
end K4

set_option Elab.async false
set_option linter.all false
set_option maxRecDepth 100000
set_option maxHeartbeats 4000000
namespace K4
open PySem PySem.Spec PyProof.Rows L2 G1 G2 G3 K2 K3
abbrev sLrw : Stmt := topS 48
abbrev NLrw : List Str := ["_law_line", "_law_size", "_law_is_last", "_law_tone", "_law_bound"]
theorem scLrw : FnScope NLrw ["_law_line", "_law_size", "_law_is_last"] (defScope sLrw) := ⟨rfl, rfl, rfl, by decide +kernel, rfl, by decide +kernel, by decide +kernel⟩
/-- what row a line writes, by the law -/
def LineR (last : Bool) (p : Nat) (x : Str) (r : RowD) : Prop := (last = true ∧ x = anyM r.2 ∧ r.1 = (p : Int) ∧ r.2 ∈ wordsL) ∨ (last = false ∧ x = lineM r ∧ RowOk p r)
def spLrw : Sp := fun vs H Q _ => ∃ (x : Str) (p : Nat) (last : Bool), vs = [.str x, .int (p : Int), .bl last] ∧ p < 6 ∧
  (∀ r, LineR last p x r → ∀ (H' : Hp) (q : Addr), Same H H' → H q = none → H' q = some (.tup [.int r.1, .str r.2]) → Q (.ref q) H') ∧ ((∀ r, ¬ LineR last p x r) → ∀ H', Same H H' → Q .non H')
section
variable {P : Program} {w : World} {K : PySem.W.Frag} {mg : Str → Option Value} {base : Heap}
theorem ok_lrw {f : Addr} {fd : FuncData} (F : Fun K "_law_row" "_law_row" sLrw f fd) (B : Bl mg) : FnOk P w K mg base CX0 1 f fd ["_law_line", "_law_size", "_law_is_last"] spLrw := by
  refine F.ok scLrw (fun vs H Q E h => ?_) (fun cdv A outer s H vs Q E hr h => ?_)
  · obtain ⟨x, p, last, rfl, _⟩ := h
    rfl
  obtain ⟨x, p, last, rfl, hp, kyes, kno⟩ := h
  refine ⟨_, pss_cons (ps_for PassesOwn.never rfl (pi_list (pe_lst (pa_cons pe_str (pa_cons pe_str (pa_cons pe_str (pa_cons pe_str pa_nil)))))) (pg_name (i := 3) scLrw.nd rfl (.inl rfl))
      (C8.pss_cut (ps_if (PW.pt (pw_and (pt_truth (pv 2) (by intro _; rfl)) (pw_and1 (pt_cmpR op_eq (pv 0) (pe_op op_add_str pe_str (pv 3)) (nomark _))))) (pss_one (ps_ret (pe_tup (pa_cons (pv 1) (pa_cons (pv 3) pa_nil))))) pss_nil)
      (pss_one (ps_for PassesOwn.never rfl (pi_range1 (by rfl) B.range (pa_cons (pe_op op_add (pv 1) pe_int) pa_nil)) (pg_name (i := 4) scLrw.nd rfl (.inl rfl))
        (pss_one (ps_if (PW.pt (pw_and (pt_not (pt_truth (pv 2) (by intro _; rfl))) (pw_and1 (pt_cmpR op_eq (pv 0) (pe_joined (.cons pe_str (.cons (pe_fmt (pv 4)) (.cons pe_str (.cons (pe_fmt (pv 3)) .nil))))) (nomark _))))) (pss_one (ps_ret (pe_tup (pa_cons (pv 4) (pa_cons (pv 3) pa_nil))))) pss_nil))))))
    (pss_one (ps_ret pe_non)), ?_⟩
  refine seq_for fun D' hD1 hD2 => ?_
  refine lst_read (cons_read (c_read (cons_read (c_read (cons_read (c_read (cons_read (c_read (nil_read ⟨by show 4 ≤ sizeLine; decide, fun l nl => ?_⟩)))))))))
  have s0 : Same H (upd H l (.lst (wordsL.map V.str))) := same_lay nl
  have e0 : (upd H l (.lst (wordsL.map V.str))) l = some (.lst (wordsL.map V.str)) := upd_same
  show ∃ _, _
  refine ⟨l, rfl, ⟨wordsL.map V.str, SqL.of e0⟩, ?_⟩
  refine for_list (K := K) (xs := wordsL.map V.str) (fun i σ H' => ∃ x3 x4 : Option V, σ = [some (.str x), some (.int (p : Int)), some (.bl last), x3, x4] ∧ Same H H' ∧ H' l = some (.lst (wordsL.map V.str)) ∧ ∀ j w, j < i → wordsL[j]? = some w → ∀ r, LineR last p x r → r.2 ≠ w)
    ⟨none, none, rfl, s0, e0, fun j w hj => by omega⟩ (fun i σ H' _ q => ?_) ?_ ?_
  · obtain ⟨_, _, _, _, q, _⟩ := q
    exact SqL.of q
  · rintro i v σ H' hi ⟨x3, x4, rfl, s1, q1, q2⟩
    obtain ⟨w, hw, rfl⟩ : ∃ w, wordsL[i]? = some w ∧ V.str w = v := by
      rw [List.getElem?_map] at hi
      cases hq : wordsL[i]? with
      | none => rw [hq] at hi; cases hi
      | some a => rw [hq] at hi; exact ⟨a, rfl, Option.some.inj hi⟩
    have hwm : w ∈ wordsL := List.mem_of_getElem? hw
    have hwl := word_len w hwm
    have la : (Str.ofString "any: ").length = 5 := by decide +kernel
    refine ⟨fun τ G => τ = [some (.str x), some (.int (p : Int)), some (.bl last), some (.str w), x4] ∧ G = H' ∧ (last = true → x ≠ anyM w), ?_, ?_⟩
    · refine ⟨_, rfl, last, rfl, ?_⟩
      cases last with
      | false => exact iteF ⟨rfl, rfl, fun z => by cases z⟩
      | true =>
        refine iteT ⟨_, rfl, op_read (c_read ⟨_, rfl, _, _, rfl, rfl, big_line (by omega), rfl, _, rfl, ?_⟩)⟩
        show (if decide (V.str x = V.str (anyM w)) = true then _ else _)
        by_cases c : x = anyM w
        · rw [decide_eq_true (by rw [c])]
          refine iteT ⟨_, rfl, _, rfl, by show 2 ≤ sizeLine; decide, fun q nq => ?_⟩
          show D'.rt (.ref q) _
          rw [hD2]
          exact kyes ((p : Int), w) (.inl ⟨rfl, c, rfl, hwm⟩) _ q (s1.trans (same_lay nq)) (s1.free nq) upd_same
        · rw [decide_eq_false (fun z => c (by injection z))]
          exact iteF ⟨rfl, rfl, fun _ => c⟩
    rintro τ G ⟨rfl, rfl, hna⟩
    refine ⟨_, rfl, _, _, rfl, rfl, _, rfl, by omega, by omega, ?_⟩
    have en : ((p : Int) + 1).toNat = p + 1 := by omega
    refine for_range (lo := 0) (n := ((p : Int) + 1).toNat) (fun j τ G => ∃ x5 : Option V, τ = [some (.str x), some (.int (p : Int)), some (.bl last), some (.str w), x5] ∧ Same H G ∧ G l = some (.lst (wordsL.map V.str)) ∧ ∀ b : Nat, b < j → last = false → x ≠ lineM ((b : Int), w))
      ⟨x4, rfl, s1, q1, fun b hb => by omega⟩ ?_ ?_
    · rintro j τ G hj ⟨x5, rfl, s2, g1, g2⟩
      rw [en] at hj
      have e0 : (0 : Int) + (j : Int) = (j : Int) := Int.zero_add _
      rw [e0]
      refine ⟨_, rfl, last, rfl, ?_⟩
      cases last with
      | true => exact iteF ⟨_, rfl, s2, g1, fun b _ z => by cases z⟩
      | false =>
        have hro : RowOk p ((j : Int), w) := ⟨Int.natCast_nonneg j, by show (j : Int) ≤ (p : Int); omega, hwm⟩
        refine iteT ⟨_, rfl, ?_⟩
        refine line_read (p := p) (r := ((j : Int), w)) (by omega) hro (fun R q => ⟨_, rfl, q⟩) (fun R q => ⟨_, rfl, q⟩) ⟨rfl, _, rfl, ?_⟩
        show (if decide (V.str x = V.str (lineM ((j : Int), w))) = true then _ else _)
        by_cases c : x = lineM ((j : Int), w)
        · rw [decide_eq_true (by rw [c])]
          refine iteT ⟨_, rfl, _, rfl, by show 2 ≤ sizeLine; decide, fun q nq => ?_⟩
          show D'.rt (.ref q) _
          rw [hD2]
          exact kyes ((j : Int), w) (.inr ⟨rfl, c, hro⟩) _ q (s2.trans (same_lay nq)) (s2.free nq) upd_same
        · rw [decide_eq_false (fun z => c (by injection z))]
          refine iteF ⟨_, rfl, s2, g1, fun b hb _ => ?_⟩
          by_cases hbj : b = j
          · rw [hbj]; exact c
          · exact g2 b (by omega) rfl
    · rintro τ G ⟨x5, rfl, s2, g1, g2⟩
      refine ⟨_, _, rfl, s2, g1, fun j w' hj hw' r hr e => ?_⟩
      by_cases hij : j = i
      · subst hij
        rw [hw] at hw'
        cases hw'
        rcases hr with ⟨h1, h2, _, _⟩ | ⟨h1, h2, h3, h4, _⟩
        · rw [e] at h2
          exact hna h1 h2
        · obtain ⟨l', w2⟩ := r
          dsimp only at e h3 h4
          subst e
          refine g2 l'.toNat (by rw [en]; omega) h1 ?_
          rw [Int.toNat_of_nonneg h3]
          exact h2
      · exact q2 j w' (by omega) hw' r hr e
  · rintro σ H' ⟨x3, x4, rfl, s1, q1, q2⟩
    rw [hD1]
    refine kno (fun r hr => ?_) H' s1
    have hm : r.2 ∈ wordsL := by
      rcases hr with ⟨_, _, _, h⟩ | ⟨_, _, h⟩
      · exact h
      · exact h.2.2
    obtain ⟨j, hj⟩ := List.getElem?_of_mem hm
    exact q2 j r.2 (by rw [List.length_map]; exact (List.getElem?_eq_some_iff.mp hj).1) hj r hr rfl
end
end K4

set_option Elab.async false
set_option linter.all false
set_option maxRecDepth 100000
set_option maxHeartbeats 4000000
/-! the law's reading of a text: the mathematics -/
namespace K4
open PySem PySem.Spec PyProof.Rows L2 G1 G2 G3 K2 K3
theorem lnM_of : ∀ i : Nat, i < 26 → lnM (numS (i : Int)) = (i : Int) := by decide +kernel
theorem lnM_num {w : Str} (h : 0 ≤ lnM w) : ∃ k : Nat, k < 31 ∧ w = numS (k : Int) ∧ lnM w = (k : Int) := by
  unfold lnM at h ⊢
  cases e : hitL w 31 with
  | nil => rw [e] at h; exact absurd h (by decide)
  | cons k r =>
    have hm : k ∈ hitL w 31 := by rw [e]; exact List.mem_cons_self ..
    unfold hitL at hm
    obtain ⟨h1, h2⟩ := List.mem_filter.mp hm
    exact ⟨k, List.mem_range.mp h1, (of_decide_eq_true h2).symm, rfl⟩
theorem lineR_uniq {last : Bool} {p : Nat} (hp : p < 6) {x : Str} {r r' : RowD} (h : LineR last p x r) (h' : LineR last p x r') : r = r' := by
  obtain ⟨l, w⟩ := r
  obtain ⟨l', w'⟩ := r'
  rcases h with ⟨a1, a2, a3, a4⟩ | ⟨a1, a2, a3, a4, a5⟩ <;> rcases h' with ⟨b1, b2, b3, b4⟩ | ⟨b1, b2, b3, b4, b5⟩
  · dsimp only at a2 a3 a4 b2 b3 b4
    rw [a3, b3, any_inj w a4 w' b4 (a2.symm.trans b2)]
  · rw [a1] at b1; cases b1
  · rw [a1] at b1; cases b1
  · dsimp only at a3 a4 a5 b3 b4 b5
    obtain ⟨i, rfl⟩ : ∃ k : Nat, l = (k : Int) := ⟨l.toNat, by omega⟩
    obtain ⟨j, rfl⟩ : ∃ k : Nat, l' = (k : Int) := ⟨l'.toNat, by omega⟩
    obtain ⟨e1, e2⟩ := line_inj i (by omega) w a5 j (by omega) w' b5 (a2.symm.trans b2)
    rw [e1, e2]
theorem tl_join {sep z : Str} : ∀ {l : List Str}, z ∈ l → ∀ c ∈ TL.tl z, c ∈ TL.tl (Str.join sep l)
  | [], h, _, _ => by cases h
  | [x], h, c, hc => by rw [List.mem_singleton.mp h] at hc; exact hc
  | x :: y :: l, h, c, hc => by
    show c ∈ TL.tl (x ++ sep ++ Str.join sep (y :: l))
    rw [TL.tl_append, TL.tl_append, List.mem_append, List.mem_append]
    rcases List.mem_cons.mp h with rfl | h
    · exact .inl (.inl hc)
    · exact .inr (tl_join h c hc)
theorem plain_split {x y : Str} (h : Plain x) : ∀ z ∈ Txt.split x y, Plain z := fun z hz c hc => by
  have e := PySem.StrLaws.join_split x y
  refine h c ?_
  rw [← e]
  exact tl_join hz c hc
/-- what the law finds in a line -/
def LineE (last : Bool) (p : Nat) (x : Str) : Option RowD → Prop
  | some r => LineR last p x r
  | none => ∀ r, ¬ LineR last p x r
/-- what the law finds in the lines behind the head -/
def FoundE (p : Nat) (lines : List Str) (es : List (Option RowD)) : Prop := es.length = lines.length ∧ ∀ i x e, lines[i]? = some x → es[i]? = some e → LineE (decide (i + 1 = lines.length)) p x e
theorem right_row {p : Nat} {ini : List RowD} {y : Str} (hi : IniOk p ini) (hy : y ∈ wordsL) (i : Nat) (x : Str) (h : (ini.map lineM ++ [anyM y])[i]? = some x) :
    ∃ r, (ini ++ [((p : Int), y)])[i]? = some r ∧ LineR (decide (i + 1 = (ini.map lineM ++ [anyM y]).length)) p x r := by
  have hl : (ini.map lineM ++ [anyM y]).length = ini.length + 1 := by simp
  rw [hl]
  by_cases c : i < ini.length
  · rw [List.getElem?_append_left (by rw [List.length_map]; exact c), List.getElem?_map, List.getElem?_eq_getElem c] at h
    refine ⟨ini[i], by rw [List.getElem?_append_left c, List.getElem?_eq_getElem c], .inr ⟨decide_eq_false (by omega), (Option.some.inj h).symm, hi.1 _ (List.getElem_mem _)⟩⟩
  · have hlt := (List.getElem?_eq_some_iff.mp h).1
    rw [hl] at hlt
    have e : i = ini.length := by omega
    subst e
    rw [List.getElem?_append_right (by rw [List.length_map]; exact Nat.le_refl _), List.length_map, Nat.sub_self] at h
    refine ⟨((p : Int), y), by rw [List.getElem?_append_right (Nat.le_refl _), Nat.sub_self]; rfl, .inl ⟨decide_eq_true rfl, (Option.some.inj h).symm, rfl, hy⟩⟩
theorem right_found {p : Nat} (hp : p < 6) {ini : List RowD} {y : Str} {es : List (Option RowD)} (hi : IniOk p ini) (hy : y ∈ wordsL) (h : FoundE p (ini.map lineM ++ [anyM y]) es) : es = (ini ++ [((p : Int), y)]).map some := by
  obtain ⟨h1, h2⟩ := h
  have hl : (ini.map lineM ++ [anyM y]).length = ini.length + 1 := by simp
  refine List.ext_getElem? fun i => ?_
  by_cases c : i < ini.length + 1
  · have cx : i < (ini.map lineM ++ [anyM y]).length := by rw [hl]; exact c
    have ce : i < es.length := by rw [h1]; exact cx
    obtain ⟨r, r1, r2⟩ := right_row hi hy i _ (List.getElem?_eq_getElem cx)
    have z := h2 i _ _ (List.getElem?_eq_getElem cx) (List.getElem?_eq_getElem ce)
    rw [List.getElem?_eq_getElem ce, List.getElem?_map, r1]
    cases he : es[i] with
    | none => rw [he] at z; exact absurd r2 (z r)
    | some r' => rw [he] at z; rw [lineR_uniq hp z r2]; rfl
  · rw [List.getElem?_eq_none (by rw [h1, hl]; omega), List.getElem?_eq_none (by simp; omega)]
/-- rows found in all lines: the lines are theirs -/
theorem found_lines {p : Nat} {lines : List Str} {ds : List RowD} (h : FoundE p lines (ds.map some)) (hne : ds ≠ []) : ∃ ini y, ds = ini ++ [((p : Int), y)] ∧ lines = ini.map lineM ++ [anyM y] ∧ (∀ r ∈ ini, RowOk p r) ∧ y ∈ wordsL := by
  obtain ⟨h1, h2⟩ := h
  rw [List.length_map] at h1
  obtain ⟨ini, ⟨l, y⟩, rfl⟩ := last_eq ds hne
  have hl : lines.length = ini.length + 1 := by rw [← h1]; simp
  have at_ : ∀ i r, (ini ++ [(l, y)])[i]? = some r → ∃ x, lines[i]? = some x ∧ LineR (decide (i + 1 = lines.length)) p x r := fun i r hr => by
    have hlt := (List.getElem?_eq_some_iff.mp hr).1
    have c : i < lines.length := by rw [← h1]; exact hlt
    exact ⟨_, List.getElem?_eq_getElem c, h2 i _ (some r) (List.getElem?_eq_getElem c) (by rw [List.getElem?_map, hr]; rfl)⟩
  obtain ⟨xl, xl1, xl2⟩ := at_ ini.length (l, y) (by rw [List.getElem?_append_right (Nat.le_refl _), Nat.sub_self]; rfl)
  rw [hl, decide_eq_true rfl] at xl2
  rcases xl2 with ⟨_, a2, a3, a4⟩ | ⟨a1, _⟩
  rotate_left
  · cases a1
  dsimp only at a2 a3 a4
  have ini_at : ∀ i r, ini[i]? = some r → lines[i]? = some (lineM r) ∧ RowOk p r := fun i r hr => by
    have hlt := (List.getElem?_eq_some_iff.mp hr).1
    obtain ⟨x, x1, x2⟩ := at_ i r (by rw [List.getElem?_append_left hlt]; exact hr)
    rcases x2 with ⟨b1, _⟩ | ⟨_, b2, b3⟩
    · have := of_decide_eq_true b1
      omega
    · exact ⟨by rw [x1, b2], b3⟩
  refine ⟨ini, y, by rw [a3], ?_, fun r hr => ?_, a4⟩
  · refine List.ext_getElem? fun i => ?_
    by_cases c : i < ini.length
    · rw [(ini_at i ini[i] (List.getElem?_eq_getElem c)).1, List.getElem?_append_left (by rw [List.length_map]; exact c), List.getElem?_map, List.getElem?_eq_getElem c]
      rfl
    · by_cases e : i = ini.length
      · subst e
        rw [xl1, a2, List.getElem?_append_right (by rw [List.length_map]; exact Nat.le_refl _), List.length_map, Nat.sub_self]
        rfl
      · rw [List.getElem?_eq_none (by rw [hl]; omega), List.getElem?_eq_none (by simp; omega)]
  · obtain ⟨i, hi⟩ := List.getElem?_of_mem hr
    exact (ini_at i r hi).2
/-- the law's checks passed: the text is right -/
theorem law_right {x hd : Str} {lines : List Str} {b p n : Nat} {ds : List RowD} (hs : Txt.split x ("\n" : Str) = hd :: lines) (hw : Txt.split hd (" " : Str) = [Str.ofString "drive", numS (b : Int), Str.ofString "blocks", numS (p : Int), Str.ofString "pages", numS (n : Int), Str.ofString "names"])
    (hz : Sz b p n) (hf : FoundE p lines (ds.map some)) (hne : ds ≠ []) (h4 : ds.length ≤ 4) : ∃ ini y, ds = ini ++ [((p : Int), y)] ∧ x = textM (b : Int) (p : Int) (n : Int) ini y ∧ Rt b p n ini y := by
  obtain ⟨ini, y, e1, e2, e3, e4⟩ := found_lines hf hne
  have b1 := hz.b1
  have p1 := hz.p1
  have e5 : hd = headM (b : Int) (p : Int) (n : Int) := by
    have z := PySem.StrLaws.join_split hd (" " : Str)
    have z2 := PySem.StrLaws.join_split (headM (b : Int) (p : Int) (n : Int)) (" " : Str)
    have q := split_head b p n (by omega) (by omega) hz.n25
    rw [hw] at z
    rw [show Txt.split (headM (b : Int) (p : Int) (n : Int)) (" " : Str) = _ from q] at z2
    exact z.symm.trans z2
  refine ⟨ini, y, e1, ?_, ⟨hz, ⟨e3, ?_⟩, e4⟩⟩
  · have z := PySem.StrLaws.join_split x ("\n" : Str)
    rw [hs, e5, e2] at z
    unfold textM
    rw [TL.join_eq]
    exact z.symm
  · rw [e1, List.length_append, List.length_singleton] at h4
    omega
end K4

set_option Elab.async false
set_option linter.all false
set_option maxRecDepth 100000
set_option maxHeartbeats 4000000
namespace K4
open PySem PySem.Spec PyProof.Rows L2 G1 G2 G3 K2 K3
abbrev sLrd : Stmt := topS 49
abbrev NLrd : List Str := ["_law_thing", "_law_lines", "_law_head", "_law_many_here", "_law_size", "_law_room", "_law_x", "_law_found", "_law_k"]
theorem scLrd : FnScope NLrd ["_law_thing"] (defScope sLrd) := ⟨rfl, rfl, rfl, by decide +kernel, rfl, by decide +kernel, by decide +kernel⟩
def spLrd (K : PySem.W.Frag) : Sp := fun vs H Q _ => ∃ v : V, vs = [v] ∧ Kd K H v ∧ ((strB v = false ∧ ∀ H', Same H H' → Q .non H') ∨ ∃ x : Str, v = .str x ∧ x.length ≤ 2001 ∧ Plain x ∧ (¬ Right x → ∀ H', Same H H' → Q .non H') ∧
  ∀ b p n ini y, x = textM ((b : Nat) : Int) ((p : Nat) : Int) ((n : Nat) : Int) ini y → Rt b p n ini y → ∀ (H' : Hp) (q s t : Addr), Same H H' → H' q = some (.lst [.ref s, .ref t]) → H' s = some (.tup [.int (b : Int), .int (p : Int), .int (n : Int)]) → RowsAt K H' t (ini ++ [((p : Int), y)]) → Q (.ref q) H')
/-! ### what was found, as data -/
def eD : Option RowD → PyData
  | none => .none
  | some r => .tuple [.int r.1, .str r.2]
def FV (H : Hp) (v : V) : Option RowD → Prop
  | none => v = .non
  | some r => ∃ q, v = .ref q ∧ H q = some (.tup [.int r.1, .str r.2])
theorem FV.same {H H' : Hp} {v : V} {e : Option RowD} (h : FV H v e) (s : Same H H') : FV H' v e := by
  cases e with
  | none => exact h
  | some r =>
    obtain ⟨q, e1, e2⟩ := h
    exact ⟨q, e1, s _ _ e2⟩
theorem fv_dp {K : PySem.W.Frag} {H : Hp} {v : V} {e : Option RowD} (h : FV H v e) : Dp K H v (eD e) := by
  cases e with
  | none => rw [show v = .non from h]; exact .non
  | some r =>
    obtain ⟨q, rfl, e2⟩ := h
    exact .tup (SqT.of e2) (.cons (.int _) (.cons (.str _) .nil))
theorem fvs_dp {K : PySem.W.Frag} {H : Hp} : ∀ {vs : List V} {es : List (Option RowD)}, Paired (FV H) vs es → DpAll K H vs (es.map eD)
  | _, _, .nil => .nil
  | _, _, .cons h t => .cons (fv_dp h) (fvs_dp t)
theorem eds_lay : ∀ es : List (Option RowD), (∀ e ∈ es, ∀ r, e = some r → r.2 ∈ wordsL) → PyData.canLayAll0 (es.map eD) = true ∧ PyData.depthAll (es.map eD) ≤ 3
  | [], _ => ⟨rfl, by decide⟩
  | e :: es, h => by
    obtain ⟨a, b⟩ := eds_lay es fun e he => h e (List.mem_cons_of_mem _ he)
    rw [List.map_cons]
    cases e with
    | none =>
      simp only [PyData.canLayAll0, PyData.depthAll, eD, PyData.canLay0, PyData.depth]
      exact ⟨by simp [a], by omega⟩
    | some r =>
      have hw := (fine_str (plain_word _ (h _ (List.mem_cons_self ..) r rfl))).2.2
      simp only [PyData.canLayAll0, PyData.depthAll, eD, PyData.canLay0, PyData.depth] at hw ⊢
      exact ⟨by simp [a, hw], by omega⟩
theorem eds_shaped {es : List (Option RowD)} (h : ∀ e ∈ es, ∀ r, e = some r → r.2 ∈ wordsL) : SeqAt.shaped (.list (es.map eD)) = true := by
  obtain ⟨a, b⟩ := eds_lay es h
  unfold SeqAt.shaped
  simp only [PyData.canLay0, PyData.depth]
  rw [a]
  simp
  omega
theorem eds_none (es : List (Option RowD)) : ((es.map eD).any fun z => PyData.eqv z .none) = es.any Option.isNone := by
  induction es with
  | nil => rfl
  | cons e es ih =>
    rw [List.map_cons, List.any_cons, List.any_cons, ih]
    cases e <;> simp [eD, PyData.eqv]
theorem all_some : ∀ {es : List (Option RowD)}, es.any Option.isNone = false → ∃ ds : List RowD, es = ds.map some
  | [], _ => ⟨[], rfl⟩
  | none :: es, h => by simp at h
  | some r :: es, h => by
    rw [List.any_cons] at h
    obtain ⟨ds, e⟩ := all_some (es := es) (by simpa using h)
    exact ⟨r :: ds, by rw [e]; rfl⟩
theorem strs4_shaped {a b c d : Str} (h1 : Plain a) (h2 : Plain b) (h3 : Plain c) (h4 : Plain d) : SeqAt.shaped (.list [.str a, .str b, .str c, .str d]) = true := by
  have z1 := (fine_str h1).2.2
  have z2 := (fine_str h2).2.2
  have z3 := (fine_str h3).2.2
  have z4 := (fine_str h4).2.2
  unfold SeqAt.shaped
  simp only [PyData.canLay0, PyData.canLayAll0, PyData.depth, PyData.depthAll] at z1 z2 z3 z4 ⊢
  simp [z1, z2, z3, z4]
theorem eqv4 (a b c d a' b' c' d' : Str) : PyData.eqv (.list [.str a, .str b, .str c, .str d]) (.list [.str a', .str b', .str c', .str d']) = decide (a = a' ∧ b = b' ∧ c = c' ∧ d = d') := by
  rw [Bool.eq_iff_iff]
  simp [PyData.eqv, PyData.eqvAll, and_assoc]
/-- what a right text is split into -/
theorem right_split {x hd : Str} {lines : List Str} (hs : Txt.split x ("\n" : Str) = hd :: lines) {b p n : Nat} {ini : List RowD} {y : Str} (e : x = textM (b : Int) (p : Int) (n : Int) ini y) (h : Rt b p n ini y) :
    Txt.split hd (" " : Str) = [Str.ofString "drive", numS (b : Int), Str.ofString "blocks", numS (p : Int), Str.ofString "pages", numS (n : Int), Str.ofString "names"] ∧ lines = ini.map lineM ++ [anyM y] := by
  have hz := h.sz
  have b1 := hz.b1
  have p1 := hz.p1
  have hsx := split_text b p n (by omega) (by omega) hz.n25 ini h.ini y h.y
  rw [← e] at hsx
  unfold linesM at hsx
  rw [show Txt.split x (Str.ofString "\n") = _ from hs] at hsx
  injection hsx with h1 h2
  rw [h1]
  exact ⟨split_head b p n (by omega) (by omega) hz.n25, h2⟩
theorem Sz.int {b p n : Nat} (hz : Sz b p n) : (n : Int) ≤ (p : Int) * ((b : Int) - 1) := by
  have z := hz.n1
  have b0 := hz.b0
  have e : ((p * (b - 1) : Nat) : Int) = (p : Int) * ((b : Int) - 1) := by
    rw [Int.natCast_mul, Int.natCast_sub (by omega)]; rfl
  omega
end K4

set_option Elab.async false
set_option linter.all false
set_option maxRecDepth 100000
set_option maxHeartbeats 4000000
namespace K4
open PySem PySem.Spec PyProof.Rows L2 G1 G2 G3 K2 K3
abbrev teRow (K : PySem.W.Frag) : TE := tCall spLrw [] E0 (tCons (tOp (rIxL K) (tVar 1) (tVar 8)) (tCons (tVar 4) (tCons (tOp rEq (tVar 8) (tOp (rI0 fun i j => V.int (i - j)) (tCB (fun xs H Q => ∃ p ys, xs = [.ref p] ∧ (SqL K H p ys ∨ SqT K H p ys) ∧ Q (.int ys.length) H) (tCons (tVar 1) tNil)) (tC (.int 1)))) tNil)))
theorem fv_set {H H' : Hp} {D : Addr} {xs ys : List V} (hD : H D = some (.lst xs)) (s : Same H H') : ∀ {vs : List V} {es : List (Option RowD)}, Paired (FV H) vs es → Paired (FV (upd H' D (.lst ys))) vs es := fun h => Paired.mapP h fun v e z => by
  cases e with
  | none => exact z
  | some r =>
    obtain ⟨q, e1, e2⟩ := z
    refine ⟨q, e1, ?_⟩
    rw [upd_ne (fun c => by rw [c, hD] at e2; cases e2)]
    exact s _ _ e2
theorem fv_rows {K : PySem.W.Frag} {H : Hp} : ∀ {vs : List V} {ds : List RowD}, Paired (FV H) vs (ds.map some) → ∃ rs : List Addr, vs = rs.map V.ref ∧ Paired (fun (a : Addr) (r : RowD) => SqT K H a [.int r.1, .str r.2]) rs ds
  | [], [], _ => ⟨[], rfl, .nil⟩
  | _ :: _, _ :: _, .cons h t => by
    obtain ⟨q, rfl, e⟩ := h
    obtain ⟨rs, rfl, p⟩ := fv_rows (K := K) t
    exact ⟨q :: rs, rfl, .cons (SqT.of e) p⟩
theorem found_snoc {p : Nat} {lines : List Str} {es : List (Option RowD)} {e0 : Option RowD} {z0 : Str} (h : ∀ j z e, lines[j]? = some z → es[j]? = some e → LineE (decide (j + 1 = lines.length)) p z e) (hz : lines[es.length]? = some z0) (h0 : LineE (decide (es.length + 1 = lines.length)) p z0 e0) :
    ∀ j z e, lines[j]? = some z → (es ++ [e0])[j]? = some e → LineE (decide (j + 1 = lines.length)) p z e := fun j z e hj he => by
  by_cases c : j < es.length
  · rw [List.getElem?_append_left c] at he
    exact h j z e hj he
  · have hlt := (List.getElem?_eq_some_iff.mp he).1
    rw [List.length_append, List.length_singleton] at hlt
    have ej : j = es.length := by omega
    subst ej
    rw [List.getElem?_append_right (Nat.le_refl _), Nat.sub_self] at he
    rw [hz] at hj
    cases hj
    cases he
    exact h0
section
variable {P : Program} {w : World} {K : PySem.W.Frag} {mg : Str → Option Value} {base : Heap}
theorem ok_lrd {f fN fR : Addr} {fd dN dR : FuncData} (F : Fun K "_law_read" "_law_read" sLrd f fd) (B : Bl mg)
    (GN : FnOk P w K mg base CX0 1 fN dN ["_law_word_here"] spLnu) (kN : PySem.W.keepIn K (.ref fN) = true) (bN : Binds K dN ["_law_word_here"] []) (gN : mg "_law_number" = some (.ref fN))
    (GR : FnOk P w K mg base CX0 1 fR dR ["_law_line", "_law_size", "_law_is_last"] spLrw) (kR : PySem.W.keepIn K (.ref fR) = true) (bR : Binds K dR ["_law_line", "_law_size", "_law_is_last"] []) (gR : mg "_law_row" = some (.ref fR)) :
    FnOk P w K mg base CX0 2 f fd ["_law_thing"] (spLrd K) := by
  refine F.ok scLrd (fun vs H Q E h => ?_) (fun cdv A outer s H vs Q E hr h => ?_)
  · obtain ⟨v, rfl, _⟩ := h
    rfl
  obtain ⟨v, rfl, hk, hv⟩ := h
  have hu65 : (A.deeper (envOfC "_law_read" (defScope sLrd) s.heap.objs.size f cdv)).units + 65 < cLine := by have := hr.un; omega
  refine ⟨_, pss_cons (ps_if (pt_not (pt_val (pe_callB call_isi (by rfl) B.isi bIsi (pa_cons (pv 0) (pa_cons (pe_bltn (v := .ty "str") (by rfl) B.str bStr rfl) pa_nil))))) (pss_one (ps_ret pe_non)) pss_nil)
    (pss_cons (ps_set (i := 1) scLrd.nd rfl (.inr rfl) (pe_split (pv 0) pe_str))
    (pss_cons (ps_set (i := 2) scLrd.nd rfl (.inl rfl) (pe_split (pe_ix ix_list (pv 1) pe_int (fun _ _ => rfl)) pe_str))
    (pss_cons (ps_if (PW.pt (pw_or (pt_cmpR op_ne (pe_callB call_len_seq (by rfl) B.len PySem.boot_len (pa_cons (pv 2) pa_nil)) pe_int (nomark _)) (pw_or1 (pt_cmpR (op_neD hr.units) (pe_lst (pa_cons (pe_ix ix_list (pv 2) pe_int (fun _ _ => rfl)) (pa_cons (pe_ix ix_list (pv 2) pe_int (fun _ _ => rfl)) (pa_cons (pe_ix ix_list (pv 2) pe_int (fun _ _ => rfl)) (pa_cons (pe_ix ix_list (pv 2) pe_int (fun _ _ => rfl)) pa_nil))))) (pe_lst (pa_cons pe_str (pa_cons pe_str (pa_cons pe_str (pa_cons pe_str pa_nil))))) (nomark _))))) (pss_one (ps_ret pe_non)) pss_nil)
    (pss_cons (ps_asg (pe_lc (own := [("_law_x", 6)]) (g := gName 6) (tt := tYes) (te := tCall spLnu [] E0 (tCons (tVar 6) tNil)) rfl scLrd.nd (pi_list (pe_odd (pv 2))) (blkOk_by (own := [("_law_x", 6)]) (N := NLrd) (sc := defScope sLrd) (by decide +kernel))
        (fun _ _ _ _ _ => pg_name (i := 6) scLrd.nd rfl (Or.inl rfl)) (fun _ _ _ _ _ => pts_nil) (fun _ _ _ _ _ => pe_call GN hr (by rfl) gN kN bN .nil pass0 (pa_cons (pv 6) pa_nil)))
      (pg_unl rfl (pgs_cons (pg_name (i := 3) scLrd.nd rfl (.inl rfl)) (pgs_cons (pg_name (i := 4) scLrd.nd rfl (.inr rfl)) (pgs_cons (pg_name (i := 5) scLrd.nd rfl (.inl rfl)) pgs_nil)))))
    (pss_cons (ps_if (PW.pt (pw_or (pt_cmpR op_lt (pv 3) pe_int (nomark _)) (pw_or (pt_cmpR op_gt (pv 3) pe_int (nomark _)) (pw_or (pt_cmpR op_lt (pv 4) pe_int (nomark _)) (pw_or (pt_cmpR op_gt (pv 4) pe_int (nomark _)) (pw_or (pt_cmpR op_lt (pv 5) pe_int (nomark _)) (pw_or1 (pt_cmpR op_gt (pv 5) (pe_op op_mul (pv 4) (pe_op op_sub (pv 3) pe_int)) (nomark _))))))))) (pss_one (ps_ret pe_non)) pss_nil)
    (pss_cons (ps_setLc (i := 7) (own := [("_law_k", 8)]) (g := gName 8) (tt := tYes) (te := teRow K) rfl scLrd.nd rfl rfl (by rfl) (pi_range2 (by rfl) B.range (pa_cons pe_int (pa_cons (pe_callB call_len_seq (by rfl) B.len PySem.boot_len (pa_cons (pv 1) pa_nil)) pa_nil))) (blkOk_by (own := [("_law_k", 8)]) (N := NLrd) (sc := defScope sLrd) (by decide +kernel))
        (fun _ _ _ _ _ => pg_name (i := 8) scLrd.nd rfl (Or.inl rfl)) (fun _ _ _ _ _ => pts_nil)
        (fun _ _ _ _ _ => pe_call GR hr (by rfl) gR kR bR .nil pass0 (pa_cons (pe_ix ix_list (pv 1) (pv 8) (fun _ _ => rfl)) (pa_cons (pv 4) (pa_cons (pe_cmpR op_eq (pv 8) (pe_op op_sub (pe_callB call_len_seq (by rfl) B.len PySem.boot_len (pa_cons (pv 1) pa_nil)) pe_int) (nomark _)) pa_nil)))))
    (pss_cons (ps_if (PW.pt (pw_or (pt_cmpR (op_eqD hr.units) (pv 7) (pe_lst pa_nil) (nomark _)) (pw_or (pt_cmpR op_gt (pe_callB call_len_seq (by rfl) B.len PySem.boot_len (pa_cons (pv 7) pa_nil)) pe_int (nomark _)) (pw_or1 (pt_cmpR (op_inD hu65) pe_non (pv 7) (by rfl)))))) (pss_one (ps_ret pe_non)) pss_nil)
    (pss_one (ps_ret (pe_lst (pa_cons (pe_tup (pa_cons (pv 3) (pa_cons (pv 4) (pa_cons (pv 5) pa_nil)))) (pa_cons (pe_callTy call_tuple_of (by rfl) B.tup bTup (pa_cons (pv 7) pa_nil)) pa_nil)))))))))))), ?_⟩
  obtain ⟨ty, hty, kty⟩ := hk.isStr
  refine ⟨_, rfl, _, _, _, _, strB v, rfl, .ty _, hty, kty, _, rfl, ?_⟩
  rcases hv with ⟨hs, kno⟩ | ⟨x, rfl, hx, hpl, kno, kyes⟩
  · rw [hs]
    exact iteT (kno H (Same.refl H))
  refine iteF ?_
  unfold tNext
  dsimp only
  have sb := split_bounds x ("\n" : Str) (by decide +kernel)
  have ps := plain_split (y := ("\n" : Str)) hpl
  obtain ⟨hd, lines, hs⟩ : ∃ hd lines, Txt.split x ("\n" : Str) = hd :: lines := by
    cases e : Txt.split x ("\n" : Str) with
    | nil =>
      have := split_pos x ("\n" : Str)
      rw [e] at this
      exact absurd this (by decide)
    | cons a l => exact ⟨a, l, rfl⟩
  rw [hs] at sb ps
  have hhd : hd.length ≤ 2001 := Nat.le_trans (sb.1 hd (List.mem_cons_self ..)) hx
  have hcnt : lines.length ≤ 2002 := by
    have := sb.2
    rw [List.length_cons] at this
    omega
  refine seq_asg ⟨_, rfl, ⟨_, rfl⟩, _, _, rfl, rfl, by decide +kernel, by rw [sizeLine_eq]; omega, fun l nl => ?_⟩
  rw [show Txt.split x (Str.ofString "\n") = hd :: lines from hs]
  have s1 : Same H (upd H l (.lst ((hd :: lines).map V.str))) := same_lay nl
  have e1 : (upd H l (.lst ((hd :: lines).map V.str))) l = some (.lst ((hd :: lines).map V.str)) := upd_same
  generalize upd H l (.lst ((hd :: lines).map V.str)) = H1 at s1 e1 ⊢
  have wb := split_bounds hd (" " : Str) (by decide +kernel)
  have pw := plain_split (y := (" " : Str)) (ps hd (List.mem_cons_self ..))
  refine seq_asg ⟨_, rfl, l, _, _, .str hd, rfl, rfl, SqL.of e1, atI_nat (j := 0) rfl, ⟨_, rfl⟩, _, _, rfl, rfl, by decide +kernel, by rw [sizeLine_eq]; omega, fun l3 n3 => ?_⟩
  have hsp := fun b p n ini y => right_split hs (b := b) (p := p) (n := n) (ini := ini) (y := y)
  have hlr := fun b p n ds => law_right (hd := hd) (x := x) (lines := lines) (b := b) (p := p) (n := n) (ds := ds) hs
  generalize Txt.split hd (" " : Str) = ws at wb pw hsp hlr ⊢
  have s2 : Same H (upd H1 l3 (.lst (ws.map V.str))) := s1.trans (same_lay n3)
  have e2 : (upd H1 l3 (.lst (ws.map V.str))) l = some (.lst ((hd :: lines).map V.str)) := (same_lay n3) _ _ e1
  have e3 : (upd H1 l3 (.lst (ws.map V.str))) l3 = some (.lst (ws.map V.str)) := upd_same
  generalize upd H1 l3 (.lst (ws.map V.str)) = H3 at s2 e2 e3 ⊢
  refine ⟨_, rfl, l3, _, rfl, .inl (SqL.of e3), rfl, _, rfl, ?_⟩
  rw [List.length_map]
  by_cases h7 : ws.length = 7
  rotate_left
  · have z : (!decide (V.int (ws.length : Int) = V.int 7)) = true := by
      rw [decide_eq_false (fun z => by injection z with z; omega)]
      rfl
    show (if (!decide (V.int (ws.length : Int) = V.int 7)) = true then _ else _)
    rw [z]
    refine iteT (kno ?_ H3 s2)
    rintro ⟨b, p, n, ini, y, e, hrt⟩
    rw [(hsp b p n ini y e hrt).1] at h7
    exact h7 rfl
  have z : (!decide (V.int (ws.length : Int) = V.int 7)) = false := by
    rw [decide_eq_true (by rw [h7]; rfl)]
    rfl
  show (if (!decide (V.int (ws.length : Int) = V.int 7)) = true then _ else _)
  rw [z]
  refine iteF ?_
  match ws, h7, wb, pw, hsp, hlr, e3 with
  | [w0, w1, w2, w3, w4, w5, w6], _, wb, pw, hsp, hlr, e3 =>
  unfold tTest
  refine op_read (lst_read ?_)
  refine cons_read ⟨_, rfl, l3, _, _, _, rfl, rfl, SqL.of e3, rfl, ?_⟩
  refine cons_read ⟨_, rfl, l3, _, _, _, rfl, rfl, SqL.of e3, rfl, ?_⟩
  refine cons_read ⟨_, rfl, l3, _, _, _, rfl, rfl, SqL.of e3, rfl, ?_⟩
  refine cons_read ⟨_, rfl, l3, _, _, _, rfl, rfl, SqL.of e3, rfl, nil_read ⟨by show 4 ≤ sizeLine; decide, fun u1 nu1 => ?_⟩⟩
  refine lst_read (cons_read (c_read (cons_read (c_read (cons_read (c_read (cons_read (c_read (nil_read ⟨by show 4 ≤ sizeLine; decide, fun u2 nu2 => ?_⟩)))))))))
  have m0 := pw w0 (by simp)
  have m2 := pw w2 (by simp)
  have m4 := pw w4 (by simp)
  have m6 := pw w6 (by simp)
  have k1 : Plain (Str.ofString "drive") := by unfold Plain; decide +kernel
  have k2 : Plain (Str.ofString "blocks") := by unfold Plain; decide +kernel
  have k3 : Plain (Str.ofString "pages") := by unfold Plain; decide +kernel
  have k4 : Plain (Str.ofString "names") := by unfold Plain; decide +kernel
  refine ⟨_, _, .lst (SqL.of (same_lay nu2 _ _ upd_same)) (.cons (.str _) (.cons (.str _) (.cons (.str _) (.cons (.str _) .nil)))), .lst (SqL.of upd_same) (.cons (.str _) (.cons (.str _) (.cons (.str _) (.cons (.str _) .nil)))), strs4_shaped m0 m2 m4 m6, strs4_shaped k1 k2 k3 k4, _, rfl, ?_⟩
  rw [eqv4]
  have s3 : Same H (upd (upd H3 u1 (.lst [.str w0, .str w2, .str w4, .str w6])) u2 (.lst [.str (Str.ofString "drive"), .str (Str.ofString "blocks"), .str (Str.ofString "pages"), .str (Str.ofString "names")])) := s2.trans ((same_lay nu1).trans (same_lay nu2))
  have f1 := ((same_lay nu1).trans (same_lay (o := .lst [.str (Str.ofString "drive"), .str (Str.ofString "blocks"), .str (Str.ofString "pages"), .str (Str.ofString "names")]) nu2)) _ _ e2
  have f3 := ((same_lay nu1).trans (same_lay (o := .lst [.str (Str.ofString "drive"), .str (Str.ofString "blocks"), .str (Str.ofString "pages"), .str (Str.ofString "names")]) nu2)) _ _ e3
  generalize upd (upd H3 u1 (.lst [.str w0, .str w2, .str w4, .str w6])) u2 (.lst [.str (Str.ofString "drive"), .str (Str.ofString "blocks"), .str (Str.ofString "pages"), .str (Str.ofString "names")]) = H4 at s3 f1 f3 ⊢
  by_cases c4 : w0 = Str.ofString "drive" ∧ w2 = Str.ofString "blocks" ∧ w4 = Str.ofString "pages" ∧ w6 = Str.ofString "names"
  rotate_left
  · rw [decide_eq_false c4]
    refine iteT (kno ?_ H4 s3)
    rintro ⟨b, p, n, ini, y, e, hrt⟩
    have q := (hsp b p n ini y e hrt).1
    simp only [List.cons.injEq] at q
    exact c4 ⟨q.1, q.2.2.1, q.2.2.2.2.1, q.2.2.2.2.2.2.1⟩
  rw [decide_eq_true c4]
  refine iteF ?_
  obtain ⟨rfl, rfl, rfl, rfl⟩ := c4
  try unfold tNext
  dsimp only
  refine seq_asg ?_
  have hnum : ∀ b p n ini y, x = textM ((b : Nat) : Int) ((p : Nat) : Int) ((n : Nat) : Int) ini y → Rt b p n ini y → lnM w1 = (b : Int) ∧ lnM w3 = (p : Int) ∧ lnM w5 = (n : Int) := fun b p n ini y e hrt => by
    have q := (hsp b p n ini y e hrt).1
    simp only [List.cons.injEq] at q
    have b1 := hrt.sz.b1
    have p1 := hrt.sz.p1
    rw [q.2.1, q.2.2.2.1, q.2.2.2.2.2.1]
    exact ⟨lnM_of b (by omega), lnM_of p (by omega), lnM_of n hrt.sz.n25⟩
  refine ⟨_, rfl, l3, _, _, _, _, _, _, _, rfl, SqL.of f3, fun l4 n4 => ?_⟩
  have g4 : (upd H4 l4 (.lst [.str w1, .str w3, .str w5])) l4 = some (.lst ([w1, w3, w5].map V.str)) := upd_same
  have s4 : Same H4 (upd H4 l4 (.lst [.str w1, .str w3, .str w5])) := same_lay n4
  generalize upd H4 l4 (.lst [.str w1, .str w3, .str w5]) = H5 at s4 g4 ⊢
  refine ⟨l4, rfl, ⟨_, SqL.of g4⟩, fun D nD => ?_⟩
  refine lc_list (K := K) (a := l4) (xs := [w1, w3, w5].map V.str) (fun i H' => Same H5 H' ∧ H' D = some (.lst (([lnM w1, lnM w3, lnM w5].take i).map V.int))) ⟨same_lay nD, by rw [upd_same]; rfl⟩ (fun i H' _ q => SqL.of (q.1 _ _ g4)) ?_ ?_
  · rintro i v H' hi ⟨q1, q2⟩
    obtain ⟨j, ex, ej, hi3⟩ : ∃ j : Str, v = .str j ∧ [lnM w1, lnM w3, lnM w5][i]? = some (lnM j) ∧ i < 3 := by
      match i, hi with
      | 0, hi => exact ⟨w1, (Option.some.inj hi).symm, rfl, by decide⟩
      | 1, hi => exact ⟨w3, (Option.some.inj hi).symm, rfl, by decide⟩
      | 2, hi => exact ⟨w5, (Option.some.inj hi).symm, rfl, by decide⟩
    subst ex
    refine ⟨rfl, ?_⟩
    unfold tYes
    dsimp only
    rw [if_pos rfl]
    refine ⟨_, rfl, j, rfl, fun H'' sj => ⟨_, sj _ _ q2, ?_, ?_, ?_⟩⟩
    · rw [List.length_map, List.length_take, sizeLine_eq]; omega
    · exact fun c o z => by rw [upd_ne (ne_of_none z nD)]; exact sj _ _ (q1 _ _ z)
    · rw [upd_same, List.take_add_one, ej]
      simp
  rintro H6 ⟨s5, e5⟩
  have s6 : Same H4 H6 := s4.trans s5
  have s7 : Same H H6 := s3.trans s6
  have f6 := s6 _ _ f1
  refine ⟨D, _, rfl, SqL.of e5, rfl, _, _, rfl, _, _, rfl, _, _, rfl, rfl, ?_⟩
  have bad : (∀ b p n : Nat, Sz b p n → lnM w1 = (b : Int) → lnM w3 = (p : Int) → lnM w5 = (n : Int) → False) → ¬ Right x := fun hb => by
    rintro ⟨b, p, n, ini, y, e, hrt⟩
    obtain ⟨q1, q2, q3⟩ := hnum b p n ini y e hrt
    exact hb b p n hrt.sz q1 q2 q3
  refine ⟨_, rfl, _, _, rfl, rfl, _, rfl, ite2 (fun c => kno (bad fun b p n hz q1 q2 q3 => ?_) H6 s7) (fun c1 => ?_)⟩
  · have := of_decide_eq_true c; have := hz.b0; omega
  replace c1 : ¬ (lnM w1 < 3) := fun h => c1 (decide_eq_true h)
  refine ⟨_, rfl, _, _, rfl, rfl, _, rfl, ite2 (fun c => kno (bad fun b p n hz q1 q2 q3 => ?_) H6 s7) (fun c2 => ?_)⟩
  · have := of_decide_eq_true c; have := hz.b1; omega
  replace c2 : ¬ (6 < lnM w1) := fun h => c2 (decide_eq_true h)
  refine ⟨_, rfl, _, _, rfl, rfl, _, rfl, ite2 (fun c => kno (bad fun b p n hz q1 q2 q3 => ?_) H6 s7) (fun c3 => ?_)⟩
  · have := of_decide_eq_true c; have := hz.p0; omega
  replace c3 : ¬ (lnM w3 < 2) := fun h => c3 (decide_eq_true h)
  refine ⟨_, rfl, _, _, rfl, rfl, _, rfl, ite2 (fun c => kno (bad fun b p n hz q1 q2 q3 => ?_) H6 s7) (fun c4 => ?_)⟩
  · have := of_decide_eq_true c; have := hz.p1; omega
  replace c4 : ¬ (5 < lnM w3) := fun h => c4 (decide_eq_true h)
  refine ⟨_, rfl, _, _, rfl, rfl, _, rfl, ite2 (fun c => kno (bad fun b p n hz q1 q2 q3 => ?_) H6 s7) (fun c5 => ?_)⟩
  · have := of_decide_eq_true c; have := hz.n0; omega
  replace c5 : ¬ (lnM w5 < 1) := fun h => c5 (decide_eq_true h)
  refine ⟨_, rfl, _, rfl, _, rfl, _, _, rfl, rfl, _, _, rfl, rfl, .inl ⟨by omega, by omega⟩, _, _, rfl, rfl, _, rfl, ite2 (fun c => kno (bad fun b p n hz q1 q2 q3 => ?_) H6 s7) (fun c6 => ?_)⟩
  · have z := of_decide_eq_true c
    have y := Sz.int hz
    rw [q1, q2, q3] at z
    omega
  replace c6 : ¬ (lnM w3 * (lnM w1 - 1) < lnM w5) := fun h => c6 (decide_eq_true h)
  obtain ⟨b, hb, rfl, eb⟩ := lnM_num (w := w1) (by omega)
  obtain ⟨p, hp, rfl, ep⟩ := lnM_num (w := w3) (by omega)
  obtain ⟨n, hn, rfl, en⟩ := lnM_num (w := w5) (by omega)
  rw [eb] at c1 c2
  rw [ep] at c3 c4
  rw [en] at c5
  rw [eb, ep, en] at c6
  rw [eb, ep, en]
  have hz : Sz b p n := ⟨by omega, by omega, by omega, by omega, by omega, by
    have e : ((p * (b - 1) : Nat) : Int) = (p : Int) * ((b : Int) - 1) := by
      rw [Int.natCast_mul, Int.natCast_sub (by omega)]; rfl
    omega⟩
  try unfold tNext
  dsimp only
  refine seq_asg ?_
  refine ⟨_, rfl, l, _, rfl, .inl (SqL.of f6), 1, _, rfl, ⟨?_, ?_, ?_, ?_⟩, fun D2 nD2 => ?_⟩
  · decide
  · decide
  · simp; omega
  · simp; omega
  have en2 : ((((hd :: lines).map V.str).length : Int) - 1).toNat = lines.length := by simp
  rw [en2]
  have nlD : l ≠ D2 := ne_of_none f6 nD2
  refine lc_range (lo := 1) (n := lines.length) (fun i H' => ∃ (vs : List V) (es : List (Option RowD)), Same H6 H' ∧ H' D2 = some (.lst vs) ∧ vs.length = i ∧ Paired (FV H') vs es ∧ ∀ j z e, lines[j]? = some z → es[j]? = some e → LineE (decide (j + 1 = lines.length)) p z e)
    ⟨[], [], same_lay nD2, upd_same, rfl, .nil, fun j z e _ h => by simp at h⟩ ?_ ?_
  · rintro i H' hi ⟨vs, es, q1, q2, q3, q4, q5⟩
    refine ⟨rfl, ?_⟩
    unfold tYes
    dsimp only
    rw [if_pos rfl]
    have ei : (1 : Int) + (i : Int) = ((i + 1 : Nat) : Int) := by omega
    have hli : ((hd :: lines).map V.str)[i + 1]? = some (.str lines[i]) := by rw [List.getElem?_map, List.getElem?_cons_succ, List.getElem?_eq_getElem hi]; rfl
    refine ⟨_, rfl, _, rfl, l, _, _, .str lines[i], rfl, rfl, SqL.of (q1 _ _ f6), by rw [ei]; exact atI_nat hli, _, rfl, _, rfl, _, rfl, l, _, rfl, .inl (SqL.of (q1 _ _ f6)), _, _, rfl, rfl, rfl, ?_⟩
    have hle : es.length = i := by rw [← Paired.length q4, q3]
    have hzi : lines[es.length]? = some lines[i] := by rw [hle, List.getElem?_eq_getElem hi]
    refine ⟨lines[i], p, decide (i + 1 = lines.length), ?_, by omega, fun r hr' H8 q s8 nq hq => ⟨vs, s8 _ _ q2, ?_, vs ++ [.ref q], es ++ [some r], ?_, upd_same, ?_, ?_, ?_⟩, fun hno H8 s8 => ⟨vs, s8 _ _ q2, ?_, vs ++ [.non], es ++ [none], ?_, upd_same, ?_, ?_, ?_⟩⟩
    · show [V.str lines[i], V.int (p : Int), V.bl (decide (V.int (1 + (i : Int)) = V.int ((((hd :: lines).map V.str).length : Int) - 1)))] = _
      have z : decide (V.int (1 + (i : Int)) = V.int ((((hd :: lines).map V.str).length : Int) - 1)) = decide (i + 1 = lines.length) := by
        rw [Bool.eq_iff_iff, decide_eq_true_eq, decide_eq_true_eq]
        simp
        omega
      rw [z]
    · rw [q3, sizeLine_eq]; omega
    · exact fun c o z => by rw [upd_ne (ne_of_none z nD2)]; exact s8 _ _ (q1 _ _ z)
    · rw [List.length_append, q3]; rfl
    · refine paired_snoc (fv_set q2 s8 q4) ⟨q, rfl, ?_⟩
      rw [upd_ne (fun c => by rw [c, q2] at nq; cases nq)]
      exact hq
    · exact found_snoc q5 hzi (by rw [hle]; exact hr')
    · rw [q3, sizeLine_eq]; omega
    · exact fun c o z => by rw [upd_ne (ne_of_none z nD2)]; exact s8 _ _ (q1 _ _ z)
    · rw [List.length_append, q3]; rfl
    · exact paired_snoc (fv_set q2 s8 q4) rfl
    · exact found_snoc q5 hzi (by rw [hle]; exact hno)
  · rintro H7 ⟨vs, es, q1, q2, q3, q4, q5⟩
    have hle : es.length = lines.length := by rw [← Paired.length q4, q3]
    have hfe : FoundE p lines es := ⟨hle, q5⟩
    have s8 : Same H H7 := s7.trans q1
    have hwd : ∀ e ∈ es, ∀ r, e = some r → r.2 ∈ wordsL := fun e he r er => by
      obtain ⟨j, hj⟩ := List.getElem?_of_mem he
      have hlt := (List.getElem?_eq_some_iff.mp hj).1
      rw [hle] at hlt
      have z := q5 j _ e (List.getElem?_eq_getElem hlt) hj
      rw [er] at z
      rcases z with ⟨_, _, _, z⟩ | ⟨_, _, z⟩
      · exact z
      · exact z.2.2
    have hR : ∀ b' p' n' ini y, x = textM ((b' : Nat) : Int) ((p' : Nat) : Int) ((n' : Nat) : Int) ini y → Rt b' p' n' ini y → es = (ini ++ [((p : Int), y)]).map some ∧ ini.length ≤ 3 := fun b' p' n' ini y e hrt => by
      obtain ⟨z1, z2, z3⟩ := hnum b' p' n' ini y e hrt
      have ee : p' = p := by omega
      subst ee
      have hl := (hsp b' p' n' ini y e hrt).2
      rw [hl] at hfe
      exact ⟨right_found (by omega) hrt.ini hrt.y hfe, hrt.ini.2⟩
    refine ⟨_, rfl, ?_⟩
    refine lst_read (nil_read ⟨by show 0 ≤ sizeLine; decide, fun u nu => ?_⟩)
    have v1 : Same H7 (upd H7 u (.lst [])) := same_lay nu
    have v2 : Same H (upd H7 u (.lst [])) := s8.trans v1
    have p2 := v1 _ _ q2
    have p4 : Paired (FV (upd H7 u (.lst []))) vs es := Paired.mapP q4 fun _ _ z => z.same v1
    refine ⟨_, _, .lst (SqL.of p2) (fvs_dp p4), .lst (SqL.of upd_same) .nil, eds_shaped hwd, by decide +kernel, _, rfl, ?_⟩
    generalize upd H7 u (.lst []) = H8 at v2 p2 p4 ⊢
    cases es with
    | nil =>
      refine iteT (kno ?_ H8 v2)
      rintro ⟨b', p', n', ini, y, e, hrt⟩
      have z := (hR b' p' n' ini y e hrt).1
      simp at z
    | cons e0 er =>
    refine iteF ?_
    refine ⟨_, rfl, D2, _, rfl, .inl (SqL.of p2), _, _, rfl, rfl, _, rfl, ite2 (fun c => kno ?_ H8 v2) (fun c => ?_)⟩
    · rintro ⟨b', p', n', ini, y, e, hrt⟩
      obtain ⟨z, z3⟩ := hR b' p' n' ini y e hrt
      have z2 := Paired.length p4
      rw [z] at z2
      have c' := of_decide_eq_true c
      rw [z2] at c'
      simp at c'
      omega
    have c' : ¬ ((4 : Int) < (vs.length : Int)) := fun h => c (decide_eq_true h)
    refine ⟨_, rfl, _, _, .non, .lst (SqL.of p2) (fvs_dp p4), by decide +kernel, eds_shaped hwd, _, rfl, ?_⟩
    rw [eds_none]
    cases hany : (e0 :: er).any Option.isNone with
    | true =>
      refine iteT (kno ?_ H8 v2)
      rintro ⟨b', p', n', ini, y, e, hrt⟩
      have z := (hR b' p' n' ini y e hrt).1
      rw [z] at hany
      simp at hany
    | false =>
    refine iteF ?_
    obtain ⟨ds, eds⟩ := all_some hany
    rw [eds] at hfe p4
    have hne : ds ≠ [] := fun z => by rw [z] at eds; cases eds
    have h4 : ds.length ≤ 4 := by
      have z2 := Paired.length p4
      rw [List.length_map] at z2
      omega
    obtain ⟨ini, y, ed, ex, hrt⟩ := hlr b p n ds rfl hz hfe hne h4
    try unfold tNext
    dsimp only
    refine ret_read (lst_read (cons_read (tup_read (cons_read ⟨_, rfl, cons_read ⟨_, rfl, cons_read ⟨_, rfl, nil_read ⟨by show 3 ≤ sizeLine; decide, fun st ns => ?_⟩⟩⟩⟩))))
    have v3 : Same H8 (upd H8 st (.tup [.int (b : Int), .int (p : Int), .int (n : Int)])) := same_lay ns
    refine cons_read (cb_read (cons_read ⟨_, rfl, nil_read ⟨D2, _, rfl, .inl ⟨SqL.of (v3 _ _ p2), fun t nt => ?_⟩⟩⟩))
    refine nil_read ⟨by show 2 ≤ sizeLine; decide, fun q nq => ?_⟩
    obtain ⟨rs, rfl, prs⟩ := fv_rows (K := K) p4
    have v4 := v3.trans ((same_lay (o := .tup (rs.map V.ref)) nt).trans (same_lay (o := .lst [.ref st, .ref t]) nq))
    refine kyes b p n ini y ex hrt _ q st t (v2.trans v4) upd_same ((same_lay nt).trans (same_lay nq) _ _ upd_same) ⟨rs, SqT.of (same_lay nq _ _ upd_same), ?_⟩
    rw [← ed]
    exact Paired.mapP prs fun _ _ z => K2.Same.tup v4 z
end
end K4

set_option Elab.async false
set_option linter.all false
set_option maxRecDepth 100000
set_option maxHeartbeats 4000000
namespace K4
open PySem PySem.Spec PyProof.Rows L2 G1 G2 G3 K2 K3
abbrev sSgn : Stmt := topS 50
abbrev sBtT : Stmt := topS 51
theorem scSgn : FnScope ["_law_pool_here", "_law_signs"] ["_law_pool_here"] (defScope sSgn) := ⟨rfl, rfl, rfl, by decide +kernel, rfl, by decide +kernel, by decide +kernel⟩
abbrev NBtT : List Str := ["_law_pool_here", "_law_scrap", "_law_way", "_law_at", "_law_lines", "_law_one", "_law_two", "_law_some"]
theorem scBtT : FnScope NBtT ["_law_pool_here", "_law_scrap"] (defScope sBtT) := ⟨rfl, rfl, rfl, by decide +kernel, rfl, by decide +kernel, by decide +kernel⟩
def spSgn : Sp := fun vs H Q _ => ∃ pl : Addr, vs = [.ref pl] ∧ PoolAt H pl ∧ ∀ (H' : Hp) (c : Str), Stp pl H H' → Plain c → c.length ≤ 1 → Q (.str c) H'
def spBtT : Sp := fun vs H Q _ => ∃ (pl : Addr) (x : Str), vs = [.ref pl, .str x] ∧ PoolAt H pl ∧ x.length ≤ 1000 ∧ Plain x ∧ ∀ (H' : Hp) (y : Str), Stp pl H H' → Plain y → y.length ≤ 2 * x.length + 20 → Q (.str y) H'
abbrev signs : Str := "abcdefghijklmnopqrstuvwxyz0123456789 \n:;,.-+*/<>=()[]{}!?#&@$^|~'ABMOLY_"
theorem signs_plain : ∀ c ∈ signs.cps.toList, c < 128 := by decide +kernel
theorem signs_len : 0 < signs.length ∧ signs.length ≤ 80 := by decide +kernel
theorem cut_plain {x : Str} {lo hi : Option Int} (h : Plain x) : Plain (cutS x lo hi) := fun c hc => h c (by
  have hc' : c ∈ (x.cps.toList.drop (HT.sIx x.length 0 lo)).take (HT.sIx x.length x.length hi - HT.sIx x.length 0 lo) := by simpa [cutS, TL.tl] using hc
  exact List.mem_of_mem_drop (List.mem_of_mem_take hc'))
theorem cut_len {x : Str} {lo hi : Option Int} : (cutS x lo hi).length ≤ x.length := by
  have e : (cutS x lo hi).length = ((x.cps.toList.drop (HT.sIx x.length 0 lo)).take (HT.sIx x.length x.length hi - HT.sIx x.length 0 lo)).length := by
    show (((x.cps.toList.drop _).take _).toArray).size = _
    rw [List.size_toArray]
  rw [e, List.length_take, List.length_drop]
  have e2 : x.cps.toList.length = x.length := Array.length_toList
  omega
section
variable {P : Program} {w : World} {K : PySem.W.Frag} {mg : Str → Option Value} {base : Heap}
theorem ok_sgn {f fD : Addr} {fd dD : FuncData} (F : Fun K "_law_sign" "_law_sign" sSgn f fd) (B : Bl mg) (GD : FnOk P w K mg base CX0 1 fD dD ["_law_pool_here", "_law_many_here"] spDraw) (kD : PySem.W.keepIn K (.ref fD) = true) (bD : Binds K dD ["_law_pool_here", "_law_many_here"] [])
    (gD : mg "_law_draw" = some (.ref fD)) : FnOk P w K mg base CX0 2 f fd ["_law_pool_here"] spSgn := by
  refine F.ok scSgn (fun vs H Q E h => ?_) (fun cdv A outer s H vs Q E hr h => ?_)
  · obtain ⟨pl, rfl, _⟩ := h
    rfl
  obtain ⟨pl, rfl, hp, k⟩ := h
  refine ⟨_, pss_cons (ps_set (i := 1) scSgn.nd rfl (.inl rfl) pe_str) (pss_one (ps_ret (pe_ix ix_str (pv 1) (pe_call GD hr (by rfl) gD kD bD .nil pass0 (pa_cons (pv 0) (pa_cons (pe_callB call_len (by rfl) B.len PySem.boot_len (pa_cons (pv 1) pa_nil)) pa_nil))) (fun _ _ => rfl)))), ?_⟩
  refine seq_asg (c_read ?_)
  refine ⟨_, rfl, _, rfl, _, rfl, _, _, rfl, ⟨by show signs.length ≤ sizeLine; exact Nat.le_trans signs_len.2 (by decide), rfl⟩, ?_⟩
  have sl := signs_len
  show spDraw [.ref pl, .int (signs.length : Int)] H (fun y H2 => rIxS (.str signs) y H2 Q) E0
  refine draw_read hp (by omega) (by omega) fun H1 r S1 r0 r1 => ?_
  obtain ⟨k0, rfl⟩ : ∃ k0 : Nat, r = (k0 : Int) := ⟨r.toNat, by omega⟩
  have r1' : k0 < signs.cps.toList.length := by
    have e2 : signs.cps.toList.length = signs.length := Array.length_toList
    rw [e2]
    have : ((k0 : Int)) < (signs.length : Int) := r1
    omega
  refine ⟨signs, _, signs.cps.toList[k0], rfl, rfl, Nat.le_trans sl.2 (by decide), atI_nat (List.getElem?_eq_getElem r1'), k H1 _ S1 (fun c hc => ?_) ?_⟩
  · have e : TL.tl (⟨#[signs.cps.toList[k0]]⟩ : Str) = [signs.cps.toList[k0]] := rfl
    rw [e, List.mem_singleton] at hc
    rw [hc]
    exact signs_plain _ (List.getElem_mem _)
  · exact Nat.le_refl 1
end
end K4

set_option Elab.async false
set_option linter.all false
set_option maxRecDepth 100000
set_option maxHeartbeats 4000000
namespace K4
open PySem PySem.Spec PyProof.Rows L2 G1 G2 G3 K2 K3
def wt (ls : List Str) : Nat := (ls.map (·.length)).sum + ls.length
theorem wt_app (a b : List Str) : wt (a ++ b) = wt a + wt b := by
  unfold wt
  rw [List.map_append, List.sum_append, List.length_append]
  omega
theorem wt_one (z : Str) : wt [z] = z.length + 1 := by
  unfold wt
  simp
theorem wt_td (ls : List Str) (k : Nat) : wt (ls.take k) + wt (ls.drop k) = wt ls := by
  rw [← wt_app, List.take_append_drop]
theorem wt_drop1 (ls : List Str) (k : Nat) : wt (ls.drop (k + 1)) ≤ wt (ls.drop k) := by
  have e : ls.drop (k + 1) = (ls.drop k).drop 1 := by rw [List.drop_drop]
  rw [e]
  have := wt_td (ls.drop k) 1
  omega
theorem wt_mem {ls : List Str} {z : Str} (h : z ∈ ls) : z.length + 1 ≤ wt ls := by
  unfold wt
  have a := mem_sum h
  have b : 1 ≤ ls.length := List.length_pos_of_mem h
  omega
theorem wt_join (ls : List Str) : (Str.join ("\n" : Str) ls).length ≤ wt ls := by
  have e : (Str.ofString "\n").length = 1 := by decide +kernel
  match ls with
  | [] => show Str.empty.length ≤ _; have e0 : Str.empty.length = 0 := by decide +kernel
          omega
  | [x] => show x.length ≤ _; rw [wt_one]; omega
  | x :: y :: r =>
    have ih := wt_join (y :: r)
    show (x ++ Str.ofString "\n" ++ Str.join ("\n" : Str) (y :: r)).length ≤ _
    rw [Str.length_append, Str.length_append, e]
    have z := wt_app [x] (y :: r)
    rw [wt_one] at z
    have z2 : wt (x :: y :: r) = x.length + 1 + wt (y :: r) := z
    omega
theorem six_nat (n d k : Nat) : HT.sIx n d (some (k : Int)) = min k n := by
  unfold HT.sIx
  dsimp only
  rw [if_neg (by omega)]
  omega
theorem cut_to (ls : List Str) (k : Nat) : cutV (ls.map V.str) none (some (k : Int)) = (ls.take k).map V.str := by
  unfold cutV
  rw [HT.sIx_none, six_nat, List.drop_zero, Nat.sub_zero, List.length_map, ← List.map_take]
  congr 1
  by_cases c : k ≤ ls.length
  · rw [Nat.min_eq_left c]
  · rw [Nat.min_eq_right (by omega), List.take_length, List.take_of_length_le (by omega)]
theorem cut_from (ls : List Str) (k : Nat) : cutV (ls.map V.str) (some (k : Int)) none = (ls.drop k).map V.str := by
  unfold cutV
  rw [HT.sIx_none, six_nat, List.length_map, ← List.map_drop, ← List.map_take]
  congr 1
  by_cases c : k ≤ ls.length
  · rw [Nat.min_eq_left c, List.take_of_length_le (by rw [List.length_drop]; exact Nat.le_refl _)]
  · rw [Nat.min_eq_right (by omega), List.drop_length, List.drop_of_length_le (by omega), List.take_nil]
def PlAll (ls : List Str) : Prop := ∀ z ∈ ls, Plain z
theorem PlAll.take {ls : List Str} (h : PlAll ls) (k : Nat) : PlAll (ls.take k) := fun z hz => h z (List.mem_of_mem_take hz)
theorem PlAll.drop {ls : List Str} (h : PlAll ls) (k : Nat) : PlAll (ls.drop k) := fun z hz => h z (List.mem_of_mem_drop hz)
theorem PlAll.app {a b : List Str} (h : PlAll a) (h2 : PlAll b) : PlAll (a ++ b) := fun z hz => (List.mem_append.mp hz).elim (h z) (h2 z)
theorem PlAll.one {z : Str} (h : Plain z) : PlAll [z] := fun q hq => by rw [List.mem_singleton.mp hq]; exact h
abbrev someT : List Str := ["any: least", "any: most", "at most 1: oldest", "at most 01: least", "at most 2:least", "", "any:"]
theorem some_ok : ∀ z ∈ someT, z.length ≤ 17 ∧ ∀ c ∈ TL.tl z, c < 128 := by decide +kernel
section
variable {P : Program} {w : World} {K : PySem.W.Frag} {mg : Str → Option Value} {base : Heap}
theorem ok_btT {f fD fS : Addr} {fd dD dS : FuncData} (F : Fun K "_law_bent" "_law_bent" sBtT f fd) (B : Bl mg) (GD : FnOk P w K mg base CX0 1 fD dD ["_law_pool_here", "_law_many_here"] spDraw) (kD : PySem.W.keepIn K (.ref fD) = true) (bD : Binds K dD ["_law_pool_here", "_law_many_here"] [])
    (gD : mg "_law_draw" = some (.ref fD)) (GS : FnOk P w K mg base CX0 2 fS dS ["_law_pool_here"] spSgn) (kS : PySem.W.keepIn K (.ref fS) = true) (bS : Binds K dS ["_law_pool_here"] []) (gS : mg "_law_sign" = some (.ref fS)) :
    FnOk P w K mg base CX0 3 f fd ["_law_pool_here", "_law_scrap"] spBtT := by
  refine F.ok scBtT (fun vs H Q E h => ?_) (fun cdv A outer s H vs Q E hr h => ?_)
  · obtain ⟨pl, x, rfl, _⟩ := h
    rfl
  obtain ⟨pl, x, rfl, hp, hx, hpx, k⟩ := h
  have hr1 : Room 1 _ := hr.mono (by decide)
  refine ⟨_, pss_cons (ps_par (i := 2) (j := 3) rfl scBtT.nd rfl rfl (by decide) rfl rfl (pa_cons (pe_call GD hr1 (by rfl) gD kD bD .nil pass0 (pa_cons (pv 0) (pa_cons pe_int pa_nil))) (pa_cons (pe_call GD hr1 (by rfl) gD kD bD .nil pass0 (pa_cons (pv 0) (pa_cons (pe_op op_add (pe_callB call_len (by rfl) B.len PySem.boot_len (pa_cons (pv 1) pa_nil)) pe_int) pa_nil))) pa_nil)) (by rfl))
    (pss_cons (ps_set (i := 4) scBtT.nd rfl (.inl rfl) (pe_split (pv 1) pe_str))
    (pss_cons (ps_par (i := 5) (j := 6) rfl scBtT.nd rfl rfl (by decide) rfl rfl (pa_cons (pe_call GD hr1 (by rfl) gD kD bD .nil pass0 (pa_cons (pv 0) (pa_cons (pe_callB call_len_seq (by rfl) B.len PySem.boot_len (pa_cons (pv 4) pa_nil)) pa_nil))) (pa_cons (pe_call GD hr1 (by rfl) gD kD bD .nil pass0 (pa_cons (pv 0) (pa_cons (pe_callB call_len_seq (by rfl) B.len PySem.boot_len (pa_cons (pv 4) pa_nil)) pa_nil))) pa_nil)) (by rfl))
    (pss_cons (ps_if (pt_cmpR op_lt (pv 2) pe_int (nomark _)) (pss_one (ps_ret (pe_op op_add_str (pe_op op_add_str (pe_slice sl_str (pv 1) po_none (po_some (pv 3))) (pe_call GS hr (by rfl) gS kS bS .nil pass0 (pa_cons (pv 0) pa_nil))) (pe_slice sl_str (pv 1) (po_some (pe_op op_add (pv 3) pe_int)) po_none)))) pss_nil)
    (pss_cons (ps_if (pt_cmpR op_eq (pv 2) pe_int (nomark _)) (pss_one (ps_ret (pe_op op_add_str (pe_op op_add_str (pe_slice sl_str (pv 1) po_none (po_some (pv 3))) (pe_call GS hr (by rfl) gS kS bS .nil pass0 (pa_cons (pv 0) pa_nil))) (pe_slice sl_str (pv 1) (po_some (pv 3)) po_none)))) pss_nil)
    (pss_cons (ps_if (pt_cmpR op_eq (pv 2) pe_int (nomark _)) (pss_one (ps_ret (pe_op op_add_str (pe_slice sl_str (pv 1) po_none (po_some (pv 3))) (pe_slice sl_str (pv 1) (po_some (pe_op op_add (pv 3) pe_int)) po_none)))) pss_nil)
    (C8.pss_cut (ps_if (pt_cmpR op_eq (pv 2) pe_int (nomark _)) (pss_one (ps_set (i := 4) scBtT.nd rfl (.inl rfl) (pe_op op_cat (pe_op op_cat (pe_slice sl_list (pv 4) po_none (po_some (pv 5))) (pe_lst (pa_cons (pe_ix ix_list (pv 4) (pv 6) (fun _ _ => rfl)) pa_nil))) (pe_slice sl_list (pv 4) (po_some (pv 5)) po_none)))) pss_nil)
    (C8.pss_cut (ps_if (pt_cmpR op_eq (pv 2) pe_int (nomark _)) (pss_one (ps_set (i := 4) scBtT.nd rfl (.inl rfl) (pe_op op_cat (pe_slice sl_list (pv 4) po_none (po_some (pv 5))) (pe_slice sl_list (pv 4) (po_some (pe_op op_add (pv 5) pe_int)) po_none)))) pss_nil)
    (C8.pss_cut (ps_if (pt_cmpR op_eq (pv 2) pe_int (nomark _)) (pss_cons (ps_set (i := 7) scBtT.nd rfl (.inl rfl) (pe_lst (pa_cons pe_str (pa_cons pe_str (pa_cons pe_str (pa_cons pe_str (pa_cons pe_str (pa_cons pe_str (pa_cons pe_str pa_nil)))))))))
      (pss_one (ps_set (i := 4) scBtT.nd rfl (.inl rfl) (pe_op op_cat (pe_op op_cat (pe_slice sl_list (pv 4) po_none (po_some (pv 5))) (pe_lst (pa_cons (pe_ix ix_list (pv 7) (pe_call GD hr1 (by rfl) gD kD bD .nil pass0 (pa_cons (pv 0) (pa_cons pe_int pa_nil))) (fun _ _ => rfl)) pa_nil))) (pe_slice sl_list (pv 4) (po_some (pe_op op_add (pv 5) pe_int)) po_none))))) pss_nil)
    (pss_one (ps_ret (pe_join pe_str (pv 4)))))))))))), ?_⟩
  refine draw_c (p := pl) rfl hp (by decide) (by decide) fun H1 wy S1 w0 w1 => ?_
  refine ⟨_, rfl, _, rfl, _, _, rfl, ⟨big_line (by omega), rfl⟩, _, _, rfl, rfl, ?_⟩
  dsimp only [tNil, List.cons_append, List.nil_append]
  refine draw_read S1.1 (by omega) (by omega) fun H2 at' S2 a0 a1 => ?_
  refine ⟨_, _, rfl, ?_⟩
  obtain ⟨at_, rfl⟩ : ∃ k0 : Nat, at' = (k0 : Int) := ⟨at'.toNat, by omega⟩
  have sb := split_weight x ("\n" : Str) (by decide +kernel)
  have sp := split_pos x ("\n" : Str)
  have pp : PlAll (Txt.split x ("\n" : Str)) := plain_split hpx
  refine seq_asg ⟨_, rfl, ⟨_, rfl⟩, _, _, rfl, rfl, by decide +kernel, by rw [sizeLine_eq]; omega, fun l nl => ?_⟩
  have S3 : Stp pl H H2 := S1.trans S2
  generalize Txt.split x ("\n" : Str) = ls at sb sp pp ⊢
  have hw : wt ls ≤ x.length + 1 := sb
  have e2 : (upd H2 l (.lst (ls.map V.str))) l = some (.lst (ls.map V.str)) := upd_same
  have p2 : PoolAt (upd H2 l (.lst (ls.map V.str))) pl := (Stp.of S3.1 (same_lay nl)).1
  have nlp : l ≠ pl := fun z => by
    obtain ⟨_, _, _, e, _⟩ := S3.1
    rw [z, e] at nl
    cases nl
  have T2 : ∀ b u, b ≠ pl → H b = some u → (upd H2 l (.lst (ls.map V.str))) b = some u := fun b u hb q => same_lay nl _ _ (S3.2 b u hb q)
  generalize upd H2 l (.lst (ls.map V.str)) = H3 at e2 p2 T2 ⊢
  refine ⟨_, rfl, _, rfl, l, _, rfl, .inl (SqL.of e2), ?_⟩
  dsimp only [tNil, List.cons_append, List.nil_append]
  refine draw_read p2 (by rw [List.length_map]; omega) (by rw [List.length_map]; omega) fun H4 one' S4 o0 o1 => ?_
  refine ⟨_, rfl, _, rfl, l, _, rfl, .inl (SqL.of (S4.2 _ _ nlp e2)), ?_⟩
  dsimp only [tNil, List.cons_append, List.nil_append]
  refine draw_read S4.1 (by rw [List.length_map]; omega) (by rw [List.length_map]; omega) fun H5 two' S5 t0 t1 => ?_
  refine ⟨_, _, rfl, ?_⟩
  have ST : Stp pl H H5 := ⟨S5.1, fun b u hb q => S5.2 b u hb (S4.2 b u hb (T2 b u hb q))⟩
  have e5 : H5 l = some (.lst (ls.map V.str)) := S5.2 _ _ nlp (S4.2 _ _ nlp e2)
  rw [List.length_map] at o1 t1
  obtain ⟨one, rfl⟩ : ∃ k0 : Nat, one' = (k0 : Int) := ⟨one'.toNat, by omega⟩
  obtain ⟨two, rfl⟩ : ∃ k0 : Nat, two' = (k0 : Int) := ⟨two'.toNat, by omega⟩
  have fin : ∀ (H' : Hp) (y : Str), Stp pl H5 H' → Plain y → y.length ≤ 2 * x.length + 20 → Q (.str y) H' := fun H' y S p q => k H' y (ST.trans S) p q
  have rf : Stp pl H5 H5 := Stp.of ST.1 (Same.refl H5)
  have cl := fun lo hi => cut_len (x := x) (lo := lo) (hi := hi)
  have cp := fun lo hi => cut_plain (x := x) (lo := lo) (hi := hi) hpx
  refine ⟨_, rfl, _, _, rfl, rfl, _, rfl, ite2 (fun c => ?_) (fun c1 => ?_)⟩
  · refine ret_read (op_read (op_read ⟨_, rfl, _, rfl, _, rfl, x, rfl, big_line (by omega), ?_⟩))
    refine ⟨_, rfl, pl, rfl, ST.1, fun H6 sg S6 pc lc => ?_⟩
    have q1 := cl none (some (at_ : Int))
    have q2 := cl (some ((at_ : Int) + 1)) none
    refine ⟨_, _, rfl, rfl, big_line (by omega), _, rfl, _, rfl, _, _, rfl, rfl, _, rfl, x, rfl, big_line (by omega), _, _, rfl, rfl, ?_, ?_⟩
    · rw [Str.length_append]
      exact big_line (by omega)
    · refine fin _ _ S6 (plain_app (plain_app (cp _ _) pc) (cp _ _)) ?_
      rw [Str.length_append, Str.length_append]
      omega
  have hlen : ls.length ≤ 1001 := by unfold wt at hw; omega
  refine ⟨_, rfl, rfl, _, rfl, ite2 (fun c => ?_) (fun c2 => ?_)⟩
  · refine ret_read (op_read (op_read ⟨_, rfl, _, rfl, _, rfl, x, rfl, big_line (by omega), ?_⟩))
    refine ⟨_, rfl, pl, rfl, ST.1, fun H6 sg S6 pc lc => ?_⟩
    have q1 := cl none (some (at_ : Int))
    have q2 := cl (some (at_ : Int)) none
    refine ⟨_, _, rfl, rfl, big_line (by omega), _, rfl, _, rfl, _, rfl, x, rfl, big_line (by omega), _, _, rfl, rfl, ?_, ?_⟩
    · rw [Str.length_append]
      exact big_line (by omega)
    · refine fin _ _ S6 (plain_app (plain_app (cp _ _) pc) (cp _ _)) ?_
      rw [Str.length_append, Str.length_append]
      omega
  refine ⟨_, rfl, rfl, _, rfl, ite2 (fun c => ?_) (fun c3 => ?_)⟩
  · have q1 := cl none (some (at_ : Int))
    have q2 := cl (some ((at_ : Int) + 1)) none
    refine ret_read (op_read ⟨_, rfl, _, rfl, _, rfl, x, rfl, big_line (by omega), _, rfl, _, rfl, _, _, rfl, rfl, _, rfl, x, rfl, big_line (by omega), _, _, rfl, rfl, big_line (by omega), ?_⟩)
    refine fin _ _ rf (plain_app (cp _ _) (cp _ _)) ?_
    rw [Str.length_append]
    omega
  refine ⟨fun τ G => ∃ (l' : Addr) (ls' : List Str), τ = [some (.ref pl), some (.str x), some (.int wy), some (.int (at_ : Int)), some (.ref l'), some (.int (one : Int)), some (.int (two : Int)), none] ∧ Stp pl H5 G ∧ G l' = some (.lst (ls'.map V.str)) ∧ PlAll ls' ∧ wt ls' ≤ 2 * x.length + 2 ∧ (wy ≠ 5 → wt ls' ≤ x.length + 1), ?_, ?_⟩
  · refine ⟨_, rfl, rfl, _, rfl, ite2 (fun c => ?_) (fun c4 => ?_)⟩
    · refine asg_read (op_read (op_read ⟨_, rfl, _, rfl, _, rfl, l, _, rfl, SqL.of e5, fun a1 n1 => ?_⟩))
      rw [cut_to]
      have i1 := same_lay (o := .lst ((ls.take one).map V.str)) n1
      have ht : two < ls.length := by omega
      refine lst_read (cons_read ⟨_, rfl, _, rfl, l, _, _, .str ls[two], rfl, rfl, SqL.of (i1 _ _ e5), atI_nat (by rw [List.getElem?_map, List.getElem?_eq_getElem ht]; rfl), nil_read ⟨by show 1 ≤ sizeLine; decide, fun a2 n2 => ?_⟩⟩)
      have i2 := same_lay (o := .lst [V.str ls[two]]) n2
      refine ⟨a1, a2, _, _, rfl, rfl, i2 _ _ upd_same, upd_same, ?_, fun a3 n3 => ?_⟩
      · rw [List.length_map, List.length_take, sizeLine_eq]
        show _ + 1 ≤ _
        omega
      have i3 := same_lay (o := .lst ((ls.take one).map V.str ++ [V.str ls[two]])) n3
      refine ⟨_, rfl, _, rfl, _, rfl, l, _, rfl, SqL.of (i3 _ _ (i2 _ _ (i1 _ _ e5))), fun a4 n4 => ?_⟩
      rw [cut_from]
      have i4 := same_lay (o := .lst ((ls.drop one).map V.str)) n4
      refine ⟨a3, a4, _, _, rfl, rfl, i4 _ _ upd_same, upd_same, ?_, fun a5 n5 => ?_⟩
      · rw [List.length_append, List.length_map, List.length_map, List.length_take, List.length_drop, sizeLine_eq]
        show _ + 1 + _ ≤ _
        omega
      have i5 := same_lay (o := .lst ((ls.take one).map V.str ++ [V.str ls[two]] ++ (ls.drop one).map V.str)) n5
      have w1 := wt_td ls one
      have w2 := wt_mem (List.getElem_mem ht)
      refine ⟨a5, ls.take one ++ [ls[two]] ++ ls.drop one, rfl, Stp.of ST.1 (i1.trans (i2.trans (i3.trans (i4.trans i5)))), by rw [upd_same, List.map_append, List.map_append]; rfl, ((pp.take _).app (PlAll.one (pp _ (List.getElem_mem ht)))).app (pp.drop _), ?_, fun z => ?_⟩
      · rw [wt_app, wt_app, wt_one]
        omega
      · have c' := of_decide_eq_true c
        injection c' with c'
        exact absurd c' z
    · exact ⟨l, ls, rfl, rf, e5, pp, by omega, fun _ => hw⟩
  rintro τ G ⟨l', ls', rfl, SG, eG, pG, wG, vG⟩
  have lG : ls'.length ≤ 2002 := by unfold wt at wG; omega
  refine ⟨fun τ G' => ∃ (l' : Addr) (ls' : List Str), τ = [some (.ref pl), some (.str x), some (.int wy), some (.int (at_ : Int)), some (.ref l'), some (.int (one : Int)), some (.int (two : Int)), none] ∧ Stp pl H5 G' ∧ G' l' = some (.lst (ls'.map V.str)) ∧ PlAll ls' ∧ wt ls' ≤ 2 * x.length + 2 ∧ (wy = 7 → wt ls' ≤ x.length + 1), ?_, ?_⟩
  · refine ⟨_, rfl, rfl, _, rfl, ite2 (fun c => ?_) (fun c4 => ?_)⟩
    · refine asg_read (op_read ⟨_, rfl, _, rfl, _, rfl, l', _, rfl, SqL.of eG, fun a1 n1 => ?_⟩)
      rw [cut_to]
      have i1 := same_lay (o := .lst ((ls'.take one).map V.str)) n1
      refine ⟨_, rfl, _, rfl, _, _, rfl, rfl, _, rfl, l', _, rfl, SqL.of (i1 _ _ eG), fun a4 n4 => ?_⟩
      rw [show ((one : Int) + 1) = ((one + 1 : Nat) : Int) from by omega, cut_from]
      have i4 := same_lay (o := .lst ((ls'.drop (one + 1)).map V.str)) n4
      refine ⟨a1, a4, _, _, rfl, rfl, i4 _ _ upd_same, upd_same, ?_, fun a5 n5 => ?_⟩
      · rw [List.length_map, List.length_map, List.length_take, List.length_drop, sizeLine_eq]
        omega
      have i5 := same_lay (o := .lst ((ls'.take one).map V.str ++ (ls'.drop (one + 1)).map V.str)) n5
      have w1 := wt_td ls' one
      have w2 := wt_drop1 ls' one
      have w3 : wt (ls'.take one ++ ls'.drop (one + 1)) ≤ wt ls' := by rw [wt_app]; omega
      refine ⟨a5, ls'.take one ++ ls'.drop (one + 1), rfl, SG.trans (Stp.of SG.1 (i1.trans (i4.trans i5))), by rw [upd_same, List.map_append], (pG.take _).app (pG.drop _), by omega, fun z => ?_⟩
      have := vG (by omega)
      omega
    · exact ⟨l', ls', rfl, SG, eG, pG, wG, fun z => vG (by omega)⟩
  clear lG vG wG pG eG SG
  rintro τ G ⟨l', ls', rfl, SG, eG, pG, wG, vG⟩
  have lG : ls'.length ≤ 2002 := by unfold wt at wG; omega
  refine ⟨fun τ G' => ∃ (l' : Addr) (ls' : List Str) (x7 : Option V), τ = [some (.ref pl), some (.str x), some (.int wy), some (.int (at_ : Int)), some (.ref l'), some (.int (one : Int)), some (.int (two : Int)), x7] ∧ Stp pl H5 G' ∧ G' l' = some (.lst (ls'.map V.str)) ∧ PlAll ls' ∧ wt ls' ≤ 2 * x.length + 20, ?_, ?_⟩
  · refine ⟨_, rfl, rfl, _, rfl, ite2 (fun c => ?_) (fun c4 => ?_)⟩
    · refine seq_asg (lst_read (cons_read (c_read (cons_read (c_read (cons_read (c_read (cons_read (c_read (cons_read (c_read (cons_read (c_read (cons_read (c_read (nil_read ⟨by show 7 ≤ sizeLine; decide, fun a0 n0 => ?_⟩))))))))))))))))
      have i0 := same_lay (o := .lst (someT.map V.str)) n0
      have g0 : (upd G a0 (.lst (someT.map V.str))) a0 = some (.lst (someT.map V.str)) := upd_same
      have SG0 : Stp pl G (upd G a0 (.lst (someT.map V.str))) := Stp.of SG.1 i0
      have eG0 := i0 _ _ eG
      show tAsg _ _ _ _ (upd G a0 (.lst (someT.map V.str)))
      generalize upd G a0 (.lst (someT.map V.str)) = G0 at g0 SG0 eG0 ⊢
      refine asg_read (op_read (op_read ⟨_, rfl, _, rfl, _, rfl, l', _, rfl, SqL.of eG0, fun a1 n1 => ?_⟩))
      rw [cut_to]
      have i1 := same_lay (o := .lst ((ls'.take one).map V.str)) n1
      have SG1 : Stp pl G0 (upd G0 a1 (.lst ((ls'.take one).map V.str))) := Stp.of SG0.1 i1
      have g1 : (upd G0 a1 (.lst ((ls'.take one).map V.str))) a1 = some (.lst ((ls'.take one).map V.str)) := upd_same
      have np : ∀ {a : Addr} {o : HO} {F : Hp}, PoolAt F pl → F a = none → a ≠ pl := fun {a o F} hq hn z => by
        obtain ⟨_, _, _, e, _⟩ := hq
        rw [z, e] at hn
        cases hn
      have na1 := np (o := .lst []) SG0.1 n1
      have na0 := np (o := .lst []) SG.1 n0
      have eG1 := i1 _ _ eG0
      have g01 := i1 _ _ g0
      generalize upd G0 a1 (.lst ((ls'.take one).map V.str)) = G1 at SG1 g1 eG1 g01 ⊢
      have nl' : l' ≠ pl := fun z => by
        obtain ⟨_, _, _, e, _⟩ := SG1.1
        rw [z, e] at eG1
        injection eG1 with eG1
        injection eG1 with eG1
        cases ls' with
        | nil => cases eG1
        | cons q r => injection eG1 with h1 _; cases h1
      refine lst_read (cons_read ⟨_, rfl, ?_⟩)
      refine draw_c (p := pl) rfl SG1.1 (by decide) (by decide) fun G2 r S2 r0 r1 => ?_
      obtain ⟨j, rfl⟩ : ∃ k0 : Nat, r = (k0 : Int) := ⟨r.toNat, by omega⟩
      have hj : j < someT.length := by show j < 7; omega
      obtain ⟨z1, z2⟩ := some_ok _ (List.getElem_mem hj)
      refine ⟨a0, _, _, .str someT[j], rfl, rfl, SqL.of (S2.2 _ _ na0 g01), atI_nat (by rw [List.getElem?_map, List.getElem?_eq_getElem hj]; rfl), nil_read ⟨by show 1 ≤ sizeLine; decide, fun a2 n2 => ?_⟩⟩
      have i2 := same_lay (o := .lst [V.str someT[j]]) n2
      refine ⟨a1, a2, _, _, rfl, rfl, i2 _ _ (S2.2 _ _ na1 g1), upd_same, ?_, fun a3 n3 => ?_⟩
      · rw [List.length_map, List.length_take, sizeLine_eq]
        show _ + 1 ≤ _
        omega
      have i3 := same_lay (o := .lst ((ls'.take one).map V.str ++ [V.str someT[j]])) n3
      refine ⟨_, rfl, _, rfl, _, _, rfl, rfl, _, rfl, l', _, rfl, SqL.of (i3 _ _ (i2 _ _ (S2.2 _ _ nl' eG1))), fun a4 n4 => ?_⟩
      rw [show ((one : Int) + 1) = ((one + 1 : Nat) : Int) from by omega, cut_from]
      have i4 := same_lay (o := .lst ((ls'.drop (one + 1)).map V.str)) n4
      refine ⟨a3, a4, _, _, rfl, rfl, i4 _ _ upd_same, upd_same, ?_, fun a5 n5 => ?_⟩
      · rw [List.length_append, List.length_map, List.length_map, List.length_take, List.length_drop, sizeLine_eq]
        show _ + 1 + _ ≤ _
        omega
      have i5 := same_lay (o := .lst ((ls'.take one).map V.str ++ [V.str someT[j]] ++ (ls'.drop (one + 1)).map V.str)) n5
      have w1 := wt_td ls' one
      have w2 := wt_drop1 ls' one
      have c' := of_decide_eq_true c
      injection c' with c'
      have w3 := vG c'
      refine ⟨a5, ls'.take one ++ [someT[j]] ++ ls'.drop (one + 1), _, rfl, SG.trans (SG0.trans (SG1.trans (S2.trans (Stp.of S2.1 (i2.trans (i3.trans (i4.trans i5))))))), by rw [upd_same, List.map_append, List.map_append]; rfl, ((pG.take _).app (PlAll.one z2)).app (pG.drop _), ?_⟩
      rw [wt_app, wt_app, wt_one]
      omega
    · exact ⟨l', ls', _, rfl, SG, eG, pG, by omega⟩
  clear lG vG wG pG eG SG
  rintro τ G ⟨l', ls', x7, rfl, SG, eG, pG, wG⟩
  have wj := wt_join ls'
  refine ret_read ⟨⟨_, rfl⟩, _, rfl, _, l', ls', rfl, rfl, .inl (SqL.of eG), ?_, ?_⟩
  · have e : (Str.ofString "\n").length = 1 := by decide +kernel
    rw [e]
    unfold wt at wG
    omega
  · rw [TL.join_eq]
    exact fin G _ SG (plain_join (by unfold Plain; decide +kernel) _ pG) (Nat.le_trans wj wG)
end
end K4

set_option Elab.async false
set_option linter.all false
set_option maxRecDepth 100000
set_option maxHeartbeats 4000000
namespace K3
open PySem PySem.Spec PyProof.Rows L2 G1 G2 G3 K2 LamX
/-! ### what stays while the pool is drawn from, and while tables grow -/
def Wk (p : Addr) (H H' : Hp) : Prop := PoolAt H' p ∧ ∀ b o, b ≠ p → (∀ ps, o ≠ .tbl ps) → H b = some o → H' b = some o
theorem Wk.refl {p : Addr} {H : Hp} (h : PoolAt H p) : Wk p H H := ⟨h, fun _ _ _ _ e => e⟩
theorem Wk.trans {p : Addr} {H H1 H2 : Hp} (a : Wk p H H1) (b : Wk p H1 H2) : Wk p H H2 := ⟨b.1, fun c o n t e => b.2 c o n t (a.2 c o n t e)⟩
theorem Wk.stp {p : Addr} {H H' : Hp} (s : Stp p H H') : Wk p H H' := ⟨s.1, fun b o n _ e => s.2 b o n e⟩
theorem Wk.ext {p : Addr} {H H' : Hp} (hp : PoolAt H p) (s : ExtN H H') : Wk p H H' := by
  obtain ⟨i, j, n, e, h0, h1⟩ := hp
  exact ⟨⟨i, j, n, s _ _ e (fun ps z => by cases z), h0, h1⟩, fun b o _ t e => s b o e t⟩
theorem Wk.same {p : Addr} {H H' : Hp} (hp : PoolAt H p) (s : Same H H') : Wk p H H' := Wk.ext hp (ExtN.of s)
theorem Wk.tup {K : PySem.W.Frag} {p a : Addr} {H H' : Hp} {xs : List V} (s : Wk p H H') (hp : PoolAt H p) (h : SqT K H a xs) : SqT K H' a xs := by
  obtain ⟨i, j, n, e, _⟩ := hp
  rcases h with (h | ⟨o, h⟩) | h
  · exact .inl (.inl (s.2 _ _ (ne_of h e (by intro z; cases z)) (fun ps z => by cases z) h))
  · exact .inl (.inr ⟨o, s.2 _ _ (ne_of h e (by intro z; cases z)) (fun ps z => by cases z) h⟩)
  · exact .inr h
/-- a list stays a list; one that is not the pool stays as it is -/
theorem Wk.lst {K : PySem.W.Frag} {p a : Addr} {H H' : Hp} {xs : List V} (s : Wk p H H') (hp : PoolAt H p) (h : SqL K H a xs) : ∃ ys, SqL K H' a ys := by
  obtain ⟨i, j, n, e, _⟩ := hp
  obtain ⟨i', j', n', e', _⟩ := s.1
  by_cases c : a = p
  · subst c
    exact ⟨_, SqL.of e'⟩
  rcases h with (h | ⟨o, h⟩) | h
  · exact ⟨_, .inl (.inl (s.2 _ _ c (fun ps z => by cases z) h))⟩
  · exact ⟨_, .inl (.inr ⟨o, s.2 _ _ c (fun ps z => by cases z) h⟩)⟩
  · exact ⟨_, .inr h⟩
theorem Wk.lstE {K : PySem.W.Frag} {p a : Addr} {H H' : Hp} {xs : List V} (s : Wk p H H') (hp : PoolAt H p) (c : xs.length ≠ 3) (h : SqL K H a xs) : SqL K H' a xs := by
  obtain ⟨i, j, n, e, _⟩ := hp
  rcases h with (h | ⟨o, h⟩) | h
  · refine .inl (.inl (s.2 _ _ (fun z => ?_) (fun ps z => by cases z) h))
    rw [z, e] at h
    cases h
    exact c rfl
  · refine .inl (.inr ⟨o, s.2 _ _ (fun z => ?_) (fun ps z => by cases z) h⟩)
    rw [z, e] at h
    cases h
  · exact .inr h
theorem Wk.dct {p a : Addr} {H H' : Hp} {kvs : List (Key × V)} (s : Wk p H H') (hp : PoolAt H p) (h : H a = some (.dK kvs)) : H' a = some (.dK kvs) := by
  obtain ⟨i, j, n, e, _⟩ := hp
  exact s.2 _ _ (ne_of h e (by intro z; cases z)) (fun ps z => by cases z) h
section
variable {K : PySem.W.Frag} {p : Addr} {H H' : Hp} {v : V}
theorem NonT.wk (h : NonT K H v) (s : Wk p H H') (hp : PoolAt H p) : NonT K H' v := by
  cases h with
  | non => exact .non
  | bl b => exact .bl b
  | int i => exact .int i
  | str x => exact .str x
  | lst h => exact .lst (s.lst hp h).choose_spec
  | dct h => exact .dct (s.dct hp h)
theorem Kd.wk (h : Kd K H v) (s : Wk p H H') (hp : PoolAt H p) : Kd K H' v := by
  cases h with
  | nt h => exact .nt (h.wk s hp)
  | tup h => exact .tup (s.tup hp h)
theorem ElV.wk {e : Option RowD} (h : ElV K H v e) (s : Wk p H H') (hp : PoolAt H p) : ElV K H' v e := by
  cases h with
  | pair h1 h2 h3 => exact .pair (s.tup hp h1) (h2.wk s hp) (h3.wk s hp)
  | len h1 h2 => exact .len (s.tup hp h1) h2
  | oth h => exact .oth (h.wk s hp)
theorem RwV.wk {d : Option (List (Option RowD))} (h : RwV K H v d) (s : Wk p H H') (hp : PoolAt H p) : RwV K H' v d := by
  cases h with
  | oth h => exact .oth (h.wk s hp)
  | nil h => exact .nil (s.tup hp h)
  | tup h n q => exact .tup (s.tup hp h) n (Paired.mapP q fun _ _ z => z.wk s hp)
end
/-! ### displays whose items have a property -/
def GvE (Pr : Hp → V → Prop) (H0 : Hp) (σ : L2.St) (te : TE) : Prop := ∀ (H : Hp) (Q : VK), Same H0 H → (∀ H' v, Same H H' → Pr H' v → Q v H') → te σ H Q
def GvA (Pr : Hp → V → Prop) (H0 : Hp) (σ : L2.St) (ta : TA) (n : Nat) : Prop := ∀ (H : Hp) (Q : List V → Hp → Prop), Same H0 H → (∀ H' vs, Same H H' → vs.length = n → (∀ v ∈ vs, Pr H' v) → Q vs H') → ta σ H Q
def Stay (Pr : Hp → V → Prop) : Prop := ∀ H H' v, Same H H' → Pr H v → Pr H' v
section
variable {Pr : Hp → V → Prop} {H0 : Hp} {σ : L2.St} {K : PySem.W.Frag}
theorem gv_nil : GvA Pr H0 σ tNil 0 := fun H Q _ k => k H [] (Same.refl H) rfl (fun v hv => by cases hv)
theorem gv_cons (st : Stay Pr) {te : TE} {ta : TA} {n : Nat} (h1 : GvE Pr H0 σ te) (h2 : GvA Pr H0 σ ta n) : GvA Pr H0 σ (tCons te ta) (n + 1) := fun H Q s k =>
  h1 H _ s fun H1 v s1 p1 => h2 H1 _ (s.trans s1) fun H2 vs s2 l2 p2 => k H2 (v :: vs) (s1.trans s2) (by rw [List.length_cons, l2]) fun x hx => (List.mem_cons.mp hx).elim (fun e => by rw [e]; exact st _ _ _ s2 p1) (p2 x)
theorem gv_c {v : V} (h : ∀ H, Pr H v) : GvE Pr H0 σ (tC v) := fun H Q _ k => k H v (Same.refl H) (h H)
theorem gv_imp {Pr' : Hp → V → Prop} {te : TE} (h : GvE Pr H0 σ te) (hi : ∀ H v, Pr H v → Pr' H v) : GvE Pr' H0 σ te := fun H Q s k => h H Q s fun H' v s' p => k H' v s' (hi _ _ p)
theorem gv_lst {te : TA} {n : Nat} {Pr' : Hp → V → Prop} (hn : n ≤ 1000) (h : GvA Pr H0 σ te n) (hp : ∀ H a xs, H a = some (.lst xs) → xs.length = n → (∀ x ∈ xs, Pr H x) → Pr' H (.ref a)) (st : Stay Pr) : GvE Pr' H0 σ (tLst te) := fun H Q s k =>
  h H _ s fun H1 vs s1 l1 p1 => ⟨by rw [l1, sizeLine_eq]; omega, fun a na => k _ _ (s1.trans (same_lay na)) (hp _ a vs upd_same l1 fun x hx => st _ _ _ (same_lay na) (p1 x hx))⟩
theorem gv_tup {te : TA} {n : Nat} {Pr' : Hp → V → Prop} (hn : n ≤ 1000) (h : GvA Pr H0 σ te n) (hp : ∀ H a xs, H a = some (.tup xs) → xs.length = n → (∀ x ∈ xs, Pr H x) → Pr' H (.ref a)) (st : Stay Pr) : GvE Pr' H0 σ (tTup te) := fun H Q s k =>
  h H _ s fun H1 vs s1 l1 p1 => ⟨by rw [l1, sizeLine_eq]; omega, fun a na => k _ _ (s1.trans (same_lay na)) (hp _ a vs upd_same l1 fun x hx => st _ _ _ (same_lay na) (p1 x hx))⟩
theorem gv_dct {Pr' : Hp → V → Prop} (hp : ∀ H a, H a = some (.dK []) → Pr' H (.ref a)) : GvE Pr' H0 σ tDNewK := fun H Q s k a na => k _ _ (same_lay na) (hp _ a upd_same)
theorem gv_add {i : Nat} {x y : Int} (hs : σ[i]? = some (some (.int x))) (h : ∀ H, Pr H (.int (x + y))) : GvE Pr H0 σ (tOp (rI0 fun i j => .int (i + j)) (tVar i) (tC (.int y))) := fun H Q s k => ⟨_, hs, _, _, rfl, rfl, k H _ (Same.refl H) (h H)⟩
theorem gv_sub {i : Nat} {x y : Int} (hs : σ[i]? = some (some (.int x))) (h : ∀ H, Pr H (.int (x - y))) : GvE Pr H0 σ (tOp (rI0 fun i j => .int (i - j)) (tVar i) (tC (.int y))) := fun H Q s k => ⟨_, hs, _, _, rfl, rfl, k H _ (Same.refl H) (h H)⟩
theorem gv_var {i : Nat} {v : V} (hs : σ[i]? = some (some v)) (h : ∀ H, Same H0 H → Pr H v) : GvE Pr H0 σ (tVar i) := fun H Q s k => ⟨_, hs, k H _ (Same.refl H) (h H s)⟩
theorem gv_pow (h : ∀ H, Pr H (.int (10 ^ 30))) : GvE Pr H0 σ (tOp (rI CPow fun i j => .int (i ^ j.toNat)) (tC (.int 10)) (tC (.int 30))) := fun H Q s k => ⟨_, _, rfl, rfl, ⟨by decide, by decide, by decide⟩, k H _ (Same.refl H) (h H)⟩
end
/-- a def of the text whose code object is at c -/
structure FunC (K : PySem.W.Frag) (x qual : Str) (st : Stmt) (f c : Addr) (fd : FuncData) : Prop where
  ex : ∃ (oc : Value) (od : Option Addr) (kV doc pm : Value) (an : Option Addr) (ct : Value) (osl : Array (Option Value)),
    fd = PySem.W.fnOf x qual (defArgs st) (defBody st) (defScope st) .none kV doc pm an (.ref c) ct ∧ K.lookup f = some ⟨oc, od, .func fd, osl⟩ ∧ PySem.W.codeIn K (.ref c) qual = true
  kp : PySem.W.keepIn K (.ref f) = true
section
variable {P : Program} {w : World} {K : PySem.W.Frag} {mg : Str → Option Value} {base : Heap}
theorem FunC.fun_ {x qual : Str} {st : Stmt} {f c : Addr} {fd : FuncData} (F : FunC K x qual st f c fd) : Fun K x qual st f fd := by
  obtain ⟨oc, od, kV, doc, pm, an, ct, osl, h⟩ := F.ex
  exact ⟨⟨oc, od, kV, doc, pm, an, .ref c, ct, osl, h⟩, F.kp⟩
/-- from the body to the promise, the code object known -/
theorem okGC {x qual : Str} {st : Stmt} {f c : Addr} {fd : FuncData} {N ps : List Str} {k : Nat} {sp : Sp} (F : FunC K x qual st f c fd) (S : FnScope N ps (defScope st))
    (len : ∀ vs H Q E, sp vs H Q E → vs.length = ps.length)
    (hbody : ∀ (A : Around) (outer : List Env) (s : Shared) (H : Hp) (vs : List V) (Q : VK) (E : XK), A.guards = some [] →
      Room k (A.deeper (envOfC qual (defScope st) s.heap.objs.size f (.ref c))) → sp vs H Q E →
      ∃ t, PSs (cxOf CX0 P w K mg base N qual (defScope st) f (.ref c) A outer s H E).nox (defBody st) t ∧ t { nx := fun _ H' => Q .non H', rt := Q } (start N vs) H) :
    FnG P w K mg base (k + 1) f fd ps sp := by
  obtain ⟨oc, od, kV, doc, pm, an, ct, osl, rfl, lk, hcd⟩ := F.ex
  constructor
  · exact len
  intro A outer s H args us vs Q E hgu room e0 bnd rel want
  refine LamX.run_ofS (CX := CX0) (N := N) lk hcd S room e0 bnd rel (len _ _ _ _ want) fun hr' => ?_
  obtain ⟨t, h1, h2⟩ := hbody A outer s H vs Q E hgu hr' want
  exact ⟨t, h1.nox, h2⟩
end
/-- a maker's table: its code object at c, the table at P0, the lambdas' name q -/
structure TabC (base : Heap) (mg : Str → Option Value) (T : List (Addr × Str)) (c P0 : Addr) (q : Str) : Prop where
  tb : TabB base mg c P0
  mem : (P0, q) ∈ T
  uq : ∀ z ∈ T, z.1 = P0 → z.2 = q
theorem tabs_stp {T : List (Addr × Str)} {pl : Addr} {H H' : Hp} (t : Tabs T H) (s : Stp pl H H') (hp : PoolAt H pl) : Tabs T H' := fun z hz => by
  obtain ⟨i, j, n, e, _⟩ := hp
  obtain ⟨ps, h1, h2, h3⟩ := t z hz
  have n1 : z.1 ≠ pl := ne_of h1 e (by intro q; cases q)
  refine ⟨ps, s.2 _ _ n1 h1, h2, fun pos cv hc => ?_⟩
  obtain ⟨c, e1, e2⟩ := h3 pos cv hc
  refine ⟨c, e1, s.2 _ _ (fun q => ?_) e2⟩
  rw [q, e] at e2
  unfold CodeO at e2
  cases e2
end K3

set_option Elab.async false
set_option linter.all false
set_option maxRecDepth 100000
set_option maxHeartbeats 4000000
namespace K4
open PySem PySem.Spec PyProof.Rows L2 G1 G2 G3 K2 K3 LamX
/-! ### the things that are read -/
inductive Th (K : PySem.W.Frag) (H : Hp) : V → PyData → Prop
  | non : Th K H .non .none
  | tru : Th K H (.bl true) (.bool true)
  | five : Th K H (.int 5) (.int 5)
  | str (x : Str) : Plain x → x.length ≤ 2001 → Th K H (.str x) (.str x)
  | tup {a : Addr} {x : Str} : SqT K H a [.str x] → Plain x → x.length ≤ 2001 → Th K H (.ref a) (.tuple [.str x])
  | lst {a : Addr} {xs : List Str} : SqL K H a (xs.map V.str) → PlAll xs → wt xs ≤ 2100 → Th K H (.ref a) (.list (xs.map PyData.str))
  | dct {a : Addr} : H a = some (.dK []) → Th K H (.ref a) (.dict [])
theorem extN_tup {K : PySem.W.Frag} {H H' : Hp} {a : Addr} {xs : List V} (s : ExtN H H') (h : SqT K H a xs) : SqT K H' a xs := by
  rcases h with (h | ⟨o, h⟩) | h
  · exact .inl (.inl (s _ _ h (fun ps z => by cases z)))
  · exact .inl (.inr ⟨o, s _ _ h (fun ps z => by cases z)⟩)
  · exact .inr h
theorem extN_lst {K : PySem.W.Frag} {H H' : Hp} {a : Addr} {xs : List V} (s : ExtN H H') (h : SqL K H a xs) : SqL K H' a xs := by
  rcases h with (h | ⟨o, h⟩) | h
  · exact .inl (.inl (s _ _ h (fun ps z => by cases z)))
  · exact .inl (.inr ⟨o, s _ _ h (fun ps z => by cases z)⟩)
  · exact .inr h
section
variable {K : PySem.W.Frag} {H H' : Hp} {v : V} {d : PyData}
theorem Th.ext (h : Th K H v d) (s : ExtN H H') : Th K H' v d := by
  cases h with
  | non => exact .non
  | tru => exact .tru
  | five => exact .five
  | str x h1 h2 => exact .str x h1 h2
  | tup h h1 h2 => exact .tup (extN_tup s h) h1 h2
  | lst h h1 h2 => exact .lst (extN_lst s h) h1 h2
  | dct h => exact .dct (s _ _ h (fun ps z => by cases z))
theorem Th.same (h : Th K H v d) (s : Same H H') : Th K H' v d := h.ext (ExtN.of s)
theorem Th.kd (h : Th K H v d) : Kd K H v := by
  cases h with
  | non => exact .nt .non
  | tru => exact .nt (.bl _)
  | five => exact .nt (.int _)
  | str x h1 h2 => exact .nt (.str _)
  | tup h h1 h2 => exact .tup h
  | lst h h1 h2 => exact .nt (.lst h)
  | dct h => exact .nt (.dct h)
theorem strs_dp : ∀ xs : List Str, DpAll K H (xs.map V.str) (xs.map PyData.str)
  | [] => .nil
  | x :: xs => .cons (.str x) (strs_dp xs)
theorem strs_fine : ∀ xs : List Str, PlAll xs → PyData.showableAll (xs.map PyData.str) = true ∧ PyData.leavesShortAll 1921 (xs.map PyData.str) = true ∧ PyData.weightAll (xs.map PyData.str) ≤ 3 * wt xs ∧ PyData.depthAll (xs.map PyData.str) ≤ 1 ∧ PyData.canLayAll0 (xs.map PyData.str) = true ∧ PyData.eqvAll (xs.map PyData.str) (xs.map PyData.str) = true ∧ PyData.hasDictAll (xs.map PyData.str) = false
  | [], _ => by simp [PyData.showableAll, PyData.leavesShortAll, PyData.weightAll, PyData.depthAll, PyData.canLayAll0, PyData.eqvAll, PyData.hasDictAll]
  | x :: xs, h => by
    obtain ⟨a1, a2, a3, a4, a5, a6, a7⟩ := strs_fine xs fun z hz => h z (List.mem_cons_of_mem _ hz)
    obtain ⟨s1, s2, s3⟩ := fine_str (h x (List.mem_cons_self ..))
    have hw : wt (x :: xs) = x.length + 1 + wt xs := by
      have := wt_app [x] xs
      rw [wt_one] at this
      exact this
    rw [List.map_cons]
    refine ⟨?_, ?_, ?_, ?_, ?_, ?_, ?_⟩
    · simp only [PyData.showableAll, a1, s1, Bool.and_self]
    · simp only [PyData.leavesShortAll, a2, s2, Bool.and_self]
    · simp only [PyData.weightAll, PyData.weight]
      have hc : x.cps.size = x.length := rfl
      omega
    · simp only [PyData.depthAll, PyData.depth]
      omega
    · simp only [PyData.canLayAll0, a5, s3, Bool.and_self]
    · simp only [PyData.eqvAll, PyData.eqv, a6, beq_self_eq_true, Bool.and_self]
    · simp only [PyData.hasDictAll, PyData.hasDict, a7, Bool.or_self]
theorem gd_by {d : PyData} (h1 : d.showable = true) (h2 : d.leavesShort 1921 = true) (h3 : d.weight ≤ 8000) (h4 : d.depth ≤ 60) : Gd d := by
  refine ⟨h1, ?_, h4⟩
  have z := PyData.shown_le 1921 (by decide) d h2
  rw [sizeLine_eq]
  omega
theorem Th.tg (h : Th K H v d) : Tg K H v d ∧ Gd d := by
  cases h with
  | non => exact ⟨.dp .non (by decide +kernel) (by decide +kernel) (by decide +kernel), gd_by (by decide +kernel) (by decide +kernel) (by decide +kernel) (by decide +kernel)⟩
  | tru => exact ⟨.dp (.bl _) (by decide +kernel) (by decide +kernel) (by decide +kernel), gd_by (by decide +kernel) (by decide +kernel) (by decide +kernel) (by decide +kernel)⟩
  | five => exact ⟨.dp (.int _) (by decide +kernel) (by decide +kernel) (by decide +kernel), gd_by (by decide +kernel) (by decide +kernel) (by decide +kernel) (by decide +kernel)⟩
  | str x h1 h2 =>
    obtain ⟨s1, s2, s3⟩ := fine_str h1
    refine ⟨.dp (.str x) (by unfold SeqAt.shaped; rw [s3]; simp [PyData.depth]) (by simp [PyData.eqv]) (by simp [PyData.hasDict]), gd_by s1 s2 ?_ (by simp [PyData.depth])⟩
    have e : (PyData.str x).weight = x.length := by simp only [PyData.weight]; rfl
    omega
  | @tup a x h h1 h2 =>
    obtain ⟨a1, a2, a3, a4, a5, a6, a7⟩ := strs_fine [x] (PlAll.one h1)
    have hw := wt_one x
    refine ⟨.dp (.tup h (.cons (.str x) .nil)) ?_ ?_ ?_, gd_by ?_ ?_ ?_ ?_⟩
    · unfold SeqAt.shaped
      simp only [PyData.canLay0, PyData.depth]
      rw [show PyData.canLayAll0 [.str x] = true from a5]
      have : PyData.depthAll [PyData.str x] ≤ 1 := a4
      simp
      omega
    · rw [PyData.eqv]; exact a6
    · rw [PyData.hasDict]; exact a7
    · rw [PyData.showable]; exact a1
    · rw [PyData.leavesShort]; exact a2
    · rw [PyData.weight]
      have : PyData.weightAll [PyData.str x] ≤ 3 * wt [x] := a3
      omega
    · rw [PyData.depth]
      have : PyData.depthAll [PyData.str x] ≤ 1 := a4
      omega
  | @lst a xs h h1 h2 =>
    obtain ⟨a1, a2, a3, a4, a5, a6, a7⟩ := strs_fine xs h1
    refine ⟨.dp (.lst h (strs_dp xs)) ?_ ?_ ?_, gd_by ?_ ?_ ?_ ?_⟩
    · unfold SeqAt.shaped
      simp only [PyData.canLay0, PyData.depth]
      rw [a5]
      simp
      omega
    · rw [PyData.eqv]; exact a6
    · rw [PyData.hasDict]; exact a7
    · rw [PyData.showable]; exact a1
    · rw [PyData.leavesShort]; exact a2
    · rw [PyData.weight]
      omega
    · rw [PyData.depth]
      omega
  | dct h => exact ⟨.d0 h, gd_by (by decide +kernel) (by decide +kernel) (by decide +kernel) (by decide +kernel)⟩
/-- the text that repr makes of a thing is plain -/
theorem strs_shown : ∀ xs : List Str, PlAll xs → ∀ t ∈ PyData.shownAll (xs.map PyData.str), Plain t
  | [], _, t, h => by simp [PyData.shownAll] at h
  | x :: xs, h, t, ht => by
    rw [List.map_cons, PyData.shownAll] at ht
    rcases List.mem_cons.mp ht with rfl | ht
    · rw [PyData.shown]
      exact plain_repr (h x (List.mem_cons_self ..))
    · exact strs_shown xs (fun z hz => h z (List.mem_cons_of_mem _ hz)) t ht
theorem Th.pl (h : Th K H v d) : Plain d.shown := by
  cases h with
  | non => unfold Plain; decide +kernel
  | tru => unfold Plain; decide +kernel
  | five => unfold Plain; decide +kernel
  | str x h1 h2 => rw [PyData.shown]; exact plain_repr h1
  | @tup a x h h1 h2 => rw [PyData.shown]; exact plain_tup (strs_shown [x] (PlAll.one h1))
  | @lst a xs h h1 h2 => rw [PyData.shown]; exact plain_list (strs_shown xs h1)
  | dct h => unfold Plain; decide +kernel
end
theorem bRepr : bootBuiltins "repr" = some (.builtin "repr") := by decide +kernel
/-! ### caught -/
abbrev sCau4 : Stmt := topS 52
abbrev NCau4 : List Str := ["_law_act", "_law_told", "e"]
theorem scCau4 : FnScope NCau4 ["_law_act"] (defScope sCau4) := ⟨rfl, rfl, rfl, by decide +kernel, rfl, by decide +kernel, by decide +kernel⟩
def CauE (K : PySem.W.Frag) (xT : Addr) (Q : VK) : XK := fun cls d H' => ∃ (dd : Addr) (v : V) (dt : PyData), cls = .ref xT ∧ d = some dd ∧ H' dd = some (.xd [("given", v)]) ∧ Th K H' v dt ∧ ∀ q, H' q = none → Q (.ref q) (upd H' q (.lst [.str "text", .str dt.shown]))
def CauQ (K : PySem.W.Frag) (C : Addr) (Q : VK) : VK := fun v H' => ∃ (x : Addr) (b p n : Nat) (ini : List RowD) (y : Str), v = .ref x ∧ DrvAt K C H' x b p n ini y ∧ ∀ q, H' q = none → Q (.ref q) (upd H' q (.lst [.str "made", .str (textM (b : Int) (p : Int) (n : Int) ini y)]))
def TCau4 (K : PySem.W.Frag) (C xT : Addr) : (XK → Hp → VK → Prop) → Hp → VK → Prop := fun tl H Q => ∀ (E' : XK) (Q' : VK), (∀ cls d H', CauE K xT Q cls d H' → E' cls d H') → (∀ v H', CauQ K C Q v H' → Q' v H') → tl E' H Q'
structure StrC4 (P : Program) (w : World) (K : PySem.W.Frag) (mg : Str → Option Value) (base : Heap) (C : Addr) : Prop where
  ex : ∃ g : Addr, PySem.W.findIn K (.ref C) "__str__" = some (some (.ref g)) ∧ PySem.W.isFn K (.ref g) = true ∧ FnR P w K mg base CX0 1 g (spStrD C)
theorem str_read4 {K : PySem.W.Frag} {C : Addr} {H : Hp} {Q : VK} {E : XK} {x : Addr} {b p n : Nat} {ini : List RowD} {y : Str} (hx : DrvAt K C H x b p n ini y) (k : Q (.str (textM (b : Int) (p : Int) (n : Int) ini y)) H) : rStrO C (spStrD C) E [.ref x] H Q := by
  obtain ⟨dx, t, e, _⟩ := hx
  exact ⟨x, dx, _, rfl, e, x, dx, _, _, rfl, e, rfl, _, rfl, k⟩
section
variable {X : Cx} {g C xT : Addr} {cdg : Value} {q : Str}
theorem caught4 (B : Bl X.mg) (hgu : X.A.guards = some []) (hr : Room 5 X.A) (Z : XCls X.prog X.w X.K X.mg X.base "InvalidText" "given" xT) (Em : PySem.W.exmOne X.K (.ref xT) (.ref xT) = some true) (St : StrC4 X.prog X.w X.K X.mg X.base C) :
    GivesW X NCau4 "_law_caught" (defScope sCau4) g cdg (defBody sCau4) "_law_act" q (TCau4 X.K C xT) := by
  intro f c' s H Q tl act hc want
  obtain ⟨gs, S1, S2, S3⟩ := St.ex
  have hrd : Room 4 (X.A.deeper (envOfC "_law_caught" (defScope sCau4) s.heap.objs.size g cdg)) := hr.deeper _
  have hr3 : Room 3 (X.A.deeper (envOfC "_law_caught" (defScope sCau4) s.heap.objs.size g cdg)) := hrd.mono (by decide)
  refine ⟨_, pss_cons (ps_try_manyA (Y := (cxOf C8.CX0 X.prog X.w X.K X.mg X.base NCau4 "_law_caught" (defScope sCau4) g cdg X.A X.stack s H C8.E0).nox) (i := 2) (Wo := fun _ _ _ _ => False)
      (tb := fun W => tAsg (tLst (tCons (tC (.str "made")) (tCons (tCB (rStrO C (spStrD C) E0) (tCons (fun τ G Q => τ[0]? = some (some (.ref f)) ∧ G c' = some (CodeO c' q) ∧ tl (WE W τ) G Q) tNil)) tNil))) (gName 1))
      rfl rfl scCau4.nd rfl rfl LamX.takes0 (fun W pn xe tk _ => ?_)
      (.cons (c := .ref xT) (ts := fun ea cls d => tAsg (tLst (tCons (tC (.str "text")) (tCons (tCB (rRepr X.K) (tCons (tXf ea cls d xT "given" (tVar 2)) tNil)) tNil))) (gName 1)) ⟨rfl, by decide, .inl Z.g⟩ (fun ea eo cls d pn hz hf => pss_one (ps_set (i := 1) scCau4.nd rfl (.inl rfl) (pe_lst (pa_cons pe_str (pa_cons (pe_callB (call_repr hgu hr3.units) (by rfl) B.repr bRepr (pa_cons (pe_xf Z.xf Z.no hz hf (pv 2)) pa_nil)) pa_nil))))) .nil)) (pss_one (ps_ret (pv 1))), ?_⟩
  · have hcs : CallR ((cxOf C8.CX0 X.prog X.w X.K X.mg X.base NCau4 "_law_caught" (defScope sCau4) g cdg X.A X.stack s H C8.E0).tr pn xe) (.type "str") (rStrO C (spStrD C) E0) := call_strO S1 S2 S3 hr3 pass0
    exact pss_one (ps_set (i := 1) scCau4.nd rfl (.inl rfl) (pe_lst (pa_cons pe_str (pa_cons (pe_callTy hcs (by rfl) B.str bStr (pa_cons (act W pn xe _ _ tk) pa_nil)) pa_nil))))
  · refine ⟨rfl, hc, want _ _ (fun cls d H' hE => ?_) (fun v H' hQ => ?_)⟩
    · obtain ⟨dd, v, dt, rfl, rfl, hdd, nm, k⟩ := hE
      refine ⟨true, Em, fun _ ea _ => ?_, fun z => by cases z⟩
      refine ⟨_, rfl, rfl, rfl, dd, _, v, rfl, hdd, by simp [List.lookup], v, dt, rfl, nm.tg.1, nm.tg.2, by show 2 ≤ sizeLine; decide, fun q nq => ?_⟩
      exact ⟨_, rfl, k q nq⟩
    · obtain ⟨x, b, p, n, ini, y, rfl, hx, k⟩ := hQ
      refine str_read4 hx ⟨by show 2 ≤ sizeLine; decide, fun q nq => ?_⟩
      exact ⟨_, rfl, k q nq⟩
end
/-- caught, as a lambda's caller -/
structure CauL (P : Program) (w : World) (K : PySem.W.Frag) (mg : Str → Option Value) (base : Heap) (C xT : Addr) : Prop where
  caught : ∃ (g : Addr) (fd : FuncData), Fun K "_law_caught" "_law_caught" sCau4 g fd ∧ Binds K fd ["_law_act"] [] ∧ mg "_law_caught" = some (.ref g)
  B : Bl mg
  Z : XCls P w K mg base "InvalidText" "given" xT
  Em : PySem.W.exmOne K (.ref xT) (.ref xT) = some true
  St : StrC4 P w K mg base C
section
variable {X : Cx} {C xT : Addr}
theorem pe_cau4 {T : List (Addr × Str)} {c P0 : Addr} {params : Arguments} {body : Expr} {scope : Scope} {t : XK → TE} {p lpos pos : Pos} (L : CauL X.prog X.w X.K X.mg X.base C xT) (hgu : X.A.guards = some []) (hr : Room 9 X.A)
    (TC : TabC X.base X.mg T c P0 (X.env.qual ++ "<lambda>")) (hcode : X.env.code = .ref c) (hg : Gl X "_law_caught") (Ls : LamS X.env.scope scope) (hdef : defaultsOf params X.env = ([], []))
    (hbind : ∀ (q : Str) (cl : List (Str × Addr)) (pm cv ctv : Value), bindArgs (PySem.W.kla_fn "<lambda>" q params body scope cl pm cv ctv) ⟨[], []⟩ = pure [])
    (hbody : ∀ (A : Around) (outer : List Env) (s : Shared) (H : Hp) (E : XK) (f c' : Addr), Room 7 (A.deeper (lamEnv X scope s.heap.objs.size f c')) → PE (lamCx X A outer s H E scope f c') body (t E)) :
    PE X (.Call (.Name "_law_caught" p) [.Lambda params body scope lpos] [] pos) (tLam T (TCau4 X.K C xT) t) := by
  obtain ⟨g2, fd2, F2, b2, m2⟩ := L.caught
  obtain ⟨oc2, od2, kV2, doc2, pm2, an2, cd2, ct2, sl2, e2, lk2, hc2⟩ := F2.ex
  subst e2
  exact pe_lam1 (k := 7) (N1 := NCau4) hg m2 F2.kp lk2 hc2 b2 scCau4 rfl (.inl rfl) (caught4 L.B hgu (hr.mono (by decide)) L.Z L.Em L.St) TC.tb hcode TC.mem TC.uq hr Ls hdef hbind hbody (by decide)
end
end K4

set_option Elab.async false
set_option linter.all false
set_option maxRecDepth 100000
set_option maxHeartbeats 4000000
namespace K4
open PySem PySem.Spec PyProof.Rows L2 G1 G2 G3 K2 K3 LamX ClX
theorem rt_uniq {b p n b' p' n' : Nat} {ini ini' : List RowD} {y y' : Str} (h : Rt b p n ini y) (h' : Rt b' p' n' ini' y') (e : textM (b : Int) (p : Int) (n : Int) ini y = textM (b' : Int) (p' : Int) (n' : Int) ini' y') : b = b' ∧ p = p' ∧ n = n' ∧ ini = ini' ∧ y = y' := by
  have z1 := right_parts h
  have z2 := right_parts h'
  rw [e, z2] at z1
  simp only [Option.some.injEq, Prod.mk.injEq] at z1
  obtain ⟨e1, e2, e3, e4⟩ := z1
  have e5 := congrArg rowsE e4
  rw [rowsE_toA (rows_ok2 h), rowsE_toA (rows_ok2 h')] at e5
  have e6 := some_inj e5
  obtain ⟨e7, e8⟩ := List.append_inj' e6 rfl
  injection e8 with e8
  injection e8 with _ e8
  exact ⟨e1.symm, e2.symm, e3.symm, e7.symm, e8.symm⟩
section
variable {K : PySem.W.Frag} {C xT : Addr} {H : Hp} {Q : VK} {E : XK} {v : V} {d : PyData}
theorem rd_no (h : Th K H v d) (hn : ∀ x, v = .str x → ¬ Right x) (k : Rsd xT "given" v H E) : spRdA K C xT [.ref C, v] H Q E := by
  refine ⟨v, rfl, h.kd, ?_⟩
  cases h with
  | str x h1 h2 => exact .inl ⟨x, rfl, h2, fun b p n ini y e hr => absurd ⟨b, p, n, ini, y, e, hr⟩ (hn x rfl), fun _ => k⟩
  | non => exact .inr ⟨rfl, k⟩
  | tru => exact .inr ⟨rfl, k⟩
  | five => exact .inr ⟨rfl, k⟩
  | tup h h1 h2 => exact .inr ⟨rfl, k⟩
  | lst h h1 h2 => exact .inr ⟨rfl, k⟩
  | dct h => exact .inr ⟨rfl, k⟩
theorem rd_yes {b p n : Nat} {ini : List RowD} {y : Str} (h : Rt b p n ini y) (few : cntM b p n ≤ 2000) (k : Made K C H Q b p n ini y) : spRdA K C xT [.ref C, .str (textM (b : Int) (p : Int) (n : Int) ini y)] H Q E := by
  have hz := h.sz
  have b1 := hz.b1
  have p1 := hz.p1
  have tl := text_len b p n (by omega) (by omega) hz.n25 ini h.ini y h.y
  refine ⟨_, rfl, .nt (.str _), .inl ⟨_, rfl, by omega, fun b' p' n' ini' y' e h' => ?_, fun hn => absurd ⟨b, p, n, ini, y, rfl, h⟩ hn⟩⟩
  obtain ⟨rfl, rfl, rfl, rfl, rfl⟩ := rt_uniq h h' e
  exact ⟨few, k⟩
end
def sdD (b p n : Nat) (rows : List RowD) : PyData := .list [.tuple [.int (b : Int), .int (p : Int), .int (n : Int)], .tuple (rows.map rowD)]
theorem sd_tg {K : PySem.W.Frag} {H : Hp} {b p n : Nat} {ini : List RowD} {y : Str} (h : Rt b p n ini y) {a s t : Addr} (h1 : H a = some (.lst [.ref s, .ref t])) (h2 : SqT K H s [.int (b : Int), .int (p : Int), .int (n : Int)]) (h3 : RowsAt K H t (ini ++ [((p : Int), y)])) :
    Tg K H (.ref a) (sdD b p n (ini ++ [((p : Int), y)])) ∧ Gd (sdD b p n (ini ++ [((p : Int), y)])) := by
  have hz := h.sz
  have b1 := hz.b1
  have p1 := hz.p1
  obtain ⟨r1, r2⟩ := rows_ok (p := p) h.ini h.y
  obtain ⟨d1, d2, d3, d4, d5, d6, d7⟩ := fine_rows p (by omega) _ r1
  obtain ⟨x1, x2, x3⟩ := fine_int b (by omega)
  obtain ⟨y1, y2, y3⟩ := fine_int p (by omega)
  obtain ⟨z1, z2, z3⟩ := fine_int n hz.n25
  have hd : Dp K H (.ref a) (sdD b p n (ini ++ [((p : Int), y)])) := .lst (SqL.of h1) (.cons (.tup h2 (.cons (.int _) (.cons (.int _) (.cons (.int _) .nil)))) (.cons (dp_tab h3) .nil))
  have hc : (sdD b p n (ini ++ [((p : Int), y)])).canLay0 = true := by
    unfold sdD
    simp only [PyData.canLay0, PyData.canLayAll0, d5, Bool.and_self]
  have hdp : (sdD b p n (ini ++ [((p : Int), y)])).depth ≤ 60 := by
    unfold sdD
    simp only [PyData.depth, PyData.depthAll]
    omega
  refine ⟨.dp hd ?_ ?_ ?_, gd_by ?_ ?_ ?_ hdp⟩
  · unfold SeqAt.shaped
    rw [hc, Bool.true_and, decide_eq_true_eq]
    omega
  · unfold sdD
    simp only [PyData.eqv, PyData.eqvAll, d6, beq_self_eq_true, Bool.and_self]
  · unfold sdD
    simp only [PyData.hasDict, PyData.hasDictAll, d7, Bool.or_self]
  · unfold sdD
    simp only [PyData.showable, PyData.showableAll] at x1 y1 z1 d1 ⊢
    simp only [x1, y1, z1, d1, Bool.and_self]
  · unfold sdD
    simp only [PyData.leavesShort, PyData.leavesShortAll] at x2 y2 z2 d2 ⊢
    simp only [x2, y2, z2, d2, Bool.and_self]
  · have t1 : (PyData.tuple [.int (b : Int), .int (p : Int), .int (n : Int)]).weight = PyData.weightAll [.int (b : Int), .int (p : Int), .int (n : Int)] := by rw [PyData.weight]
    have t2 : (PyData.tuple ((ini ++ [((p : Int), y)]).map rowD)).weight = PyData.weightAll ((ini ++ [((p : Int), y)]).map rowD) := by rw [PyData.weight]
    have t3 : PyData.weightAll [.int (b : Int), .int (p : Int), .int (n : Int)] ≤ 100 := by
      simp only [PyData.weightAll]
      omega
    unfold sdD
    rw [PyData.weight]
    simp only [PyData.weightAll]
    omega
/-! ### one thing -/
abbrev sThr : Stmt := topS 53
abbrev NThr : List Str := ["_law_thing", "_law_must", "_law_told", "_law_mine", "_law_seen"]
theorem scThr : FnScope NThr ["_law_thing"] (defScope sThr) := ⟨rfl, rfl, rfl, by decide +kernel, rfl, by decide +kernel, by decide +kernel⟩
abbrev qThr : Str := ("_law_thing_right" : Str) ++ ".<locals>." ++ "<lambda>"
abbrev gAp {α : Type} (us ws : List α) : List α := us ++ ws
theorem kb_rd {K : PySem.W.Frag} {f : Addr} {fd : FuncData} (F : Fun K "read" "Drive.read" sRead f fd) : KBn K fd ["cls", "text"] 1 ["text"] gAp gAp := by
  obtain ⟨oc, od, kV, doc, pm, an, cdv, ct, osl, rfl, lk, hcd⟩ := F.ex
  refine ⟨fun s us ws X l1 l2 => BindsTo.of_eq ?_, fun r1 r2 => r1.append r2⟩
  match us, l1, ws, l2 with
  | [a], _, [b], _ => rfl
structure PrpOk4 (P : Program) (w : World) (K : PySem.W.Frag) (mg : Str → Option Value) (base : Heap) (C : Addr) (nm fld : Str) : Prop where
  ex : ∃ (p g : Addr) (fd : FuncData), PropOf K C nm p g ∧ FnOk P w K mg base CX0 1 g fd ["self"] (getSp C fld) ∧ Binds K fd ["self"] []
/-- what one thing is tried with -/
structure ThC (P : Program) (w : World) (K : PySem.W.Frag) (mg : Str → Option Value) (base : Heap) (C xT : Addr) : Prop where
  T : DCls K C
  gD : mg "Drive" = some (.ref C)
  rd : ∃ (mc : Value) (p g : Addr) (fd : FuncData), CRead K C mc ∧ CMet K C mc "read" p g ∧ FnOk P w K mg base (L2.CX P w) 7 g fd ["cls", "text"] (spRdA K C xT) ∧ Binds K fd ["cls", "text"] [] ∧ Fun K "read" "Drive.read" sRead g fd
  pb : PrpOk4 P w K mg base C "blocks" "kept_blocks"
  pp : PrpOk4 P w K mg base C "pages" "kept_pages"
  pn : PrpOk4 P w K mg base C "names" "kept_names"
  pr : PrpOk4 P w K mg base C "rows" "kept_rows"
  lrd : ∃ (f : Addr) (fd : FuncData), FnOk P w K mg base CX0 2 f fd ["_law_thing"] (spLrd K) ∧ PySem.W.keepIn K (.ref f) = true ∧ Binds K fd ["_law_thing"] [] ∧ mg "_law_read" = some (.ref f)
  sml : ∃ (f : Addr) (fd : FuncData), FnOk P w K mg base CX0 3 f fd ["_law_shape_here"] (spSml K) ∧ PySem.W.keepIn K (.ref f) = true ∧ Binds K fd ["_law_shape_here"] [] ∧ mg "_law_is_small" = some (.ref f)
  txt : ∃ (f : Addr) (fd : FuncData), FnOk P w K mg base CX0 1 f fd ["_law_shape_here", "_law_table_here"] (spLtL K) ∧ PySem.W.keepIn K (.ref f) = true ∧ Binds K fd ["_law_shape_here", "_law_table_here"] [] ∧ mg "_law_text" = some (.ref f)
def spThr (K : PySem.W.Frag) (T : List (Addr × Str)) : Sp := fun vs H Q _ => ∃ (v : V) (d : PyData), vs = [v] ∧ Th K H v d ∧ Tabs T H ∧ ∀ H', ExtN H H' → Tabs T H' → Q (.bl true) H'
theorem two_shaped {a b : Str} (h1 : Plain a) (h2 : Plain b) : SeqAt.shaped (.list [.str a, .str b]) = true := by
  have z1 := (fine_str h1).2.2
  have z2 := (fine_str h2).2.2
  unfold SeqAt.shaped
  simp only [PyData.canLay0, PyData.canLayAll0, PyData.depth, PyData.depthAll] at z1 z2 ⊢
  simp [z1, z2]
theorem ne_two {K : PySem.W.Frag} {H : Hp} {l m : Addr} {a b : Str} {Q : VK} (h1 : Plain a) (h2 : Plain b) (e1 : H l = some (.lst [.str a, .str b])) (e2 : H m = some (.lst [.str a, .str b])) (k : Q (.bl false) H) : rNeD K (.ref l) (.ref m) H Q := by
  refine ⟨_, _, .lst (SqL.of e1) (.cons (.str _) (.cons (.str _) .nil)), .lst (SqL.of e2) (.cons (.str _) (.cons (.str _) .nil)), two_shaped h1 h2, two_shaped h1 h2, ?_⟩
  have z : (!PyData.eqv (.list [.str a, .str b]) (.list [.str a, .str b])) = false := by simp [PyData.eqv, PyData.eqvAll]
  rw [z]
  exact k
theorem eq_two {K : PySem.W.Frag} {H : Hp} {l m : Addr} {a b : Str} {Q : VK} (e1 : H l = some (.lst [.str a, .str b])) (e2 : H m = some (.lst [.str a, .str b])) (k : Q (.bl true) H) : rEqV K (.ref l) (.ref m) H Q :=
  ⟨1, by decide, .inl ⟨l, m, _, _, rfl, rfl, SqL.of e1, SqL.of e2, .cons (.inl ⟨rfl, rfl⟩) (.cons (.inl ⟨rfl, rfl⟩) .nil)⟩, k⟩
theorem lrd_no {K : PySem.W.Frag} {H : Hp} {Q : VK} {E : XK} {v : V} {d : PyData} (h : Th K H v d) (hn : ∀ x, v = .str x → ¬ Right x) (k : ∀ H', Same H H' → Q .non H') : spLrd K [v] H Q E := by
  refine ⟨v, rfl, h.kd, ?_⟩
  cases h with
  | str x h1 h2 => exact .inr ⟨x, rfl, h2, h1, fun _ => k, fun b p n ini y e hr => absurd ⟨b, p, n, ini, y, e, hr⟩ (hn x rfl)⟩
  | non => exact .inl ⟨rfl, k⟩
  | tru => exact .inl ⟨rfl, k⟩
  | five => exact .inl ⟨rfl, k⟩
  | tup h h1 h2 => exact .inl ⟨rfl, k⟩
  | lst h h1 h2 => exact .inl ⟨rfl, k⟩
  | dct h => exact .inl ⟨rfl, k⟩
theorem lrd_yes {K : PySem.W.Frag} {H : Hp} {Q : VK} {E : XK} {b p n : Nat} {ini : List RowD} {y : Str} (h : Rt b p n ini y)
    (k : ∀ (H' : Hp) (q s t : Addr), Same H H' → H' q = some (.lst [.ref s, .ref t]) → H' s = some (.tup [.int (b : Int), .int (p : Int), .int (n : Int)]) → RowsAt K H' t (ini ++ [((p : Int), y)]) → Q (.ref q) H') : spLrd K [.str (textM (b : Int) (p : Int) (n : Int) ini y)] H Q E := by
  have hz := h.sz
  have b1 := hz.b1
  have p1 := hz.p1
  have tl := text_len b p n (by omega) (by omega) hz.n25 ini h.ini y h.y
  refine ⟨_, rfl, .nt (.str _), .inr ⟨_, rfl, by omega, plain_text b p n (by omega) (by omega) hz.n25 ini h.ini y h.y, fun hn => absurd ⟨b, p, n, ini, y, rfl, h⟩ hn, fun b' p' n' ini' y' e h' => ?_⟩⟩
  obtain ⟨rfl, rfl, rfl, rfl, rfl⟩ := rt_uniq h h' e
  exact k
theorem rows_ext {K : PySem.W.Frag} {H H' : Hp} {t : Addr} {rws : List RowD} (h : RowsAt K H t rws) (s : ExtN H H') : RowsAt K H' t rws := by
  obtain ⟨rs, h1, h2⟩ := h
  exact ⟨rs, extN_tup s h1, Paired.mapP h2 fun _ _ z => extN_tup s z⟩
theorem k_text : Plain (Str.ofString "text") := by unfold Plain; decide +kernel
theorem k_made : Plain (Str.ofString "made") := by unfold Plain; decide +kernel
section
variable {P : Program} {w : World} {K : PySem.W.Frag} {mg : Str → Option Value} {base : Heap} {C xT : Addr}
theorem ok_thr {f c P0 : Addr} {fd : FuncData} {T : List (Addr × Str)} (F : FunC K "_law_thing_right" "_law_thing_right" sThr f c fd) (L : CauL P w K mg base C xT) (TC : TabC base mg T c P0 qThr) (R : ThC P w K mg base C xT) :
    FnG P w K mg base 10 f fd ["_law_thing"] (spThr K T) := by
  refine okGC F scThr (fun vs H Q E h => ?_) (fun A outer s' H vs Q E hgu hr h => ?_)
  · obtain ⟨v, d, rfl, _⟩ := h
    rfl
  obtain ⟨v, d, rfl, th, hT, k⟩ := h
  obtain ⟨mc, pR, gR, fR, cr, cm, GR, bR, FR⟩ := R.rd
  have RR : FnR P w K mg base (L2.CX P w) 7 gR (spRdA K C xT) := by have z := GR.raw bR .nil; simpa only [List.append_nil] using z
  obtain ⟨fL, dL, GL, kL, bL, gL⟩ := R.lrd
  obtain ⟨fS, dS, GS, kS, bS, gS⟩ := R.sml
  obtain ⟨fX, dX, GX, kX, bX, gX⟩ := R.txt
  obtain ⟨p1, g1, f1, P1, F1, B1⟩ := R.pb.ex
  obtain ⟨p2, g2, f2, P2, F2, B2⟩ := R.pp.ex
  obtain ⟨p3, g3, f3, P3, F3, B3⟩ := R.pn.ex
  obtain ⟨p4, g4, f4, P4, F4, B4⟩ := R.pr.ex
  have B := L.B
  have gD := R.gD
  have hr9 : Room 9 _ := hr
  have hr7 : Room 7 _ := hr.mono (by decide)
  have hr3 : Room 3 _ := hr.mono (by decide)
  have hr2 : Room 2 _ := hr.mono (by decide)
  have hr1 : Room 1 _ := hr.mono (by decide)
  refine ⟨_, pss_cons (ps_set (i := 1) scThr.nd rfl (.inl rfl) (pe_call GL hr2 (by rfl) gL kL bL .nil pass0 (pa_cons (pv 0) pa_nil)))
    (pss_cons (ps_if (PW.pt (pw_and (pt_cmpR op_notN (pv 1) pe_non (nomark _)) (pw_and1 (pt_not (pt_val (pe_call GS hr3 (by rfl) gS kS bS .nil pass0 (pa_cons (pe_ix ix_list (pv 1) pe_int (fun _ _ => rfl)) pa_nil))))))) (pss_one (ps_ret pe_bl)) pss_nil)
    (pss_cons (ps_set (i := 2) scThr.nd rfl (.inl rfl) (pe_cau4 (t := fun E => tCMeth C (spRdA K C xT) E (tC (.ref C)) (tCons (tVar 0) tNil)) L hgu hr9 TC rfl rfl (lamS_by (show lamSB (defScope sThr) _ = true from by decide +kernel)) rfl (fun _ _ _ _ _ => rfl)
        (fun A outer s H E f c' hr' => pe_cmeth (pe_glob (v := .ref C) (by rfl) gD rfl) cr cm RR hr' (E := E) (L2.passes_call (L2.takes_of rfl rfl rfl rfl) (fun _ _ _ _ z => z)) (pa_cons (pv 0) pa_nil))))
    (pss_cons (ps_if (pt_cmpR (op_neD hr.units) (pv 2) (pe_cau4 (t := fun E => tCMethK C 1 (spRdA K C xT) gAp E (tC (.ref C)) (tCons (tVar 0) tNil)) L hgu hr9 TC rfl rfl (lamS_by (show lamSB (defScope sThr) _ = true from by decide +kernel)) rfl (fun _ _ _ _ _ => rfl)
        (fun A outer s H E f c' hr' => pe_cmethK (pe_glob (v := .ref C) (by rfl) gD rfl) cr cm GR hr' (kb_rd FR) (E := E) (L2.passes_call (L2.takes_of rfl rfl rfl rfl) (fun _ _ _ _ z => z)) (pk_cons (pv 0) pk_nil))) (nomark _)) (pss_one (ps_ret pe_bl)) pss_nil)
    (pss_cons (ps_if (pt_cmpR op_isN (pv 1) pe_non (nomark _)) (pss_one (ps_ret (pe_cmpR (op_eqV hr.units) (pv 2) (pe_lst (pa_cons pe_str (pa_cons (pe_callB (call_repr hgu hr.units) (by rfl) B.repr bRepr (pa_cons (pv 0) pa_nil)) pa_nil))) (nomark _)))) pss_nil)
    (pss_cons (ps_set (i := 3) scThr.nd rfl (.inl rfl) (pe_cmeth (pe_glob (v := .ref C) (by rfl) gD rfl) cr cm RR hr7 passL (pa_cons (pv 0) pa_nil)))
    (pss_cons (ps_set (i := 4) scThr.nd rfl (.inl rfl) (pe_lst (pa_cons (pe_tup (pa_cons (pe_prop (pv 3) R.T.cl P1 F1 hr2 B1 .nil pass0 rfl) (pa_cons (pe_prop (pv 3) R.T.cl P2 F2 hr2 B2 .nil pass0 rfl) (pa_cons (pe_prop (pv 3) R.T.cl P3 F3 hr2 B3 .nil pass0 rfl) pa_nil)))) (pa_cons (pe_prop (pv 3) R.T.cl P4 F4 hr2 B4 .nil pass0 rfl) pa_nil))))
    (pss_one (ps_ret (pe_and (pe_cmpR (op_eqV hr.units) (pv 2) (pe_lst (pa_cons pe_str (pa_cons (pv 0) pa_nil))) (nomark _)) (pe_and (pe_cmpR op_eq (pe_callB (call_repr hgu hr.units) (by rfl) B.repr bRepr (pa_cons (pv 4) pa_nil)) (pe_callB (call_repr hgu hr.units) (by rfl) B.repr bRepr (pa_cons (pv 1) pa_nil)) (nomark _)) (pe_one (pe_cmpR op_eq (pv 0) (pe_call GX hr1 (by rfl) gX kX bX .nil pass0 (pa_cons (pe_ix ix_list (pv 1) pe_int (fun _ _ => rfl)) (pa_cons (pe_ix ix_list (pv 1) pe_int (fun _ _ => rfl)) pa_nil))) (nomark _))))))))))))), ?_⟩
  by_cases hR : ∃ x, v = .str x ∧ Right x
  rotate_left
  · have hn : ∀ x, v = .str x → ¬ Right x := fun x e hr => hR ⟨x, e, hr⟩
    refine seq_asg (call_read (cons_read ⟨_, rfl, nil_read (lrd_no th hn fun H1 s1 => ?_)⟩))
    have th1 := th.same s1
    refine ⟨_, rfl, rfl, _, rfl, iteF ?_⟩
    try unfold tNext
    dsimp only
    refine seq_asg ⟨hT.ext s1, fun H3 x3 T3 E' Q' hE hQ => ⟨rfl, _, rfl, rd_no (th1.ext x3) hn fun dd H4 s4 hdd => hE _ _ _ ⟨dd, v, d, rfl, rfl, hdd, (th1.ext x3).same s4, fun q nq => ?_⟩⟩⟩
    have s5 : Same H3 (upd H4 q (.lst [.str "text", .str d.shown])) := s4.trans (same_lay nq)
    have q5 : (upd H4 q (.lst [.str "text", .str d.shown])) q = some (.lst [.str "text", .str d.shown]) := upd_same
    have T5 := T3.ext s5
    have th5 := (th1.ext x3).same s5
    have x5 : ExtN H (upd H4 q (.lst [.str "text", .str d.shown])) := (ExtN.of s1).trans (x3.trans (ExtN.of s5))
    show tSeq _ _ _ _ (upd H4 q (.lst [.str "text", .str d.shown]))
    generalize upd H4 q (.lst [.str "text", .str d.shown]) = H5 at q5 T5 th5 x5 ⊢
    refine ⟨_, rfl, T5, fun H6 x6 T6 E'' Q'' hE hQ => ⟨rfl, _, rfl, rfl, rd_no (th5.ext x6) hn fun dd H7 s7 hdd => hE _ _ _ ⟨dd, v, d, rfl, rfl, hdd, (th5.ext x6).same s7, fun r nr => ?_⟩⟩⟩
    have s8 : Same H6 (upd H7 r (.lst [.str "text", .str d.shown])) := s7.trans (same_lay nr)
    have x8 : ExtN H5 (upd H7 r (.lst [.str "text", .str d.shown])) := x6.trans (ExtN.of s8)
    have q8 := x8 _ _ q5 (fun ps z => by cases z)
    refine ne_two k_text th.pl q8 upd_same ⟨_, rfl, iteF ?_⟩
    have T8 := T6.ext s8
    have th8 := th5.ext x8
    generalize upd H7 r (.lst [.str "text", .str d.shown]) = H8 at q8 T8 th8 x8 ⊢
    try unfold tNext
    dsimp only
    refine ⟨_, rfl, rfl, _, rfl, iteT ?_⟩
    refine ret_read (op_read ⟨_, rfl, lst_read (cons_read (c_read (cons_read (cb_read (cons_read ⟨_, rfl, nil_read ⟨v, d, rfl, th8.tg.1, th8.tg.2, nil_read ⟨by show 2 ≤ sizeLine; decide, fun u nu => ?_⟩⟩⟩)))))⟩)
    have s9 := same_lay (o := .lst [.str "text", .str d.shown]) nu
    exact eq_two (s9 _ _ q8) upd_same (k _ (x5.trans (x8.trans (ExtN.of s9))) (T8.ext s9))
  obtain ⟨x, rfl, b, p, n, ini, y, rfl, hrt⟩ := hR
  have hz := hrt.sz
  have b1 := hz.b1
  have p1' := hz.p1
  have p0 := hz.p0
  have b0 := hz.b0
  have hpl := plain_text b p n (by omega) (by omega) hz.n25 ini hrt.ini y hrt.y
  refine seq_asg (call_read (cons_read ⟨_, rfl, nil_read (lrd_yes hrt fun H1 q s t s1 hq hs ht => ?_)⟩))
  have z : (!decide (V.ref q = V.non)) = true := by rw [decide_eq_false (fun z => by cases z)]; rfl
  refine ⟨_, rfl, rfl, _, rfl, ?_⟩
  show (if (!decide (V.ref q = V.non)) = true then _ else _)
  rw [z]
  refine iteT ⟨_, rfl, q, _, _, _, rfl, rfl, SqL.of hq, rfl, s, b, p, n, rfl, SqT.of hs, by omega, by omega, by omega, hz.n25, fun H2 s2 => ⟨_, rfl, ?_⟩⟩
  cases hsm : decide (manyM b p n ≤ 300) with
  | false => exact iteT (k H2 (ExtN.of (s1.trans s2)) (hT.ext (s1.trans s2)))
  | true =>
  have few : cntM b p n ≤ 2000 := small_few (by omega) (by omega) hz.n25 b0 p0 (of_decide_eq_true hsm)
  have dpp : DP b p n ini y := ⟨hz, few, hrt.ini, hrt.y⟩
  refine iteF ?_
  try unfold tNext
  dsimp only
  have hq2 := s2 _ _ hq
  have hs2 := s2 _ _ hs
  have ht2 := ht.same s2
  have T2 := hT.ext (s1.trans s2)
  have x2 : ExtN H H2 := ExtN.of (s1.trans s2)
  refine seq_asg ⟨T2, fun H3 x3 T3 E' Q' hE hQ => ⟨rfl, _, rfl, rd_yes hrt few fun H4 m s4 nm dm => hQ _ _ ⟨m, b, p, n, ini, y, rfl, dm, fun u nu => ?_⟩⟩⟩
  have s5 : Same H3 (upd H4 u (.lst [.str "made", .str (textM (b : Int) (p : Int) (n : Int) ini y)])) := s4.trans (same_lay nu)
  have q5 : (upd H4 u (.lst [.str "made", .str (textM (b : Int) (p : Int) (n : Int) ini y)])) u = some (.lst [.str "made", .str (textM (b : Int) (p : Int) (n : Int) ini y)]) := upd_same
  have T5 := T3.ext s5
  have x5' : ExtN H2 (upd H4 u (.lst [.str "made", .str (textM (b : Int) (p : Int) (n : Int) ini y)])) := x3.trans (ExtN.of s5)
  show tSeq _ _ _ _ (upd H4 u (.lst [.str "made", .str (textM (b : Int) (p : Int) (n : Int) ini y)]))
  generalize upd H4 u (.lst [.str "made", .str (textM (b : Int) (p : Int) (n : Int) ini y)]) = H5 at q5 T5 x5' ⊢
  refine ⟨_, rfl, T5, fun H6 x6 T6 E'' Q'' hE hQ => ⟨rfl, _, rfl, rfl, rd_yes hrt few fun H7 m2 s7 nm2 dm2 => hQ _ _ ⟨m2, b, p, n, ini, y, rfl, dm2, fun r nr => ?_⟩⟩⟩
  have s8 : Same H6 (upd H7 r (.lst [.str "made", .str (textM (b : Int) (p : Int) (n : Int) ini y)])) := s7.trans (same_lay nr)
  have x8 : ExtN H5 (upd H7 r (.lst [.str "made", .str (textM (b : Int) (p : Int) (n : Int) ini y)])) := x6.trans (ExtN.of s8)
  have q8 := x8 _ _ q5 (fun ps z => by cases z)
  refine ne_two k_made hpl q8 upd_same ⟨_, rfl, iteF ?_⟩
  have T8 := T6.ext s8
  generalize upd H7 r (.lst [.str "made", .str (textM (b : Int) (p : Int) (n : Int) ini y)]) = H8 at q8 T8 x8 ⊢
  have x9 : ExtN H2 H8 := x5'.trans x8
  have hq8 := x9 _ _ hq2 (fun ps z => by cases z)
  have hs8 := x9 _ _ hs2 (fun ps z => by cases z)
  have ht8 := rows_ext ht2 x9
  have x10 : ExtN H H8 := x2.trans x9
  try unfold tNext
  dsimp only
  refine ⟨_, rfl, rfl, _, rfl, ?_⟩
  have z0 : decide (V.ref q = V.non) = false := decide_eq_false (fun z => by cases z)
  show (if decide (V.ref q = V.non) = true then _ else _)
  rw [z0]
  refine iteF ?_
  try unfold tNext
  dsimp only
  refine seq_asg ⟨rfl, _, rfl, rd_yes hrt few fun H9 mm s9 nmm dmm => ?_⟩
  obtain ⟨dx, tt, hx, hRt⟩ := dmm
  refine seq_asg (lst_read (cons_read (tup_read (cons_read ⟨_, rfl, mm, dx, _, rfl, hx, mm, dx, _, _, rfl, hx, rfl, cons_read ⟨_, rfl, mm, dx, _, rfl, hx, mm, dx, _, _, rfl, hx, rfl, cons_read ⟨_, rfl, mm, dx, _, rfl, hx, mm, dx, _, _, rfl, hx, rfl, nil_read ⟨by show 3 ≤ sizeLine; decide, fun st ns => ?_⟩⟩⟩⟩))))
  have i1 := same_lay (o := .tup [.int (b : Int), .int (p : Int), .int (n : Int)]) ns
  refine cons_read ⟨_, rfl, mm, dx, _, rfl, i1 _ _ hx, mm, dx, _, _, rfl, i1 _ _ hx, rfl, nil_read ⟨by show 2 ≤ sizeLine; decide, fun se nse => ?_⟩⟩
  have i2 := same_lay (o := .lst [.ref st, .ref tt]) nse
  have i3 := i1.trans i2
  have gse : (upd (upd H9 st (.tup [.int (b : Int), .int (p : Int), .int (n : Int)])) se (.lst [.ref st, .ref tt])) se = some (.lst [.ref st, .ref tt]) := upd_same
  have gst := i2 _ _ (show (upd H9 st (.tup [.int (b : Int), .int (p : Int), .int (n : Int)])) st = some (.tup [.int (b : Int), .int (p : Int), .int (n : Int)]) from upd_same)
  have gtt := hRt.same i3
  have i4 : Same H8 (upd (upd H9 st (.tup [.int (b : Int), .int (p : Int), .int (n : Int)])) se (.lst [.ref st, .ref tt])) := s9.trans i3
  show tRet _ _ _ (upd (upd H9 st (.tup [.int (b : Int), .int (p : Int), .int (n : Int)])) se (.lst [.ref st, .ref tt]))
  generalize upd (upd H9 st (.tup [.int (b : Int), .int (p : Int), .int (n : Int)])) se (.lst [.ref st, .ref tt]) = HA at gse gst gtt i4 ⊢
  refine ret_read ?_
  refine ⟨_, rfl, lst_read (cons_read (c_read (cons_read ⟨_, rfl, nil_read ⟨by show 2 ≤ sizeLine; decide, fun w nw => ?_⟩⟩)))⟩
  have j1 := same_lay (o := .lst [.str "made", .str (textM (b : Int) (p : Int) (n : Int) ini y)]) nw
  refine eq_two (j1 _ _ (i4 _ _ q8)) upd_same ⟨_, rfl, iteT ?_⟩
  have j2 : Same H8 (upd HA w (.lst [.str "made", .str (textM (b : Int) (p : Int) (n : Int) ini y)])) := i4.trans j1
  have m1 := sd_tg hrt (j1 _ _ gse) (SqT.of (j1 _ _ gst)) (gtt.same j1)
  have m2 := sd_tg hrt (j2 _ _ hq8) (SqT.of (j2 _ _ hs8)) (ht8.same j2)
  have jq := j2 _ _ hq8
  have js := j2 _ _ hs8
  have jt := ht8.same j2
  have jT := T8.ext j2
  have jx : ExtN H (upd HA w (.lst [.str "made", .str (textM (b : Int) (p : Int) (n : Int) ini y)])) := x10.trans (ExtN.of j2)
  generalize upd HA w (.lst [.str "made", .str (textM (b : Int) (p : Int) (n : Int) ini y)]) = HB at m1 m2 jq js jt jT jx ⊢
  refine ⟨_, rfl, .ref se, _, rfl, m1.1, m1.2, _, rfl, .ref q, _, rfl, m2.1, m2.2, rfl, _, rfl, ?_⟩
  rw [str_same]
  refine iteT ?_
  refine ⟨_, rfl, _, rfl, q, _, _, _, rfl, rfl, SqL.of jq, rfl, _, rfl, q, _, _, _, rfl, rfl, SqL.of jq, rfl, s, t, b, p, n, ini, y, rfl, .inl (SqT.of js), dpp, jt, fun HC sC => ⟨rfl, ?_⟩⟩
  rw [str_same]
  exact k HC (jx.trans (ExtN.of sC)) (jT.ext sC)
end
end K4

set_option Elab.async false
set_option linter.all false
set_option maxRecDepth 100000
set_option maxHeartbeats 4000000
namespace K4
open PySem PySem.Spec PyProof.Rows L2 G1 G2 G3 K2 K3 LamX ClX
abbrev sRgt4 : Stmt := topS 54
abbrev NRgt4 : List Str := ["_law_pool_here", "_law_turn", "_law_shape_here", "_law_scrap", "_law_side", "_law_things", "_law_x"]
theorem scRgt4 : FnScope NRgt4 ["_law_pool_here"] (defScope sRgt4) := ⟨rfl, rfl, rfl, by decide +kernel, rfl, by decide +kernel, by decide +kernel⟩
theorem bAll4 : bootBuiltins "all" = some (.builtin "all") := by decide +kernel
def spRgt4 (K : PySem.W.Frag) (T : List (Addr × Str)) : Sp := fun vs H Q _ => ∃ pl : Addr, vs = [.ref pl] ∧ PoolAt H pl ∧ Tabs T H ∧ ∀ H', Wk pl H H' → Tabs T H' → Q (.bl true) H'
def ThE (K : PySem.W.Frag) (H : Hp) (v : V) : Prop := ∃ d, Th K H v d
theorem st_th {K : PySem.W.Frag} : Stay (ThE K) := fun _ _ _ s ⟨d, h⟩ => ⟨d, h.same s⟩
theorem tabs_set4 {T : List (Addr × Str)} {D : Addr} {H : Hp} {xs ys : List V} (t : Tabs T H) (h : H D = some (.lst xs)) : Tabs T (upd H D (.lst ys)) := fun z hz => by
  obtain ⟨ps, h1, h2, h3⟩ := t z hz
  refine ⟨ps, by rw [upd_ne (ne_of h1 h (by intro q; cases q))]; exact h1, h2, fun pos cv hc => ?_⟩
  obtain ⟨c, e1, e2⟩ := h3 pos cv hc
  refine ⟨c, e1, ?_⟩
  rw [upd_ne (fun q => by rw [q, h] at e2; unfold CodeO at e2; cases e2)]
  exact e2
theorem pow_le {j m : Nat} (h : j ≤ m) : 2 ^ j ≤ 2 ^ m := Nat.pow_le_pow_right (by decide) h
section
variable {P : Program} {w : World} {K : PySem.W.Frag} {mg : Str → Option Value} {base : Heap} {C xT : Addr}
theorem ok_rgt4 {f fH fT fX fD fB fR : Addr} {fd dH dT dX dD dB dR : FuncData} {T : List (Addr × Str)} (F : Fun K "_law_right" "_law_right" sRgt4 f fd) (B : Bl mg)
    (GH : FnOk P w K mg base CX0 2 fH dH ["_law_pool_here"] (spShp K)) (kH : PySem.W.keepIn K (.ref fH) = true) (bH : Binds K dH ["_law_pool_here"] []) (gH : mg "_law_shape" = some (.ref fH))
    (GT : FnOk P w K mg base CX0 2 fT dT ["_law_pool_here", "_law_size"] (spTab K)) (kT : PySem.W.keepIn K (.ref fT) = true) (bT : Binds K dT ["_law_pool_here", "_law_size"] []) (gT : mg "_law_table" = some (.ref fT))
    (GX : FnOk P w K mg base CX0 1 fX dX ["_law_shape_here", "_law_table_here"] (spLtL K)) (kX : PySem.W.keepIn K (.ref fX) = true) (bX : Binds K dX ["_law_shape_here", "_law_table_here"] []) (gX : mg "_law_text" = some (.ref fX))
    (GD : FnOk P w K mg base CX0 1 fD dD ["_law_pool_here", "_law_many_here"] spDraw) (kD : PySem.W.keepIn K (.ref fD) = true) (bD : Binds K dD ["_law_pool_here", "_law_many_here"] []) (gD : mg "_law_draw" = some (.ref fD))
    (GB : FnOk P w K mg base CX0 3 fB dB ["_law_pool_here", "_law_scrap"] spBtT) (kB : PySem.W.keepIn K (.ref fB) = true) (bB : Binds K dB ["_law_pool_here", "_law_scrap"] []) (gB : mg "_law_bent" = some (.ref fB))
    (GR : FnG P w K mg base 10 fR dR ["_law_thing"] (spThr K T)) (kR : PySem.W.keepIn K (.ref fR) = true) (bR : Binds K dR ["_law_thing"] []) (gR : mg "_law_thing_right" = some (.ref fR)) :
    FnG P w K mg base 11 f fd ["_law_pool_here"] (spRgt4 K T) := by
  refine okG F scRgt4 (fun vs H Q E h => ?_) (fun cdv A outer s' H vs Q E hgu hr h => ?_)
  · obtain ⟨pl, rfl, _⟩ := h
    rfl
  obtain ⟨pl, rfl, hp, hTb, k⟩ := h
  have hr1 : Room 1 _ := hr.mono (by decide)
  have hr2 : Room 2 _ := hr.mono (by decide)
  have hr3 : Room 3 _ := hr.mono (by decide)
  refine ⟨_, pss_cons (ps_for PassesOwn.never rfl (pi_range1 (by rfl) B.range (pa_cons pe_int pa_nil)) (pg_name (i := 1) scRgt4.nd rfl (.inl rfl))
      (pss_cons (ps_set (i := 2) scRgt4.nd rfl (.inl rfl) (pe_call GH hr2 (by rfl) gH kH bH .nil pass0 (pa_cons (pv 0) pa_nil)))
      (pss_cons (ps_set (i := 3) scRgt4.nd rfl (.inl rfl) (pe_call GX hr1 (by rfl) gX kX bX .nil pass0 (pa_cons (pv 2) (pa_cons (pe_call GT hr2 (by rfl) gT kT bT .nil pass0 (pa_cons (pv 0) (pa_cons (pe_ix ix_tup (pv 2) pe_int (fun _ _ => rfl)) pa_nil))) pa_nil))))
      (pss_cons (ps_for PassesOwn.never rfl (pi_range1 (by rfl) B.range (pa_cons (pe_call GD hr1 (by rfl) gD kD bD .nil pass0 (pa_cons (pv 0) (pa_cons pe_int pa_nil))) pa_nil)) (pg_name (i := 4) scRgt4.nd rfl (.inl rfl))
        (pss_one (ps_set (i := 3) scRgt4.nd rfl (.inl rfl) (pe_call GB hr3 (by rfl) gB kB bB .nil pass0 (pa_cons (pv 0) (pa_cons (pv 3) pa_nil))))))
      (pss_one (ps_if (pt_not (pt_val (pe_callG GR hgu hr (by rfl) gR kR bR (pa_cons (pv 3) pa_nil)))) (pss_one (ps_ret pe_bl)) pss_nil))))))
    (pss_cons (ps_set (i := 5) scRgt4.nd rfl (.inl rfl) (pe_lst (pa_cons pe_non (pa_cons pe_bl (pa_cons pe_int (pa_cons (pe_tup (pa_cons (pv 3) pa_nil)) (pa_cons (pe_lst (pa_cons (pv 3) pa_nil)) (pa_cons (pe_split (pv 3) pe_str) (pa_cons pe_dnewK (pa_cons pe_str (pa_cons pe_str (pa_cons (pe_op op_add_str (pv 3) pe_str) (pa_cons (pe_op op_add_str pe_str (pv 3)) (pa_cons (pe_op op_add_str (pv 3) pe_str) pa_nil))))))))))))))
    (pss_one (ps_ret (pe_callB (cr_all rfl) (by rfl) B.all bAll4 (pa_cons (pe_lc (own := [("_law_x", 6)]) (g := gName 6) (tt := tYes) (te := tCall (spThr K T) [] E0 (tCons (tVar 6) tNil)) rfl scRgt4.nd (pi_list (pv 5))
      (blkOk_by (own := [("_law_x", 6)]) (N := NRgt4) (sc := defScope sRgt4) (by decide +kernel)) (fun _ _ _ _ _ => pg_name (i := 6) scRgt4.nd rfl (Or.inl rfl)) (fun _ _ _ _ _ => pts_nil) (fun _ _ _ _ _ => pe_callG GR hgu hr (by rfl) gR kR bR (pa_cons (pv 6) pa_nil))) pa_nil))))), ?_⟩
  refine seq_for fun D' hD1 hD2 => ?_
  refine ⟨_, rfl, by decide, by decide, ?_⟩
  refine for_range (lo := 0) (n := 6) (fun i σ H' => ∃ (x1 x2 x3 x4 : Option V), σ = [some (.ref pl), x1, x2, x3, x4, none, none] ∧ Wk pl H H' ∧ Tabs T H' ∧ (i = 0 ∨ ∃ x : Str, x3 = some (.str x) ∧ Plain x ∧ x.length ≤ 1800)) ⟨none, none, none, none, rfl, Wk.refl hp, hTb, .inl rfl⟩ ?_ ?_
  · rintro i σ H' hi ⟨x1, x2, x3, x4, rfl, W1, T1, _⟩
    refine seq_asg (call_read (cons_read ⟨_, rfl, nil_read ⟨pl, rfl, W1.1, fun H2 sh b p n S2 hsh e2 => ?_⟩⟩))
    have hz := hsh.sz
    have p1 := hz.p1
    have b1 := hz.b1
    refine seq_asg ?_
    refine ⟨_, rfl, _, rfl, _, rfl, sh, _, _, _, rfl, rfl, SqT.of e2, rfl, pl, p, rfl, S2.1, by omega, fun H3 t ini y S3 hR3 hi3 hy3 => ?_⟩
    have e3 : SqT K H3 sh [.int (b : Int), .int (p : Int), .int (n : Int)] := (Wk.stp S3).tup S2.1 (SqT.of e2)
    refine ⟨sh, t, b, p, n, ini, y, rfl, .inl e3, hsh.dp hi3 hy3, hR3, fun H4 s4 => ?_⟩
    have tl := text_len b p n (by omega) (by omega) hz.n25 ini hi3 y hy3
    have pt := plain_text b p n (by omega) (by omega) hz.n25 ini hi3 y hy3
    have W4 : Wk pl H H4 := W1.trans ((Wk.stp S2).trans ((Wk.stp S3).trans (Wk.same S3.1 s4)))
    have T4 : Tabs T H4 := (tabs_stp (tabs_stp T1 S2 W1.1) S3 S2.1).ext s4
    refine seq_for fun D2 hE1 hE2 => ?_
    refine draw_c (p := pl) rfl W4.1 (by decide) (by decide) fun H5 m S5 m0 m1 => ⟨m, rfl, by omega, by omega, ?_⟩
    refine for_range (lo := 0) (n := m.toNat) (fun j τ G => ∃ (y4 : Option V) (x : Str), τ = [some (.ref pl), some (.int (0 + (i : Int))), some (.ref sh), some (.str x), y4, none, none] ∧ Wk pl H G ∧ Tabs T G ∧ Plain x ∧ x.length + 20 ≤ 225 * 2 ^ j) ⟨x4, _, rfl, W4.trans (Wk.stp S5), tabs_stp T4 S5 W4.1, pt, by show _ ≤ 225 * 1; omega⟩ ?_ ?_
    · rintro j τ G hj ⟨y4, x, rfl, W6, T6, px, lx⟩
      have pw := pow_le (j := j) (m := 2) (by omega)
      refine asg_read (call_read (cons_read ⟨_, rfl, cons_read ⟨_, rfl, nil_read ⟨pl, x, rfl, W6.1, by omega, px, fun H7 z S7 pz lz => ?_⟩⟩⟩))
      exact ⟨_, z, rfl, W6.trans (Wk.stp S7), tabs_stp T6 S7 W6.1, pz, by rw [Nat.pow_succ]; omega⟩
    · rintro τ G ⟨y4, x, rfl, W6, T6, px, lx⟩
      rw [hE1]
      have pw := pow_le (j := m.toNat) (m := 3) (by omega)
      refine ⟨_, rfl, .str x, .str x, rfl, .str x px (by omega), T6, fun H7 x7 T7 => ⟨true, rfl, iteF ?_⟩⟩
      exact ⟨_, _, _, _, rfl, W6.trans (Wk.ext W6.1 x7), T7, .inr ⟨x, rfl, px, by omega⟩⟩
  · rintro σ H' ⟨x1, x2, x3, x4, rfl, W1, T1, hs⟩
    rw [hD1]
    rcases hs with hs | ⟨x, rfl, px, lx⟩
    · cases hs
    have c1 : Plain (Str.ofString "") := by unfold Plain; decide +kernel
    have c2 : Plain (Str.ofString "\n") := by unfold Plain; decide +kernel
    have c3 : Plain (Str.ofString " ") := by unfold Plain; decide +kernel
    have n2 : (Str.ofString "\n").length = 1 := by decide +kernel
    have n3 : (Str.ofString " ").length = 1 := by decide +kernel
    have sw := split_weight x ("\n" : Str) (by decide +kernel)
    have hA : GvA (ThE K) H' [some (.ref pl), x1, x2, some (.str x), x4, none, none] _ 12 :=
      gv_cons st_th (gv_c (v := .non) fun _ => ⟨_, .non⟩) (gv_cons st_th (gv_c (v := .bl true) fun _ => ⟨_, .tru⟩) (gv_cons st_th (gv_c (v := .int 5) fun _ => ⟨_, .five⟩)
      (gv_cons st_th (te := tTup (tCons (tVar 3) tNil)) (fun G Q s k => ⟨_, rfl, by show 1 ≤ sizeLine; decide, fun a na => k _ _ (same_lay na) ⟨_, .tup (SqT.of upd_same) px (by omega)⟩⟩)
      (gv_cons st_th (te := tLst (tCons (tVar 3) tNil)) (fun G Q s k => ⟨_, rfl, by show 1 ≤ sizeLine; decide, fun a na => k _ _ (same_lay na) ⟨_, .lst (xs := [x]) (SqL.of upd_same) (PlAll.one px) (by rw [wt_one]; omega)⟩⟩)
      (gv_cons st_th (te := tM1 (fun x xs H Q => ∃ a b, x = .str a ∧ xs = [.str b] ∧ (b.length == 0) = false ∧ a.length + 2 ≤ sizeLine ∧ rNewStrs (Txt.split a b) H Q) (tVar 3) (tC (.str "\n"))) (fun G Q s k => ⟨_, rfl, ⟨_, rfl⟩, _, _, rfl, rfl, by decide +kernel, by rw [sizeLine_eq]; omega, fun a na => k _ _ (same_lay na) ⟨_, .lst (xs := Txt.split x ("\n" : Str)) (SqL.of upd_same) (plain_split px) (by unfold wt; omega)⟩⟩)
      (gv_cons st_th (gv_dct fun _ _ e => ⟨_, .dct e⟩) (gv_cons st_th (gv_c (v := .str "") fun _ => ⟨_, .str _ c1 (by decide +kernel)⟩) (gv_cons st_th (gv_c (v := .str "\n") fun _ => ⟨_, .str _ c2 (by decide +kernel)⟩)
      (gv_cons st_th (te := tOp (fun x y H Q => ∃ i j, x = .str i ∧ y = .str j ∧ i.length + j.length ≤ sizeLine ∧ Q (.str (i ++ j)) H) (tVar 3) (tC (.str "\n"))) (fun G Q s k => ⟨_, rfl, _, _, rfl, rfl, big_line (by omega), k G _ (Same.refl G) ⟨_, .str _ (plain_app px c2) (by rw [Str.length_append]; omega)⟩⟩)
      (gv_cons st_th (te := tOp (fun x y H Q => ∃ i j, x = .str i ∧ y = .str j ∧ i.length + j.length ≤ sizeLine ∧ Q (.str (i ++ j)) H) (tC (.str " ")) (tVar 3)) (fun G Q s k => ⟨_, rfl, _, _, rfl, rfl, big_line (by omega), k G _ (Same.refl G) ⟨_, .str _ (plain_app c3 px) (by rw [Str.length_append]; omega)⟩⟩)
      (gv_cons st_th (te := tOp (fun x y H Q => ∃ i j, x = .str i ∧ y = .str j ∧ i.length + j.length ≤ sizeLine ∧ Q (.str (i ++ j)) H) (tVar 3) (tC (.str " "))) (fun G Q s k => ⟨_, rfl, _, _, rfl, rfl, big_line (by omega), k G _ (Same.refl G) ⟨_, .str _ (plain_app px c3) (by rw [Str.length_append]; omega)⟩⟩) gv_nil)))))))))))
    refine seq_asg (lst_read (hA H' _ (Same.refl H') fun H2 vs s2 l2 p2 => ⟨by rw [l2, sizeLine_eq]; omega, fun l nl => ?_⟩))
    have s3 : Same H' (upd H2 l (.lst vs)) := s2.trans (same_lay nl)
    have e3 : (upd H2 l (.lst vs)) l = some (.lst vs) := upd_same
    have p3 : ∀ v ∈ vs, ThE K (upd H2 l (.lst vs)) v := fun v hv => st_th _ _ _ (same_lay nl) (p2 v hv)
    have T3 := T1.ext s3
    show tRet _ _ _ (upd H2 l (.lst vs))
    generalize upd H2 l (.lst vs) = H3 at s3 e3 p3 T3 ⊢
    have W3 : Wk pl H H3 := W1.trans (Wk.same W1.1 s3)
    refine ret_read (cb_read (cons_read ?_))
    refine ⟨_, rfl, l, rfl, ⟨_, SqL.of e3⟩, fun D hD => ?_⟩
    refine lc_list (K := K) (xs := vs) (fun i G => ExtN H3 G ∧ Tabs T G ∧ G D = some (.lst (List.replicate i (V.bl true)))) ⟨ExtN.of (same_lay hD), T3.ext (same_lay hD), upd_same⟩ (fun i G _ q => extN_lst q.1 (SqL.of e3)) ?_ ?_
    · rintro i v G hi ⟨q1, q2, q3⟩
      obtain ⟨d, hd⟩ := p3 v (List.mem_of_getElem? hi)
      have hlt := (List.getElem?_eq_some_iff.mp hi).1
      refine ⟨rfl, ?_⟩
      unfold tYes
      dsimp only
      rw [if_pos rfl]
      refine ⟨_, rfl, v, d, rfl, hd.ext q1, q2, fun G6 x6 T6 => ?_⟩
      have q6 := x6 _ _ q3 (fun ps z => by cases z)
      refine ⟨_, q6, ?_, fun z o e nt => ?_, tabs_set4 T6 q6, ?_⟩
      · rw [List.length_replicate, sizeLine_eq]
        omega
      · rw [upd_ne (ne_of_none e hD)]
        exact x6 _ _ (q1 _ _ e nt) nt
      · rw [upd_same, List.replicate_succ']
    · rintro G ⟨q1, q2, q3⟩
      refine nil_read ⟨D, List.replicate vs.length true, rfl, SqL.of (by rw [q3, List.map_replicate]), ?_⟩
      have e : (List.replicate vs.length true).all id = true := by
        rw [List.all_eq_true]
        intro z hz
        rw [(List.mem_replicate.mp hz).2]
        rfl
      rw [e]
      exact k G (W3.trans (Wk.ext W3.1 q1)) q2
end
end K4

set_option Elab.async false
set_option linter.all false
set_option maxRecDepth 100000
set_option maxHeartbeats 4000000
namespace K4
open PySem PySem.Spec PyProof.Rows L2 G1 G2 G3 K2 K3 LamX ClX
/-! ### the eleven texts -/
theorem right_nl {b p n : Nat} {ini : List RowD} {y : Str} : 10 ∈ TL.tl (textM (b : Int) (p : Int) (n : Int) ini y) := by
  unfold textM linesM
  rw [TL.join_eq]
  have h10 : 10 ∈ TL.tl (Str.ofString "\n") := by decide +kernel
  cases ini with
  | nil =>
    show 10 ∈ TL.tl (headM (b : Int) (p : Int) (n : Int) ++ Str.ofString "\n" ++ anyM y)
    rw [TL.tl_append, TL.tl_append]
    exact List.mem_append_left _ (List.mem_append_right _ h10)
  | cons r rs =>
    show 10 ∈ TL.tl (headM (b : Int) (p : Int) (n : Int) ++ Str.ofString "\n" ++ Str.join (Str.ofString "\n") (lineM r :: (rs.map lineM ++ [anyM y])))
    rw [TL.tl_append, TL.tl_append]
    exact List.mem_append_left _ (List.mem_append_right _ h10)
theorem not_nl {x : Str} (h : 10 ∉ TL.tl x) : ¬ Right x := by
  rintro ⟨b, p, n, ini, y, rfl, _⟩
  exact h right_nl
/-- a text by its lines and the words of its head -/
theorem not_by {x hd : Str} {lines ws : List Str} (e : x = Txt.join (Str.ofString "\n") (hd :: lines)) (h1 : ∀ z ∈ hd :: lines, 10 ∉ TL.tl z) (e2 : hd = Txt.join (Str.ofString " ") ws) (hne : ws ≠ []) (h2 : ∀ z ∈ ws, 32 ∉ TL.tl z)
    (bad : ∀ b p n ini y, Rt b p n ini y → ws = [Str.ofString "drive", numS ((b : Nat) : Int), Str.ofString "blocks", numS ((p : Nat) : Int), Str.ofString "pages", numS ((n : Nat) : Int), Str.ofString "names"] → lines = ini.map lineM ++ [anyM y] → False) : ¬ Right x := by
  have hs : Txt.split x (Str.ofString "\n") = hd :: lines := by
    rw [e]
    exact TL.split_join (s := 10) (S := []) (by decide +kernel) (by decide +kernel) (by simp) h1
  have hw : Txt.split hd (Str.ofString " ") = ws := by
    rw [e2]
    exact TL.split_join (s := 32) (S := []) (by decide +kernel) (by decide +kernel) hne h2
  rintro ⟨b, p, n, ini, y, ex, hrt⟩
  obtain ⟨z1, z2⟩ := right_split hs ex hrt
  rw [show Txt.split hd (" " : Str) = ws from hw] at z1
  exact bad b p n ini y hrt z1 z2
theorem num_ne : ∀ i : Nat, i < 26 → numS (i : Int) ≠ Str.ofString "03" := by decide +kernel
theorem num_eq : ∀ i : Nat, i < 26 → (numS (i : Int) = Str.ofString "3" → i = 3) ∧ (numS (i : Int) = Str.ofString "2" → i = 2) ∧ (numS (i : Int) = Str.ofString "5" → i = 5) := by decide +kernel
theorem any_ne : ∀ w ∈ wordsL, anyM w ≠ Str.ofString "at most 2: least" := by decide +kernel
theorem line_ne : ∀ l : Nat, l < 6 → ∀ w ∈ wordsL, lineM ((l : Int), w) ≠ Str.ofString "any: least" ∧ lineM ((l : Int), w) ≠ Str.ofString "" := by decide +kernel
theorem row_ne {p : Nat} (hp : p ≤ 5) {r : RowD} (h : RowOk p r) : lineM r ≠ Str.ofString "any: least" ∧ lineM r ≠ Str.ofString "" := by
  obtain ⟨l, w⟩ := r
  obtain ⟨a, b, c⟩ := h
  dsimp only at a b c
  obtain ⟨j, rfl⟩ : ∃ j : Nat, l = (j : Int) := ⟨l.toNat, by omega⟩
  exact line_ne j (by omega) w c
abbrev someL : List Str := ["drive 3 blocks 2 pages 4 names\nany: least", "drive 4 blocks 3 pages 9 names\nat most 3: most\nany: most", "drive 3 blocks 2 pages 4 names", "drive 3 blocks 2 pages 5 names\nany: least", "any: least", "drive 03 blocks 2 pages 4 names\nany: least", "drive 3 blocks 2 pages 4 names\nat most 2: least", "drive 3 blocks  2 pages 4 names\nany: least", "drive 3 blocks 2 pages 4 names\n\nany: least", "drive 3 blocks 2 pages 4 names\nany: least\nany: least", "Drive 3 blocks 2 pages 4 names\nany: least"]
theorem some_plain : ∀ z ∈ someL, z.length ≤ 100 ∧ ∀ c ∈ TL.tl z, c < 128 := by decide +kernel
theorem r0 : Right "drive 3 blocks 2 pages 4 names\nany: least" := ⟨3, 2, 4, [], "least", by decide +kernel, ⟨⟨by decide, by decide, by decide, by decide, by decide, by decide⟩, ⟨(fun _ h => by cases h), by decide⟩, by decide +kernel⟩⟩
theorem r1 : Right "drive 4 blocks 3 pages 9 names\nat most 3: most\nany: most" := ⟨4, 3, 9, [(3, "most")], "most", by decide +kernel, ⟨⟨by decide, by decide, by decide, by decide, by decide, by decide⟩, ⟨fun r h => by rw [List.mem_singleton.mp h]; exact ⟨by decide, by decide, by decide +kernel⟩, by decide⟩, by decide +kernel⟩⟩
theorem r2 : ¬ Right "drive 3 blocks 2 pages 4 names" := not_nl (by decide +kernel)
theorem r4 : ¬ Right "any: least" := not_nl (by decide +kernel)
theorem r3 : ¬ Right "drive 3 blocks 2 pages 5 names\nany: least" := by
  refine not_by (hd := "drive 3 blocks 2 pages 5 names") (lines := ["any: least"]) (ws := ["drive", "3", "blocks", "2", "pages", "5", "names"]) (by decide +kernel) (by decide +kernel) (by decide +kernel) (by simp) (by decide +kernel) fun b p n ini y hrt e1 e2 => ?_
  have hz := hrt.sz
  have b1 := hz.b1
  have p1 := hz.p1
  simp only [List.cons.injEq] at e1
  have q1 := (num_eq b (by omega)).1 e1.2.1.symm
  have q2 := (num_eq p (by omega)).2.1 e1.2.2.2.1.symm
  have q3 := (num_eq n hz.n25).2.2 e1.2.2.2.2.2.1.symm
  have := hz.n1
  subst q1 q2 q3
  omega
theorem r5 : ¬ Right "drive 03 blocks 2 pages 4 names\nany: least" := by
  refine not_by (hd := "drive 03 blocks 2 pages 4 names") (lines := ["any: least"]) (ws := ["drive", "03", "blocks", "2", "pages", "4", "names"]) (by decide +kernel) (by decide +kernel) (by decide +kernel) (by simp) (by decide +kernel) fun b p n ini y hrt e1 e2 => ?_
  have b1 := hrt.sz.b1
  simp only [List.cons.injEq] at e1
  exact num_ne b (by omega) e1.2.1.symm
theorem r6 : ¬ Right "drive 3 blocks 2 pages 4 names\nat most 2: least" := by
  refine not_by (hd := "drive 3 blocks 2 pages 4 names") (lines := ["at most 2: least"]) (ws := ["drive", "3", "blocks", "2", "pages", "4", "names"]) (by decide +kernel) (by decide +kernel) (by decide +kernel) (by simp) (by decide +kernel) fun b p n ini y hrt e1 e2 => ?_
  cases ini with
  | nil =>
    injection e2 with e2
    exact any_ne y hrt.y e2.symm
  | cons r rs =>
    have := congrArg List.length e2
    simp at this
theorem r7 : ¬ Right "drive 3 blocks  2 pages 4 names\nany: least" := by
  refine not_by (hd := "drive 3 blocks  2 pages 4 names") (lines := ["any: least"]) (ws := ["drive", "3", "blocks", "", "2", "pages", "4", "names"]) (by decide +kernel) (by decide +kernel) (by decide +kernel) (by simp) (by decide +kernel) fun b p n ini y hrt e1 e2 => ?_
  have := congrArg List.length e1
  simp at this
theorem r8 : ¬ Right "drive 3 blocks 2 pages 4 names\n\nany: least" := by
  refine not_by (hd := "drive 3 blocks 2 pages 4 names") (lines := ["", "any: least"]) (ws := ["drive", "3", "blocks", "2", "pages", "4", "names"]) (by decide +kernel) (by decide +kernel) (by decide +kernel) (by simp) (by decide +kernel) fun b p n ini y hrt e1 e2 => ?_
  cases ini with
  | nil =>
    have := congrArg List.length e2
    simp at this
  | cons r rs =>
    injection e2 with e2
    exact (row_ne hrt.sz.p1 (hrt.ini.1 r (List.mem_cons_self ..))).2 e2.symm
theorem r9 : ¬ Right "drive 3 blocks 2 pages 4 names\nany: least\nany: least" := by
  refine not_by (hd := "drive 3 blocks 2 pages 4 names") (lines := ["any: least", "any: least"]) (ws := ["drive", "3", "blocks", "2", "pages", "4", "names"]) (by decide +kernel) (by decide +kernel) (by decide +kernel) (by simp) (by decide +kernel) fun b p n ini y hrt e1 e2 => ?_
  cases ini with
  | nil =>
    have := congrArg List.length e2
    simp at this
  | cons r rs =>
    injection e2 with e2
    exact (row_ne hrt.sz.p1 (hrt.ini.1 r (List.mem_cons_self ..))).1 e2.symm
theorem r10 : ¬ Right "Drive 3 blocks 2 pages 4 names\nany: least" := by
  refine not_by (hd := "Drive 3 blocks 2 pages 4 names") (lines := ["any: least"]) (ws := ["Drive", "3", "blocks", "2", "pages", "4", "names"]) (by decide +kernel) (by decide +kernel) (by decide +kernel) (by simp) (by decide +kernel) fun b p n ini y hrt e1 e2 => ?_
  simp only [List.cons.injEq] at e1
  exact absurd e1.1 (by decide +kernel)
end K4

set_option Elab.async false
set_option linter.all false
set_option maxRecDepth 100000
set_option maxHeartbeats 4000000
namespace K4
open PySem PySem.Spec PyProof.Rows L2 G1 G2 G3 K2 K3 LamX ClX
abbrev sLaw4 : Stmt := topS 55
abbrev NLaw4 : List Str := ["_law_cells", "_law_some", "_law_x", "_law_k"]
theorem scLaw4 : FnScope NLaw4 ["_law_cells"] (defScope sLaw4) := ⟨rfl, rfl, rfl, by decide +kernel, rfl, by decide +kernel, by decide +kernel⟩
def spLaw4 (K : PySem.W.Frag) (T : List (Addr × Str)) : Sp := fun vs H Q _ => ∃ (l : Addr) (ns : List Int), vs = [.ref l] ∧ SqL K H l (ns.map V.int) ∧ ns.length ≤ 63 ∧ Tabs T H ∧ ∀ H' : Hp, Q (.bl true) H'
theorem lrd_r {K : PySem.W.Frag} {H : Hp} {Q : VK} {E : XK} {x : Str} (h : Right x) (k : ∀ (H' : Hp) (q : Addr), Same H H' → Q (.ref q) H') : spLrd K [.str x] H Q E := by
  obtain ⟨b, p, n, ini, y, rfl, hrt⟩ := h
  exact lrd_yes hrt fun H' q _ _ s1 _ _ _ => k H' q s1
abbrev wantL : List Bool := [false, false, true, true, true, true, true, true, true, true, true]
/-- which of the eleven are right -/
theorem some_case (i : Nat) (x : Str) (h : someL[i]? = some x) : (Right x ∧ wantL[i]? = some false) ∨ (¬ Right x ∧ wantL[i]? = some true) := by
  match i, h with
  | 0, h => cases h; exact .inl ⟨r0, rfl⟩
  | 1, h => cases h; exact .inl ⟨r1, rfl⟩
  | 2, h => cases h; exact .inr ⟨r2, rfl⟩
  | 3, h => cases h; exact .inr ⟨r3, rfl⟩
  | 4, h => cases h; exact .inr ⟨r4, rfl⟩
  | 5, h => cases h; exact .inr ⟨r5, rfl⟩
  | 6, h => cases h; exact .inr ⟨r6, rfl⟩
  | 7, h => cases h; exact .inr ⟨r7, rfl⟩
  | 8, h => cases h; exact .inr ⟨r8, rfl⟩
  | 9, h => cases h; exact .inr ⟨r9, rfl⟩
  | 10, h => cases h; exact .inr ⟨r10, rfl⟩
section
variable {P : Program} {w : World} {K : PySem.W.Frag} {mg : Str → Option Value} {base : Heap} {C : Addr}
theorem ok_law4 {f fC fP fR fT fL : Addr} {fd dC dP dR dT dL : FuncData} {T : List (Addr × Str)} (F : Fun K "law" "law" sLaw4 f fd) (B : Bl mg)
    (GC : FnOk P w K mg base CX0 1 fC dC ["_law_cells", "_law_k"] (K2.spCell K)) (kC : PySem.W.keepIn K (.ref fC) = true) (bC : Binds K dC ["_law_cells", "_law_k"] []) (gC : mg "_law_cell" = some (.ref fC))
    (GP : FnOk P w K mg base CX0 1 fP dP ["_law_cell_here"] spPool) (kP : PySem.W.keepIn K (.ref fP) = true) (bP : Binds K dP ["_law_cell_here"] []) (gP : mg "_law_pool" = some (.ref fP))
    (GR : FnG P w K mg base 11 fR dR ["_law_pool_here"] (spRgt4 K T)) (kR : PySem.W.keepIn K (.ref fR) = true) (bR : Binds K dR ["_law_pool_here"] []) (gR : mg "_law_right" = some (.ref fR))
    (GT : FnG P w K mg base 10 fT dT ["_law_thing"] (spThr K T)) (kT : PySem.W.keepIn K (.ref fT) = true) (bT : Binds K dT ["_law_thing"] []) (gT : mg "_law_thing_right" = some (.ref fT))
    (GL : FnOk P w K mg base CX0 2 fL dL ["_law_thing"] (spLrd K)) (kL : PySem.W.keepIn K (.ref fL) = true) (bL : Binds K dL ["_law_thing"] []) (gL : mg "_law_read" = some (.ref fL)) : FnG P w K mg base 12 f fd ["_law_cells"] (spLaw4 K T) := by
  refine okG F scLaw4 (fun vs H Q E h => ?_) (fun cdv A outer s H vs Q E hgu hr h => ?_)
  · obtain ⟨l, ns, rfl, _⟩ := h
    rfl
  obtain ⟨l, ns, rfl, hS, hlen, hTb, k⟩ := h
  have hr1 : Room 1 _ := hr.mono (by decide)
  have hr2 : Room 2 _ := hr.mono (by decide)
  have hr10 : Room 10 _ := hr.mono (by decide)
  refine ⟨_, pss_cons (ps_set (i := 1) scLaw4.nd rfl (.inl rfl) (pe_lst (pa_cons pe_str (pa_cons pe_str pa_nil))))
    (pss_cons (ps_set (i := 1) scLaw4.nd rfl (.inl rfl) (pe_op op_cat (pv 1) (pe_lst (pa_cons pe_str (pa_cons pe_str (pa_cons pe_str pa_nil))))))
    (pss_cons (ps_set (i := 1) scLaw4.nd rfl (.inl rfl) (pe_op op_cat (pv 1) (pe_lst (pa_cons pe_str (pa_cons pe_str pa_nil)))))
    (pss_cons (ps_set (i := 1) scLaw4.nd rfl (.inl rfl) (pe_op op_cat (pv 1) (pe_lst (pa_cons pe_str (pa_cons pe_str pa_nil)))))
    (pss_cons (ps_expr (pe_bm PySem.F.plainAttrs_list PySem.F.slot_list_append PySem.F.type_list_append mt_append (pv 1) (pa_cons pe_str pa_nil)))
    (pss_cons (ps_expr (pe_bm PySem.F.plainAttrs_list PySem.F.slot_list_append PySem.F.type_list_append mt_append (pv 1) (pa_cons pe_str pa_nil)))
    (pss_cons (ps_if (pt_cmpR (op_neD hr.units) (pe_lc (own := [("_law_x", 2)]) (g := gName 2) (tt := tYes) (te := tOp (fun x y H Q => y = .non ∧ Q (.bl (decide (x = .non))) H) (tCall (spLrd K) [] E0 (tCons (tVar 2) tNil)) (tC .non)) rfl scLaw4.nd (pi_list (pv 1)) (blkOk_by (own := [("_law_x", 2)]) (N := NLaw4) (sc := defScope sLaw4) (by decide +kernel))
        (fun _ _ _ _ _ => pg_name (i := 2) scLaw4.nd rfl (Or.inl rfl)) (fun _ _ _ _ _ => pts_nil) (fun _ _ _ _ _ => pe_cmpR op_isN (pe_call GL hr2 (by rfl) gL kL bL .nil pass0 (pa_cons (pv 2) pa_nil)) pe_non (nomark _)))
      (pe_op op_cat (pe_lst (pa_cons pe_bl (pa_cons pe_bl pa_nil))) (pe_op op_rep (pe_lst (pa_cons pe_bl pa_nil)) pe_int)) (nomark _)) (pss_one (ps_ret pe_bl)) pss_nil)
    (pss_cons (ps_if (pt_not (pt_val (pe_callB (cr_all rfl) (by rfl) B.all bAll4 (pa_cons (pe_lc (own := [("_law_x", 2)]) (g := gName 2) (tt := tYes) (te := tCall (spThr K T) [] E0 (tCons (tVar 2) tNil)) rfl scLaw4.nd (pi_list (pv 1))
      (blkOk_by (own := [("_law_x", 2)]) (N := NLaw4) (sc := defScope sLaw4) (by decide +kernel)) (fun _ _ _ _ _ => pg_name (i := 2) scLaw4.nd rfl (Or.inl rfl)) (fun _ _ _ _ _ => pts_nil) (fun _ _ _ _ _ => pe_callG GT hgu hr10 (by rfl) gT kT bT (pa_cons (pv 2) pa_nil))) pa_nil)))) (pss_one (ps_ret pe_bl)) pss_nil)
    (pss_one (ps_ret (pe_callB (cr_all rfl) (by rfl) B.all bAll4 (pa_cons (pe_lc (own := [("_law_k", 3)]) (g := gName 3) (tt := tYes)
      (te := tCall (spRgt4 K T) [] E0 (tCons (tCall spPool [] E0 (tCons (tCall (K2.spCell K) [] E0 (tCons (tVar 0) (tCons (tVar 3) tNil))) tNil)) tNil)) rfl scLaw4.nd
      (pi_range1 (by rfl) B.range (pa_cons (pe_callB (call_max2 rfl) (by rfl) B.max bMax (pa_cons pe_int (pa_cons (pe_callB (call_min2 rfl) (by rfl) B.min bMin (pa_cons (pe_callB call_len_seq (by rfl) B.len PySem.boot_len (pa_cons (pv 0) pa_nil)) (pa_cons pe_int pa_nil))) pa_nil))) pa_nil))
      (blkOk_by (own := [("_law_k", 3)]) (N := NLaw4) (sc := defScope sLaw4) (by decide +kernel))
      (fun _ _ _ _ _ => pg_name (i := 3) scLaw4.nd rfl (Or.inl rfl)) (fun _ _ _ _ _ => pts_nil)
      (fun _ _ _ _ _ => pe_callG GR hgu hr (by rfl) gR kR bR (pa_cons (pe_call GP hr1 (by rfl) gP kP bP .nil pass0 (pa_cons (pe_call GC hr1 (by rfl) gC kC bC .nil pass0 (pa_cons (pv 0) (pa_cons (pv 3) pa_nil))) pa_nil)) pa_nil))) pa_nil))))))))))), ?_⟩
  refine seq_asg (lst_read (cons_read (c_read (cons_read (c_read (nil_read ⟨by show 2 ≤ sizeLine; decide, fun a1 na1 => ?_⟩))))))
  have s1 : Same H (upd H a1 (.lst ((someL.take 2).map V.str))) := same_lay na1
  have q1 : (upd H a1 (.lst ((someL.take 2).map V.str))) a1 = some (.lst ((someL.take 2).map V.str)) := upd_same
  show tSeq _ _ _ _ (upd H a1 (.lst ((someL.take 2).map V.str)))
  generalize upd H a1 (.lst ((someL.take 2).map V.str)) = H1 at s1 q1 ⊢
  refine seq_asg (op_read ⟨_, rfl, lst_read (cons_read (c_read (cons_read (c_read (cons_read (c_read (nil_read ⟨by show 3 ≤ sizeLine; decide, fun b0 nb0 => ?_⟩)))))))⟩)
  refine ⟨a1, b0, _, _, rfl, rfl, same_lay nb0 _ _ q1, upd_same, by show 2 + 3 ≤ sizeLine; decide, fun d0 nd0 => ?_⟩
  have t0 : Same H (upd (upd H1 b0 (.lst (((someL.drop 2).take 3).map V.str))) d0 (.lst ((someL.take 5).map V.str))) := s1.trans ((same_lay nb0).trans (same_lay nd0))
  have p0 : (upd (upd H1 b0 (.lst (((someL.drop 2).take 3).map V.str))) d0 (.lst ((someL.take 5).map V.str))) d0 = some (.lst ((someL.take 5).map V.str)) := upd_same
  show tSeq _ _ _ _ (upd (upd H1 b0 (.lst (((someL.drop 2).take 3).map V.str))) d0 (.lst ((someL.take 5).map V.str)))
  generalize upd (upd H1 b0 (.lst (((someL.drop 2).take 3).map V.str))) d0 (.lst ((someL.take 5).map V.str)) = G0 at t0 p0 ⊢
  refine seq_asg (op_read ⟨_, rfl, lst_read (cons_read (c_read (cons_read (c_read (nil_read ⟨by show 2 ≤ sizeLine; decide, fun b1 nb1 => ?_⟩)))))⟩)
  refine ⟨d0, b1, _, _, rfl, rfl, same_lay nb1 _ _ p0, upd_same, by show 5 + 2 ≤ sizeLine; decide, fun d1 nd1 => ?_⟩
  have t1 : Same H (upd (upd G0 b1 (.lst (((someL.drop 5).take 2).map V.str))) d1 (.lst ((someL.take 7).map V.str))) := t0.trans ((same_lay nb1).trans (same_lay nd1))
  have p1 : (upd (upd G0 b1 (.lst (((someL.drop 5).take 2).map V.str))) d1 (.lst ((someL.take 7).map V.str))) d1 = some (.lst ((someL.take 7).map V.str)) := upd_same
  show tSeq _ _ _ _ (upd (upd G0 b1 (.lst (((someL.drop 5).take 2).map V.str))) d1 (.lst ((someL.take 7).map V.str)))
  generalize upd (upd G0 b1 (.lst (((someL.drop 5).take 2).map V.str))) d1 (.lst ((someL.take 7).map V.str)) = G1 at t1 p1 ⊢
  refine seq_asg (op_read ⟨_, rfl, lst_read (cons_read (c_read (cons_read (c_read (nil_read ⟨by show 2 ≤ sizeLine; decide, fun b2 nb2 => ?_⟩)))))⟩)
  refine ⟨d1, b2, _, _, rfl, rfl, same_lay nb2 _ _ p1, upd_same, by show 7 + 2 ≤ sizeLine; decide, fun d2 nd2 => ?_⟩
  have hd2 : H d2 = none := (t1.trans (same_lay (o := .lst (((someL.drop 7).take 2).map V.str)) nb2)).free nd2
  have t2 : Same H (upd (upd G1 b2 (.lst (((someL.drop 7).take 2).map V.str))) d2 (.lst ((someL.take 9).map V.str))) := t1.trans ((same_lay nb2).trans (same_lay nd2))
  have p2 : (upd (upd G1 b2 (.lst (((someL.drop 7).take 2).map V.str))) d2 (.lst ((someL.take 9).map V.str))) d2 = some (.lst ((someL.take 9).map V.str)) := upd_same
  show tSeq _ _ _ _ (upd (upd G1 b2 (.lst (((someL.drop 7).take 2).map V.str))) d2 (.lst ((someL.take 9).map V.str)))
  generalize upd (upd G1 b2 (.lst (((someL.drop 7).take 2).map V.str))) d2 (.lst ((someL.take 9).map V.str)) = G2 at t2 p2 ⊢
  refine ⟨_, rfl, .inl ⟨rfl, _, SqL.of p2⟩, ?_⟩
  refine ⟨d2, _, _, rfl, rfl, p2, by show 9 < sizeLine; decide, ?_⟩
  refine ⟨_, rfl, .inl ⟨rfl, _, SqL.of upd_same⟩, ?_⟩
  refine ⟨d2, _, _, rfl, rfl, upd_same, by show 10 < sizeLine; decide, ?_⟩
  have u1 : Same H (upd (upd G2 d2 (.lst ((someL.take 10).map V.str))) d2 (.lst (someL.map V.str))) := fun b o e => by
    rw [upd_ne (ne_of_none e hd2), upd_ne (ne_of_none e hd2)]
    exact t2 _ _ e
  have e1 : (upd (upd G2 d2 (.lst ((someL.take 10).map V.str))) d2 (.lst (someL.map V.str))) d2 = some (.lst (someL.map V.str)) := upd_same
  show tSeq _ _ _ _ (upd (upd G2 d2 (.lst ((someL.take 10).map V.str))) d2 (.lst (someL.map V.str)))
  generalize upd (upd G2 d2 (.lst ((someL.take 10).map V.str))) d2 (.lst (someL.map V.str)) = HA at u1 e1 ⊢
  have hTA := hTb.ext u1
  have hSA : SqL K HA l (ns.map V.int) := u1.seq hS
  have hTh : ∀ {G : Hp} {x : Str}, x ∈ someL → Th K G (.str x) (.str x) := fun {G x} hx => .str x (some_plain x hx).2 (by have := (some_plain x hx).1; omega)
  refine ⟨_, rfl, d2, rfl, ⟨_, SqL.of e1⟩, fun D hD => ?_⟩
  refine lc_list (K := K) (xs := someL.map V.str) (fun i G => Same HA G ∧ G D = some (.lst ((wantL.take i).map V.bl))) ⟨same_lay hD, upd_same⟩ (fun i G _ q => SqL.of (q.1 _ _ e1)) ?_ ?_
  · rintro i v G hi ⟨q1, q2⟩
    refine ⟨rfl, ?_⟩
    unfold tYes
    dsimp only
    rw [if_pos rfl]
    have hlt : i < someL.length := by
      have z := (List.getElem?_eq_some_iff.mp hi).1
      rwa [List.length_map] at z
    rw [List.getElem?_map, List.getElem?_eq_getElem hlt] at hi
    obtain rfl : V.str someL[i] = v := Option.some.inj hi
    have fin : ∀ (G' : Hp) (bb : Bool), Same G G' → wantL[i]? = some bb → ∃ acc, G' D = some (.lst acc) ∧ acc.length < sizeLine ∧ (Same HA (upd G' D (.lst (acc ++ [V.bl bb]))) ∧ (upd G' D (.lst (acc ++ [V.bl bb]))) D = some (.lst ((wantL.take (i + 1)).map V.bl))) := fun G' bb sg hb => by
      refine ⟨_, sg _ _ q2, ?_, fun z o e => ?_, ?_⟩
      · have : (wantL.take i).length ≤ 11 := by rw [List.length_take]; exact Nat.min_le_right _ _
        rw [List.length_map, sizeLine_eq]
        omega
      · rw [upd_ne (ne_of_none e hD)]
        exact sg _ _ (q1 _ _ e)
      · rw [upd_same, List.take_add_one, hb]
        simp
    rcases some_case i _ (List.getElem?_eq_getElem hlt) with ⟨h1, h2⟩ | ⟨h1, h2⟩
    · refine ⟨_, rfl, ?_⟩
      dsimp only [tNil, List.cons_append, List.nil_append]
      refine lrd_r h1 fun G' q sg => ?_
      refine ⟨rfl, ?_⟩
      have z : decide (V.ref q = V.non) = false := decide_eq_false (fun z => by cases z)
      rw [z]
      exact fin G' false sg h2
    · refine ⟨_, rfl, ?_⟩
      dsimp only [tNil, List.cons_append, List.nil_append]
      refine lrd_no (hTh (List.getElem_mem hlt)) (fun x e => by injection e with e; rw [← e]; exact h1) fun G' sg => ?_
      exact ⟨rfl, fin G' true sg h2⟩
  rintro G ⟨q1, q2⟩
  have e2 : wantL.take (someL.map V.str).length = wantL := rfl
  rw [e2] at q2
  refine op_read (lst_read (cons_read (c_read (cons_read (c_read (nil_read ⟨by show 2 ≤ sizeLine; decide, fun u1 m1 => ?_⟩))))))
  refine op_read (lst_read (cons_read (c_read (nil_read ⟨by show 1 ≤ sizeLine; decide, fun u2 m2 => ?_⟩))))
  refine ⟨u2, _, _, rfl, rfl, upd_same, by decide, by decide, by decide, fun u3 m3 => ?_⟩
  refine ⟨u1, u3, _, _, rfl, rfl, (same_lay m2).trans (same_lay m3) _ _ upd_same, upd_same, by decide, fun u4 m4 => ?_⟩
  have v1 : Same G (upd (upd (upd (upd G u1 (.lst [.bl false, .bl false])) u2 (.lst [.bl true])) u3 (.lst (List.replicate (Int.toNat 9) [V.bl true]).flatten)) u4 (.lst (wantL.map V.bl))) := (same_lay m1).trans ((same_lay m2).trans ((same_lay m3).trans (same_lay m4)))
  have g4 : (upd (upd (upd (upd G u1 (.lst [.bl false, .bl false])) u2 (.lst [.bl true])) u3 (.lst (List.replicate (Int.toNat 9) [V.bl true]).flatten)) u4 (.lst (wantL.map V.bl))) u4 = some (.lst (wantL.map V.bl)) := upd_same
  show rNeD _ _ _ (upd (upd (upd (upd G u1 (.lst [.bl false, .bl false])) u2 (.lst [.bl true])) u3 (.lst (List.replicate (Int.toNat 9) [V.bl true]).flatten)) u4 (.lst (wantL.map V.bl))) _
  generalize upd (upd (upd (upd G u1 (.lst [.bl false, .bl false])) u2 (.lst [.bl true])) u3 (.lst (List.replicate (Int.toNat 9) [V.bl true]).flatten)) u4 (.lst (wantL.map V.bl)) = HB at v1 g4 ⊢
  have dpb : ∀ (X : Hp) (l : List Bool), DpAll K X (l.map V.bl) (l.map PyData.bool) := fun X l => by
    induction l with
    | nil => exact .nil
    | cons a r ih => exact .cons (.bl a) ih
  refine ⟨.list (wantL.map PyData.bool), .list (wantL.map PyData.bool), .lst (SqL.of (v1 _ _ q2)) (dpb _ _), .lst (SqL.of g4) (dpb _ _), by decide +kernel, by decide +kernel, _, rfl, ?_⟩
  have z9 : (!PyData.eqv (.list (wantL.map PyData.bool)) (.list (wantL.map PyData.bool))) = false := by decide +kernel
  rw [z9]
  refine iteF ?_
  have u2 : Same HA HB := q1.trans v1
  have eB := u2 _ _ e1
  have TB := hTA.ext u2
  have SB : SqL K HB l (ns.map V.int) := u2.seq hSA
  try unfold tNext
  dsimp only
  refine ⟨_, rfl, d2, rfl, ⟨_, SqL.of eB⟩, fun D2 hD2 => ?_⟩
  refine lc_list (K := K) (xs := someL.map V.str) (fun i G => ExtN HB G ∧ Tabs T G ∧ G D2 = some (.lst (List.replicate i (V.bl true)))) ⟨ExtN.of (same_lay hD2), TB.ext (same_lay hD2), upd_same⟩ (fun i G _ q => extN_lst q.1 (SqL.of eB)) ?_ ?_
  · rintro i v G hi ⟨q1, q2, q3⟩
    have hlt : i < someL.length := by
      have z := (List.getElem?_eq_some_iff.mp hi).1
      rwa [List.length_map] at z
    rw [List.getElem?_map, List.getElem?_eq_getElem hlt] at hi
    obtain rfl : V.str someL[i] = v := Option.some.inj hi
    have hi11 : i < 11 := hlt
    refine ⟨rfl, ?_⟩
    unfold tYes
    dsimp only
    rw [if_pos rfl]
    refine ⟨_, rfl, .str someL[i], .str someL[i], rfl, hTh (List.getElem_mem hlt), q2, fun G6 x6 T6 => ?_⟩
    have q6 := x6 _ _ q3 (fun ps z => by cases z)
    refine ⟨_, q6, ?_, fun z o e nt => ?_, tabs_set4 T6 q6, ?_⟩
    · rw [List.length_replicate, sizeLine_eq]
      omega
    · rw [upd_ne (ne_of_none e hD2)]
      exact x6 _ _ (q1 _ _ e nt) nt
    · rw [upd_same, List.replicate_succ']
  rintro HC ⟨q1, TC', q3⟩
  refine nil_read ⟨D2, List.replicate (someL.map V.str).length true, rfl, SqL.of (by rw [q3, List.map_replicate]), ?_⟩
  have ea : (List.replicate (someL.map V.str).length true).all id = true := by decide +kernel
  rw [ea]
  refine ⟨true, rfl, iteF ?_⟩
  have SC : SqL K HC l (ns.map V.int) := extN_lst q1 SB
  try unfold tNext
  dsimp only
  clear hTA hTb hS hSA SB TB
  refine ret_read (cb_read (cons_read ?_))
  refine ⟨_, rfl, l, _, rfl, .inl SC, _, _, rfl, _, _, rfl, _, rfl, ?_, ?_, fun D hD => ?_⟩
  · rw [List.length_map]
    split <;> (try split) <;> omega
  · rw [List.length_map]
    split <;> (try split) <;> omega
  generalize hm : (if (if (4 : Int) < ((ns.map V.int).length : Int) then 4 else ((ns.map V.int).length : Int)) > 2 then (if (4 : Int) < ((ns.map V.int).length : Int) then 4 else ((ns.map V.int).length : Int)) else 2) = m
  have m3 : m ≤ 4 := by
    rw [← hm]
    split <;> (try split) <;> omega
  refine lc_range (lo := 0) (n := m.toNat) (fun i H' => ExtN HC H' ∧ Tabs T H' ∧ H' D = some (.lst (List.replicate i (V.bl true)))) ⟨ExtN.of (same_lay hD), TC'.ext (same_lay hD), upd_same⟩ ?_ ?_
  · rintro i H' hi ⟨s1, T2, hy⟩
    refine ⟨rfl, ?_⟩
    unfold tYes
    dsimp only
    rw [if_pos rfl]
    refine ⟨_, rfl, _, rfl, l, ns, i, by show [V.ref l, V.int (0 + (i : Int))] = _; rw [Int.zero_add], extN_lst s1 SC, hlen, by omega, fun H5 z s5 => ⟨z, rfl, fun p a b c np a0 a1 => ⟨p, rfl, ⟨a, b, c, upd_same, a0, a1⟩, (T2.ext s5).ext (same_lay np), fun H6 st T6 => ?_⟩⟩⟩
    have s6 : ExtN H5 H6 := fun x o e nt => by
      have ne : x ≠ p := ne_of_none e np
      exact st.2 x o ne nt (by rw [upd_ne ne]; exact e)
    have hy6 := s6 _ _ (s5 _ _ hy) (fun ps z => by cases z)
    refine ⟨_, hy6, ?_, fun x o z nt => ?_, tabs_set4 T6 hy6, ?_⟩
    · rw [List.length_replicate, sizeLine_eq]
      omega
    · rw [upd_ne (ne_of_none z hD)]
      exact s6 _ _ (s5 _ _ (s1 _ _ z nt)) nt
    · rw [upd_same, List.replicate_succ']
  · rintro H' ⟨s1, T2, hy⟩
    refine nil_read ⟨D, List.replicate m.toNat true, rfl, SqL.of (by rw [hy, List.map_replicate]), ?_⟩
    have e : (List.replicate m.toNat true).all id = true := by
      rw [List.all_eq_true]
      intro x hx
      rw [(List.mem_replicate.mp hx).2]
      rfl
    rw [e]
    exact k H'
end
end K4

set_option Elab.async false
set_option linter.all false
set_option maxRecDepth 100000
set_option maxHeartbeats 8000000
namespace K2
open PySem PySem.Spec PyProof.Rows L2 G1 G2 ClX
abbrev sGb : Stmt := inClass sDrv 3
abbrev sGp : Stmt := inClass sDrv 4
abbrev sGn : Stmt := inClass sDrv 5
abbrev sGr : Stmt := inClass sDrv 6
theorem scGb : FnScope ["self"] ["self"] (defScope sGb) := ⟨rfl, rfl, rfl, by decide +kernel, rfl, by decide +kernel, by decide +kernel⟩
theorem scGp : FnScope ["self"] ["self"] (defScope sGp) := ⟨rfl, rfl, rfl, by decide +kernel, rfl, by decide +kernel, by decide +kernel⟩
theorem scGn : FnScope ["self"] ["self"] (defScope sGn) := ⟨rfl, rfl, rfl, by decide +kernel, rfl, by decide +kernel, by decide +kernel⟩
theorem scGr : FnScope ["self"] ["self"] (defScope sGr) := ⟨rfl, rfl, rfl, by decide +kernel, rfl, by decide +kernel, by decide +kernel⟩
section
variable {P : Program} {w : World} {K : PySem.W.Frag} {mg : Str → Option Value} {base : Heap} {C : Addr}
theorem ok_gb {f : Addr} {fd : FuncData} (F : Fun K "blocks" "Drive.blocks" sGb f fd) (T : DCls K C) : FnOk P w K mg base CX0 1 f fd ["self"] (getSp C "kept_blocks") := by
  refine F.ok scGb (fun vs H Q E h => ?_) (fun cdv A outer s H vs Q E hr h => ?_)
  · obtain ⟨a, dx, fs, v, rfl, _⟩ := h
    rfl
  obtain ⟨a, dx, fs, v, rfl, ha, h1, k⟩ := h
  exact ⟨_, pss_one (ps_ret (pe_fld (pv 0) rfl)), _, rfl, a, C, dx, fs, _, rfl, ha, T.cl, T.nb, h1, k⟩
theorem ok_gp {f : Addr} {fd : FuncData} (F : Fun K "pages" "Drive.pages" sGp f fd) (T : DCls K C) : FnOk P w K mg base CX0 1 f fd ["self"] (getSp C "kept_pages") := by
  refine F.ok scGp (fun vs H Q E h => ?_) (fun cdv A outer s H vs Q E hr h => ?_)
  · obtain ⟨a, dx, fs, v, rfl, _⟩ := h
    rfl
  obtain ⟨a, dx, fs, v, rfl, ha, h1, k⟩ := h
  exact ⟨_, pss_one (ps_ret (pe_fld (pv 0) rfl)), _, rfl, a, C, dx, fs, _, rfl, ha, T.cl, T.np, h1, k⟩
theorem ok_gn {f : Addr} {fd : FuncData} (F : Fun K "names" "Drive.names" sGn f fd) (T : DCls K C) : FnOk P w K mg base CX0 1 f fd ["self"] (getSp C "kept_names") := by
  refine F.ok scGn (fun vs H Q E h => ?_) (fun cdv A outer s H vs Q E hr h => ?_)
  · obtain ⟨a, dx, fs, v, rfl, _⟩ := h
    rfl
  obtain ⟨a, dx, fs, v, rfl, ha, h1, k⟩ := h
  exact ⟨_, pss_one (ps_ret (pe_fld (pv 0) rfl)), _, rfl, a, C, dx, fs, _, rfl, ha, T.cl, T.nn, h1, k⟩
theorem ok_gr {f : Addr} {fd : FuncData} (F : Fun K "rows" "Drive.rows" sGr f fd) (T : DCls K C) : FnOk P w K mg base CX0 1 f fd ["self"] (getSp C "kept_rows") := by
  refine F.ok scGr (fun vs H Q E h => ?_) (fun cdv A outer s H vs Q E hr h => ?_)
  · obtain ⟨a, dx, fs, v, rfl, _⟩ := h
    rfl
  obtain ⟨a, dx, fs, v, rfl, ha, h1, k⟩ := h
  exact ⟨_, pss_one (ps_ret (pe_fld (pv 0) rfl)), _, rfl, a, C, dx, fs, _, rfl, ha, T.cl, T.nr, h1, k⟩
/-- what the top has written of a def -/
structure DF (K : PySem.W.Frag) (x : Str) (st : Stmt) (f : Addr) : Prop where
  ns : PySem.W.nsIn K mainGlobals x = some (some (.ref f))
  lk : ∃ (oc : Value) (od : Option Addr) (kV dc pm : Value) (an : Option Addr) (cd ct : Value) (sl : Array (Option Value)),
    K.lookup f = some ⟨oc, od, .func (PySem.W.fnOf x x (defArgs st) (defBody st) (defScope st) .none kV dc pm an cd ct), sl⟩ ∧ PySem.W.codeIn K cd x = true
  kp : PySem.W.keepIn K (.ref f) = true
/-- .. of a def in the class -/
structure MF (K : PySem.W.Frag) (x q : Str) (st : Stmt) (f : Addr) : Prop where
  lk : ∃ (oc : Value) (od : Option Addr) (kV dc pm : Value) (an : Option Addr) (cd ct : Value) (sl : Array (Option Value)),
    K.lookup f = some ⟨oc, od, .func (PySem.W.fnOf x q (defArgs st) (defBody st) (defScope st) .none kV dc pm an cd ct), sl⟩ ∧ PySem.W.codeIn K cd q = true
  kp : PySem.W.keepIn K (.ref f) = true
theorem DF.fn {x : Str} {st : Stmt} {f : Addr} (D : DF K x st f) : ∃ fd, Fun K x x st f fd ∧ ∃ (kV dc pm : Value) (an : Option Addr) (cd ct : Value), fd = PySem.W.fnOf x x (defArgs st) (defBody st) (defScope st) .none kV dc pm an cd ct := by
  obtain ⟨oc, od, kV, dc, pm, an, cd, ct, sl, l, h⟩ := D.lk
  exact ⟨_, fun_mk l h D.kp, kV, dc, pm, an, cd, ct, rfl⟩
theorem MF.fn {x q : Str} {st : Stmt} {f : Addr} (D : MF K x q st f) : ∃ fd, Fun K x q st f fd := by
  obtain ⟨oc, od, kV, dc, pm, an, cd, ct, sl, l, h⟩ := D.lk
  exact ⟨_, fun_mk l h D.kp⟩
/-- .. of Drive.simple, whose word stands if nothing is said -/
structure SF (K : PySem.W.Frag) (f : Addr) : Prop where
  ex : ∃ (oc : Value) (od : Option Addr) (T : Addr) (kV dc pm : Value) (an : Option Addr) (cd ct : Value) (sl : Array (Option Value)) (tc : Value) (td : Option Addr) (n : Nat) (tk : Tok) (ts : Array (Option Value)),
    K.lookup f = some ⟨oc, od, .func (PySem.W.fnOf "simple" "Drive.simple" (defArgs sSim) (defBody sSim) (defScope sSim) (.ref T) kV dc pm an cd ct), sl⟩ ∧ PySem.W.codeIn K cd "Drive.simple" = true ∧
    K.lookup T = some ⟨tc, td, .seq [Value.str (Str.ofString "least") tk].toArray n, ts⟩
  kp : PySem.W.keepIn K (.ref f) = true
theorem SF.fn {f : Addr} (D : SF K f) : ∃ fd, FunD K "simple" "Drive.simple" (defArgs sSim) (defBody sSim) (defScope sSim) [.str (Str.ofString "least")] [] f fd := by
  obtain ⟨oc, od, T, kV, dc, pm, an, cd, ct, sl, tc, td, n, tk, ts, l, h, hT⟩ := D.ex
  exact ⟨_, ⟨oc, od, _, kV, dc, pm, an, cd, ct, sl, rfl, l, h, .inr ⟨by simp, T, _, _, n, rfl, hT, rfl, .cons ⟨_, rfl⟩ .nil⟩, .inl rfl⟩, D.kp⟩
/-- .. of the words -/
structure WF (K : PySem.W.Frag) (a : Addr) : Prop where
  ex : ∃ (od : Option Addr) (n : Nat) (t1 t2 t3 t4 : Tok) (sl : Array (Option Value)),
    K.lookup a = some ⟨.type "tuple", od, .seq #[Value.str (Str.ofString "oldest") t1, Value.str (Str.ofString "youngest") t2, Value.str (Str.ofString "least") t3, Value.str (Str.ofString "most") t4] n, sl⟩
theorem WF.at_ {a : Addr} (W : WF K a) : WordsAt K a := by
  obtain ⟨od, n, t1, t2, t3, t4, sl, l⟩ := W.ex
  exact fun H => .inr ⟨_, _, n, l, rfl, rfl, by show 4 ≤ sizeLine; decide, .cons ⟨_, rfl⟩ (.cons ⟨_, rfl⟩ (.cons ⟨_, rfl⟩ (.cons ⟨_, rfl⟩ .nil)))⟩
end
end K2
namespace K4
open PySem PySem.Spec PyProof.Rows L2 G1 G2 G3 K2 K3 LamX ClX
def clOf (x0 x1 x2 x3 : Addr) : K3.Due → Addr
  | .blk => x0
  | .pag => x1
  | .nam => x2
  | .row _ => x3
/-- a def that makes lambdas -/
structure DC (K : PySem.W.Frag) (x : Str) (st : Stmt) (f c : Addr) : Prop where
  ns : PySem.W.nsIn K mainGlobals x = some (some (.ref f))
  lk : ∃ (oc : Value) (od : Option Addr) (kV dc pm : Value) (an : Option Addr) (ct : Value) (sl : Array (Option Value)),
    K.lookup f = some ⟨oc, od, .func (PySem.W.fnOf x x (defArgs st) (defBody st) (defScope st) .none kV dc pm an (.ref c) ct), sl⟩ ∧ PySem.W.codeIn K (.ref c) x = true
  kp : PySem.W.keepIn K (.ref f) = true
theorem DC.fn {K : PySem.W.Frag} {x : Str} {st : Stmt} {f c : Addr} (D : DC K x st f c) : ∃ fd, FunC K x x st f c fd := by
  obtain ⟨oc, od, kV, dc, pm, an, ct, sl, l, h⟩ := D.lk
  exact ⟨_, ⟨oc, od, kV, dc, pm, an, ct, sl, rfl, l, h⟩, D.kp⟩
/-- all that the top has written -/
structure All (K : PySem.W.Frag) (C aW I0 S0 PC GC bV cT p0 p1 p2 p3 g0 g1 g2 g3 x0 x1 x2 x3 x4 y0 y1 y2 y3 y4 m0 c0 P0 : Addr) (dA : Nat → Addr) : Prop where
  nC : PySem.W.nsIn K mainGlobals "Drive" = some (some (.ref C))
  nW : PySem.W.nsIn K mainGlobals "WORDS" = some (some (.ref aW))
  W : WF K aW
  T : DCls K C
  mk_ : Mk K C I0
  ini : MF K "__init__" "Drive.__init__" sIni I0
  st_f : PySem.W.findIn K (.ref C) "__str__" = some (some (.ref S0))
  st_i : PySem.W.isFn K (.ref S0) = true
  st_m : MF K "__str__" "Drive.__str__" sStr S0
  cr : CRead K C (.type "type")
  cd : CMet K C (.type "type") "read" PC GC
  rf : MF K "read" "Drive.read" sRead GC
  pr0 : PropOf K C "blocks" p0 g0
  pm0 : MF K "blocks" "Drive.blocks" sGb g0
  pr1 : PropOf K C "pages" p1 g1
  pm1 : MF K "pages" "Drive.pages" sGp g1
  pr2 : PropOf K C "names" p2 g2
  pm2 : MF K "names" "Drive.names" sGn g2
  pr3 : PropOf K C "rows" p3 g3
  pm3 : MF K "rows" "Drive.rows" sGr g3
  nB : PySem.W.nsIn K mainGlobals "BadValue" = some (some (.ref bV))
  nT : PySem.W.nsIn K mainGlobals "TooMany" = some (some (.ref cT))
  x0_n : PySem.W.nsIn K mainGlobals "InvalidBlocks" = some (some (.ref x0))
  x0_T : OexC K x0
  x0_f : XfC K x0
  x0_no : PySem.W.findIn K (.ref x0) "given" = some none
  x0_i : PySem.W.findIn K (.ref x0) "__init__" = some (some (.ref y0))
  x0_t : PySem.W.typeIn K (.ref y0) = some (.type "function")
  x0_m : MF K "__init__" "InvalidBlocks.__init__" sIB y0
  x1_n : PySem.W.nsIn K mainGlobals "InvalidPages" = some (some (.ref x1))
  x1_T : OexC K x1
  x1_f : XfC K x1
  x1_no : PySem.W.findIn K (.ref x1) "given" = some none
  x1_i : PySem.W.findIn K (.ref x1) "__init__" = some (some (.ref y1))
  x1_t : PySem.W.typeIn K (.ref y1) = some (.type "function")
  x1_m : MF K "__init__" "InvalidPages.__init__" sIP y1
  x2_n : PySem.W.nsIn K mainGlobals "InvalidNames" = some (some (.ref x2))
  x2_T : OexC K x2
  x2_f : XfC K x2
  x2_no : PySem.W.findIn K (.ref x2) "given" = some none
  x2_i : PySem.W.findIn K (.ref x2) "__init__" = some (some (.ref y2))
  x2_t : PySem.W.typeIn K (.ref y2) = some (.type "function")
  x2_m : MF K "__init__" "InvalidNames.__init__" sIN y2
  x3_n : PySem.W.nsIn K mainGlobals "InvalidRows" = some (some (.ref x3))
  x3_T : OexC K x3
  x3_f : XfC K x3
  x3_no : PySem.W.findIn K (.ref x3) "index" = some none
  x3_i : PySem.W.findIn K (.ref x3) "__init__" = some (some (.ref y3))
  x3_t : PySem.W.typeIn K (.ref y3) = some (.type "function")
  x3_m : MF K "__init__" "InvalidRows.__init__" sIR y3
  x4_n : PySem.W.nsIn K mainGlobals "InvalidText" = some (some (.ref x4))
  x4_T : OexC K x4
  x4_f : XfC K x4
  x4_no : PySem.W.findIn K (.ref x4) "given" = some none
  x4_i : PySem.W.findIn K (.ref x4) "__init__" = some (some (.ref y4))
  x4_t : PySem.W.typeIn K (.ref y4) = some (.type "function")
  x4_m : MF K "__init__" "InvalidText.__init__" sIT y4
  em : ∀ u, PySem.W.exmAny K (.ref (clOf x0 x1 x2 x3 u)) [.ref bV, .ref cT] = some true
  eT : PySem.W.exmOne K (.ref x4) (.ref x4) = some true
  mk0 : DC K "_law_thing_right" K4.sThr m0 c0
  hd0 : PySem.W.codeHdIn K c0 P0 = true
  nP0 : K.lookup P0 = none
  d0 : DF K "spread" K2.sSpr (dA 0)
  d1 : DF K "count_stands" K2.sCnt (dA 1)
  d2 : DF K "is_integer" K2.sIsI (dA 2)
  d3 : DF K "is_within" K2.sWit (dA 3)
  d4 : DF K "is_row" K2.sRow (dA 4)
  d5 : DF K "check_rows" K2.sChk (dA 5)
  d6 : DF K "check_sizes" K2.sSiz (dA 6)
  d7 : DF K "text_of" K2.sTxt (dA 7)
  d8 : DF K "number_of" K2.sNum (dA 8)
  d9 : DF K "row_of" K2.sRof (dA 9)
  d10 : DF K "parts_of" K2.sPar (dA 10)
  d11 : DF K "_law_cell" K2.sCell (dA 11)
  d12 : DF K "_law_pool" K2.sPool (dA 12)
  d13 : DF K "_law_draw" K2.sDraw (dA 13)
  d14 : DF K "_law_shape" K2.sShp (dA 14)
  d15 : DF K "_law_table" K2.sTab (dA 15)
  d16 : DF K "_law_text" K3.sLTx (dA 16)
  d17 : DF K "_law_sums" K3.sSum (dA 17)
  d18 : DF K "_law_halves" K3.sHal (dA 18)
  d19 : DF K "_law_many" K3.sMny (dA 19)
  d20 : DF K "_law_is_small" K3.sSml (dA 20)
  d21 : DF K "_law_number" K4.sLnu (dA 21)
  d22 : DF K "_law_row" K4.sLrw (dA 22)
  d23 : DF K "_law_read" K4.sLrd (dA 23)
  d24 : DF K "_law_sign" K4.sSgn (dA 24)
  d25 : DF K "_law_bent" K4.sBtT (dA 25)
  d26 : DF K "_law_caught" K4.sCau4 (dA 26)
  d27 : DF K "_law_right" K4.sRgt4 (dA 27)
  d28 : DF K "law" K4.sLaw4 (dA 28)
  k_lb : ∃ t, PySem.W.nsIn K mainGlobals "LEAST_BLOCKS" = some (some (.int 3 t))
  k_mb : ∃ t, PySem.W.nsIn K mainGlobals "MOST_BLOCKS" = some (some (.int 6 t))
  k_lp : ∃ t, PySem.W.nsIn K mainGlobals "LEAST_PAGES" = some (some (.int 2 t))
  k_mp : ∃ t, PySem.W.nsIn K mainGlobals "MOST_PAGES" = some (some (.int 5 t))
  k_mr : ∃ t, PySem.W.nsIn K mainGlobals "MOST_ROWS" = some (some (.int 4 t))
  k_ms : ∃ t, PySem.W.nsIn K mainGlobals "MOST_STANDS" = some (some (.int 2000 t))
  k_wh : ∃ t, PySem.W.nsIn K mainGlobals "WORDS_OF_HEAD" = some (some (.int 7 t))
  k_md : ∃ t, PySem.W.nsIn K mainGlobals "MOST_DIGITS" = some (some (.int 2 t))
  z_len : PySem.W.nsIn K mainGlobals "len" = some none
  z_int : PySem.W.nsIn K mainGlobals "int" = some none
  z_abs : PySem.W.nsIn K mainGlobals "abs" = some none
  z_repr : PySem.W.nsIn K mainGlobals "repr" = some none
  z_isi : PySem.W.nsIn K mainGlobals "isinstance" = some none
  z_range : PySem.W.nsIn K mainGlobals "range" = some none
  z_max : PySem.W.nsIn K mainGlobals "max" = some none
  z_min : PySem.W.nsIn K mainGlobals "min" = some none
  z_all : PySem.W.nsIn K mainGlobals "all" = some none
  z_sum : PySem.W.nsIn K mainGlobals "sum" = some none
  z_enm : PySem.W.nsIn K mainGlobals "enumerate" = some none
  z_tup : PySem.W.nsIn K mainGlobals "tuple" = some none
  z_boo : PySem.W.nsIn K mainGlobals "bool" = some none
  z_str : PySem.W.nsIn K mainGlobals "str" = some none
  z_list : PySem.W.nsIn K mainGlobals "list" = some none
theorem All.law {l : PySem.W.OpenLaw} {w : World} {K : PySem.W.Frag} {mg : Str → Option Value} {h : Heap} {fa : Addr} {C aW I0 S0 PC GC bV cT p0 p1 p2 p3 g0 g1 g2 g3 x0 x1 x2 x3 x4 y0 y1 y2 y3 y4 m0 c0 P0 : Addr} {dA : Nat → Addr} (A : All K C aW I0 S0 PC GC bV cT p0 p1 p2 p3 g0 g1 g2 g3 x0 x1 x2 x3 x4 y0 y1 y2 y3 y4 m0 c0 P0 dA)
    (X : K.In h) (G : h.Ns mainGlobals mg) (hfa : mg "law" = some (.ref fa)) (t0 : h.get? P0 = some { cls := .none, data := .fields #[] })  :
    LawT l w K 12 63 "_law_cells" mg fa h := by
  have B : Bl mg := ⟨PySem.W.mg_none_of X G A.z_len, PySem.W.mg_none_of X G A.z_int, PySem.W.mg_none_of X G A.z_abs, PySem.W.mg_none_of X G A.z_repr, PySem.W.mg_none_of X G A.z_isi, PySem.W.mg_none_of X G A.z_range, PySem.W.mg_none_of X G A.z_max, PySem.W.mg_none_of X G A.z_min, PySem.W.mg_none_of X G A.z_all, PySem.W.mg_none_of X G A.z_sum, PySem.W.mg_none_of X G A.z_enm, PySem.W.mg_none_of X G A.z_tup, PySem.W.mg_none_of X G A.z_boo, PySem.W.mg_none_of X G A.z_str⟩
  have bl := PySem.W.mg_none_of X G A.z_list
  have Cm : Cn mg := ⟨(let ⟨t, e⟩ := A.k_lb; ⟨t, PySem.W.mg_of X G e⟩), (let ⟨t, e⟩ := A.k_mb; ⟨t, PySem.W.mg_of X G e⟩), (let ⟨t, e⟩ := A.k_lp; ⟨t, PySem.W.mg_of X G e⟩), (let ⟨t, e⟩ := A.k_mp; ⟨t, PySem.W.mg_of X G e⟩), (let ⟨t, e⟩ := A.k_mr; ⟨t, PySem.W.mg_of X G e⟩), (let ⟨t, e⟩ := A.k_ms; ⟨t, PySem.W.mg_of X G e⟩), (let ⟨t, e⟩ := A.k_wh; ⟨t, PySem.W.mg_of X G e⟩), (let ⟨t, e⟩ := A.k_md; ⟨t, PySem.W.mg_of X G e⟩)⟩
  have gD := PySem.W.mg_of X G A.nC
  have gW := PySem.W.mg_of X G A.nW
  have gT := PySem.W.mg_of X G A.nT
  obtain ⟨fd0, F0, kV0, dc0, pm0, an0, cd0, ct0, e0⟩ := A.d0.fn
  have b0 := F0.binds (ps := ["before", "pages"]) fun _ _ _ _ _ _ us hl => match us, hl with | [_, _], _ => rfl
  have g0 := PySem.W.mg_of X G A.d0.ns
  obtain ⟨fd1, F1, kV1, dc1, pm1, an1, cd1, ct1, e1⟩ := A.d1.fn
  have b1 := F1.binds (ps := ["blocks", "pages", "names"]) fun _ _ _ _ _ _ us hl => match us, hl with | [_, _, _], _ => rfl
  have g1 := PySem.W.mg_of X G A.d1.ns
  obtain ⟨fd2, F2, kV2, dc2, pm2, an2, cd2, ct2, e2⟩ := A.d2.fn
  have b2 := F2.binds (ps := ["value"]) fun _ _ _ _ _ _ us hl => match us, hl with | [_], _ => rfl
  have g2 := PySem.W.mg_of X G A.d2.ns
  obtain ⟨fd3, F3, kV3, dc3, pm3, an3, cd3, ct3, e3⟩ := A.d3.fn
  have b3 := F3.binds (ps := ["value", "least", "most"]) fun _ _ _ _ _ _ us hl => match us, hl with | [_, _, _], _ => rfl
  have g3 := PySem.W.mg_of X G A.d3.ns
  obtain ⟨fd4, F4, kV4, dc4, pm4, an4, cd4, ct4, e4⟩ := A.d4.fn
  have b4 := F4.binds (ps := ["value", "pages"]) fun _ _ _ _ _ _ us hl => match us, hl with | [_, _], _ => rfl
  have g4 := PySem.W.mg_of X G A.d4.ns
  obtain ⟨fd5, F5, kV5, dc5, pm5, an5, cd5, ct5, e5⟩ := A.d5.fn
  have b5 := F5.binds (ps := ["rows", "pages"]) fun _ _ _ _ _ _ us hl => match us, hl with | [_, _], _ => rfl
  have g5 := PySem.W.mg_of X G A.d5.ns
  obtain ⟨fd6, F6, kV6, dc6, pm6, an6, cd6, ct6, e6⟩ := A.d6.fn
  have b6 := F6.binds (ps := ["blocks", "pages", "names"]) fun _ _ _ _ _ _ us hl => match us, hl with | [_, _, _], _ => rfl
  have g6 := PySem.W.mg_of X G A.d6.ns
  obtain ⟨fd7, F7, kV7, dc7, pm7, an7, cd7, ct7, e7⟩ := A.d7.fn
  have b7 := F7.binds (ps := ["blocks", "pages", "names", "rows"]) fun _ _ _ _ _ _ us hl => match us, hl with | [_, _, _, _], _ => rfl
  have g7 := PySem.W.mg_of X G A.d7.ns
  obtain ⟨fd8, F8, kV8, dc8, pm8, an8, cd8, ct8, e8⟩ := A.d8.fn
  have b8 := F8.binds (ps := ["word"]) fun _ _ _ _ _ _ us hl => match us, hl with | [_], _ => rfl
  have g8 := PySem.W.mg_of X G A.d8.ns
  obtain ⟨fd9, F9, kV9, dc9, pm9, an9, cd9, ct9, e9⟩ := A.d9.fn
  have b9 := F9.binds (ps := ["line", "pages"]) fun _ _ _ _ _ _ us hl => match us, hl with | [_, _], _ => rfl
  have g9 := PySem.W.mg_of X G A.d9.ns
  obtain ⟨fd10, F10, kV10, dc10, pm10, an10, cd10, ct10, e10⟩ := A.d10.fn
  have b10 := F10.binds (ps := ["text"]) fun _ _ _ _ _ _ us hl => match us, hl with | [_], _ => rfl
  have g10 := PySem.W.mg_of X G A.d10.ns
  obtain ⟨fd11, F11, kV11, dc11, pm11, an11, cd11, ct11, e11⟩ := A.d11.fn
  have b11 := F11.binds (ps := ["_law_cells", "_law_k"]) fun _ _ _ _ _ _ us hl => match us, hl with | [_, _], _ => rfl
  have g11 := PySem.W.mg_of X G A.d11.ns
  obtain ⟨fd12, F12, kV12, dc12, pm12, an12, cd12, ct12, e12⟩ := A.d12.fn
  have b12 := F12.binds (ps := ["_law_cell_here"]) fun _ _ _ _ _ _ us hl => match us, hl with | [_], _ => rfl
  have g12 := PySem.W.mg_of X G A.d12.ns
  obtain ⟨fd13, F13, kV13, dc13, pm13, an13, cd13, ct13, e13⟩ := A.d13.fn
  have b13 := F13.binds (ps := ["_law_pool_here", "_law_many_here"]) fun _ _ _ _ _ _ us hl => match us, hl with | [_, _], _ => rfl
  have g13 := PySem.W.mg_of X G A.d13.ns
  obtain ⟨fd14, F14, kV14, dc14, pm14, an14, cd14, ct14, e14⟩ := A.d14.fn
  have b14 := F14.binds (ps := ["_law_pool_here"]) fun _ _ _ _ _ _ us hl => match us, hl with | [_], _ => rfl
  have g14 := PySem.W.mg_of X G A.d14.ns
  obtain ⟨fd15, F15, kV15, dc15, pm15, an15, cd15, ct15, e15⟩ := A.d15.fn
  have b15 := F15.binds (ps := ["_law_pool_here", "_law_size"]) fun _ _ _ _ _ _ us hl => match us, hl with | [_, _], _ => rfl
  have g15 := PySem.W.mg_of X G A.d15.ns
  obtain ⟨fd16, F16, kV16, dc16, pm16, an16, cd16, ct16, e16⟩ := A.d16.fn
  have b16 := F16.binds (ps := ["_law_shape_here", "_law_table_here"]) fun _ _ _ _ _ _ us hl => match us, hl with | [_, _], _ => rfl
  have g16 := PySem.W.mg_of X G A.d16.ns
  obtain ⟨fd17, F17, kV17, dc17, pm17, an17, cd17, ct17, e17⟩ := A.d17.fn
  have b17 := F17.binds (ps := ["_law_many_here", "_law_size"]) fun _ _ _ _ _ _ us hl => match us, hl with | [_, _], _ => rfl
  have g17 := PySem.W.mg_of X G A.d17.ns
  obtain ⟨fd18, F18, kV18, dc18, pm18, an18, cd18, ct18, e18⟩ := A.d18.fn
  have b18 := F18.binds (ps := ["_law_size"]) fun _ _ _ _ _ _ us hl => match us, hl with | [_], _ => rfl
  have g18 := PySem.W.mg_of X G A.d18.ns
  obtain ⟨fd19, F19, kV19, dc19, pm19, an19, cd19, ct19, e19⟩ := A.d19.fn
  have b19 := F19.binds (ps := ["_law_shape_here", "_law_most"]) fun _ _ _ _ _ _ us hl => match us, hl with | [_, _], _ => rfl
  have g19 := PySem.W.mg_of X G A.d19.ns
  obtain ⟨fd20, F20, kV20, dc20, pm20, an20, cd20, ct20, e20⟩ := A.d20.fn
  have b20 := F20.binds (ps := ["_law_shape_here"]) fun _ _ _ _ _ _ us hl => match us, hl with | [_], _ => rfl
  have g20 := PySem.W.mg_of X G A.d20.ns
  obtain ⟨fd21, F21, kV21, dc21, pm21, an21, cd21, ct21, e21⟩ := A.d21.fn
  have b21 := F21.binds (ps := ["_law_word_here"]) fun _ _ _ _ _ _ us hl => match us, hl with | [_], _ => rfl
  have g21 := PySem.W.mg_of X G A.d21.ns
  obtain ⟨fd22, F22, kV22, dc22, pm22, an22, cd22, ct22, e22⟩ := A.d22.fn
  have b22 := F22.binds (ps := ["_law_line", "_law_size", "_law_is_last"]) fun _ _ _ _ _ _ us hl => match us, hl with | [_, _, _], _ => rfl
  have g22 := PySem.W.mg_of X G A.d22.ns
  obtain ⟨fd23, F23, kV23, dc23, pm23, an23, cd23, ct23, e23⟩ := A.d23.fn
  have b23 := F23.binds (ps := ["_law_thing"]) fun _ _ _ _ _ _ us hl => match us, hl with | [_], _ => rfl
  have g23 := PySem.W.mg_of X G A.d23.ns
  obtain ⟨fd24, F24, kV24, dc24, pm24, an24, cd24, ct24, e24⟩ := A.d24.fn
  have b24 := F24.binds (ps := ["_law_pool_here"]) fun _ _ _ _ _ _ us hl => match us, hl with | [_], _ => rfl
  have g24 := PySem.W.mg_of X G A.d24.ns
  obtain ⟨fd25, F25, kV25, dc25, pm25, an25, cd25, ct25, e25⟩ := A.d25.fn
  have b25 := F25.binds (ps := ["_law_pool_here", "_law_scrap"]) fun _ _ _ _ _ _ us hl => match us, hl with | [_, _], _ => rfl
  have g25 := PySem.W.mg_of X G A.d25.ns
  obtain ⟨fd26, F26, kV26, dc26, pm26, an26, cd26, ct26, e26⟩ := A.d26.fn
  have b26 := F26.binds (ps := ["_law_act"]) fun _ _ _ _ _ _ us hl => match us, hl with | [_], _ => rfl
  have g26 := PySem.W.mg_of X G A.d26.ns
  obtain ⟨fd27, F27, kV27, dc27, pm27, an27, cd27, ct27, e27⟩ := A.d27.fn
  have b27 := F27.binds (ps := ["_law_pool_here"]) fun _ _ _ _ _ _ us hl => match us, hl with | [_], _ => rfl
  have g27 := PySem.W.mg_of X G A.d27.ns
  obtain ⟨fd28, F28, kV28, dc28, pm28, an28, cd28, ct28, e28⟩ := A.d28.fn
  have b28 := F28.binds (ps := ["_law_cells"]) fun _ _ _ _ _ _ us hl => match us, hl with | [_], _ => rfl
  have g28 := PySem.W.mg_of X G A.d28.ns
  obtain ⟨fd_ini, F_ini⟩ := A.ini.fn
  have b_ini := F_ini.binds (ps := ["self", "blocks", "pages", "names", "rows"]) fun _ _ _ _ _ _ us hl => match us, hl with | [_, _, _, _, _], _ => rfl
  obtain ⟨fd_str, F_str⟩ := A.st_m.fn
  have b_str := F_str.binds (ps := ["self"]) fun _ _ _ _ _ _ us hl => match us, hl with | [_], _ => rfl
  obtain ⟨fd_rd, F_rd⟩ := A.rf.fn
  have b_rd := F_rd.binds (ps := ["cls", "text"]) fun _ _ _ _ _ _ us hl => match us, hl with | [_, _], _ => rfl
  obtain ⟨fd_pb, F_pb⟩ := A.pm0.fn
  have b_pb := F_pb.binds (ps := ["self"]) fun _ _ _ _ _ _ us hl => match us, hl with | [_], _ => rfl
  obtain ⟨fd_pp, F_pp⟩ := A.pm1.fn
  have b_pp := F_pp.binds (ps := ["self"]) fun _ _ _ _ _ _ us hl => match us, hl with | [_], _ => rfl
  obtain ⟨fd_pn, F_pn⟩ := A.pm2.fn
  have b_pn := F_pn.binds (ps := ["self"]) fun _ _ _ _ _ _ us hl => match us, hl with | [_], _ => rfl
  obtain ⟨fd_pr, F_pr⟩ := A.pm3.fn
  have b_pr := F_pr.binds (ps := ["self"]) fun _ _ _ _ _ _ us hl => match us, hl with | [_], _ => rfl
  obtain ⟨fd_x0, F_x0⟩ := A.x0_m.fn
  have b_x0 := F_x0.binds (ps := ["self", "given"]) fun _ _ _ _ _ _ us hl => match us, hl with | [_, _], _ => rfl
  obtain ⟨fd_x1, F_x1⟩ := A.x1_m.fn
  have b_x1 := F_x1.binds (ps := ["self", "given"]) fun _ _ _ _ _ _ us hl => match us, hl with | [_, _], _ => rfl
  obtain ⟨fd_x2, F_x2⟩ := A.x2_m.fn
  have b_x2 := F_x2.binds (ps := ["self", "given"]) fun _ _ _ _ _ _ us hl => match us, hl with | [_, _], _ => rfl
  obtain ⟨fd_x3, F_x3⟩ := A.x3_m.fn
  have b_x3 := F_x3.binds (ps := ["self", "index"]) fun _ _ _ _ _ _ us hl => match us, hl with | [_, _], _ => rfl
  obtain ⟨fd_x4, F_x4⟩ := A.x4_m.fn
  have b_x4 := F_x4.binds (ps := ["self", "given"]) fun _ _ _ _ _ _ us hl => match us, hl with | [_, _], _ => rfl
  obtain ⟨fm0, FM0⟩ := A.mk0.fn
  have bm0 := FM0.fun_.binds (ps := ["_law_thing"]) fun _ _ _ _ _ _ us hl => match us, hl with | [_], _ => rfl
  have gm0 := PySem.W.mg_of X G A.mk0.ns
  have e := hfa.symm.trans g28
  cases e
  refine ⟨fd28, [(c0, P0)], spLaw4 K [(P0, qThr)], ?_, ?_, ?_, fun s u => ?_, fun H a ns hl hT hS => ?_, fun base _ _ TBs => ?_⟩
  · intro p hp
    rw [List.mem_singleton.mp hp]
    exact t0
  · intro p hp
    rw [List.mem_singleton.mp hp]
    exact A.nP0
  · intro p hp
    rw [List.mem_singleton.mp hp]
    exact PySem.W.codeHd_of_K X A.hd0
  · rw [e28]
    exact .of_eq rfl
  · refine ⟨a, ns, rfl, hS, hl, fun z hz => ?_, fun _ => rfl⟩
    rw [List.mem_singleton.mp hz]
    exact TabS.nil (hT (c0, P0) (by simp))
  have TC0 : TabC base mg [(P0, qThr)] c0 P0 qThr := ⟨TBs (c0, P0) (by simp), by simp, fun z hz e => by rw [List.mem_singleton.mp hz]⟩
  have X0 : XCls l.prog w K mg base "InvalidBlocks" "given" x0 := ⟨A.x0_T, A.x0_f, A.x0_no, PySem.W.mg_of X G A.x0_n, y0, fd_x0, A.x0_i, A.x0_t, ok_xB F_x0 A.x0_T A.x0_no, b_x0⟩
  have X1 : XCls l.prog w K mg base "InvalidPages" "given" x1 := ⟨A.x1_T, A.x1_f, A.x1_no, PySem.W.mg_of X G A.x1_n, y1, fd_x1, A.x1_i, A.x1_t, ok_xP F_x1 A.x1_T A.x1_no, b_x1⟩
  have X2 : XCls l.prog w K mg base "InvalidNames" "given" x2 := ⟨A.x2_T, A.x2_f, A.x2_no, PySem.W.mg_of X G A.x2_n, y2, fd_x2, A.x2_i, A.x2_t, ok_xN F_x2 A.x2_T A.x2_no, b_x2⟩
  have X3 : XCls l.prog w K mg base "InvalidRows" "index" x3 := ⟨A.x3_T, A.x3_f, A.x3_no, PySem.W.mg_of X G A.x3_n, y3, fd_x3, A.x3_i, A.x3_t, ok_xR F_x3 A.x3_T A.x3_no, b_x3⟩
  have X4 : XCls l.prog w K mg base "InvalidText" "given" x4 := ⟨A.x4_T, A.x4_f, A.x4_no, PySem.W.mg_of X G A.x4_n, y4, fd_x4, A.x4_i, A.x4_t, ok_xT F_x4 A.x4_T A.x4_no, b_x4⟩
  have Z : XAll l.prog w K mg base (clOf x0 x1 x2 x3) := ⟨X0, X1, X2, X3, fun _ => rfl⟩
  have o_is_integer : FnOk l.prog w K mg base CX0 1 (dA 2) fd2 ["value"] (spIsA K) := ok_isA F2 B
  have o_is_within : FnOk l.prog w K mg base CX0 2 (dA 3) fd3 ["value", "least", "most"] (spWtA K) := ok_wtA F3 o_is_integer F2.kp b2 g2
  have o_is_row : FnOk l.prog w K mg base CX0 3 (dA 4) fd4 ["value", "pages"] (spRwA K) := ok_rwA F4 B o_is_within F3.kp b3 g3 gW A.W.at_
  have o_check_rows : FnOk l.prog w K mg base (L2N.CX l.prog w) 4 (dA 5) fd5 ["rows", "pages"] (spChA K x3) := ok_chA F5 B o_is_row F4.kp b4 g4 Cm.mr X3
  have o_check_sizes : FnOk l.prog w K mg base (L2N.CX l.prog w) 3 (dA 6) fd6 ["blocks", "pages", "names"] (spSzA K (clOf x0 x1 x2 x3)) := ok_szA F6 Cm o_is_within F3.kp b3 g3 Z
  have o_text_of : FnOk l.prog w K mg base CX0 1 (dA 7) fd7 ["blocks", "pages", "names", "rows"] (spTxt K) := ok_txt F7 B
  have o_spread : FnOk l.prog w K mg base CX0 1 (dA 0) fd0 ["before", "pages"] (spSpr K) := ok_spr F0 B
  have o_count_stands : FnOk l.prog w K mg base CX0 2 (dA 1) fd1 ["blocks", "pages", "names"] spCnt := ok_cnt F1 B o_spread F0.kp b0 g0
  have BA : BaseA l.prog w K mg base (clOf x0 x1 x2 x3) := ⟨⟨_, _, o_check_sizes, F6.kp, b6, g6⟩, ⟨_, _, o_check_rows, F5.kp, b5, g5⟩, ⟨_, _, o_text_of, F7.kp, b7, g7⟩, ⟨_, _, o_count_stands, F1.kp, b1, g1⟩, fun _ => rfl⟩
  have o_ini : FnOk l.prog w K mg base (L2N.CX l.prog w) 5 I0 fd_ini ["self", "blocks", "pages", "names", "rows"] (spInA K C (clOf x0 x1 x2 x3)) := ok_inA F_ini A.T Cm BA
  have St : StrC4 l.prog w K mg base C := ⟨⟨S0, A.st_f, A.st_i, by have z := (ok_str (P := l.prog) (w := w) (base := base) F_str B A.T).raw b_str .nil; simpa only [List.append_nil] using z⟩⟩
  have o__law_cell : FnOk l.prog w K mg base CX0 1 (dA 11) fd11 ["_law_cells", "_law_k"] (K2.spCell K) := ok_cell F11 B
  have o__law_pool : FnOk l.prog w K mg base CX0 1 (dA 12) fd12 ["_law_cell_here"] spPool := ok_pool F12 B
  have o__law_draw : FnOk l.prog w K mg base CX0 1 (dA 13) fd13 ["_law_pool_here", "_law_many_here"] spDraw := ok_draw F13 B
  have o__law_shape : FnOk l.prog w K mg base CX0 2 (dA 14) fd14 ["_law_pool_here"] (spShp K) := ok_shp F14 o__law_draw F13.kp b13 g13
  have o__law_table : FnOk l.prog w K mg base CX0 2 (dA 15) fd15 ["_law_pool_here", "_law_size"] (spTab K) := ok_tab F15 B o__law_draw F13.kp b13 g13
  have o__law_text : FnOk l.prog w K mg base CX0 1 (dA 16) fd16 ["_law_shape_here", "_law_table_here"] (spLtL K) := ok_ltL F16
  have o__law_sums : FnOk l.prog w K mg base CX0 1 (dA 17) fd17 ["_law_many_here", "_law_size"] spSum := ok_sum F17 B
  have o__law_halves : FnOk l.prog w K mg base CX0 1 (dA 18) fd18 ["_law_size"] spHal := ok_hal F18 B bl
  have o__law_many : FnOk l.prog w K mg base CX0 2 (dA 19) fd19 ["_law_shape_here", "_law_most"] (spMny K) := ok_mny F19 B o__law_sums F17.kp b17 g17 o__law_halves F18.kp b18 g18
  have o__law_is_small : FnOk l.prog w K mg base CX0 3 (dA 20) fd20 ["_law_shape_here"] (spSml K) := ok_sml F20 o__law_many F19.kp b19 g19
  have o_number_of : FnOk l.prog w K mg base CX0 1 (dA 8) fd8 ["word"] spNumA := ok_numA F8 B Cm
  have o_row_of : FnOk l.prog w K mg base CX0 2 (dA 9) fd9 ["line", "pages"] spRofA := ok_rofA F9 o_number_of F8.kp b8 g8
  have o_txA : FnOk l.prog w K mg base CX0 1 (dA 7) fd7 ["blocks", "pages", "names", "rows"] (spTxA K) := ok_txA F7 B
  have o_parts_of : FnOk l.prog w K mg base CX0 3 (dA 10) fd10 ["text"] (spPrA K) := ok_prA F10 B Cm o_number_of F8.kp b8 g8 o_row_of F9.kp b9 g9 o_txA F7.kp b7 g7
  have TX : TxC l.prog w K mg base x4 bV cT (clOf x0 x1 x2 x3) := ⟨X4, ⟨y4, fd_x4, A.x4_i, A.x4_t, ok_xTH F_x4 A.x4_T A.x4_no, b_x4⟩, PySem.W.mg_of X G A.nB, gT, A.em⟩
  have o_rd : FnOk l.prog w K mg base (L2.CX l.prog w) 7 GC fd_rd ["cls", "text"] (spRdA K C x4) := ok_rdA F_rd B A.mk_ TX o_ini b_ini o_parts_of F10.kp b10 g10
  have o__law_number : FnOk l.prog w K mg base CX0 1 (dA 21) fd21 ["_law_word_here"] spLnu := ok_lnu F21 B
  have o__law_row : FnOk l.prog w K mg base CX0 1 (dA 22) fd22 ["_law_line", "_law_size", "_law_is_last"] spLrw := ok_lrw F22 B
  have o__law_read : FnOk l.prog w K mg base CX0 2 (dA 23) fd23 ["_law_thing"] (spLrd K) := ok_lrd F23 B o__law_number F21.kp b21 g21 o__law_row F22.kp b22 g22
  have o__law_sign : FnOk l.prog w K mg base CX0 2 (dA 24) fd24 ["_law_pool_here"] spSgn := ok_sgn F24 B o__law_draw F13.kp b13 g13
  have o__law_bent : FnOk l.prog w K mg base CX0 3 (dA 25) fd25 ["_law_pool_here", "_law_scrap"] spBtT := ok_btT F25 B o__law_draw F13.kp b13 g13 o__law_sign F24.kp b24 g24
  have CL : CauL l.prog w K mg base C x4 := ⟨⟨_, _, F26, b26, g26⟩, B, X4, A.eT, St⟩
  have TH : ThC l.prog w K mg base C x4 := ⟨A.T, gD, ⟨_, PC, GC, fd_rd, A.cr, A.cd, o_rd, b_rd, F_rd⟩, ⟨_, _, _, A.pr0, ok_gb F_pb A.T, b_pb⟩, ⟨_, _, _, A.pr1, ok_gp F_pp A.T, b_pp⟩, ⟨_, _, _, A.pr2, ok_gn F_pn A.T, b_pn⟩, ⟨_, _, _, A.pr3, ok_gr F_pr A.T, b_pr⟩, ⟨_, _, o__law_read, F23.kp, b23, g23⟩, ⟨_, _, o__law_is_small, F20.kp, b20, g20⟩, ⟨_, _, o__law_text, F16.kp, b16, g16⟩⟩
  have oS := ok_thr FM0 CL TC0 TH
  have oR := ok_rgt4 F27 B o__law_shape F14.kp b14 g14 o__law_table F15.kp b15 g15 o__law_text F16.kp b16 g16 o__law_draw F13.kp b13 g13 o__law_bent F25.kp b25 g25 oS FM0.kp bm0 gm0
  exact ok_law4 F28 B o__law_cell F11.kp b11 g11 o__law_pool F12.kp b12 g12 oR F27.kp b27 g27 oS FM0.kp bm0 gm0 o__law_read F23.kp b23 g23
end K4

set_option maxHeartbeats 8000000
namespace K4
open PySem PySem.Spec PyProof.Rows L2 G1 G2 G3 K2 K3 LamX ClX
def dA : Nat → Addr
  | 0 => 26
  | 1 => 31
  | 2 => 178
  | 3 => 185
  | 4 => 193
  | 5 => 200
  | 6 => 233
  | 7 => 207
  | 8 => 214
  | 9 => 221
  | 10 => 226
  | 11 => 349
  | 12 => 356
  | 13 => 363
  | 14 => 370
  | 15 => 377
  | 16 => 384
  | 17 => 389
  | 18 => 396
  | 19 => 401
  | 20 => 408
  | 21 => 413
  | 22 => 420
  | 23 => 425
  | 24 => 432
  | 25 => 439
  | 26 => 446
  | 27 => 458
  | 28 => 463
  | _ => 0
section
variable {K : PySem.W.Frag} {C f : Addr}
theorem dcls_mk (pg : PySem.W.plainGet K C "" = true) (hd : PySem.W.hasDictIn K C = true) (po : PySem.W.plainOver K C = true) (sa : PySem.W.findIn K (.ref C) "__setattr__" = some (some (.builtin "object.__setattr__")))
    (nb : PySem.W.findIn K (.ref C) "kept_blocks" = some none) (np : PySem.W.findIn K (.ref C) "kept_pages" = some none) (nn : PySem.W.findIn K (.ref C) "kept_names" = some none) (nr : PySem.W.findIn K (.ref C) "kept_rows" = some none) (nt : PySem.W.findIn K (.ref C) "kept_text" = some none) : DCls K C := ⟨⟨pg, hd, po, sa⟩, nb, np, nn, nr, nt⟩
theorem exm2 {c a b : Value} (h1 : PySem.W.exmOne K c a = some true) (h2 : PySem.W.exmOne K c b = some false) : PySem.W.exmAny K c [a, b] = some true := by
  unfold PySem.W.exmAny
  rw [h1]
  unfold PySem.W.exmAny
  rw [h2]
  rfl
theorem cmet_mk {mc : Value} {x : Str} {p g : Addr} {rest : List Value} (h1 : PySem.W.findCls K (.ref C) mc x = some (PySem.W.CFound.get (.builtin "classmethod.__get__") (.ref p) .none (.ref C))) (h2 : PySem.W.recIn K p "classmethod" = some (.ref g :: rest)) (h3 : PySem.W.fnIn K g = true) : CMet K C mc x p g := ⟨h1, ⟨rest, h2⟩, h3⟩
theorem prop_mk {x : Str} {p g : Addr} {rest : List Value} (h1 : PySem.W.findIn K (.ref C) x = some (some (.ref p))) (h2 : PySem.W.specialIn K (.ref p) "__get__" = some (some (.builtin "property.__get__"))) (h3 : PySem.W.takesIn K (.ref p) = some true) (h4 : PySem.W.recIn K p "property" = some (.ref g :: rest)) : PropOf K C x p g := ⟨h1, h2, h3, rest, h4⟩
theorem mf_mk {x q : Str} {st : Stmt} {oc : Value} {od : Option Addr} {kV dc pm : Value} {an : Option Addr} {cd ct : Value} {sl : Array (Option Value)}
    (l : K.lookup f = some ⟨oc, od, .func (PySem.W.fnOf x q (defArgs st) (defBody st) (defScope st) .none kV dc pm an cd ct), sl⟩) (h : PySem.W.codeIn K cd q = true) (kp : PySem.W.keepIn K (.ref f) = true) : MF K x q st f := ⟨⟨oc, od, kV, dc, pm, an, cd, ct, sl, l, h⟩, kp⟩
theorem df_mk {x : Str} {st : Stmt} {oc : Value} {od : Option Addr} {kV dc pm : Value} {an : Option Addr} {cd ct : Value} {sl : Array (Option Value)} (n : PySem.W.nsIn K mainGlobals x = some (some (.ref f)))
    (l : K.lookup f = some ⟨oc, od, .func (PySem.W.fnOf x x (defArgs st) (defBody st) (defScope st) .none kV dc pm an cd ct), sl⟩) (h : PySem.W.codeIn K cd x = true) (kp : PySem.W.keepIn K (.ref f) = true) : DF K x st f := ⟨n, ⟨oc, od, kV, dc, pm, an, cd, ct, sl, l, h⟩, kp⟩
theorem dc_mk {x : Str} {st : Stmt} {c : Addr} {oc : Value} {od : Option Addr} {kV dc pm : Value} {an : Option Addr} {ct : Value} {sl : Array (Option Value)} (n : PySem.W.nsIn K mainGlobals x = some (some (.ref f)))
    (l : K.lookup f = some ⟨oc, od, .func (PySem.W.fnOf x x (defArgs st) (defBody st) (defScope st) .none kV dc pm an (.ref c) ct), sl⟩) (h : PySem.W.codeIn K (.ref c) x = true) (kp : PySem.W.keepIn K (.ref f) = true) : DC K x st f c := ⟨n, ⟨oc, od, kV, dc, pm, an, ct, sl, l, h⟩, kp⟩
theorem wf_mk {od : Option Addr} {n : Nat} {t1 t2 t3 t4 : Tok} {sl : Array (Option Value)}
    (l : K.lookup f = some ⟨.type "tuple", od, .seq #[Value.str (Str.ofString "oldest") t1, Value.str (Str.ofString "youngest") t2, Value.str (Str.ofString "least") t3, Value.str (Str.ofString "most") t4] n, sl⟩) : WF K f := ⟨⟨od, n, t1, t2, t3, t4, sl, l⟩⟩
theorem ct_mk {x : Str} {i : Int} {t : Tok} (n : PySem.W.nsIn K mainGlobals x = some (some (.int i t))) : ∃ t, PySem.W.nsIn K mainGlobals x = some (some (.int i t)) := ⟨t, n⟩
theorem oex_mk {B : Addr} {a1 a2 : Str} {a3 : Addr} {a4 : List Value} {a5 : List Str} {a6 : List Value} {a7 : Bool} {a8 : Option Bool} {a9 : Option Addr} {v0 v1 v2 v3 v5 : Option Value}
    (l : K.lookup C = some (excClassObj a1 a2 C a3 a4 [.ref B, .type "ValueError", .type "Exception", .type "BaseException", .type "object"] true a5 a6 a7 a8 a9 v0 v1 v2 v3 v5 "ValueError.__new__"))
    (sa : PySem.W.findIn K (.ref C) "__setattr__" = some (some (.builtin "object.__setattr__"))) (ex : PySem.W.subIn K (.ref C) (.type "BaseException") = some true) (ty : PySem.W.typeIn K (.ref C) = some (.type "type")) (kc : PySem.W.keepIn K (.ref C) = true) : OexC K C :=
  ⟨⟨a1, a2, a3, a4, _, a5, a6, a7, a8, a9, v0, v1, v2, v3, v5, l, rfl⟩, sa, ex, ty, kc⟩
theorem exm_mk {U : Addr} {b : Bool} (h1 : PySem.W.subIn K (.ref U) (.type "BaseException") = some true) (h2 : PySem.W.isClsIn K U = true) (h3 : PySem.W.typeIn K (.ref U) = some (.type "type")) (h4 : PySem.W.subIn K (.ref C) (.ref U) = some b) : PySem.W.exmOne K (.ref C) (.ref U) = some b := by
  have z2 : (PySem.W.clsIn K U).isSome = true := h2
  have z : PySem.W.kitCls K (.ref C) (.ref U) = some b := by
    show (if ((PySem.W.clsIn K U).isSome && PySem.W.typeIn K (.ref U) == some (.type "type")) = true then PySem.W.subIn K (.ref C) (.ref U) else none) = some b
    rw [z2, h3, h4]
    rfl
  unfold PySem.W.exmOne
  rw [h1, z]
  rfl
end
end K4
open PySem PySem.W PyProof.Rows
set_option maxRecDepth 100000 in
set_option maxHeartbeats 0 in
theorem PySem.Challenge.cw_spareblocks_k04_texts_of_drives_holds : PySem.Challenge.rw_spareblocks_k04_texts_of_drives.Holds := by
  w_on; o_law; k_head; (case hw => w_witness2)
  k_fill
  refine G3.walkT (l := PySem.Challenge.rw_spareblocks_k04_texts_of_drives) (n := 63) (k := 12) (x := "_law_cells") rfl (by decide) rfl ⟨rfl, by decide, by decide⟩ (fun w h Y => PySem.W.km_in_of Y) ?F
  case F =>
    intro w mg fa h Y KX G hmg
    have hT8 := PySem.W.km_tabs_of Y
    have A : K4.All (L2.KOf KX) 338 186 247 328 267 265 41 169 276 284 292 300 275 283 291 299 61 80 99 137 118 58 77 96 134 115 453 452 448 K4.dA := by
      clear hT8 hmg G Y
      have nC : PySem.W.nsIn (L2.KOf KX) mainGlobals "Drive" = some (some (.ref 338)) := by unfold L2.KOf; k_is
      have nW : PySem.W.nsIn (L2.KOf KX) mainGlobals "WORDS" = some (some (.ref 186)) := by unfold L2.KOf; k_is
      have hW : K2.WF (L2.KOf KX) 186 := by unfold L2.KOf; refine' K4.wf_mk ?l; (case l => k_is)
      have hT : K2.DCls (L2.KOf KX) 338 := by unfold L2.KOf; refine' K4.dcls_mk ?pg ?hd ?po ?sa ?nb ?np ?nn ?nr ?nt; (case pg => k_is); (case hd => k_is); (case po => k_is); (case sa => k_is); (case nb => k_is); (case np => k_is); (case nn => k_is); (case nr => k_is); (case nt => k_is)
      have hM : L2.Mk (L2.KOf KX) 338 247 := by unfold L2.KOf; refine' L2.Mk.mk ?a1 ?a2 ?a3 ?a4; (case a1 => k_is); (case a2 => k_is); (case a3 => k_is); (case a4 => k_is)
      have hI : K2.MF (L2.KOf KX) "__init__" "Drive.__init__" K2.sIni 247 := by unfold L2.KOf; refine' K4.mf_mk ?l ?h ?kp; (case l => k_is); (case h => k_is); (case kp => k_is)
      have st_f : PySem.W.findIn (L2.KOf KX) (.ref 338) "__str__" = some (some (.ref 328)) := by unfold L2.KOf; k_is
      have st_i : PySem.W.isFn (L2.KOf KX) (.ref 328) = true := by unfold L2.KOf; k_is
      have st_m : K2.MF (L2.KOf KX) "__str__" "Drive.__str__" K2.sStr 328 := by unfold L2.KOf; refine' K4.mf_mk ?l ?h ?kp; (case l => k_is); (case h => k_is); (case kp => k_is)
      have hcr : ClX.CRead (L2.KOf KX) 338 (.type "type") := by unfold L2.KOf; refine' ClX.CRead.mk ?a1 ?a2; (case a1 => k_is); (case a2 => k_is)
      have hcd : ClX.CMet (L2.KOf KX) 338 (.type "type") "read" 267 265 := by unfold L2.KOf; refine' K4.cmet_mk ?a1 ?a2 ?a3; (case a1 => k_is); (case a2 => k_is); (case a3 => k_is)
      have hrf : K2.MF (L2.KOf KX) "read" "Drive.read" K4.sRead 265 := by unfold L2.KOf; refine' K4.mf_mk ?l ?h ?kp; (case l => k_is); (case h => k_is); (case kp => k_is)
      have pr0 : L2.PropOf (L2.KOf KX) 338 "blocks" 276 275 := by unfold L2.KOf; refine' K4.prop_mk ?a1 ?a2 ?a3 ?a4; (case a1 => k_is); (case a2 => k_is); (case a3 => k_is); (case a4 => k_is)
      have pm0 : K2.MF (L2.KOf KX) "blocks" "Drive.blocks" K2.sGb 275 := by unfold L2.KOf; refine' K4.mf_mk ?l ?h ?kp; (case l => k_is); (case h => k_is); (case kp => k_is)
      have pr1 : L2.PropOf (L2.KOf KX) 338 "pages" 284 283 := by unfold L2.KOf; refine' K4.prop_mk ?a1 ?a2 ?a3 ?a4; (case a1 => k_is); (case a2 => k_is); (case a3 => k_is); (case a4 => k_is)
      have pm1 : K2.MF (L2.KOf KX) "pages" "Drive.pages" K2.sGp 283 := by unfold L2.KOf; refine' K4.mf_mk ?l ?h ?kp; (case l => k_is); (case h => k_is); (case kp => k_is)
      have pr2 : L2.PropOf (L2.KOf KX) 338 "names" 292 291 := by unfold L2.KOf; refine' K4.prop_mk ?a1 ?a2 ?a3 ?a4; (case a1 => k_is); (case a2 => k_is); (case a3 => k_is); (case a4 => k_is)
      have pm2 : K2.MF (L2.KOf KX) "names" "Drive.names" K2.sGn 291 := by unfold L2.KOf; refine' K4.mf_mk ?l ?h ?kp; (case l => k_is); (case h => k_is); (case kp => k_is)
      have pr3 : L2.PropOf (L2.KOf KX) 338 "rows" 300 299 := by unfold L2.KOf; refine' K4.prop_mk ?a1 ?a2 ?a3 ?a4; (case a1 => k_is); (case a2 => k_is); (case a3 => k_is); (case a4 => k_is)
      have pm3 : K2.MF (L2.KOf KX) "rows" "Drive.rows" K2.sGr 299 := by unfold L2.KOf; refine' K4.mf_mk ?l ?h ?kp; (case l => k_is); (case h => k_is); (case kp => k_is)
      have nB : PySem.W.nsIn (L2.KOf KX) mainGlobals "BadValue" = some (some (.ref 41)) := by unfold L2.KOf; k_is
      have nT : PySem.W.nsIn (L2.KOf KX) mainGlobals "TooMany" = some (some (.ref 169)) := by unfold L2.KOf; k_is
      have x0_n : PySem.W.nsIn (L2.KOf KX) mainGlobals "InvalidBlocks" = some (some (.ref 61)) := by unfold L2.KOf; k_is
      have x0_T : L2.OexC (L2.KOf KX) 61 := by unfold L2.KOf; refine' K4.oex_mk ?l ?a1 ?a2 ?a3 ?a4; (case l => k_is); (case a1 => k_is); (case a2 => k_is); (case a3 => k_is); (case a4 => k_is)
      have x0_f : L2.XfC (L2.KOf KX) 61 := by unfold L2.KOf; refine' L2.XfC.mk ?a1 ?a2 ?a3 ?a4; (case a1 => k_is); (case a2 => k_is); (case a3 => k_is); (case a4 => k_is)
      have x0_no : PySem.W.findIn (L2.KOf KX) (.ref 61) "given" = some none := by unfold L2.KOf; k_is
      have x0_i : PySem.W.findIn (L2.KOf KX) (.ref 61) "__init__" = some (some (.ref 58)) := by unfold L2.KOf; k_is
      have x0_t : PySem.W.typeIn (L2.KOf KX) (.ref 58) = some (.type "function") := by unfold L2.KOf; k_is
      have x0_m : K2.MF (L2.KOf KX) "__init__" "InvalidBlocks.__init__" K3.sIB 58 := by unfold L2.KOf; refine' K4.mf_mk ?l ?h ?kp; (case l => k_is); (case h => k_is); (case kp => k_is)
      have x1_n : PySem.W.nsIn (L2.KOf KX) mainGlobals "InvalidPages" = some (some (.ref 80)) := by unfold L2.KOf; k_is
      have x1_T : L2.OexC (L2.KOf KX) 80 := by unfold L2.KOf; refine' K4.oex_mk ?l ?a1 ?a2 ?a3 ?a4; (case l => k_is); (case a1 => k_is); (case a2 => k_is); (case a3 => k_is); (case a4 => k_is)
      have x1_f : L2.XfC (L2.KOf KX) 80 := by unfold L2.KOf; refine' L2.XfC.mk ?a1 ?a2 ?a3 ?a4; (case a1 => k_is); (case a2 => k_is); (case a3 => k_is); (case a4 => k_is)
      have x1_no : PySem.W.findIn (L2.KOf KX) (.ref 80) "given" = some none := by unfold L2.KOf; k_is
      have x1_i : PySem.W.findIn (L2.KOf KX) (.ref 80) "__init__" = some (some (.ref 77)) := by unfold L2.KOf; k_is
      have x1_t : PySem.W.typeIn (L2.KOf KX) (.ref 77) = some (.type "function") := by unfold L2.KOf; k_is
      have x1_m : K2.MF (L2.KOf KX) "__init__" "InvalidPages.__init__" K3.sIP 77 := by unfold L2.KOf; refine' K4.mf_mk ?l ?h ?kp; (case l => k_is); (case h => k_is); (case kp => k_is)
      have x2_n : PySem.W.nsIn (L2.KOf KX) mainGlobals "InvalidNames" = some (some (.ref 99)) := by unfold L2.KOf; k_is
      have x2_T : L2.OexC (L2.KOf KX) 99 := by unfold L2.KOf; refine' K4.oex_mk ?l ?a1 ?a2 ?a3 ?a4; (case l => k_is); (case a1 => k_is); (case a2 => k_is); (case a3 => k_is); (case a4 => k_is)
      have x2_f : L2.XfC (L2.KOf KX) 99 := by unfold L2.KOf; refine' L2.XfC.mk ?a1 ?a2 ?a3 ?a4; (case a1 => k_is); (case a2 => k_is); (case a3 => k_is); (case a4 => k_is)
      have x2_no : PySem.W.findIn (L2.KOf KX) (.ref 99) "given" = some none := by unfold L2.KOf; k_is
      have x2_i : PySem.W.findIn (L2.KOf KX) (.ref 99) "__init__" = some (some (.ref 96)) := by unfold L2.KOf; k_is
      have x2_t : PySem.W.typeIn (L2.KOf KX) (.ref 96) = some (.type "function") := by unfold L2.KOf; k_is
      have x2_m : K2.MF (L2.KOf KX) "__init__" "InvalidNames.__init__" K3.sIN 96 := by unfold L2.KOf; refine' K4.mf_mk ?l ?h ?kp; (case l => k_is); (case h => k_is); (case kp => k_is)
      have x3_n : PySem.W.nsIn (L2.KOf KX) mainGlobals "InvalidRows" = some (some (.ref 137)) := by unfold L2.KOf; k_is
      have x3_T : L2.OexC (L2.KOf KX) 137 := by unfold L2.KOf; refine' K4.oex_mk ?l ?a1 ?a2 ?a3 ?a4; (case l => k_is); (case a1 => k_is); (case a2 => k_is); (case a3 => k_is); (case a4 => k_is)
      have x3_f : L2.XfC (L2.KOf KX) 137 := by unfold L2.KOf; refine' L2.XfC.mk ?a1 ?a2 ?a3 ?a4; (case a1 => k_is); (case a2 => k_is); (case a3 => k_is); (case a4 => k_is)
      have x3_no : PySem.W.findIn (L2.KOf KX) (.ref 137) "index" = some none := by unfold L2.KOf; k_is
      have x3_i : PySem.W.findIn (L2.KOf KX) (.ref 137) "__init__" = some (some (.ref 134)) := by unfold L2.KOf; k_is
      have x3_t : PySem.W.typeIn (L2.KOf KX) (.ref 134) = some (.type "function") := by unfold L2.KOf; k_is
      have x3_m : K2.MF (L2.KOf KX) "__init__" "InvalidRows.__init__" K3.sIR 134 := by unfold L2.KOf; refine' K4.mf_mk ?l ?h ?kp; (case l => k_is); (case h => k_is); (case kp => k_is)
      have x4_n : PySem.W.nsIn (L2.KOf KX) mainGlobals "InvalidText" = some (some (.ref 118)) := by unfold L2.KOf; k_is
      have x4_T : L2.OexC (L2.KOf KX) 118 := by unfold L2.KOf; refine' K4.oex_mk ?l ?a1 ?a2 ?a3 ?a4; (case l => k_is); (case a1 => k_is); (case a2 => k_is); (case a3 => k_is); (case a4 => k_is)
      have x4_f : L2.XfC (L2.KOf KX) 118 := by unfold L2.KOf; refine' L2.XfC.mk ?a1 ?a2 ?a3 ?a4; (case a1 => k_is); (case a2 => k_is); (case a3 => k_is); (case a4 => k_is)
      have x4_no : PySem.W.findIn (L2.KOf KX) (.ref 118) "given" = some none := by unfold L2.KOf; k_is
      have x4_i : PySem.W.findIn (L2.KOf KX) (.ref 118) "__init__" = some (some (.ref 115)) := by unfold L2.KOf; k_is
      have x4_t : PySem.W.typeIn (L2.KOf KX) (.ref 115) = some (.type "function") := by unfold L2.KOf; k_is
      have x4_m : K2.MF (L2.KOf KX) "__init__" "InvalidText.__init__" K4.sIT 115 := by unfold L2.KOf; refine' K4.mf_mk ?l ?h ?kp; (case l => k_is); (case h => k_is); (case kp => k_is)
      have eb0 : PySem.W.exmOne (L2.KOf KX) (.ref 61) (.ref 41) = some true := by unfold L2.KOf; refine' K4.exm_mk ?a1 ?a2 ?a3 ?a4; (case a1 => k_is); (case a2 => k_is); (case a3 => k_is); (case a4 => first | rfl | k_is)
      have et0 : PySem.W.exmOne (L2.KOf KX) (.ref 61) (.ref 169) = some false := by unfold L2.KOf; refine' K4.exm_mk ?a1 ?a2 ?a3 ?a4; (case a1 => k_is); (case a2 => k_is); (case a3 => k_is); (case a4 => first | rfl | k_is)
      have eb1 : PySem.W.exmOne (L2.KOf KX) (.ref 80) (.ref 41) = some true := by unfold L2.KOf; refine' K4.exm_mk ?a1 ?a2 ?a3 ?a4; (case a1 => k_is); (case a2 => k_is); (case a3 => k_is); (case a4 => first | rfl | k_is)
      have et1 : PySem.W.exmOne (L2.KOf KX) (.ref 80) (.ref 169) = some false := by unfold L2.KOf; refine' K4.exm_mk ?a1 ?a2 ?a3 ?a4; (case a1 => k_is); (case a2 => k_is); (case a3 => k_is); (case a4 => first | rfl | k_is)
      have eb2 : PySem.W.exmOne (L2.KOf KX) (.ref 99) (.ref 41) = some true := by unfold L2.KOf; refine' K4.exm_mk ?a1 ?a2 ?a3 ?a4; (case a1 => k_is); (case a2 => k_is); (case a3 => k_is); (case a4 => first | rfl | k_is)
      have et2 : PySem.W.exmOne (L2.KOf KX) (.ref 99) (.ref 169) = some false := by unfold L2.KOf; refine' K4.exm_mk ?a1 ?a2 ?a3 ?a4; (case a1 => k_is); (case a2 => k_is); (case a3 => k_is); (case a4 => first | rfl | k_is)
      have eb3 : PySem.W.exmOne (L2.KOf KX) (.ref 137) (.ref 41) = some true := by unfold L2.KOf; refine' K4.exm_mk ?a1 ?a2 ?a3 ?a4; (case a1 => k_is); (case a2 => k_is); (case a3 => k_is); (case a4 => first | rfl | k_is)
      have et3 : PySem.W.exmOne (L2.KOf KX) (.ref 137) (.ref 169) = some false := by unfold L2.KOf; refine' K4.exm_mk ?a1 ?a2 ?a3 ?a4; (case a1 => k_is); (case a2 => k_is); (case a3 => k_is); (case a4 => first | rfl | k_is)
      have eT : PySem.W.exmOne (L2.KOf KX) (.ref 118) (.ref 118) = some true := by unfold L2.KOf; refine' K4.exm_mk ?a1 ?a2 ?a3 ?a4; (case a1 => k_is); (case a2 => k_is); (case a3 => k_is); (case a4 => first | rfl | k_is)
      have mk0 : K4.DC (L2.KOf KX) "_law_thing_right" K4.sThr 453 452 := by unfold L2.KOf; refine' K4.dc_mk ?n ?l ?h ?kp; (case n => k_is); (case l => k_is); (case h => k_is); (case kp => k_is)
      have hd0 : PySem.W.codeHdIn (L2.KOf KX) 452 448 = true := by unfold L2.KOf; first | k_is | kernel_rfl
      have nP0 : (L2.KOf KX).lookup 448 = none := by unfold L2.KOf; first | k_is | kernel_rfl
      have d0 : K2.DF (L2.KOf KX) "spread" K2.sSpr 26 := by unfold L2.KOf; refine' K4.df_mk ?n ?l ?h ?kp; (case n => k_is); (case l => k_is); (case h => k_is); (case kp => k_is)
      have d1 : K2.DF (L2.KOf KX) "count_stands" K2.sCnt 31 := by unfold L2.KOf; refine' K4.df_mk ?n ?l ?h ?kp; (case n => k_is); (case l => k_is); (case h => k_is); (case kp => k_is)
      have d2 : K2.DF (L2.KOf KX) "is_integer" K2.sIsI 178 := by unfold L2.KOf; refine' K4.df_mk ?n ?l ?h ?kp; (case n => k_is); (case l => k_is); (case h => k_is); (case kp => k_is)
      have d3 : K2.DF (L2.KOf KX) "is_within" K2.sWit 185 := by unfold L2.KOf; refine' K4.df_mk ?n ?l ?h ?kp; (case n => k_is); (case l => k_is); (case h => k_is); (case kp => k_is)
      have d4 : K2.DF (L2.KOf KX) "is_row" K2.sRow 193 := by unfold L2.KOf; refine' K4.df_mk ?n ?l ?h ?kp; (case n => k_is); (case l => k_is); (case h => k_is); (case kp => k_is)
      have d5 : K2.DF (L2.KOf KX) "check_rows" K2.sChk 200 := by unfold L2.KOf; refine' K4.df_mk ?n ?l ?h ?kp; (case n => k_is); (case l => k_is); (case h => k_is); (case kp => k_is)
      have d6 : K2.DF (L2.KOf KX) "check_sizes" K2.sSiz 233 := by unfold L2.KOf; refine' K4.df_mk ?n ?l ?h ?kp; (case n => k_is); (case l => k_is); (case h => k_is); (case kp => k_is)
      have d7 : K2.DF (L2.KOf KX) "text_of" K2.sTxt 207 := by unfold L2.KOf; refine' K4.df_mk ?n ?l ?h ?kp; (case n => k_is); (case l => k_is); (case h => k_is); (case kp => k_is)
      have d8 : K2.DF (L2.KOf KX) "number_of" K2.sNum 214 := by unfold L2.KOf; refine' K4.df_mk ?n ?l ?h ?kp; (case n => k_is); (case l => k_is); (case h => k_is); (case kp => k_is)
      have d9 : K2.DF (L2.KOf KX) "row_of" K2.sRof 221 := by unfold L2.KOf; refine' K4.df_mk ?n ?l ?h ?kp; (case n => k_is); (case l => k_is); (case h => k_is); (case kp => k_is)
      have d10 : K2.DF (L2.KOf KX) "parts_of" K2.sPar 226 := by unfold L2.KOf; refine' K4.df_mk ?n ?l ?h ?kp; (case n => k_is); (case l => k_is); (case h => k_is); (case kp => k_is)
      have d11 : K2.DF (L2.KOf KX) "_law_cell" K2.sCell 349 := by unfold L2.KOf; refine' K4.df_mk ?n ?l ?h ?kp; (case n => k_is); (case l => k_is); (case h => k_is); (case kp => k_is)
      have d12 : K2.DF (L2.KOf KX) "_law_pool" K2.sPool 356 := by unfold L2.KOf; refine' K4.df_mk ?n ?l ?h ?kp; (case n => k_is); (case l => k_is); (case h => k_is); (case kp => k_is)
      have d13 : K2.DF (L2.KOf KX) "_law_draw" K2.sDraw 363 := by unfold L2.KOf; refine' K4.df_mk ?n ?l ?h ?kp; (case n => k_is); (case l => k_is); (case h => k_is); (case kp => k_is)
      have d14 : K2.DF (L2.KOf KX) "_law_shape" K2.sShp 370 := by unfold L2.KOf; refine' K4.df_mk ?n ?l ?h ?kp; (case n => k_is); (case l => k_is); (case h => k_is); (case kp => k_is)
      have d15 : K2.DF (L2.KOf KX) "_law_table" K2.sTab 377 := by unfold L2.KOf; refine' K4.df_mk ?n ?l ?h ?kp; (case n => k_is); (case l => k_is); (case h => k_is); (case kp => k_is)
      have d16 : K2.DF (L2.KOf KX) "_law_text" K3.sLTx 384 := by unfold L2.KOf; refine' K4.df_mk ?n ?l ?h ?kp; (case n => k_is); (case l => k_is); (case h => k_is); (case kp => k_is)
      have d17 : K2.DF (L2.KOf KX) "_law_sums" K3.sSum 389 := by unfold L2.KOf; refine' K4.df_mk ?n ?l ?h ?kp; (case n => k_is); (case l => k_is); (case h => k_is); (case kp => k_is)
      have d18 : K2.DF (L2.KOf KX) "_law_halves" K3.sHal 396 := by unfold L2.KOf; refine' K4.df_mk ?n ?l ?h ?kp; (case n => k_is); (case l => k_is); (case h => k_is); (case kp => k_is)
      have d19 : K2.DF (L2.KOf KX) "_law_many" K3.sMny 401 := by unfold L2.KOf; refine' K4.df_mk ?n ?l ?h ?kp; (case n => k_is); (case l => k_is); (case h => k_is); (case kp => k_is)
      have d20 : K2.DF (L2.KOf KX) "_law_is_small" K3.sSml 408 := by unfold L2.KOf; refine' K4.df_mk ?n ?l ?h ?kp; (case n => k_is); (case l => k_is); (case h => k_is); (case kp => k_is)
      have d21 : K2.DF (L2.KOf KX) "_law_number" K4.sLnu 413 := by unfold L2.KOf; refine' K4.df_mk ?n ?l ?h ?kp; (case n => k_is); (case l => k_is); (case h => k_is); (case kp => k_is)
      have d22 : K2.DF (L2.KOf KX) "_law_row" K4.sLrw 420 := by unfold L2.KOf; refine' K4.df_mk ?n ?l ?h ?kp; (case n => k_is); (case l => k_is); (case h => k_is); (case kp => k_is)
      have d23 : K2.DF (L2.KOf KX) "_law_read" K4.sLrd 425 := by unfold L2.KOf; refine' K4.df_mk ?n ?l ?h ?kp; (case n => k_is); (case l => k_is); (case h => k_is); (case kp => k_is)
      have d24 : K2.DF (L2.KOf KX) "_law_sign" K4.sSgn 432 := by unfold L2.KOf; refine' K4.df_mk ?n ?l ?h ?kp; (case n => k_is); (case l => k_is); (case h => k_is); (case kp => k_is)
      have d25 : K2.DF (L2.KOf KX) "_law_bent" K4.sBtT 439 := by unfold L2.KOf; refine' K4.df_mk ?n ?l ?h ?kp; (case n => k_is); (case l => k_is); (case h => k_is); (case kp => k_is)
      have d26 : K2.DF (L2.KOf KX) "_law_caught" K4.sCau4 446 := by unfold L2.KOf; refine' K4.df_mk ?n ?l ?h ?kp; (case n => k_is); (case l => k_is); (case h => k_is); (case kp => k_is)
      have d27 : K2.DF (L2.KOf KX) "_law_right" K4.sRgt4 458 := by unfold L2.KOf; refine' K4.df_mk ?n ?l ?h ?kp; (case n => k_is); (case l => k_is); (case h => k_is); (case kp => k_is)
      have d28 : K2.DF (L2.KOf KX) "law" K4.sLaw4 463 := by unfold L2.KOf; refine' K4.df_mk ?n ?l ?h ?kp; (case n => k_is); (case l => k_is); (case h => k_is); (case kp => k_is)
      have k_lb : ∃ t, PySem.W.nsIn (L2.KOf KX) mainGlobals "LEAST_BLOCKS" = some (some (.int 3 t)) := by unfold L2.KOf; refine' K4.ct_mk ?n; (case n => k_is)
      have k_mb : ∃ t, PySem.W.nsIn (L2.KOf KX) mainGlobals "MOST_BLOCKS" = some (some (.int 6 t)) := by unfold L2.KOf; refine' K4.ct_mk ?n; (case n => k_is)
      have k_lp : ∃ t, PySem.W.nsIn (L2.KOf KX) mainGlobals "LEAST_PAGES" = some (some (.int 2 t)) := by unfold L2.KOf; refine' K4.ct_mk ?n; (case n => k_is)
      have k_mp : ∃ t, PySem.W.nsIn (L2.KOf KX) mainGlobals "MOST_PAGES" = some (some (.int 5 t)) := by unfold L2.KOf; refine' K4.ct_mk ?n; (case n => k_is)
      have k_mr : ∃ t, PySem.W.nsIn (L2.KOf KX) mainGlobals "MOST_ROWS" = some (some (.int 4 t)) := by unfold L2.KOf; refine' K4.ct_mk ?n; (case n => k_is)
      have k_ms : ∃ t, PySem.W.nsIn (L2.KOf KX) mainGlobals "MOST_STANDS" = some (some (.int 2000 t)) := by unfold L2.KOf; refine' K4.ct_mk ?n; (case n => k_is)
      have k_wh : ∃ t, PySem.W.nsIn (L2.KOf KX) mainGlobals "WORDS_OF_HEAD" = some (some (.int 7 t)) := by unfold L2.KOf; refine' K4.ct_mk ?n; (case n => k_is)
      have k_md : ∃ t, PySem.W.nsIn (L2.KOf KX) mainGlobals "MOST_DIGITS" = some (some (.int 2 t)) := by unfold L2.KOf; refine' K4.ct_mk ?n; (case n => k_is)
      have z_len : PySem.W.nsIn (L2.KOf KX) mainGlobals "len" = some none := by unfold L2.KOf; k_is
      have z_int : PySem.W.nsIn (L2.KOf KX) mainGlobals "int" = some none := by unfold L2.KOf; k_is
      have z_abs : PySem.W.nsIn (L2.KOf KX) mainGlobals "abs" = some none := by unfold L2.KOf; k_is
      have z_repr : PySem.W.nsIn (L2.KOf KX) mainGlobals "repr" = some none := by unfold L2.KOf; k_is
      have z_isi : PySem.W.nsIn (L2.KOf KX) mainGlobals "isinstance" = some none := by unfold L2.KOf; k_is
      have z_range : PySem.W.nsIn (L2.KOf KX) mainGlobals "range" = some none := by unfold L2.KOf; k_is
      have z_max : PySem.W.nsIn (L2.KOf KX) mainGlobals "max" = some none := by unfold L2.KOf; k_is
      have z_min : PySem.W.nsIn (L2.KOf KX) mainGlobals "min" = some none := by unfold L2.KOf; k_is
      have z_all : PySem.W.nsIn (L2.KOf KX) mainGlobals "all" = some none := by unfold L2.KOf; k_is
      have z_sum : PySem.W.nsIn (L2.KOf KX) mainGlobals "sum" = some none := by unfold L2.KOf; k_is
      have z_enm : PySem.W.nsIn (L2.KOf KX) mainGlobals "enumerate" = some none := by unfold L2.KOf; k_is
      have z_tup : PySem.W.nsIn (L2.KOf KX) mainGlobals "tuple" = some none := by unfold L2.KOf; k_is
      have z_boo : PySem.W.nsIn (L2.KOf KX) mainGlobals "bool" = some none := by unfold L2.KOf; k_is
      have z_str : PySem.W.nsIn (L2.KOf KX) mainGlobals "str" = some none := by unfold L2.KOf; k_is
      have z_list : PySem.W.nsIn (L2.KOf KX) mainGlobals "list" = some none := by unfold L2.KOf; k_is
      exact ⟨nC, nW, hW, hT, hM, hI, st_f, st_i, st_m, hcr, hcd, hrf, pr0, pm0, pr1, pm1, pr2, pm2, pr3, pm3, nB, nT, x0_n, x0_T, x0_f, x0_no, x0_i, x0_t, x0_m, x1_n, x1_T, x1_f, x1_no, x1_i, x1_t, x1_m, x2_n, x2_T, x2_f, x2_no, x2_i, x2_t, x2_m, x3_n, x3_T, x3_f, x3_no, x3_i, x3_t, x3_m, x4_n, x4_T, x4_f, x4_no, x4_i, x4_t, x4_m, (fun u => match u with | .blk => K4.exm2 eb0 et0 | .pag => K4.exm2 eb1 et1 | .nam => K4.exm2 eb2 et2 | .row _ => K4.exm2 eb3 et3), eT, mk0, hd0, nP0, d0, d1, d2, d3, d4, d5, d6, d7, d8, d9, d10, d11, d12, d13, d14, d15, d16, d17, d18, d19, d20, d21, d22, d23, d24, d25, d26, d27, d28, k_lb, k_mb, k_lp, k_mp, k_mr, k_ms, k_wh, k_md, z_len, z_int, z_abs, z_repr, z_isi, z_range, z_max, z_min, z_all, z_sum, z_enm, z_tup, z_boo, z_str, z_list⟩
    exact A.law KX G hmg (hT8 _ (by decide))
