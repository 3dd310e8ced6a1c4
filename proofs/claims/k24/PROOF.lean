import PyProof.Rows.All
import Wide.All
import OpenK.AllK
import Wide.FinOn
import PyProof.EqAt
import PyProof.EqKinds
import PyProof.TupleCall
import HandS.ForMost
import HandS.DeepEq
import HandS.Deep
import HandS.Wide
import HandS.RaiseMore
import HandS.DictComp
import PyProof.ReprRoads
import PyProof.ReprLen
import HandS.SlotsOwn
import HandS.ClsMeth
import HandS.MakeKw
import HandS.MakeKwOnly
import HandS.Property
import HandS.FStr
import HandS.IsInst
import HandS.TupAny
import HandS.NoneIn
import HandS.CallLocal
import HandS.StrMore
import HandS.Style
import HandS.Flow
import KE.KCallOwn
import HandS.Star
import HandS.OwnEq
import KE.KUnpackStar
import KE.KRevSl
import KE.GoesMore
import HandS.Walk
import HandS.Exc
import KE.DataMinKey
import PyProof.WalkInts
import HandS.Lambda
import HandS.SortKw
import HandS.TupSets
import HandS.GenYield
import HandS.GenList
import HandS.TupLe
import HandS.Conv
import HandS.Defaults
import PyProof.ReprBulk
import PyProof.FitsInt
import HandS.ExcInit
import HandS.ExcField
import HandS.WordsExc
import HandS.TryMany
import HandS.ExcOwn
import HandS.TupMul
import HandS.SetFor
import KE.KTupSum
import PyProof.Rows.CountFlat
import HandS.EndTab
import KE.RegKIsAll
import PySem.Challenge.RW_spareblocks_k24_whole_balance_of_pages
set_option Elab.async false
set_option linter.all false
set_option maxRecDepth 100000
set_option maxHeartbeats 2000000
/-! The promise of a def that is kept where no repr is under way on the stack (guards empty): repr of a list asks for it. -/
namespace G1
open PySem PySem.Spec PyProof.Rows L2
section
variable {P : Program} {w : World} {K : PySem.W.Frag} {mg : Str → Option Value} {base : Heap}
structure FnG (P : Program) (w : World) (K : PySem.W.Frag) (mg : Str → Option Value) (base : Heap) (k : Nat) (f : Addr) (fd : FuncData) (ps : List Str) (sp : Sp) : Prop where
  len : ∀ vs H Q E, sp vs H Q E → vs.length = ps.length
  run : ∀ (A : Around) (outer : List Env) (s : Shared) (H : Hp) (args : Args) (us : List Value) (vs : List V) (Q : VK) (E : XK), A.guards = some [] →
    Room k A → Env0 P w K mg base A outer s H → BindsTo s fd args (ps.zip us) → Vals vs us → sp vs H Q E → codeAny (model P w) A (.call (.ref f) args) (CR CX0 outer P w H s Q E) s
/-- from the body to the promise -/
theorem okG {x qual : Str} {st : Stmt} {f : Addr} {fd : FuncData} {N ps : List Str} {k : Nat} {sp : Sp} (F : Fun K x qual st f fd) (S : FnScope N ps (defScope st))
    (len : ∀ vs H Q E, sp vs H Q E → vs.length = ps.length)
    (hbody : ∀ (cdv : Value) (A : Around) (outer : List Env) (s : Shared) (H : Hp) (vs : List V) (Q : VK) (E : XK), A.guards = some [] →
      Room k (A.deeper (envOfC qual (defScope st) s.heap.objs.size f cdv)) → sp vs H Q E →
      ∃ t, PSs (cxOf CX0 P w K mg base N qual (defScope st) f cdv A outer s H E).nox (defBody st) t ∧ t { nx := fun _ H' => Q .non H', rt := Q } (start N vs) H) :
    FnG P w K mg base (k + 1) f fd ps sp := by
  obtain ⟨oc, od, kV, doc, pm, an, cdv, ct, osl, rfl, lk, hcd⟩ := F.ex
  constructor
  · exact len
  intro A outer s H args us vs Q E hgu room e0 bnd rel want
  have kin : K.In s.heap := e0.mod.kin.keeps fun b o e => (e0.bs b o e).1
  have nol : s.heap.NoLimit := e0.mod.nolimit.keeps fun b o e => (e0.bs b o e).1
  have kinds : ∀ y ∈ ps.zip us, (defScope st).names.lookup y.1 = some .local ∨
      ((defScope st).names.lookup y.1 = some .cell ∧ ((cellsFrom (s.heap.objs.size + 1) (defScope st).names []).lookup y.1).isSome = true) := by
    rintro ⟨n, v⟩ hy
    cases S.par n (List.of_mem_zip hy).1 with
    | inl q => exact Or.inl q
    | inr q => exact Or.inr ⟨q, PySem.W.cellsFrom_some _ _ _ (Or.inl q)⟩
  refine codeAny_call_function room.depth (kin _ _ lk) rfl S.co S.gen rfl (PySem.W.codeRec_of kin hcd) (bnd _ _ _ _ ?_)
  refine wpAny_newFunctionEnv_cells S.kind kinds fun env henv s1 inc => ?_
  subst henv
  refine ⟨nol.keeps inc.toInCall.keep, codeAny_func ?_⟩
  obtain ⟨t, ht0, hq⟩ := hbody cdv A outer s H vs Q E hgu (room.deeper _) want
  have ht := ht0.nox
  have J0 : Inv (cxOf CX0 P w K mg base N qual (defScope st) f cdv A outer s H E) [] (start N vs) H s1 := inv_start S room.hd e0 (len _ _ _ _ want) rel inc
  refine wpAny_mono (ht.run [] s1 (start N vs) H _ J0 hq) (fun fl s' hs => ?_) fun _ _ z => z
  cases fl with
  | brk => exact (hs.elim fun _ z => z.elim fun _ y => y.2.elim)
  | cont => exact (hs.elim fun _ z => z.elim fun _ y => y.2.elim)
  | next =>
    obtain ⟨σ', H', J, q⟩ := hs
    exact ⟨V.non, H', J.os, J.bare, J.base, J.hok, rfl, q⟩
  | ret u =>
    obtain ⟨v, σ', H', J, rv, q⟩ := hs
    exact ⟨v, H', J.os, J.bare, J.base, J.hok, rv, q⟩
/-- what holds at all callers holds at these -/
theorem FnG.of {k : Nat} {f : Addr} {fd : FuncData} {ps : List Str} {sp : Sp} (F : FnOk P w K mg base CX0 k f fd ps sp) : FnG P w K mg base k f fd ps sp :=
  ⟨F.len, fun A outer s H args us vs Q E _ hr he hb hv hs => F.run A outer s H args us vs Q E hr he hb hv hs⟩
end
section
variable {X : Cx} {k : Nat} {f : Addr} {fd : FuncData} {ps : List Str} {sp : Sp} {x : Str} {p pos : Pos} {e : Expr} {es : List Expr} {t : TA}
theorem runG {pins : List (Addr × Obj)} {σ : L2.St} {H : Hp} {s : Shared} {Q : VK} {us : List Value} {vs : List V} (F : FnG X.prog X.w X.K X.mg X.base k f fd ps sp) (hgu : X.A.guards = some [])
    (hr : Room k X.A) (hb : Binds X.K fd ps []) (I : Inv X pins σ H s) (r : Vals vs us) (h : sp vs H Q E0) :
    wpAny (model X.prog X.w) X.A (call (.ref f) us) (EP X pins σ Q) X.xe s := by
  have hl : us.length = ps.length := by rw [← r.length]; exact F.len _ _ _ _ h
  have bb : BindsTo s fd ⟨us, []⟩ (ps.zip us) := by
    have z := hb s us I.kIn (by rw [List.append_nil]; exact hl)
    rw [List.append_nil] at z
    exact z
  refine wpAny_call (codeAny_mono (F.run X.A X.stack s H ⟨us, []⟩ us vs Q E0 hgu hr I.env0 bb r h) fun r s' hq => ?_)
  match r, hq with
  | .error e, hq => exact (show False from hq).elim
  | .ok (.ret u), hq => exact I.after hq
  | .ok .next, hq => exact (show False from hq).elim
  | .ok .brk, hq => exact (show False from hq).elim
  | .ok .cont, hq => exact (show False from hq).elim
/-- f(e, ..) of such a def -/
theorem pe_callG (F : FnG X.prog X.w X.K X.mg X.base k f fd ps sp) (hgu : X.A.guards = some []) (hr : Room k X.A) (hg : Gl X x) (hm : X.mg x = some (.ref f)) (hk : PySem.W.keepIn X.K (.ref f) = true) (hb : Binds X.K fd ps [])
    (ha : PA X (e :: es) t) (hdb : (x == ("__debug__" : Str)) = false := by decide) (he : starEach (e :: es) X.env = (false, eval e X.env) :: starEach es X.env := by rfl)
    (hpl : (backTo pos (starEach es X.env)).any (·.1) = false := by rfl) : PE X (.Call (.Name x p) (e :: es) [] pos) (tCall sp [] E0 t) := by
  refine ⟨fun pins s σ H Q I h => wpAny_Call_Name_kw (ld_glob I hg hm ?_ hdb)⟩
  refine PySem.W.callWith_K (h₀ := X.base) I.ok.mod.kin hk (thn (ha.run pos pins s σ H _ I h) fun us s1 hh => ?_) he hpl
  obtain ⟨vs, H1, I1, r, q⟩ := hh
  rw [List.append_nil] at q
  exact ⟨I1.kIn, runG F hgu hr hb I1 r q⟩
end
end G1

set_option Elab.async false
set_option linter.all false
set_option maxRecDepth 100000
set_option maxHeartbeats 2000000
/-! repr and == of the values of many kinds. -/
namespace G1
open PySem PySem.Spec PyProof.Rows L2
/-- a value and what it shows -/
inductive Tg (K : PySem.W.Frag) (H : Hp) : V → PyData → Prop
  | dp {v : V} {d : PyData} : Dp K H v d → SeqAt.shaped d = true → PyData.eqv d d = true → d.hasDict = false → Tg K H v d
  | d0 {a : Addr} : H a = some (.dK []) → Tg K H (.ref a) (.dict [])
  | d1 {a : Addr} {x : Str} {i : Int} : H a = some (.dK [(.inr x, .int i)]) → Tg K H (.ref a) (.dict [(.str x, .int i)])
structure Gd (d : PyData) : Prop where
  sh : d.showable = true
  sz : d.shown.length ≤ sizeLine
  dp : d.depth ≤ 60
section
variable {X : Cx} {pins : List (Addr × Obj)} {σ : L2.St} {H : Hp} {s : Shared}
theorem Tg.reads (I : Inv X pins σ H s) {v : V} {d : PyData} {u : Value} (h : Tg X.K H v d) (r : RelV v u) : ∃ as, Reads s.heap u d as ∧ (d.hasDict = true → sysModules ∉ as) := by
  cases h with
  | dp h1 h2 h3 h4 =>
    obtain ⟨as, q⟩ := Dp.reads I _ _ _ h1 r
    exact ⟨as, q, PyData.noDict_hsm h4⟩
  | @d0 a e =>
    cases (show u = Value.ref a from r)
    obtain ⟨_, y, vs, rk, o, es, ep, ho, hx, hd, hl⟩ := (show ObjOk X.prog X.w H s.heap a (.dK []) from I.hok a _ e)
    cases rk
    have ne : a ≠ sysModules := fun z => by rw [z] at y; simp at y
    have e0 : es.toList = [] := by
      have z := hl.2.1
      generalize es.toList = l at z
      cases z
      rfl
    refine ⟨[a] ++ [], Reads.dict (as := []) (bs := []) ho hx.1 hd ?_ ?_, fun _ hm => ?_⟩
    · rw [e0]
      exact ReadsAll.nil
    · rw [e0]
      exact ReadsAll.nil
    · simp at hm
      exact ne hm.symm
  | @d1 a x i e =>
    cases (show u = Value.ref a from r)
    obtain ⟨_, y, vs, rk, o, es, ep, ho, hx, hd, hl⟩ := (show ObjOk X.prog X.w H s.heap a (.dK [(.inr x, .int i)]) from I.hok a _ e)
    have ne : a ≠ sysModules := fun z => by rw [z] at y; simp at y
    obtain ⟨en, t1, t2, e0, e1, e2⟩ : ∃ (en : DictEntry) (t1 t2 : Tok), es.toList = [en] ∧ en.key = .str x t1 ∧ en.val = .int i t2 := by
      have z := hl.2.1
      generalize es.toList = l at z
      cases rk with
      | @cons p q ps qs hp hn =>
        cases hn
        obtain ⟨hp1, t2, hp2⟩ := hp
        cases z with
        | @cons en kv es' kvs' k1 k2 k3 =>
          cases k3
          have k1' : keyIs q.1 en.key = true := k1
          rw [← hp1] at k1'
          rcases keyIs_shape k1' with ⟨j, t, c, _⟩ | ⟨z, t, c, ek⟩
          · cases c
          · cases c
            exact ⟨en, t, t2, rfl, ek, k2.trans hp2⟩
    refine ⟨a :: ([] ++ []) ++ ([] ++ []), Reads.dict ho hx.1 hd ?_ ?_, fun _ hm => ?_⟩
    · rw [e0]
      show ReadsAll s.heap [en.key] [.str x] _
      rw [e1]
      exact .cons (.str x t1) .nil
    · rw [e0]
      show ReadsAll s.heap [en.val] [.int i] _
      rw [e2]
      exact .cons (.int i t2) .nil
    · simp at hm
      exact ne hm.symm
/-- repr(x) -/
def rRepr (K : PySem.W.Frag) : List V → Hp → VK → Prop := fun xs H Q => ∃ (v : V) (d : PyData), xs = [v] ∧ Tg K H v d ∧ Gd d ∧ Q (.str d.shown) H
theorem call_repr (hg : X.A.guards = some []) (hu : X.A.units + 64 < cLine) : CallR X (.builtin "repr") (rRepr X.K) := by
  intro pins s σ H xs us Q I r h
  obtain ⟨v, d, rfl, th, gd, q⟩ := h
  obtain ⟨u, rfl, ru⟩ := vals1 r
  obtain ⟨as, rd, hsm⟩ := th.reads I ru
  cases v with
  | ref a =>
    cases (show u = Value.ref a from ru)
    refine repr_of_reads' rd gd.sh hsm hg (by have := gd.dp; omega) (fun _ _ e => e) (fun h' u tk k => ?_) gd.sz
    exact ⟨.str _, H, I.kept (t' := tk) k, ⟨u, rfl⟩, q⟩
  | non =>
    cases (show u = Value.none from ru)
    cases rd
    exact PySem.P.repr_of_none ⟨.str _, H, I.tok _, ⟨_, rfl⟩, q⟩
  | bl b =>
    cases (show u = Value.bool b from ru)
    cases rd
    refine PySem.P.repr_of_bool ⟨.str _, H, I.tok _, ⟨_, rfl⟩, ?_⟩
    rw [PyData.shown_bool] at q
    cases b <;> exact q
  | int i =>
    obtain ⟨t, e⟩ := (show ∃ t, u = Value.int i t from ru)
    cases e
    cases rd
    have z : i.natAbs.log2 < 1920 := of_decide_eq_true gd.sh
    exact PySem.P.repr_of_int z ⟨.str _, H, I.tok _, ⟨_, rfl⟩, q⟩
  | str x =>
    obtain ⟨t, e⟩ := (show ∃ t, u = Value.str x t from ru)
    cases e
    cases rd
    refine PySem.P.repr_of_str ⟨.str _, H, I.tok _, ⟨_, rfl⟩, ?_⟩ ?_
    · rw [PyData.shown_str] at q
      exact q
    · have z := gd.sz
      rw [PyData.shown_str] at z
      exact z
  | byt b =>
    obtain ⟨t, e⟩ := (show ∃ t, u = Value.bytes b t from ru)
    cases e
    cases rd
  | flt b =>
    obtain ⟨t, e⟩ := (show ∃ t, u = Value.float b t from ru)
    cases e
    cases rd
  | ty n =>
    cases (show u = Value.type n from ru)
    cases rd
/-- x == y, both the same thing -/
def rEqSame (K : PySem.W.Frag) : R2 := fun x y H Q => x = y ∧ (∃ d, Tg K H x d) ∧ Q (.bl true) H
theorem op_eqSame (hu : X.A.units + 64 < cLine) : OpR X (compareOp .Eq) (rEqSame X.K) := by
  intro pins s σ H x y v u Q I rx ry h
  obtain ⟨rfl, ⟨d, th⟩, q⟩ := h
  cases th with
  | dp h1 h2 h3 h4 => exact op_eqD hu pins s σ H x x v u Q I rx ry ⟨d, d, h1, h1, h2, h2, by rw [h3]; exact q⟩
  | @d0 a e => exact op_eqV hu pins s σ H _ _ v u Q I rx ry ⟨1, by decide, .inr ⟨a, a, _, _, rfl, rfl, e, e, rfl, fun p hp => by cases hp⟩, q⟩
  | @d1 a x i e =>
    refine op_eqV hu pins s σ H _ _ v u Q I rx ry ⟨1, by decide, .inr ⟨a, a, _, _, rfl, rfl, e, e, rfl, fun p hp => ?_⟩, q⟩
    have ep : p = (.inr x, .int i) := List.mem_singleton.mp hp
    subst ep
    exact ⟨.int i, by simp [valV], .inl ⟨rfl, rfl⟩⟩
end
end G1

set_option Elab.async false
set_option linter.all false
set_option maxRecDepth 100000
set_option maxHeartbeats 2000000
/-! Special methods of own classes: str, len, truth, ==, !=. -/
namespace G2
open PySem PySem.Spec PyProof.Rows L2 Builtin
section
variable {X : Cx} {CX : CXT} {n : Nat} {C g : Addr} {sp : Sp} {E : XK}
def rStrO (C : Addr) (sp : Sp) (E : XK) : List V → Hp → VK → Prop := fun xs H Q => ∃ a dx fs, xs = [.ref a] ∧ H a = some (.ins C dx fs) ∧ sp [.ref a] H (fun z H' => ∃ x, z = .str x ∧ Q z H') E
theorem call_strO (hs : PySem.W.findIn X.K (.ref C) "__str__" = some (some (.ref g))) (hf : PySem.W.isFn X.K (.ref g) = true) (F : FnR X.prog X.w X.K X.mg X.base CX n g sp) (hr : Room (n + 2) X.A) (hx : Passes CX X E) : CallR X (.type "str") (rStrO C sp E) := by
  intro pins s σ H xs us Q I r h
  obtain ⟨a, dx, fs, rfl, ha, q⟩ := h
  obtain ⟨u, rfl, ru⟩ := r.one
  cases (show u = Value.ref a from ru)
  obtain ⟨mA, J, _⟩ := ins_get I.hok ha
  obtain ⟨od, J, _⟩ := J.look
  have hr2 : Room n X.A.in1.in1 := (show Room (n + 1) X.A.in1 from Room.in1 hr).in1
  refine PySem.W.kso_call hr2.units0 I.kIn J hs hf (wpAny_mono (wpAny_call (SlX.run_at (us := [.ref a]) (ws := [.ref a]) F hr2 I.env0.in1.in1 hx I (.cons rfl .nil) q)) (fun w s' z => ?_) fun _ _ x => x)
  obtain ⟨z', H', I', rz, i, ei, qz⟩ := z
  subst ei
  obtain ⟨t, e⟩ := (show ∃ t, w = Value.str i t from rz)
  cases e
  exact ⟨.str i, H', I', ⟨t, rfl⟩, qz⟩
def rLenO (C : Addr) (sp : Sp) (E : XK) : List V → Hp → VK → Prop := fun xs H Q => ∃ a dx fs, xs = [.ref a] ∧ H a = some (.ins C dx fs) ∧ sp [.ref a] H (fun z H' => ∃ i : Int, z = .int i ∧ 0 ≤ i ∧ i < 2 ^ 63 ∧ Q z H') E
theorem call_lenO (hs : PySem.W.findIn X.K (.ref C) "__len__" = some (some (.ref g))) (hf : PySem.W.isFn X.K (.ref g) = true) (F : FnR X.prog X.w X.K X.mg X.base CX n g sp) (hr : Room (n + 1) X.A) (hx : Passes CX X E) : CallR X (.builtin "len") (rLenO C sp E) := by
  intro pins s σ H xs us Q I r h
  obtain ⟨a, dx, fs, rfl, ha, q⟩ := h
  obtain ⟨u, rfl, ru⟩ := r.one
  cases (show u = Value.ref a from ru)
  obtain ⟨mA, J, _⟩ := ins_get I.hok ha
  obtain ⟨od, J, _⟩ := J.look
  have hr1 : Room n X.A.in1 := Room.in1 hr
  obtain ⟨m, hF⟩ := I.fr
  refine PySem.W.len_K hF I.ok.mod.kin J hs hf (wpAny_mono (wpAny_call (SlX.run_at (us := [.ref a]) (ws := [.ref a]) F hr1 I.env0.in1 hx I (.cons rfl .nil) q)) (fun w s' z => ?_) fun _ _ x => x)
  obtain ⟨z', H', I', rz, i, ei, i0, i1, qz⟩ := z
  subst ei
  obtain ⟨t, e⟩ := (show ∃ t, w = Value.int i t from rz)
  cases e
  exact ⟨⟨i0, i1⟩, .int i, H', I'.tok _, ⟨_, rfl⟩, qz⟩
/-- the truth of an instance with a len of its own -/
theorem len_body {prog : Program} {w : World} {A : Around} {E : Value → Shared → Prop} {s : Shared} {K : PySem.W.Frag} {x C L f : Addr} {ox : Obj} {od : Option Obj} {Q : Bool → Shared → Prop} (X : K.In s.heap) (I : PySem.W.InstAt s.heap x ox C od)
    (hb : PySem.W.findIn K (.ref C) "__bool__" = some none) (hs : PySem.W.findIn K (.ref C) "__len__" = some (some (.ref f))) (hf : PySem.W.isFn K (.ref f) = true)
    (h : wpAny (model prog w) A.in1 (call (.ref f) [.ref x]) (fun v s' => ∃ (n : Int) (t : Tok), v = .int n t ∧ 0 ≤ n ∧ n < 2 ^ 63 ∧ Q (n != 0) { s' with toks := s'.toks + 1 }) E s) :
    wpAny (model prog w) A (truthy (.ref x)) Q E s := by
  have key : wpAny (model prog w) A (runValue (.builtin "len" ⟨[.ref x], []⟩)) (fun r s' => ∃ (n : Int) (t : Tok), r = .int n t ∧ Q (n != 0) s') E s := by
    refine wpAny_runValue (codeAny_builtin entry_len ?_)
    rw [Around.under_plainId plain_len _]
    unfold Builtin.«len»
    refine wpAny_bind (m := oneArg "len" _) (wpAny_pure ?_)
    refine wpAny_bind (m := callSpecial? (.ref x) (Str.ofString "__len__")) (PySem.W.special_fn X I hs (beq_iff_eq.mp hf) (wpAny_mono h (fun r s' hr => ?_) fun _ _ y => y))
    obtain ⟨n, t, rfl, h0, h1, hq⟩ := hr
    refine wpAny_bind (wpAny_holding (wpAny_pure ?_))
    refine wpAny_bind (wpAny_letGo ?_)
    show wpAny _ _ (if n < 0 then _ else _) _ _ _
    rw [if_neg (by omega)]
    show wpAny _ _ (if n ≥ 2 ^ 63 then _ else _) _ _ _
    rw [if_neg (by omega)]
    exact wpAny_bind (wpAny_mkInt (wpAny_pure ⟨n, _, rfl, hq⟩))
  unfold truthy
  refine wpAny_bind (m := callSpecial? (.ref x) (Str.ofString "__bool__")) (wpAny_bind (wpAny_bind (I.type.here ((PySem.W.looks_findIn X hb).here (wpAny_pure ?_)))))
  refine wpAny_bind (wpAny_bind (I.type.here ((PySem.W.looks_findIn X hs).here ?_)))
  refine wpAny_bind (wpAny_mono key (fun r s' hr => ?_) fun _ _ e => e)
  obtain ⟨n, t, rfl, hq⟩ := hr
  exact wpAny_pure hq
def rTruO (C : Addr) (sp : Sp) (E : XK) : V → Hp → (Bool → Hp → Prop) → Prop := fun x H Q => ∃ a dx fs, x = .ref a ∧ H a = some (.ins C dx fs) ∧ sp [.ref a] H (fun z H' => ∃ i : Int, z = .int i ∧ 0 ≤ i ∧ i < 2 ^ 63 ∧ Q (i != 0) H') E
theorem tru_lenO (hb : PySem.W.findIn X.K (.ref C) "__bool__" = some none) (hs : PySem.W.findIn X.K (.ref C) "__len__" = some (some (.ref g))) (hf : PySem.W.isFn X.K (.ref g) = true) (F : FnR X.prog X.w X.K X.mg X.base CX n g sp) (hr : Room (n + 1) X.A) (hx : Passes CX X E) :
    TruR X (rTruO C sp E) := by
  intro pins s σ H x v Q I rx h
  obtain ⟨a, dx, fs, rfl, ha, q⟩ := h
  cases (show v = Value.ref a from rx)
  obtain ⟨mA, J, _⟩ := ins_get I.hok ha
  obtain ⟨od, J, _⟩ := J.look
  have hr1 : Room n X.A.in1 := Room.in1 hr
  refine len_body (L := 0) I.kIn J hb hs hf (wpAny_mono (wpAny_call (SlX.run_at (us := [.ref a]) (ws := [.ref a]) F hr1 I.env0.in1 hx I (.cons rfl .nil) q)) (fun w s' z => ?_) fun _ _ x => x)
  obtain ⟨z', H', I', rz, i, ei, i0, i1, qz⟩ := z
  subst ei
  obtain ⟨t, e⟩ := (show ∃ t, w = Value.int i t from rz)
  exact ⟨i, t, e, i0, i1, H', I'.tok _, qz⟩
theorem pt_truO {a : Expr} {ta : TE} {r : V → Hp → (Bool → Hp → Prop) → Prop} (T : TruR X r) (ha : PE X a ta) (he : ∀ whole, isTrue a X.env whole = (do let v ← whole; standAt a.pos; holding [v] (truthy v))) :
    PT X a (fun σ H Q => ta σ H fun x H' => r x H' Q) := by
  refine ⟨fun pins s σ H Q I h => ?_⟩
  exact isTrue_plain (thn (ha.run pins s σ H _ I h) fun v s1 ⟨x, H1, I1, r1, q1⟩ => T pins s1 σ H1 x v Q I1 r1 q1) (he _)
/-! ### == and != -/
/-- the type of a value, and that it is no class below C's -/
def Beside (K : PySem.W.Frag) (C : Addr) (H : Hp) (y : V) : Prop := ∃ t : Value, TyX K H y t ∧ PySem.W.notFirst K C t = true
theorem ty_looks {pins : List (Addr × Obj)} {σ : L2.St} {H : Hp} {s : Shared} {y : V} {u t : Value} (I : Inv X pins σ H s) (r : RelV y u) (h : TyX X.K H y t) : PySem.W.Looks (model X.prog X.w) s.heap (typeOf u) t := by
  obtain ⟨P, Z, p, hx⟩ := kit_of I r h
  exact Z.ty _ _ I.kIn p
def rEqO (K : PySem.W.Frag) (C : Addr) (sp : Sp) (E : XK) : R2 := fun x y H Q => ∃ a dx fs, x = .ref a ∧ H a = some (.ins C dx fs) ∧ Beside K C H y ∧ sp [x, y] H (fun z H' => ∃ b, z = .bl b ∧ Q z H') E
theorem op_eqO (hs : PySem.W.findIn X.K (.ref C) "__eq__" = some (some (.ref g))) (hf : PySem.W.isFn X.K (.ref g) = true) (F : FnR X.prog X.w X.K X.mg X.base CX n g sp) (hr : Room n X.A) (hx : Passes CX X E) : OpR X (compareOp .Eq) (rEqO X.K C sp E) := by
  intro pins s σ H x y v u Q I rx ry h
  obtain ⟨a, dx, fs, rfl, ha, ⟨t, ht, hn⟩, q⟩ := h
  cases (show v = Value.ref a from rx)
  obtain ⟨mA, J, _⟩ := ins_get I.hok ha
  obtain ⟨od, J, _⟩ := J.look
  obtain ⟨m, hF⟩ := I.fr
  show wpAny (model X.prog X.w) X.A (richCompare .Eq (.ref a) u) (EP X pins σ Q) X.xe s
  refine PySem.W.cmp_K (op := .Eq) (tb := t) hr.units0 hF I.ok.mod.kin J (ty_looks I ry ht) hn hs hf ?_
  refine wpAny_mono (wpAny_call (run_fnR (us := [.ref a, u]) (vs := [.ref a, y]) F hr hx I (.cons rfl (.cons ry .nil)) q)) (fun w s' z => ?_) fun _ _ x => x
  obtain ⟨z', H', I', rz, b, eb, qz⟩ := z
  subst eb
  cases (show w = Value.bool b from rz)
  exact ⟨.bl b, H', I', rfl, qz⟩
end
end G2

set_option Elab.async false
set_option linter.all false
set_option maxRecDepth 100000
set_option maxHeartbeats 2000000
/-! != by an own __eq__, and == of another thing with an instance. -/
namespace G2
open PySem PySem.Spec PyProof.Rows L2 Builtin
section
variable {prog : Program} {w : World} {A : Around} {E : Value → Shared → Prop} {s : Shared} {K : PySem.W.Frag} {x C L f : Addr} {h₀ : Heap} {m : Str → Option Value} {ox : Obj} {od : Option Obj} {b tb : Value}
theorem ne_body {Q : Value → Shared → Prop} (hu : A.units < cLine) (X : K.In s.heap) (I : PySem.W.InstAt s.heap x ox C od) (hs : PySem.W.findIn K (.ref C) "__eq__" = some (some (.ref f))) (hf : PySem.W.isFn K (.ref f) = true)
    (h : wpAny (model prog w) A (call (.ref f) [.ref x, b]) (fun v s' => ∃ r, v = .bool r ∧ Q (.bool (!r)) s') E s) :
    wpAny (model prog w) A (Builtin.«object.__ne__» ⟨[.ref x, b], []⟩) (fun fin s' => ∃ v, fin = .done (.ret v) ∧ Q v s') E s := by
  unfold Builtin.«object.__ne__»
  refine wpAny_bind (wpAny_of_eq (a := ((Value.ref x : Value), [b])) (by first | rfl | (simp only [slotArgs]; rfl)) ?_)
  refine wpAny_bind (wpAny_cRoomFor hu ?_)
  refine wpAny_bind (m := callSpecialIfBound? (.ref x) (Str.ofString "__eq__") [b]) (PySem.W.ifBound_K X I hs hf (wpAny_mono h (fun v s' hv => ?_) fun _ _ e => e))
  obtain ⟨r, rfl, hq⟩ := hv
  exact wpAny_bind (wpAny_truthy_bool (wpAny_pure ⟨_, rfl, hq⟩))
theorem ne_try {Q : Option Value → Shared → Prop} (hu : A.units + 1 < cLine) (X : K.In s.heap) (I : PySem.W.InstAt s.heap x ox C od) (hn : PySem.W.findIn K (.ref C) "__ne__" = some (some (.builtin "object.__ne__")))
    (hob : PySem.W.mroIn K C (.type "object") = some true) (hs : PySem.W.findIn K (.ref C) "__eq__" = some (some (.ref f))) (hf : PySem.W.isFn K (.ref f) = true)
    (h : wpAny (model prog w) A.in1 (call (.ref f) [.ref x, b]) (fun v s' => ∃ r, v = .bool r ∧ Q (some (.bool (!r))) s') E s) :
    wpAny (model prog w) A (tryCompare (.ref x) "__ne__" b) Q E s := by
  have isO : PySem.W.Looks (model prog w) s.heap (isInstance (.ref x) (.type "object")) true := I.type.andThen (PySem.W.looks_mroIn X hob)
  have FB := PySem.F.cmp_object
  unfold tryCompare
  refine wpAny_bind ?_
  simp only [callSpecialIfBound?, bindSpecialIfBound?]
  refine wpAny_holding (wpAny_bind (wpAny_bind (wpAny_bind (I.type.here ((PySem.W.looks_findIn X hn).here ?_)))))
  simp only [FB.ne.bind]
  refine wpAny_bind (wpAny_askSetting (wpAny_ite ?_))
  have key : wpAny (model prog w) A (call (.builtin "object.__ne__") ([.ref x] ++ [b])) (fun v s' => ∃ r, v = .bool r ∧ Q (some (.bool r)) s') E s := by
    refine wpAny_call (codeAny_call_builtin FB.ne.plain PySem.F.cmpEntry_ne ?_)
    refine @PySem.W.check_slot (model prog w) _ _ s "object.__ne__" "object" "__ne__" (.ref x) [b] [] _ PySem.F.cmpKind_ne PySem.F.cmpSplit_ne isO (PySem.F.cmpArgs_ne _ _) ?_
    refine wpAny_mono (ne_body (A := A.in1) (Q := fun v s' => ∃ r, v = .bool r ∧ Q (some (.bool r)) s') hu X I hs hf (wpAny_mono h (fun v s' hv => ?_) fun _ _ e => e)) (fun fin s' hv => ?_) fun _ _ e => e
    · obtain ⟨r, rfl, hq⟩ := hv
      exact ⟨r, rfl, _, rfl, hq⟩
    · obtain ⟨v, rfl, hq⟩ := hv
      exact hq
  have fin : wpAny (model prog w) A (call (.builtin "object.__ne__") ([.ref x] ++ [b]) >>= fun v => pure (some v)) (fun r s' => ∃ q, r = some (.bool q) ∧ Q (some (.bool q)) s') E s :=
    wpAny_bind (wpAny_mono key (fun v s' h' => by obtain ⟨r, rfl, hq⟩ := h'; exact wpAny_pure ⟨r, rfl, hq⟩) fun _ _ h' => h')
  have fin2 := wpAny_mono fin (Q' := fun r s' => wpAny (model prog w) A (match r with | some .notImplemented => pure none | none => pure none | some v => pure (some v)) Q E s') (fun r s' h' => by
    obtain ⟨q, rfl, hq⟩ := h'
    exact wpAny_pure hq) fun _ _ h' => h'
  split
  · exact wpAny_bind (wpAny_pure (wpAny_pure fin2))
  · exact wpAny_tryCatch (wpAny_bind (wpAny_pure (wpAny_pure fin2)))
theorem ne_K {Q : Value → Shared → Prop} (hu : A.units + 1 < cLine) (X : K.In s.heap) (I : PySem.W.InstAt s.heap x ox C od) (hb : PySem.W.Looks (model prog w) s.heap (typeOf b) tb) (hnf : PySem.W.notFirst K C tb = true)
    (hn : PySem.W.findIn K (.ref C) "__ne__" = some (some (.builtin "object.__ne__"))) (hob : PySem.W.mroIn K C (.type "object") = some true)
    (hs : PySem.W.findIn K (.ref C) "__eq__" = some (some (.ref f))) (hf : PySem.W.isFn K (.ref f) = true)
    (h : wpAny (model prog w) A.in1 (call (.ref f) [.ref x, b]) (fun v s' => ∃ r, v = .bool r ∧ Q (.bool (!r)) s') E s) : wpAny (model prog w) A (richCompare .NotEq (.ref x) b) Q E s := by
  have one : wpAny (model prog w) A (tryCompare (.ref x) "__ne__" b) (fun r s' => ∃ v, r = some v ∧ Q v s') E s :=
    ne_try hu X I hn hob hs hf (wpAny_mono h (fun v s' hv => by obtain ⟨r, rfl, hq⟩ := hv; exact ⟨r, rfl, _, rfl, hq⟩) fun _ _ e => e)
  unfold richCompare
  simp only [oneThing_ref]
  refine wpAny_holding (wpAny_bind (wpAny_cRoomFor (Nat.lt_of_succ_lt hu) ?_))
  rw [cmpInfo_NotEq]
  dsimp only
  refine wpAny_bind (I.type.here (wpAny_bind (hb.here ?_)))
  split
  · rename_i q
    have e : PySem.W.subIn K tb (.ref C) = some false := by
      rcases Bool.or_eq_true_iff.mp hnf with e | e
      · rw [beq_iff_eq.mp e] at q; simp at q
      · exact beq_iff_eq.mp e
    refine wpAny_bind ((PySem.W.looks_subIn X e).here ?_)
    simp only [Bool.false_eq_true, if_false]
    refine wpAny_bind (wpAny_mono one (fun r s' z => ?_) fun _ _ e => e)
    obtain ⟨v, rfl, hq⟩ := z
    exact wpAny_pure hq
  · refine wpAny_bind (wpAny_pure ?_)
    simp only [Bool.false_eq_true, if_false]
    refine wpAny_bind (wpAny_mono one (fun r s' z => ?_) fun _ _ e => e)
    obtain ⟨v, rfl, hq⟩ := z
    exact wpAny_pure hq
/-- v == x, v of a built-in type that says nothing of it -/
theorem refl_K {v : Value} {T id : String} {Q : Value → Shared → Prop} (hu : A.units < cLine) (X : K.In s.heap) (I : PySem.W.InstAt s.heap x ox C od) (hT : s.TypeIs v T) (slot : Slot T "__eq__" id) (ho : oneThing? .Eq v (.ref x) = none)
    (hsub : PySem.W.subIn K (.ref C) (.type T) = some false) (hs : PySem.W.findIn K (.ref C) "__eq__" = some (some (.ref f))) (hf : PySem.W.isFn K (.ref f) = true)
    (first : wpAny (model prog w) A (call (.builtin id) [v, .ref x]) (fun r s' => r = .notImplemented ∧ s' = s) E s)
    (h : wpAny (model prog w) A (call (.ref f) [.ref x, v]) (fun v s' => ∃ r, v = .bool r ∧ Q (.bool r) s') E s) : wpAny (model prog w) A (richCompare .Eq v (.ref x)) Q E s := by
  unfold richCompare
  simp only [ho]
  refine wpAny_holding (wpAny_bind (wpAny_cRoomFor hu ?_))
  rw [cmpInfo_Eq]
  dsimp only
  refine wpAny_bind (wpAny_typeOf hT (wpAny_bind (I.type.here ?_)))
  rw [if_pos (by rfl)]
  refine wpAny_bind ((PySem.W.looks_subIn X hsub).here ?_)
  simp only [Bool.false_eq_true, if_false]
  have one : wpAny (model prog w) A (tryCompare v "__eq__" (.ref x)) (fun r s' => r = none ∧ s' = s) E s := by
    unfold tryCompare
    refine wpAny_bind (wpAny_callSpecialIfBound?_slot hT slot (wpAny_mono first (fun r s' z => ?_) fun _ _ e => e))
    obtain ⟨rfl, rfl⟩ := z
    exact wpAny_pure ⟨rfl, rfl⟩
  refine wpAny_bind (wpAny_mono one (fun r s' z => ?_) fun _ _ e => e)
  obtain ⟨rfl, rfl⟩ := z
  dsimp only
  rw [if_pos (by rfl)]
  have two : wpAny (model prog w) A (tryCompare (.ref x) "__eq__" v) (fun r s' => ∃ v, r = some v ∧ Q v s') E s' := by
    unfold tryCompare
    refine wpAny_bind (PySem.W.ifBound_K X I hs hf (wpAny_mono h (fun v s' hv => ?_) fun _ _ e => e))
    obtain ⟨r, rfl, hq⟩ := hv
    exact wpAny_pure ⟨_, rfl, hq⟩
  refine wpAny_bind (wpAny_mono two (fun r s' z => ?_) fun _ _ e => e)
  obtain ⟨v, rfl, hq⟩ := z
  exact wpAny_pure hq
end
section
variable {X : Cx} {CX : CXT} {n : Nat} {C g : Addr} {sp : Sp} {E : XK}
def rNeO (K : PySem.W.Frag) (C : Addr) (sp : Sp) (E : XK) : R2 := fun x y H Q => ∃ a dx fs, x = .ref a ∧ H a = some (.ins C dx fs) ∧ Beside K C H y ∧ sp [x, y] H (fun z H' => ∃ b, z = .bl b ∧ Q (.bl (!b)) H') E
theorem op_neO (hn : PySem.W.findIn X.K (.ref C) "__ne__" = some (some (.builtin "object.__ne__"))) (hob : PySem.W.mroIn X.K C (.type "object") = some true)
    (hs : PySem.W.findIn X.K (.ref C) "__eq__" = some (some (.ref g))) (hf : PySem.W.isFn X.K (.ref g) = true) (F : FnR X.prog X.w X.K X.mg X.base CX n g sp) (hr : Room (n + 1) X.A) (hx : Passes CX X E) : OpR X (compareOp .NotEq) (rNeO X.K C sp E) := by
  intro pins s σ H x y v u Q I rx ry h
  obtain ⟨a, dx, fs, rfl, ha, ⟨t, ht, hnf⟩, q⟩ := h
  cases (show v = Value.ref a from rx)
  obtain ⟨mA, J, _⟩ := ins_get I.hok ha
  obtain ⟨od, J, _⟩ := J.look
  have hr1 : Room n X.A.in1 := Room.in1 hr
  show wpAny (model X.prog X.w) X.A (richCompare .NotEq (.ref a) u) (EP X pins σ Q) X.xe s
  refine ne_K (tb := t) hr1.units0 I.kIn J (ty_looks I ry ht) hnf hn hob hs hf ?_
  refine wpAny_mono (wpAny_call (SlX.run_at (us := [.ref a, u]) (ws := [.ref a, y]) F hr1 I.env0.in1 hx I (.cons rfl (.cons ry .nil)) q)) (fun w s' z => ?_) fun _ _ x => x
  obtain ⟨z', H', I', rz, b, eb, qz⟩ := z
  subst eb
  cases (show w = Value.bool b from rz)
  exact ⟨b, rfl, .bl (!b), H', I', rfl, qz⟩
end
end G2

set_option Elab.async false
set_option linter.all false
set_option maxRecDepth 100000
set_option maxHeartbeats 2000000
namespace G2
open PySem PySem.Spec PyProof.Rows L2 Builtin
section
variable {prog : Program} {w : World} {A : Around} {E : Value → Shared → Prop} {s : Shared} {K : PySem.W.Frag} {x C L f a : Addr} {ox : Obj} {od : Option Obj}
theorem none_first (hx : s.heap.get? x = some ox) : wpAny (model prog w) A (call (.builtin "NoneType.__eq__") [.none, .ref x]) (fun r s' => r = .notImplemented ∧ s' = s) E s := by
  refine GQ.call_here PySem.F.slot_NoneType_eq rfl PySem.F.entry_NoneType_eq (PySem.F.args_NoneType_eq_2 _ _) ?_
  obtain ⟨hp, g, d, tk, os⟩ := s
  unfold Builtin.«NoneType.__eq__»
  repeat (first | with_reducible refine wpAny_loadPart_at hx ?_ | wp_step)
  all_goals first | exact ⟨rfl, rfl⟩ | skip
theorem int_first {i : Int} {t : Tok} (hx : s.heap.get? x = some ox) (hd : ox.data = .plain) : wpAny (model prog w) A (call (.builtin "int.__eq__") [.int i t, .ref x]) (fun r s' => r = .notImplemented ∧ s' = s) E s := by
  refine GQ.call_here PySem.F.slot_int_eq rfl PySem.F.entry_int_eq (PySem.F.args_int_eq_2 _ _) ?_
  obtain ⟨hp, g, d, tk, os⟩ := s
  obtain ⟨oc, odd, oda, osl⟩ := ox
  dsimp only at hd
  subst hd
  unfold Builtin.«int.__eq__»
  repeat (first | with_reducible refine wpAny_loadPart_at hx ?_ | with_reducible refine wpAny_load hx ?_ | wp_step)
  all_goals first | exact ⟨rfl, rfl⟩ | skip
theorem bool_first {b : Bool} (hx : s.heap.get? x = some ox) (hd : ox.data = .plain) : wpAny (model prog w) A (call (.builtin "int.__eq__") [.bool b, .ref x]) (fun r s' => r = .notImplemented ∧ s' = s) E s := by
  refine GQ.call_here PySem.F.slot_bool_eq rfl PySem.F.entry_int_eq (PySem.F.args_int_eq_2 _ _) ?_
  obtain ⟨hp, g, d, tk, os⟩ := s
  obtain ⟨oc, odd, oda, osl⟩ := ox
  dsimp only at hd
  subst hd
  unfold Builtin.«int.__eq__»
  repeat (first | with_reducible refine wpAny_loadPart_at hx ?_ | with_reducible refine wpAny_load hx ?_ | wp_step)
  all_goals first | exact ⟨rfl, rfl⟩ | skip
theorem str_first {z : Str} {t : Tok} (hx : s.heap.get? x = some ox) (hd : ox.data = .plain) : wpAny (model prog w) A (call (.builtin "str.__eq__") [.str z t, .ref x]) (fun r s' => r = .notImplemented ∧ s' = s) E s := by
  refine GQ.call_here PySem.F.slot_str_eq rfl PySem.F.entry_str_eq (PySem.F.args_str_eq_2 _ _) ?_
  obtain ⟨hp, g, d, tk, os⟩ := s
  obtain ⟨oc, odd, oda, osl⟩ := ox
  dsimp only at hd
  subst hd
  unfold Builtin.«str.__eq__»
  repeat (first | with_reducible refine wpAny_loadPart_at hx ?_ | with_reducible refine wpAny_load hx ?_ | wp_step)
  all_goals first | exact ⟨rfl, rfl⟩ | skip
theorem tup_first {o : Obj} (ha : s.heap.get? a = some o) (hc : o.cls = .type "tuple") (X : K.In s.heap) (I : PySem.W.InstAt s.heap x ox C od) (hs : PySem.W.subIn K (.ref C) (.type "tuple") = some false) :
    wpAny (model prog w) A (call (.builtin "tuple.__eq__") [.ref a, .ref x]) (fun r s' => r = .notImplemented ∧ s' = s) E s := by
  refine GQ.call_here PySem.F.slot_tuple_eq ⟨o, ha, hc⟩ PySem.F.entry_tuple_eq (PySem.F.args_tuple_eq_2 _ _) ?_
  have isO : PySem.W.Looks (model prog w) s.heap (isInstance (.ref x) (.type "tuple")) false := I.type.andThen (PySem.W.looks_subIn X hs)
  unfold Builtin.«tuple.__eq__»
  refine wpAny_bind (wpAny_of_eq (a := ((Value.ref a : Value), [Value.ref x])) (by first | rfl | (simp only [slotArgs]; rfl)) ?_)
  refine wpAny_bind (isO.here ?_)
  exact wpAny_pure ⟨rfl, rfl⟩
theorem lst_first {o : Obj} (ha : s.heap.get? a = some o) (hc : o.cls = .type "list") (X : K.In s.heap) (I : PySem.W.InstAt s.heap x ox C od) (hs : PySem.W.subIn K (.ref C) (.type "list") = some false) :
    wpAny (model prog w) A (call (.builtin "list.__eq__") [.ref a, .ref x]) (fun r s' => r = .notImplemented ∧ s' = s) E s := by
  refine GQ.call_here PySem.F.slot_list_eq ⟨o, ha, hc⟩ PySem.F.entry_list_eq (PySem.F.args_list_eq_2 _ _) ?_
  have isO : PySem.W.Looks (model prog w) s.heap (isInstance (.ref x) (.type "list")) false := I.type.andThen (PySem.W.looks_subIn X hs)
  unfold Builtin.«list.__eq__»
  refine wpAny_bind (wpAny_of_eq (a := ((Value.ref a : Value), [Value.ref x])) (by first | rfl | (simp only [slotArgs]; rfl)) ?_)
  refine wpAny_bind (isO.here ?_)
  exact wpAny_pure ⟨rfl, rfl⟩
end
/-- the class is none of the built-in ones -/
structure NoSub (K : PySem.W.Frag) (C : Addr) : Prop where
  non : PySem.W.subIn K (.ref C) (.type "NoneType") = some false
  bl : PySem.W.subIn K (.ref C) (.type "bool") = some false
  int : PySem.W.subIn K (.ref C) (.type "int") = some false
  str : PySem.W.subIn K (.ref C) (.type "str") = some false
  tup : PySem.W.subIn K (.ref C) (.type "tuple") = some false
  lst : PySem.W.subIn K (.ref C) (.type "list") = some false
/-- a thing that is no instance -/
inductive Bare (K : PySem.W.Frag) (H : Hp) : V → Prop
  | non : Bare K H .non
  | bl (b : Bool) : Bare K H (.bl b)
  | int (i : Int) : Bare K H (.int i)
  | str (x : Str) : Bare K H (.str x)
  | tup {a : Addr} {xs : List V} (h : SqT K H a xs) : Bare K H (.ref a)
  | lst {a : Addr} {xs : List V} (h : SqL K H a xs) : Bare K H (.ref a)
section
variable {X : Cx} {CX : CXT} {n : Nat} {C g : Addr} {sp : Sp} {E : XK}
def rEqR (K : PySem.W.Frag) (C : Addr) (sp : Sp) (E : XK) : R2 := fun x y H Q => ∃ a dx fs, y = .ref a ∧ H a = some (.ins C dx fs) ∧ Bare K H x ∧ sp [y, x] H (fun z H' => ∃ b, z = .bl b ∧ Q z H') E
theorem op_eqR (N : NoSub X.K C) (hs : PySem.W.findIn X.K (.ref C) "__eq__" = some (some (.ref g))) (hf : PySem.W.isFn X.K (.ref g) = true) (F : FnR X.prog X.w X.K X.mg X.base CX n g sp) (hr : Room n X.A) (hx : Passes CX X E) : OpR X (compareOp .Eq) (rEqR X.K C sp E) := by
  intro pins s σ H x y v u Q I rx ry h
  obtain ⟨a, dx, fs, rfl, ha, hb, q⟩ := h
  cases (show u = Value.ref a from ry)
  obtain ⟨mA, O, _⟩ := ins_get I.hok ha
  obtain ⟨od, J, _⟩ := O.look
  have hd : (PySem.W.instObj C dx).data = .plain := rfl
  have call2 : wpAny (model X.prog X.w) X.A (call (.ref g) [.ref a, v]) (fun v s' => ∃ r, v = .bool r ∧ EP X pins σ Q (.bool r) s') X.xe s := by
    refine wpAny_mono (wpAny_call (run_fnR (us := [.ref a, v]) (vs := [.ref a, x]) F hr hx I (.cons rfl (.cons rx .nil)) q)) (fun w s' z => ?_) fun _ _ x => x
    obtain ⟨z', H', I', rz, b, eb, qz⟩ := z
    subst eb
    cases (show w = Value.bool b from rz)
    exact ⟨b, rfl, .bl b, H', I', rfl, qz⟩
  show wpAny (model X.prog X.w) X.A (richCompare .Eq v (.ref a)) (EP X pins σ Q) X.xe s
  cases hb with
  | non =>
    cases (show v = Value.none from rx)
    exact refl_K hr.units0 I.kIn J rfl PySem.F.slot_NoneType_eq rfl N.non hs hf (none_first O.obj) call2
  | bl b =>
    cases (show v = Value.bool b from rx)
    exact refl_K hr.units0 I.kIn J rfl PySem.F.slot_bool_eq rfl N.bl hs hf (bool_first O.obj hd) call2
  | int i =>
    obtain ⟨t, e⟩ := (show ∃ t, v = Value.int i t from rx)
    cases e
    exact refl_K hr.units0 I.kIn J rfl PySem.F.slot_int_eq rfl N.int hs hf (int_first O.obj hd) call2
  | str z =>
    obtain ⟨t, e⟩ := (show ∃ t, v = Value.str z t from rx)
    cases e
    exact refl_K hr.units0 I.kIn J rfl PySem.F.slot_str_eq rfl N.str hs hf (str_first O.obj hd) call2
  | @tup b xs hq =>
    cases (show v = Value.ref b from rx)
    obtain ⟨its, rv, ⟨o, ho, hc, _⟩, hz⟩ := I.tuple hq
    exact refl_K hr.units0 I.kIn J ⟨o, ho, hc⟩ PySem.F.slot_tuple_eq rfl N.tup hs hf (tup_first ho hc I.kIn J N.tup) call2
  | @lst b xs hq =>
    cases (show v = Value.ref b from rx)
    obtain ⟨its, rv, pl, hz⟩ := I.list hq
    obtain ⟨o, m, ho, hc, d, q⟩ := pl
    exact refl_K hr.units0 I.kIn J ⟨o, ho, hc⟩ PySem.F.slot_list_eq rfl N.lst hs hf (lst_first ho hc I.kIn J N.lst) call2
end
end G2

set_option Elab.async false
set_option linter.all false
set_option maxRecDepth 100000
set_option maxHeartbeats 2000000
/-! Calls: C(k = v, ..), cls(..), C.m(k = v, ..). -/
namespace G2
open PySem PySem.Spec PyProof.Rows L2 Builtin ClX
section
variable {X : Cx} {CX : CXT} {k i : Nat} {f C p g : Addr} {mc : Value} {fd : FuncData} {ps ks : List Str} {sp : Sp} {dvs : List V} {ds : List Value} {E : XK} {x m : Str} {pp pos apos : Pos} {o e : Expr} {es : List Expr} {kws : List Keyword} {ta : TE} {t tk : TA}
  {gg : List Value → List Value → List Value} {gV : List V → List V → List V}
theorem pe_makeK (M : Mk X.K C f) (F : FnOk X.prog X.w X.K X.mg X.base CX k f fd ps sp) (hr : Room (k + 1) X.A) (hg : Gl X x) (hm : X.mg x = some (.ref C)) (hb : KBn X.K fd ps 1 ks gg gV) (hx : Passes CX X E)
    (hkw : PK X kws tk) (hall : (backToKw pos (keywordEach kws X.env)).all (·.1.isSome) = true := by rfl) (hks : (backToKw pos (keywordEach kws X.env)).filterMap (·.1) = ks := by rfl)
    (hdb : (x == ("__debug__" : Str)) = false := by decide)
    (hpl : ((backTo pos (starEach [] X.env)).any (·.1) || (backToKw pos (keywordEach kws X.env)).any (·.1.isNone)) = false := by rfl) :
    PE X (.Call (.Name x pp) [] kws pos) (tMakeN C 0 ks.length sp gV E tNil tk) := by
  refine ⟨fun pins s σ H Q I h => ?_⟩
  refine wpAny_Call_Name_kw (ld_glob I hg hm ?_ hdb)
  refine PySem.W.callWith_KW0 (h₀ := X.base) I.ok.mod.kin M.kp hall (thn (hkw.run pos pins s σ H _ I h) fun ws s2 ⟨zs, H2, I2, rz, l1, l2, q2⟩ => ⟨I2.kIn, ?_⟩) hpl
  rw [hks]
  exact run_makeN (us := []) (vs := []) M F hr hb hx I2 .nil rz l1 l2 q2
/-- cls(e, ..), cls a local that holds the class at C -/
def tMakeV (i : Nat) (C : Addr) (sp : Sp) (dvs : List V) (E : XK) (t : TA) : TE := fun σ H Q => σ[i]? = some (some (.ref C)) ∧ tMake C sp dvs E t σ H Q
theorem pe_makeV (i : Nat) (M : Mk X.K C f) (F : FnOk X.prog X.w X.K X.mg X.base CX k f fd ps sp) (hr : Room (k + 1) X.A) (hN : X.N[i]? = some x) (hv : Vis X.env.scope x) (hb : Binds X.K fd ps ds) (hd : Vals dvs ds) (hx : Passes CX X E)
    (ha : PA X (e :: es) t) (hdb : (x == ("__debug__" : Str)) = false := by decide) (hcd : (x == ("__classdict__" : Str)) = false := by decide)
    (he : starEach (e :: es) X.env = (false, eval e X.env) :: starEach es X.env := by rfl) (hpl : (backTo pos (starEach es X.env)).any (·.1) = false := by rfl) :
    PE X (.Call (.Name x pp) (e :: es) [] pos) (tMakeV i C sp dvs E t) := by
  refine ⟨fun pins s σ H Q I h => ?_⟩
  obtain ⟨hs, ht⟩ := h
  refine wpAny_Call_Name_kw (thn ((pe_var (pos := pp) hN hv hdb hcd).run pins s σ H (fun v H1 => v = .ref C ∧ H1 = H) I ⟨.ref C, hs, rfl, rfl⟩) fun u s1 ⟨v, H1, I1, r1, q1⟩ => ?_)
  obtain ⟨rfl, rfl⟩ := q1
  cases r1
  refine PySem.W.callWith_K (h₀ := X.base) I.ok.mod.kin M.kp (thn (ha.run pos pins s1 σ _ _ I1 ht) fun us s2 ⟨vs, H2, I2, r, q⟩ => ⟨I2.kIn, ?_⟩) he hpl
  exact run_make M F hr hb hd hx I2 r q
/-- C.m(k = v, ..), m a classmethod -/
def tCMethK (C : Addr) (n : Nat) (sp : Sp) (gV : List V → List V → List V) (E : XK) (ta : TE) (tk : TA) : TE := fun σ H Q => ta σ H fun x H1 => x = .ref C ∧ tk σ H1 fun zs H2 => zs.length = n ∧ sp (gV [.ref C] zs) H2 Q E
theorem pe_cmethK {pl : Sem Bool} (he : PE X o ta) (r : CRead X.K C mc) (c : CMet X.K C mc m p g) (F : FnOk X.prog X.w X.K X.mg X.base CX k g fd ps sp) (hr : Room k X.A) (hb : KBn X.K fd ps 1 ks gg gV) (hx : Passes CX X E) (hkw : PK X kws tk)
    (hall : (backToKw pos (keywordEach kws X.env)).all (·.1.isSome) = true := by rfl) (hks : (backToKw pos (keywordEach kws X.env)).filterMap (·.1) = ks := by rfl)
    (hpl : ((backTo pos (starEach [] X.env)).any (·.1) || (backToKw pos (keywordEach kws X.env)).any (·.1.isNone)) = false := by rfl)
    (ht : eval (.Call (.Attribute o m apos) [] kws pos) X.env = (do
      let ov ← eval o X.env
      standAt apos.atName
      let (f, first) ← holding [ov] (getMethod ov m pl)
      callWith pos f first (backTo pos (starEach [] X.env)) (backToKw pos (keywordEach kws X.env))) := by rfl) :
    PE X (.Call (.Attribute o m apos) [] kws pos) (tCMethK C ks.length sp gV E ta tk) := by
  refine ⟨fun pins s σ H Q I h => ?_⟩
  refine PySem.W.methodCall_KW (pl := pl) (thn (he.run pins s σ H _ I h) fun u s1 ⟨x, H1, I1, rx, ex, q⟩ => ?_) ht
  subst ex
  obtain rfl : u = Value.ref C := rx
  refine getmethcm_ok I1 r c fun s2 I2 => ?_
  refine PySem.W.callWith_of hpl (PySem.W.keeps_M (q := s1.heap.objs.size) (self := .ref C) c.fi) (evalArgs_kw2_nil hall (thn (hkw.run pos _ s2 σ H1 _ I2 q) fun ws s3 ⟨zs, H2, I3, rz, l2, q2⟩ => ⟨⟨pin_at I3, I3.kIn⟩, ?_⟩))
  rw [hks]
  have rr : Vals (gV [V.ref C] zs) (gg [Value.ref C] ws) := hb.rel (.cons rfl .nil) rz
  have e2 : ws.length = ks.length := rz.length.symm.trans l2
  refine thn (Q := EP X ((s1.heap.objs.size, PySem.W.methodObj (.ref g) (.ref C)) :: pins) σ Q) (wpAny_call (PySem.W.method_call (pin_at I3) (codeAny_mono (F.run X.A X.stack s3 H2 ⟨.ref C :: [], ks.zip ws⟩ (gg [Value.ref C] ws) (gV [V.ref C] zs) Q E hr I3.env0 (hb.to s3 [.ref C] ws I3.kIn rfl e2) rr q2) fun r s' hq => ?_))) fun _ _ y => unpinE y
  cases r with
  | error e => exact hx _ σ H2 s3 e s' I3 hq
  | ok fl =>
    cases fl with
    | ret u => exact I3.after hq
    | next => exact False.elim hq
    | brk => exact False.elim hq
    | cont => exact False.elim hq
end
end G2

set_option Elab.async false
set_option linter.all false
set_option maxRecDepth 100000
set_option maxHeartbeats 2000000
/-! head, *lines = a list; xs[1::2] of a list of seven. -/
namespace G2
open PySem PySem.Spec PyProof.Rows L2 Builtin
theorem star1 {prog : Program} {w : World} {A : Around} {E : Value → Shared → Prop} {s : Shared} {l : Addr} {items : Array Value} {Q : List Value → Shared → Prop} (hl : s.heap.IsList l items) (hh : A.handled = none) (hn : 1 ≤ items.size) (hz : items.size ≤ 16384)
    (h : ∀ h₂ tk, (∀ b o, s.heap.get? b = some o → h₂.get? b = some o) → wpAny (model prog w) A (newList (items.toList.drop 1) >>= fun d => pure (items.toList.take 1 ++ [d] ++ [])) Q E { s with heap := h₂, toks := tk }) :
    wpAny (model prog w) A (unpackItems (.ref l) 2 (some 1)) Q E s := by
  have hlt : l ≠ s.heap.objs.size := by obtain ⟨o, ho, _⟩ := hl; exact Nat.ne_of_lt (Heap.lt_size ho)
  unfold unpackItems
  refine wpAny_bind ?_
  unfold notIterableAtAll
  refine wpAny_bind (wpAny_specialOf hl.typeIs slot_list_iter.lookup ?_)
  refine wpAny_pure ?_
  simp only [Bool.false_eq_true, if_false]
  refine wpAny_bind (wpAny_holding (wpAny_pyIter_list hl ?_))
  refine wpAny_bind (wpAny_holding (PySem.W.kun_draw hlt 1 0 _ _ ⟨_, Heap.get?_push_size _ rfl, rfl, rfl⟩ (hl.push _) (by omega) fun h₁ hit₁ hs₁ => ?_))
  have hl₁ : h₁.IsList l items := (hl.push _).extBut hs₁.extBut hlt
  rw [Nat.zero_add] at hit₁
  have hit₁' := hit₁
  obtain ⟨oi, hoi, _⟩ := hit₁'
  have hl₁' := hl₁
  obtain ⟨ol, hol, _⟩ := hl₁'
  rw [List.drop_zero]
  have hfl : (items.toList.take 1).length = 1 := by rw [List.length_take, Array.length_toList]; omega
  rw [if_neg (show ¬ ((items.toList.take 1).length < 1) by rw [hfl]; omega)]
  refine wpAny_bind (wpAny_holding (PySem.W.kun_collect (s := { s with heap := h₁ }) (T := "list_iterator") (.inr (.inr (.inl rfl))) (Walks.list (A := A.in1) hh s.heap.objs.size l hlt items) (fun j u st => st.1.typeIs) (k := 1) (by omega) ⟨hit₁, hl₁⟩ (Heap.lt_size hoi) (Heap.lt_size hol) (fun h₂ tk hk => ?_) (by rw [sizeLine_eq]; omega)))
  show wpAny _ _ (if (items.toList.drop 1).length < 2 - 1 - 1 then _ else _) _ _ _
  rw [if_neg (by omega)]
  show wpAny _ _ (newList ((items.toList.drop 1).take ((items.toList.drop 1).length - (2 - 1 - 1))) >>= fun d => pure (items.toList.take 1 ++ [d] ++ (items.toList.drop 1).drop ((items.toList.drop 1).length - (2 - 1 - 1)))) _ _ _
  rw [show (items.toList.drop 1).length - (2 - 1 - 1) = (items.toList.drop 1).length from rfl, List.take_length, List.drop_length]
  exact h h₂ tk fun b o e => hk b o (Nat.ne_of_lt (Heap.lt_size e)) (hs₁.extBut b o (Nat.ne_of_lt (Heap.lt_size e)) (Heap.get?_push_of_some _ e))
section
variable {X : Cx}
/-- a, *b = a list -/
def gStar (K : PySem.W.Frag) (g1 g2 : TG) : TG := fun v σ H Q => ∃ l x xs, v = .ref l ∧ SqL K H l (x :: xs) ∧ xs.length ≤ 16000 ∧ ∀ p, H p = none → g1 x σ (upd H p (.lst xs)) fun σ1 H1 => g2 (.ref p) σ1 H1 Q
theorem pg_star {a b : Expr} {p1 pos : Pos} {k : Nat} {g1 g2 : TG} (hc : X.calm = true) (h1 : PG X a g1) (h2 : PG X b g2) (hn : (assignEach [a, .Starred b p1] X.env).length = 2 := by rfl)
    (hst : (assignEach [a, .Starred b p1] X.env).findIdx? (·.1) = some 1 := by rfl) (hs : (assignEach [a, .Starred b p1] X.env).map (·.2) = [assign a X.env, assign b X.env] := by rfl) : PG X (.Tuple [a, .Starred b p1] k pos) (gStar X.K g1 g2) := by
  refine ⟨fun pins s σ H v u Q I r hw => ?_⟩
  obtain ⟨l, x, xs, e1, hq, hz, hw⟩ := hw
  subst e1
  cases r
  obtain ⟨its, rv, pl, hz'⟩ := I.list hq
  have hl' : s.heap.IsList l its.toArray := by
    obtain ⟨o, m, e, c, d, q⟩ := pl
    exact ⟨o, e, c, m, q⟩
  cases rv with
  | @cons _ u1 _ us r1 rr =>
    have hlen := rr.length
    rw [PyProof.Rows.assign_Tuple]
    refine wpAny_bind (wpAny_standAt ?_)
    unfold unpack
    rw [hn, hst, hs]
    refine wpAny_bind (wpAny_holding (star1 hl' (I.ok.hd hc) (by simp) (by simp; omega) fun h₂ tk hk => ?_))
    have I1 : Inv X pins σ H { s with heap := h₂, toks := tk } := I.kept (t' := tk) hk
    show wpAny _ _ (newList us >>= fun d => pure ([u1] ++ [d] ++ [])) _ _ _
    refine wpAny_bind (wpAny_newObj_type ?_)
    refine wpAny_pure ?_
    have ok : ObjOk X.prog X.w (upd H h₂.objs.size (.lst xs)) (h₂.push { cls := .type "list", data := .seq us.toArray }) h₂.objs.size (.lst xs) := ⟨by rw [sizeLine_eq]; omega, us, 0, rr, Heap.get?_push_size _ rfl⟩
    have I2 : Inv X pins σ (upd H h₂.objs.size (.lst xs)) { s with heap := h₂.push { cls := .type "list", data := .seq us.toArray }, toks := tk } := I1.laid (t' := tk) (fun b o e => Heap.get?_push_of_some _ e) (Nat.le_refl _) ok
    show wpAny _ _ (assignInOrder [assign a X.env, assign b X.env] [u1, .ref h₂.objs.size]) _ _ _
    refine assignInOrder_cons (thn (h1.run pins _ σ _ _ _ _ I2 r1 (hw _ (I1.hok.fresh (Nat.le_refl _)))) fun _ s1 ⟨σ1, H1, I3, q1⟩ => ?_)
    refine assignInOrder_cons (thn (h2.run pins s1 σ1 H1 (.ref h₂.objs.size) _ Q I3 rfl q1) fun _ s2 ⟨σ2, H2, I4, q2⟩ => ?_)
    exact assignInOrder_nil ⟨σ2, H2, I4, q2⟩
/-- xs[1::2], xs of seven items -/
def tOdd (K : PySem.W.Frag) (te : TE) : TE := fun σ H Q => te σ H fun x H1 => ∃ l a b c d e f g, x = .ref l ∧ SqL K H1 l [a, b, c, d, e, f, g] ∧ ∀ p, H1 p = none → Q (.ref p) (upd H1 p (.lst [b, d, f]))
theorem pick7 (a b c d e f g : Value) : slicePick #[a, b, c, d, e, f, g] (some 1) none (some 2) = #[b, d, f] := by
  unfold slicePick
  show ((sliceRange _ _ _).filterMap (#[a, b, c, d, e, f, g][·]?)).toArray = _
  have h : sliceRange 1 7 2 = [1, 3, 5] := by decide +kernel
  show ((sliceRange 1 7 2).filterMap (#[a, b, c, d, e, f, g][·]?)).toArray = _
  rw [h]
  rfl
theorem pe_odd {e : Expr} {te : TE} {k1 k2 : Nat} {p1 p2 p3 pos : Pos} (he : PE X e te) : PE X (.Subscript e (.Slice (some (.Constant (.int 1) k1 p1)) none (some (.Constant (.int 2) k2 p2)) p3) pos) (tOdd X.K te) := by
  refine ⟨fun pins s σ H Q I h => ?_⟩
  refine Subscript_ (thn (he.run pins s σ H _ I h) fun v s1 ⟨x, H1, I1, r1, q1⟩ => ?_)
  obtain ⟨a, x1, x2, x3, x4, x5, x6, x7, ex, hx, q⟩ := q1
  subst ex
  cases r1
  have hst : ∀ (j : Int) (k : Nat) (p : Pos), PO X (some (.Constant (.int j) k p)) (tPart (tC (.int j))) := fun j k p => po_some pe_int
  refine wpAny_Slice (thn ((hst 1 k1 p1).run pins s1 σ H1 (fun o H2 => o = some 1 ∧ H2 = H1) I1 ⟨1, rfl, rfl, rfl⟩) fun vl s2 ⟨l, H2, I2, pl, el, e2⟩ => ?_)
  subst el e2
  refine thn (po_none.run pins s2 σ H2 (fun o H3 => o = none ∧ H3 = H2) I2 ⟨rfl, rfl⟩) fun vu s3 ⟨u, H3, I3, pu, eu, e3⟩ => ?_
  subst eu e3
  refine thn ((hst 2 k2 p2).run pins s3 σ H3 (fun o H4 => o = some 2 ∧ H4 = H3) I3 ⟨2, rfl, rfl, rfl⟩) fun vs s4 ⟨o, H4, I4, ps, eo, e4⟩ => ?_
  subst eo e4
  have I5 : Inv X pins σ H4 { s4 with heap := s4.heap.push { cls := .type "slice", data := .fields #[vl, vu, vs] } } := I4.kept (t' := s4.toks) fun b ob q => Heap.get?_push_of_some _ q
  obtain ⟨its, r, ht, hz⟩ := I5.list hx
  show wpAny (model X.prog X.w) X.A (subscriptTail e (.Slice (some (.Constant (.int 1) k1 p1)) none (some (.Constant (.int 2) k2 p2)) p3) (.ref a) (.ref s4.heap.objs.size)) (EP X pins σ Q) X.xe { s4 with heap := s4.heap.push { cls := .type "slice", data := .fields #[vl, vu, vs] } }
  refine tail_any (ops := [.ref a, .ref s4.heap.objs.size]) ht.isList.typeIs (PySem.slot_list_getitem.lookup) ?_ (by with_unfolding_all rfl)
  have hlen := r.length
  refine wpAny_getItem_list_slice ht.isList (Heap.IsSliceOf.new _ vl vu vs) pl pu ps (by decide) ?_ (by rw [List.size_toArray, ← hlen, sizeLine_eq]; show 7 ≤ _; omega)
  cases r with | cons r1 t => cases t with | cons r2 t => cases t with | cons r3 t => cases t with | cons r4 t => cases t with | cons r5 t => cases t with | cons r6 t => cases t with | cons r7 t => cases t with | nil =>
  rw [pick7]
  refine ⟨.ref _, _, I5.laid (t' := s4.toks) (o := .lst [x2, x4, x6]) (fun b ob q => Heap.get?_push_of_some _ q) (Nat.le_refl _) ?_, rfl, q _ (I5.hok.fresh (Nat.le_refl _))⟩
  exact ⟨by rw [sizeLine_eq]; show 3 ≤ _; omega, _, 0, .cons r2 (.cons r4 (.cons r6 .nil)), Heap.get?_push_size _ rfl⟩
end
end G2

set_option Elab.async false
set_option linter.all false
set_option maxRecDepth 100000
set_option maxHeartbeats 2000000
/-! for i, x in enumerate(a tuple). -/
namespace PySem
open Builtin
open AutoSeq1 (wpAny_loadPart')
set_option maxHeartbeats 4000000 in
theorem meets_enum_tup (l : Addr) (items : Array Value) (n : Nat) (dct : Option Addr) (sl : Array (Option Value)) :
    Meets (Builtin.«enumerate.__new__» ⟨[.type "enumerate", .ref l], []⟩) (fun _ R s => s.heap.get? l = some { cls := .type "tuple", dict := dct, data := .seq items n, slots := sl } ∧
      R (.ok (.ret (.ref (s.heap.push { cls := .type "tuple_iterator", data := .fields #[.ref l, .int 0 0] }).objs.size)))
        { s with heap := (s.heap.push { cls := .type "tuple_iterator", data := .fields #[.ref l, .int 0 0] }).push { cls := .type "enumerate", data := .fields #[.none, .bool false, .ref s.heap.objs.size, rawInt 0, .none, .none] } }) :=
  .of_wp fun prog w A R s h => by
    obtain ⟨hp, g, d, tk, os⟩ := s; obtain ⟨hl, h⟩ := h
    have hsub := sub_enumerate
    have hL : Heap.IsTuple (Shared.heap ⟨hp, g, d, tk, os⟩) l items := ⟨_, hl, rfl, n, rfl⟩
    wp_walk using wpAny_loadPart' hl
    refine wpAny_stack_any fun st => wpAny_pure ?_
    split
    · rename_i c _ _ _ _ _
      cases (c == Value.type "enumerate")
      · wp_walk using wpAny_loadPart' hl, wpAny_pyIter_tuple hL
        exact ⟨_, rfl, h⟩
      · wp_walk using wpAny_loadPart' hl, wpAny_pyIter_tuple hL
        exact ⟨_, rfl, h⟩
    · wp_walk using wpAny_loadPart' hl, wpAny_pyIter_tuple hL
      exact ⟨_, rfl, h⟩
theorem call_enum_tup {prog : Program} {w : World} {A : Around} {E : Value → Shared → Prop} {s : Shared} {l : Addr} {items : Array Value} {Q : Value → Shared → Prop} (hL : s.heap.IsTuple l items)
    (h : ∀ h', IsEnum h' (s.heap.objs.size + 1) s.heap.objs.size 0 .none → h'.IsTupleIter s.heap.objs.size l 0 → h'.objs.size = s.heap.objs.size + 2 →
      (∀ b o, s.heap.get? b = some o → h'.get? b = some o) → Q (.ref (s.heap.objs.size + 1)) { s with heap := h' }) :
    wpAny (model prog w) A (call (.type "enumerate") [.ref l]) Q E s := by
  obtain ⟨⟨c, dct, dt, sl⟩, hl, hc, n, hd⟩ := hL
  replace hc : c = .type "tuple" := hc
  replace hd : dt = .seq items n := hd
  subst hc hd
  refine callType_new F.called_enumerate (by decide) (F.typeCall_enumerate_1 _) (F.newCall_enumerate_1 _) (fun obj => F.args_object_init_2 obj _) F.entry_enumerate_new
    (meets_enum_tup l items n dct sl) ⟨hl, ?_⟩
  have hz : (s.heap.push { cls := .type "tuple_iterator", data := .fields #[.ref l, .int 0 0] }).objs.size = s.heap.objs.size + 1 := Heap.size_push ..
  show _ ∧ _
  rw [hz]
  have he : IsEnum ((s.heap.push { cls := .type "tuple_iterator", data := .fields #[.ref l, .int 0 0] }).push
      { cls := .type "enumerate", data := .fields #[.none, .bool false, .ref s.heap.objs.size, rawInt 0, .none, .none] }) (s.heap.objs.size + 1) s.heap.objs.size 0 .none := by
    have := Heap.get?_push_size (s.heap.push { cls := .type "tuple_iterator", data := .fields #[.ref l, .int 0 0] })
      (o := { cls := .type "enumerate", data := .fields #[.none, .bool false, .ref s.heap.objs.size, rawInt 0, .none, .none] }) rfl
    rw [hz] at this; exact this
  refine ⟨⟨_, he, rfl⟩, h _ he ⟨_, Heap.get?_push_of_some _ (Heap.get?_push_size _ rfl), rfl, rfl⟩ (by rw [Heap.size_push, hz]) fun b o x => Heap.get?_push_of_some _ (Heap.get?_push_of_some _ x)⟩
end PySem
namespace G2
open PySem PySem.Spec PyProof.Rows L2 Builtin
def ItT (K : PySem.W.Frag) (a : Addr) : It :=
  ⟨fun i H => ∃ (xs : List V) (x : V), SqT K H a xs ∧ xs[i]? = some x, fun i H v H' => ∃ T x, v = .ref T ∧ H T = none ∧ H' = upd H T (.tup [.int (i : Nat), x]) ∧ ∀ xs, SqT K H a xs → xs[i]? = some x, fun i H => ∃ xs : List V, SqT K H a xs ∧ xs.length = i⟩
theorem turn_enumT {P : Program} {w : World} {K : PySem.W.Frag} {elts : List Expr} {kk : Nat} {tpos : Pos} (a e it : Addr) (hea : e ≠ a) (hia : a ≠ it) :
    Turn P w K (.Tuple elts kk tpos) (ItT K a) [e, it] e (fun i h => (∃ old, IsEnum h e it ((i : Nat) : Int) old) ∧ h.IsTupleIter it a i ∧ e ≠ it) where
  mem := by simp
  obj := fun i h st b hb => by
    obtain ⟨⟨old, he⟩, ⟨o, ho, hc, hd⟩, _⟩ := st
    have e' : b = e ∨ b = it := by simpa using hb
    rcases e' with z | z
    · rw [z]; exact ⟨_, he, fun v q => nomatch q⟩
    · rw [z]; exact ⟨o, ho, fun v q => by rw [hd] at q; cases q⟩
  keep := fun i h h' st k => let ⟨⟨old, he⟩, hi, hne⟩ := st; ⟨⟨old, k e (by simp) _ he⟩, hi.at fun o q => k it (by simp) o q, hne⟩
  item := by
    intro X hP hw hK hc i pins s σ H E I hf st hg
    subst hP hw hK
    obtain ⟨⟨old, he⟩, hit, hne⟩ := st
    obtain ⟨xs, x, hq, hx⟩ := hg
    obtain ⟨its, rv, p, hz⟩ := I.tuple hq
    obtain ⟨u, hu, ru⟩ := rv.get hx
    have hel : e < s.heap.objs.size := Heap.lt_size he
    have hil : it < s.heap.objs.size := by obtain ⟨_, q, _⟩ := hit; exact Heap.lt_size q
    have hlt : i < its.toArray.size := by
      have z := (List.getElem?_eq_some_iff.mp hu).1
      simpa using z
    refine wpAny_pyNext_enum_itemD (Draws.tuple (A := X.A.in1) (I.ok.hd hc) it a hia its.toArray) he ⟨hit, p⟩ hlt hne (by simp [hne, hea]) fun x' h' tk hPx ho hst' hT hsz hk => ?_
    obtain ⟨hit', p'⟩ := hst'
    have ex : x' = u := by
      have z : its[i]? = some x' := by simpa using hPx
      rw [hu] at z
      exact (Option.some.inj z).symm
    subst ex
    refine ⟨_, rfl, wpAny_letOwnedTupleGo_enum (s := { s with heap := h', toks := tk + 1 }) ho fun h'' he' sb => ?_⟩
    have hT2 : h''.get? s.heap.objs.size = some { cls := .type "tuple", data := .seq #[.int i tk, x'] } := (sb.2 _ (Nat.ne_of_gt hel)).trans hT
    have new : ObjOk X.prog X.w (upd H s.heap.objs.size (.tup [.int (i : Nat), x])) h'' s.heap.objs.size (.tup [.int (i : Nat), x]) :=
      ⟨by show 2 ≤ sizeLine; decide, [.int i tk, x'], .cons ⟨_, rfl⟩ (.cons ru .nil), ⟨_, hT2, rfl, _, rfl⟩⟩
    have I1 : Inv X pins σ (upd H s.heap.objs.size (.tup [.int (i : Nat), x])) { s with heap := h'', toks := tk + 1 } :=
      I.turnedNew (ch := [e, it]) (fun b ob hb q => (sb.2 b (fun z => hb (by simp [z]))).trans (hk b ob (fun z => hb (by simp [z])) (fun z => hb (by simp [z])) q)) hf (Nat.le_refl _) new
    refine ⟨.ref s.heap.objs.size, _, I1, rfl, ⟨_, x, rfl, I.hok.fresh (Nat.le_refl _), rfl, fun ys hy => by rw [I.tuple_inj hy hq]; exact hx⟩, ⟨⟨x', ?_⟩, hit'.at fun o q => (sb.2 it (Ne.symm hne)).trans q, hne⟩, fun b hb => ?_⟩
    · have e1 : ((i + 1 : Nat) : Int) = (i : Int) + 1 := by omega
      rw [e1]; exact he'
    · have hb' : b < s.heap.objs.size := by
        have e' : b = e ∨ b = it := by simpa using hb
        rcases e' with z | z
        · rw [z]; exact hel
        · rw [z]; exact hil
      rw [upd_ne (Nat.ne_of_lt hb')]
      exact (hf b hb).1
  done := by
    intro X hP hw hK hc i pins s σ H E I hf st hg
    subst hP hw hK
    obtain ⟨⟨old, he⟩, hit, hne⟩ := st
    obtain ⟨xs, hq, hx⟩ := hg
    obtain ⟨its, rv, p, hz⟩ := I.tuple hq
    obtain ⟨f0, f1, f2, f3, f4, f5⟩ := hf it (by simp)
    have hl := rv.length
    have hn : i = its.toArray.size := by rw [List.size_toArray, ← hl, hx]
    rw [hn] at hit
    exact wpAny_pyNext_enum_endD (Draws.tuple (A := X.A.in1) (I.ok.hd hc) it a hia its.toArray) he ⟨hit, p⟩ fun h' eb => ⟨rfl, I.turned (t' := s.toks) (fun b o hb q => eb b o hb q) f0 f1 f3 f4 f5⟩
  self := fun A i s Q E st h => let ⟨⟨_, he⟩, _⟩ := st; wpAny_pyIter_enum he h
def iEnumT (K : PySem.W.Frag) (ta : TA) : TI := fun σ H R => ta σ H fun vs H1 => ∃ a xs, vs = [.ref a] ∧ SqT K H1 a xs ∧ R (ItT K a) H1
theorem pi_enumT {X : Cx} {e : Expr} {ta : TA} {p pos tpos : Pos} {elts : List Expr} {kk : Nat} (hg : Gl X "enumerate") (hm : X.mg "enumerate" = none) (ha : PA X [e] ta) (hs : starEach [e] X.env = [(false, eval e X.env)] := by rfl) :
    PI X (.Tuple elts kk tpos) (.Call (.Name "enumerate" p) [e] [] pos) (iEnumT X.K ta) := by
  refine ⟨fun pins s σ H R I h => ?_⟩
  refine Call_ (ld_blt I hg hm boot_enumerate (PyProof.Rows.callWith_type1 (thn (ha.run pos pins s σ H _ I h) fun us s1 ⟨vs, H1, I1, r1, q1⟩ => ?_) hs rfl))
  obtain ⟨a, xs, ex, hq, q⟩ := q1
  subst ex
  cases r1 with
  | cons r rr =>
    cases rr
    cases r
    obtain ⟨its, rv, p', hz⟩ := I1.tuple hq
    have hal : a < s1.heap.objs.size := by obtain ⟨o, ho, _⟩ := id p'; exact Heap.lt_size ho
    refine call_enum_tup p' fun h' he hit hsz hk => wpAny_pyIter_enum he ?_
    have I2 : Inv X pins σ H1 { s1 with heap := h' } := I1.kept (t' := s1.toks) hk
    refine ⟨s1.heap.objs.size + 1, [s1.heap.objs.size + 1, s1.heap.objs.size], _, _, H1, rfl, I2, turn_enumT a (s1.heap.objs.size + 1) s1.heap.objs.size (Nat.ne_of_gt (Nat.lt_succ_of_lt hal)) (Nat.ne_of_lt hal), ⟨⟨.none, he⟩, hit, Nat.succ_ne_self _⟩, fun b hb => ?_, q⟩
    have e' : b = s1.heap.objs.size + 1 ∨ b = s1.heap.objs.size := by simpa using hb
    have hle : s1.heap.objs.size ≤ b := by
      rcases e' with z | z
      · rw [z]; exact Nat.le_add_right _ _
      · rw [z]; exact Nat.le_refl _
    exact I1.fpOk hle (I1.hok.fresh hle)
/-- a loop over enumerate(a tuple) that is run through -/
theorem for_enumT {K : PySem.W.Frag} {a : Addr} {xs : List V} {g : TG} {tb : TS} {D : Ends} {σ : L2.St} {H : Hp} (Pv : Nat → L2.St → Hp → Prop) (h0 : Pv 0 σ H) (hl : ∀ i σ H, Pv i σ H → SqT K H a xs)
    (hs : ∀ i x T σ H, xs[i]? = some x → Pv i σ H → H T = none → g (.ref T) σ (upd H T (.tup [.int (i : Nat), x])) fun σ2 H2 => tb { D with nx := Pv (i + 1), ct := Pv (i + 1), bk := D.nx } σ2 H2)
    (hd : ∀ σ H, Pv xs.length σ H → D.nx σ H) :
    ∃ W : Nat → Nat → L2.St → Hp → Prop, (∃ m, W 0 m σ H) ∧ ∀ i m σ H, W i m σ H →
      ((ItT K a).stop i H ∧ D.nx σ H) ∨ ((ItT K a).go i H ∧ ∃ N : L2.St → Hp → Prop, (∀ σ' H', N σ' H' → ∃ m', m' < m ∧ W (i + 1) m' σ' H') ∧
        ∀ x H', (ItT K a).yld i H x H' → g x σ H' fun σ2 H2 => tb { D with nx := N, ct := N, bk := D.nx } σ2 H2) := by
  refine ⟨fun i m σ H => i + m = xs.length ∧ Pv i σ H, ⟨xs.length, by omega, h0⟩, fun i m σ H hW => ?_⟩
  obtain ⟨e, p⟩ := hW
  by_cases hm : m = 0
  · subst hm
    have e' : i = xs.length := by omega
    subst e'
    exact .inl ⟨⟨xs, hl _ _ _ p, rfl⟩, hd _ _ p⟩
  · have hi : i < xs.length := by omega
    refine .inr ⟨⟨xs, xs[i], hl _ _ _ p, List.getElem?_eq_getElem hi⟩, Pv (i + 1), fun σ' H' q => ⟨m - 1, by omega, by omega, q⟩, fun x H' y => ?_⟩
    obtain ⟨T, x', rfl, hT, rfl, hx⟩ := y
    exact hs i x' T σ H (hx xs (hl _ _ _ p)) p hT
end G2

set_option Elab.async false
set_option linter.all false
set_option maxRecDepth 100000
set_option maxHeartbeats 2000000
namespace K2
open PySem PySem.Spec PyProof.Rows L2 G1 G2
def topS (i : Nat) : Stmt := PySem.Challenge.pw_spareblocks_k24_whole_balance_of_pages.main.body.getD i (.Pass ⟨0, 0, 0, 0⟩)
abbrev sCell : Stmt := topS 69
abbrev sPool : Stmt := topS 70
abbrev sDraw : Stmt := topS 71
/-- the built-in names are still the built-ins -/
structure Bl (mg : Str → Option Value) : Prop where
  len : mg "len" = none
  int : mg "int" = none
  abs : mg "abs" = none
  repr : mg "repr" = none
  isi : mg "isinstance" = none
  range : mg "range" = none
  max : mg "max" = none
  min : mg "min" = none
  all : mg "all" = none
  sum : mg "sum" = none
  enm : mg "enumerate" = none
  tup : mg "tuple" = none
  boo : mg "bool" = none
  str : mg "str" = none
theorem bInt : bootBuiltins "int" = some (.type "int") := by decide +kernel
theorem bAbs : bootBuiltins "abs" = some (.builtin "abs") := by decide +kernel
theorem scCell : FnScope ["_law_cells", "_law_k", "_law_found", "_law_cell_here"] ["_law_cells", "_law_k"] (defScope sCell) :=
  ⟨rfl, rfl, rfl, by decide +kernel, rfl, by decide +kernel, by decide +kernel⟩
theorem scPool : FnScope ["_law_cell_here", "_law_left"] ["_law_cell_here"] (defScope sPool) :=
  ⟨rfl, rfl, rfl, by decide +kernel, rfl, by decide +kernel, by decide +kernel⟩
theorem scDraw : FnScope ["_law_pool_here", "_law_many", "_law_seed", "_law_digit"] ["_law_pool_here", "_law_many"] (defScope sDraw) :=
  ⟨rfl, rfl, rfl, by decide +kernel, rfl, by decide +kernel, by decide +kernel⟩
/-- the number at an index, or a mixed one: some int -/
def spCell (K : PySem.W.Frag) : Sp := fun vs H Q _ => ∃ (l : Addr) (ns : List Int) (k : Nat), vs = [.ref l, .int (k : Int)] ∧ SqL K H l (ns.map V.int) ∧ ns.length ≤ 63 ∧ k ≤ 10 ∧ ∀ (H' : Hp) (i : Int), Same H H' → Q (.int i) H'
def spPool : Sp := fun vs H Q _ => ∃ c : Int, vs = [.int c] ∧ ∀ (p : Addr) (i j n : Int), H p = none → 0 ≤ i → i < 2 ^ 31 → Q (.ref p) (upd H p (.lst [.int i, .int j, .int n]))
/-- a draw changes the pool alone -/
def spDraw : Sp := fun vs H Q _ => ∃ (p : Addr) (m i j n : Int), vs = [.ref p, .int m] ∧ H p = some (.lst [.int i, .int j, .int n]) ∧ 0 ≤ i ∧ i < 2 ^ 31 ∧ 0 < m ∧ m < 2 ^ 60 ∧
  ∀ i' j' n' r : Int, 0 ≤ i' → i' < 2 ^ 31 → 0 ≤ r → r < m → Q (.int r) (upd H p (.lst [.int i', .int j', .int n']))
section
variable {P : Program} {w : World} {K : PySem.W.Frag} {mg : Str → Option Value} {base : Heap}
theorem ok_pool {f : Addr} {fd : FuncData} (F : Fun K "_law_pool" "_law_pool" sPool f fd) (B : Bl mg) : FnOk P w K mg base CX0 1 f fd ["_law_cell_here"] spPool := by
  refine F.ok scPool (fun vs H Q E h => ?_) (fun cdv A outer s H vs Q E hr h => ?_)
  · obtain ⟨c, rfl, _⟩ := h
    rfl
  obtain ⟨c, rfl, k⟩ := h
  refine ⟨_, pss_cons (ps_set (i := 1) scPool.nd rfl (.inl rfl) (pe_ifExp (PW.pt (pw_or (pt_cmpR op_lt (pv 0) pe_int (nomark _)) (pw_or1 (pt_cmpR op_ge (pv 0) (pe_op op_pow pe_int pe_int) (nomark _)))))
      (pe_callB call_abs (by rfl) B.abs bAbs (pa_cons (pv 0) pa_nil)) pe_int))
    (pss_one (ps_ret (pe_lst (pa_cons (pe_op op_mod (pe_callTy call_int1 (by rfl) B.int bInt (pa_cons (pv 0) pa_nil)) pe_int) (pa_cons (pv 1) (pa_cons pe_int pa_nil)))))), ?_⟩
  have rest : ∀ j : Int, tRet (tLst (tCons (tOp (rI (fun _ j => 0 < j) fun i j => .int (i % j)) (tCB (fun xs H Q => (∃ i, xs = [.int i] ∧ Q (.int i) H) ∨ ∃ k, xs = [.bl k] ∧ Q (.int (if k then 1 else 0)) H) (tCons (tVar 0) tNil)) (tC (.int 2147481949)))
      (tCons (tVar 1) (tCons (tC (.int 0)) tNil)))) { nx := fun _ H' => Q .non H', rt := Q } [some (.int c), some (.int j)] H := by
    intro j
    refine ⟨_, rfl, .inl ⟨c, rfl, _, _, rfl, rfl, (by show (0 : Int) < 2147481949; decide), _, rfl, by show 3 ≤ sizeLine; decide, fun p hp => k p _ _ _ hp (Int.emod_nonneg _ (by decide)) ?_⟩⟩
    have := Int.emod_lt_of_pos c (show (0 : Int) < 2147481949 by decide)
    omega
  refine ⟨_, rfl, _, _, rfl, rfl, _, rfl, ite2 (fun _ => ?_) (fun _ => ?_)⟩
  · exact iteT ⟨_, rfl, c, rfl, rest _⟩
  · refine ⟨_, rfl, _, _, rfl, rfl, ⟨by decide, by decide, by decide⟩, _, _, rfl, rfl, _, rfl, ite2 (fun _ => ?_) (fun _ => ?_)⟩
    · exact ⟨_, rfl, c, rfl, rest _⟩
    · exact rest _
theorem emod_box (x m : Int) (h : 0 < m) : 0 ≤ x % m ∧ x % m < m := ⟨Int.emod_nonneg _ (by omega), Int.emod_lt_of_pos _ h⟩
theorem ok_draw {f : Addr} {fd : FuncData} (F : Fun K "_law_draw" "_law_draw" sDraw f fd) (B : Bl mg) : FnOk P w K mg base CX0 1 f fd ["_law_pool_here", "_law_many"] spDraw := by
  refine F.ok scDraw (fun vs H Q E h => ?_) (fun cdv A outer s H vs Q E hr h => ?_)
  · obtain ⟨p, m, i, j, n, rfl, _⟩ := h
    rfl
  obtain ⟨p, m, i, j, n, rfl, hp, i0, i1, m0, m1, k⟩ := h
  refine ⟨_, pss_cons (ps_asg (pe_op op_add (pe_ix ix_list (pv 0) pe_int (fun _ _ => rfl)) pe_int) (pg_sub (pv 0) pe_int set_list))
    (pss_cons (ps_set (i := 2) scDraw.nd rfl (.inl rfl) (pe_op op_mod (pe_callTy call_int1 (by rfl) B.int bInt (pa_cons
        (pe_op op_add (pe_op op_add (pe_op op_mul (pe_ix ix_list (pv 0) pe_int (fun _ _ => rfl)) pe_int) (pe_op op_mul pe_int (pe_ix ix_list (pv 0) pe_int (fun _ _ => rfl)))) pe_int) pa_nil)) pe_int))
    (pss_cons (ps_asg (pe_op op_mod (pe_callTy call_int1 (by rfl) B.int bInt (pa_cons (pe_op op_add (pe_op op_mul (pv 2) (pv 2)) (pe_op op_mul pe_int (pe_ix ix_list (pv 0) pe_int (fun _ _ => rfl)))) pa_nil)) pe_int)
        (pg_sub (pv 0) pe_int set_list))
    (pss_cons (ps_if (pt_cmpR op_gt (pe_ix ix_list (pv 0) pe_int (fun _ _ => rfl)) pe_int (nomark _))
      (pss_cons (ps_set (i := 3) scDraw.nd rfl (.inl rfl) (pe_op op_mod (pe_callTy call_int1 (by rfl) B.int bInt (pa_cons (pe_ix ix_list (pv 0) pe_int (fun _ _ => rfl)) pa_nil)) (pv 1)))
        (pss_cons (ps_asg (pe_op op_fdivW (pe_ix ix_list (pv 0) pe_int (fun _ _ => rfl)) (pv 1)) (pg_sub (pv 0) pe_int set_list))
        (pss_one (ps_ret (pv 3))))) pss_nil)
    (pss_one (ps_ret (pe_op op_mod (pe_callTy call_int1 (by rfl) B.int bInt (pa_cons (pe_op op_fdiv (pe_ix ix_list (pv 0) pe_int (fun _ _ => rfl)) pe_int) pa_nil)) (pv 1))))))), ?_⟩
  -- pool[2] = pool[2] + 1
  refine ⟨_, rfl, p, _, _, .int n, rfl, rfl, SqL.of hp, rfl, _, _, rfl, rfl, _, rfl, p, _, _, 2, rfl, rfl, hp, rfl, ?_⟩
  have h1 : (upd H p (.lst [.int i, .int j, .int (n + 1)])) p = some (.lst [.int i, .int j, .int (n + 1)]) := upd_same
  show tSeq _ _ _ _ (upd H p (.lst [.int i, .int j, .int (n + 1)]))
  generalize e1 : upd H p (.lst [.int i, .int j, .int (n + 1)]) = H1 at h1 ⊢
  -- seed
  refine ⟨_, rfl, p, _, _, .int i, rfl, rfl, SqL.of h1, rfl, _, _, rfl, rfl, .inl ⟨by omega, by omega⟩, _, rfl, p, _, _, .int (n + 1), rfl, rfl, SqL.of h1, rfl, _, _, rfl, rfl, .inl ⟨by decide, by decide⟩,
    _, _, rfl, rfl, _, _, rfl, rfl, .inl ⟨_, rfl, _, _, rfl, rfl, (by show (0 : Int) < 2147481937; decide), ?_⟩⟩
  obtain ⟨s0, s1⟩ := emod_box (i * 46349 + 70001 * (n + 1) + 11) 2147481937 (by decide)
  show tSeq _ _ _ [some (.ref p), some (.int m), some (.int ((i * 46349 + 70001 * (n + 1) + 11) % 2147481937)), none] H1
  generalize (i * 46349 + 70001 * (n + 1) + 11) % 2147481937 = sd at s0 s1 ⊢
  -- pool[0]
  refine ⟨_, rfl, _, rfl, _, _, rfl, rfl, .inl ⟨by omega, by omega⟩, _, rfl, p, _, _, .int (n + 1), rfl, rfl, SqL.of h1, rfl, _, _, rfl, rfl, .inl ⟨by decide, by decide⟩, _, _, rfl, rfl,
    .inl ⟨_, rfl, _, _, rfl, rfl, (by show (0 : Int) < 2147481907; decide), _, rfl, p, _, _, 0, rfl, rfl, h1, rfl, ?_⟩⟩
  obtain ⟨t0, t1⟩ := emod_box (sd * sd + 46301 * (n + 1)) 2147481907 (by decide)
  show tSeq _ _ _ _ (upd H1 p (.lst [.int ((sd * sd + 46301 * (n + 1)) % 2147481907), .int j, .int (n + 1)]))
  generalize (sd * sd + 46301 * (n + 1)) % 2147481907 = i' at t0 t1 ⊢
  have e2 : upd H1 p (.lst [.int i', .int j, .int (n + 1)]) = upd H p (.lst [.int i', .int j, .int (n + 1)]) := by rw [← e1, upd_upd]
  rw [e2]
  have h2 : (upd H p (.lst [.int i', .int j, .int (n + 1)])) p = some (.lst [.int i', .int j, .int (n + 1)]) := upd_same
  refine ⟨_, rfl, p, _, _, .int j, rfl, rfl, SqL.of h2, rfl, _, _, rfl, rfl, _, rfl, ite2 (fun _ => ?_) (fun _ => ?_)⟩
  · refine ⟨_, rfl, p, _, _, .int j, rfl, rfl, SqL.of h2, rfl, .inl ⟨_, rfl, _, rfl, _, _, rfl, rfl, m0, ?_⟩⟩
    obtain ⟨r0, r1⟩ := emod_box j m m0
    refine ⟨_, rfl, p, _, _, .int j, rfl, rfl, SqL.of h2, rfl, _, rfl, _, _, rfl, rfl, wide_div (b := 60) m0 (by omega) (by decide) (by decide), _, rfl, p, _, _, 1, rfl, rfl, h2, rfl, _, rfl, ?_⟩
    have e3 : upd (upd H p (.lst [.int i', .int j, .int (n + 1)])) p (.lst [.int i', .int (j / m), .int (n + 1)]) = upd H p (.lst [.int i', .int (j / m), .int (n + 1)]) := upd_upd
    show Q _ (upd (upd H p (.lst [.int i', .int j, .int (n + 1)])) p (.lst [.int i', .int (j / m), .int (n + 1)]))
    rw [e3]
    exact k _ _ _ _ t0 (by omega) r0 r1
  · refine ⟨_, rfl, p, _, _, .int i', rfl, rfl, SqL.of h2, rfl, _, _, rfl, rfl, ⟨by decide, by decide⟩, .inl ⟨_, rfl, _, rfl, _, _, rfl, rfl, m0, ?_⟩⟩
    obtain ⟨r0, r1⟩ := emod_box (i' / 128) m m0
    exact k _ _ _ _ t0 (by omega) r0 r1
theorem ok_cell {f : Addr} {fd : FuncData} (F : Fun K "_law_cell" "_law_cell" sCell f fd) (B : Bl mg) : FnOk P w K mg base CX0 1 f fd ["_law_cells", "_law_k"] (spCell K) := by
  refine F.ok scCell (fun vs H Q E h => ?_) (fun cdv A outer s H vs Q E hr h => ?_)
  · obtain ⟨l, ns, k, rfl, _⟩ := h
    rfl
  obtain ⟨l, ns, k, rfl, hS, hlen, hk, q⟩ := h
  refine ⟨_, pss_cons (ps_if (pt_cmpR op_lt (pv 1) (pe_callB call_len_seq (by rfl) B.len PySem.boot_len (pa_cons (pv 0) pa_nil)) (nomark _))
      (pss_one (ps_ret (pe_callTy call_int1 (by rfl) B.int bInt (pa_cons (pe_ix ix_list (pv 0) (pv 1) (fun _ _ => rfl)) pa_nil)))) pss_nil)
    (pss_cons (ps_set (i := 2) scCell.nd rfl (.inl rfl) (pe_op op_add pe_int (pe_op op_mul pe_int (pv 1))))
    (pss_cons (ps_for PassesOwn.never rfl (pi_list (pe_slice sl_list (pv 0) po_none (po_some pe_int))) (pg_name (i := 3) scCell.nd rfl (.inl rfl))
      (pss_one (ps_set (i := 2) scCell.nd rfl (.inl rfl) (pe_op op_mod (pe_callTy call_int1 (by rfl) B.int bInt (pa_cons
        (pe_op op_add (pe_op op_mul (pv 2) pe_int) (pe_callTy call_int1 (by rfl) B.int bInt (pa_cons (pv 3) pa_nil))) pa_nil)) pe_int))))
    (pss_one (ps_ret (pe_op op_mod (pe_callTy call_int1 (by rfl) B.int bInt (pa_cons (pe_op op_add (pe_op op_mul (pv 2) (pv 2)) (pe_op op_mul pe_int (pv 1))) pa_nil)) pe_int))))), ?_⟩
  refine ⟨_, rfl, _, rfl, l, _, rfl, .inl hS, _, _, rfl, rfl, _, rfl, ite2 (fun c => ?_) (fun c => ?_)⟩
  · have c' : k < ns.length := by
      have z := of_decide_eq_true c
      rw [List.length_map] at z
      omega
    refine ⟨_, rfl, _, rfl, l, _, _, .int ns[k], rfl, rfl, hS, atI_nat (j := k) ?_, .inl ⟨_, rfl, q H _ (Same.refl H)⟩⟩
    rw [List.getElem?_map, List.getElem?_eq_getElem c']
    rfl
  · refine ⟨_, rfl, _, _, rfl, rfl, .inl ⟨by decide, by decide⟩, _, _, rfl, rfl, ?_⟩
    refine ⟨_, rfl, 5, rfl, l, _, rfl, hS, fun t ht => ?_⟩
    have hT : SqL K (upd H t (.lst (cutV (ns.map V.int) none (some 5)))) t (cutV (ns.map V.int) none (some 5)) := SqL.of upd_same
    have sm : Same H (upd H t (.lst (cutV (ns.map V.int) none (some 5)))) := fun b o e => by
      rw [upd_ne (ne_of_none e ht)]
      exact e
    refine ⟨t, rfl, ⟨_, hT⟩, for_list (K := K) (a := t) (xs := cutV (ns.map V.int) none (some 5))
      (fun i σ H' => ∃ (f : Int) (y : Option V), σ = [some (.ref l), some (.int (k : Int)), some (.int f), y] ∧ 0 ≤ f ∧ f < 2 ^ 31 ∧ H' = upd H t (.lst (cutV (ns.map V.int) none (some 5))))
      ⟨46021 + 733 * (k : Int), none, rfl, by omega, by omega, rfl⟩ (fun i σ H' _ hh => ?_) ?_ ?_⟩
    · obtain ⟨_, _, _, _, _, rfl⟩ := hh
      exact hT
    · rintro i y σ H' hi ⟨f, y0, rfl, f0, f1, rfl⟩
      obtain ⟨z, rfl⟩ : ∃ z, y = V.int z := by
        have hm := List.mem_of_getElem? hi
        unfold cutV at hm
        obtain ⟨z, _, e⟩ := List.mem_map.mp (List.mem_of_mem_drop (List.mem_of_mem_take hm))
        exact ⟨z, e.symm⟩
      refine ⟨_, rfl, _, _, rfl, rfl, .inl ⟨by omega, by omega⟩, _, rfl, .inl ⟨z, rfl, _, _, rfl, rfl, .inl ⟨_, rfl, _, _, rfl, rfl, (by show (0 : Int) < 2147481997; decide), ?_⟩⟩⟩
      obtain ⟨r0, r1⟩ := emod_box (f * 46327 + z) 2147481997 (by decide)
      exact ⟨_, _, rfl, r0, by omega, rfl⟩
    · rintro σ H' ⟨f, y0, rfl, f0, f1, rfl⟩
      refine ⟨_, rfl, _, rfl, _, _, rfl, rfl, .inl ⟨by omega, by omega⟩, _, rfl, _, _, rfl, rfl, .inl ⟨by decide, by decide⟩, _, _, rfl, rfl, .inl ⟨_, rfl, _, _, rfl, rfl, (by show (0 : Int) < 2147481967; decide), ?_⟩⟩
      exact q _ _ sm
end
end K2

set_option Elab.async false
set_option linter.all false
set_option maxRecDepth 100000
set_option maxHeartbeats 2000000
namespace K2
open PySem PySem.Spec PyProof.Rows L2 G1 G2
abbrev sSpr : Stmt := topS 2
abbrev sCnt : Stmt := topS 3
theorem scSpr : FnScope ["before", "pages", "total"] ["before", "pages"] (defScope sSpr) := ⟨rfl, rfl, rfl, by decide +kernel, rfl, by decide +kernel, by decide +kernel⟩
theorem scCnt : FnScope ["blocks", "pages", "names", "lasts", "written", "room", "before", "many", "used", "total", "ways"] ["blocks", "pages", "names"] (defScope sCnt) := ⟨rfl, rfl, rfl, by decide +kernel, rfl, by decide +kernel, by decide +kernel⟩
theorem bSum : bootBuiltins "sum" = some (.builtin "sum") := by decide +kernel
theorem bMax : bootBuiltins "max" = some (.builtin "max") := by decide +kernel
theorem bMin : bootBuiltins "min" = some (.builtin "min") := by decide +kernel
/-! openers -/
theorem seq_asg {te : TE} {g : TG} {t2 : TS} {D : Ends} {σ : L2.St} {H : Hp} (h : te σ H fun x H1 => g x σ H1 (t2 D)) : tSeq (tAsg te g) t2 D σ H := h
theorem lst_read {ta : TA} {σ : L2.St} {H : Hp} {Q : VK} (h : ta σ H fun xs H1 => xs.length ≤ sizeLine ∧ ∀ p, H1 p = none → Q (.ref p) (upd H1 p (.lst xs))) : tLst ta σ H Q := h
theorem tup_read {ta : TA} {σ : L2.St} {H : Hp} {Q : VK} (h : ta σ H fun xs H1 => xs.length ≤ sizeLine ∧ ∀ p, H1 p = none → Q (.ref p) (upd H1 p (.tup xs))) : tTup ta σ H Q := h
theorem cons_read {te : TE} {ta : TA} {σ : L2.St} {H : Hp} {Q : List V → Hp → Prop} (h : te σ H fun x H1 => ta σ H1 fun xs H2 => Q (x :: xs) H2) : tCons te ta σ H Q := h
theorem nil_read {σ : L2.St} {H : Hp} {Q : List V → Hp → Prop} (h : Q [] H) : tNil σ H Q := h
theorem op_read {r : R2} {ta tb : TE} {σ : L2.St} {H : Hp} {Q : VK} (h : ta σ H fun x H1 => tb σ H1 fun y H2 => r x y H2 Q) : tOp r ta tb σ H Q := h
theorem ret_read {te : TE} {D : Ends} {σ : L2.St} {H : Hp} (h : te σ H D.rt) : tRet te D σ H := h
theorem c_read {v : V} {σ : L2.St} {H : Hp} {Q : VK} (h : Q v H) : tC v σ H Q := h
theorem cb_read {r : List V → Hp → VK → Prop} {ta : TA} {σ : L2.St} {H : Hp} {Q : VK} (h : ta σ H fun vs H1 => r vs H1 Q) : tCB r ta σ H Q := h
theorem call_read {sp : Sp} {dvs : List V} {E : XK} {ta : TA} {σ : L2.St} {H : Hp} {Q : VK} (h : ta σ H fun vs H1 => sp (vs ++ dvs) H1 Q E) : tCall sp dvs E ta σ H Q := h
theorem seq_for {wi : TI} {g : TG} {tb t2 : TS} {D : Ends} {σ : L2.St} {H : Hp}
    (h : ∀ D' : Ends, D'.nx = t2 D → D'.rt = D.rt → wi σ H fun J H1 => ∃ W : Nat → Nat → L2.St → Hp → Prop, (∃ m, W 0 m σ H1) ∧ ∀ i m σ H, W i m σ H →
      (J.stop i H ∧ D'.nx σ H) ∨ (J.go i H ∧ ∃ N : L2.St → Hp → Prop, (∀ σ' H', N σ' H' → ∃ m', m' < m ∧ W (i + 1) m' σ' H') ∧
        ∀ x H', J.yld i H x H' → g x σ H' fun σ2 H2 => tb { D' with nx := N, ct := N, bk := D'.nx } σ2 H2)) : tSeq (tFor wi g tb) t2 D σ H := h { D with nx := t2 D } rfl rfl
theorem seq_aug {i : Nat} {te : TE} {ti : TIp} {t2 : TS} {D : Ends} {σ : L2.St} {H : Hp} (h : ∃ x, σ[i]? = some (some x) ∧ te σ H fun y H1 => ti x y H1 fun z H2 => t2 D (σ.set i (some z)) H2) : tSeq (tAug i te ti) t2 D σ H := h
theorem asg_read {te : TE} {g : TG} {D : Ends} {σ : L2.St} {H : Hp} (h : te σ H fun x H1 => g x σ H1 D.nx) : tAsg te g D σ H := h
/-- the cut of a list of ints, its sum -/
def cutI (l : List Int) (lo hi : Int) : List Int := (l.drop (HT.sIx l.length 0 (some lo))).take (HT.sIx l.length l.length (some hi) - HT.sIx l.length 0 (some lo))
theorem cut_map (l : List Int) (lo hi : Int) : cutV (l.map V.int) (some lo) (some hi) = (cutI l lo hi).map V.int := by
  unfold cutV cutI
  rw [List.length_map, List.map_take, List.map_drop]
def sprM (l : List Int) (p : Int) : List Int := (List.range l.length).map fun (t : Nat) => (cutI l (if (t : Int) - p > 0 then (t : Int) - p else 0) ((t : Int) + 1)).sum
def spSpr (K : PySem.W.Frag) : Sp := fun vs H Q _ => ∃ (a : Addr) (l : List Int) (p : Int), vs = [.ref a, .int p] ∧ SqL K H a (l.map V.int) ∧ l.length ≤ 1000 ∧ ∀ (H' : Hp) (q : Addr), Same H H' → H q = none → H' q = some (.lst ((sprM l p).map V.int)) → Q (.ref q) H'
abbrev rMax2 : List V → Hp → VK → Prop := fun xs H Q => ∃ i j, xs = [.int i, .int j] ∧ Q (.int (if j > i then j else i)) H
abbrev rMin2 : List V → Hp → VK → Prop := fun xs H Q => ∃ i j, xs = [.int i, .int j] ∧ Q (.int (if j < i then j else i)) H
abbrev rLen (K : PySem.W.Frag) : List V → Hp → VK → Prop := fun xs H Q => ∃ p ys, xs = [.ref p] ∧ (SqL K H p ys ∨ SqT K H p ys) ∧ Q (.int ys.length) H
abbrev rAdd : R2 := rI0 fun i j => .int (i + j)
abbrev rSub : R2 := rI0 fun i j => .int (i - j)
theorem same_lay {H : Hp} {p : Addr} {o : HO} (h : H p = none) : Same H (upd H p o) := fun b u e => by rw [upd_ne (ne_of_none e h)]; exact e
/-- a comprehension's list grows -/
theorem same_grow {H H1 H2 : Hp} {D : Addr} {o : HO} (hD : H D = none) (s1 : Same H H1) (s2 : Same H1 H2) : Same H (upd H2 D o) := fun b u e => by rw [upd_ne (ne_of_none e hD)]; exact s2 _ _ (s1 _ _ e)
section
variable {P : Program} {w : World} {K : PySem.W.Frag} {mg : Str → Option Value} {base : Heap}
theorem ok_spr {f : Addr} {fd : FuncData} (F : Fun K "spread" "spread" sSpr f fd) (B : Bl mg) : FnOk P w K mg base CX0 1 f fd ["before", "pages"] (spSpr K) := by
  refine F.ok scSpr (fun vs H Q E h => ?_) (fun cdv A outer s H vs Q E hr h => ?_)
  · obtain ⟨a, l, p, rfl, _⟩ := h
    rfl
  obtain ⟨a, l, p, rfl, hS, hlen, k⟩ := h
  refine ⟨_, pss_one (ps_ret (pe_lc (own := [("total", 2)]) (g := gName 2) (tt := tYes) (te := tCB (rSum K) (tCons (tSl (rSlL K) (tVar 0) (tPart (tCB rMax2 (tCons (tC (.int 0)) (tCons (tOp rSub (tVar 2) (tVar 1)) tNil)))) (tPart (tOp rAdd (tVar 2) (tC (.int 1))))) tNil)) rfl scSpr.nd
    (pi_range1 (by rfl) B.range (pa_cons (pe_callB call_len_seq (by rfl) B.len PySem.boot_len (pa_cons (pv 0) pa_nil)) pa_nil))
    (blkOk_by (own := [("total", 2)]) (N := ["before", "pages", "total"]) (sc := defScope sSpr) (by decide +kernel))
    (fun _ _ _ _ _ => pg_name (i := 2) scSpr.nd rfl (Or.inl rfl)) (fun _ _ _ _ _ => pts_nil)
    (fun _ _ _ _ _ => pe_callB (cr_sum rfl) (by rfl) B.sum bSum (pa_cons (pe_slice sl_list (pv 0) (po_some (pe_callB (call_max2 rfl) (by rfl) B.max bMax (pa_cons pe_int (pa_cons (pe_op op_sub (pv 2) (pv 1)) pa_nil)))) (po_some (pe_op op_add (pv 2) pe_int))) pa_nil)))), ?_⟩
  refine ⟨_, rfl, a, _, rfl, .inl hS, _, rfl, ?_, ?_, fun D hD => ?_⟩
  · rw [List.length_map]; omega
  · rw [List.length_map]; omega
  have e0 : (((l.map V.int).length : Int)).toNat = l.length := by rw [List.length_map]; omega
  rw [e0]
  refine lc_range (lo := 0) (n := l.length) (fun i H' => Same H H' ∧ H' D = some (.lst (((sprM l p).take i).map V.int))) ⟨same_lay hD, by rw [upd_same]; rfl⟩ ?_ ?_
  · rintro i H' hi ⟨s1, hy⟩
    refine ⟨rfl, ?_⟩
    unfold tYes
    dsimp only
    rw [if_pos rfl]
    refine ⟨_, rfl, _, rfl, _, rfl, _, _, rfl, rfl, _, _, rfl, _, rfl, _, rfl, _, _, rfl, rfl, _, rfl, a, _, rfl, s1.seq hS, fun t ht => ?_⟩
    refine ⟨t, cutI l (if 0 + (i : Int) - p > 0 then 0 + (i : Int) - p else 0) (0 + (i : Int) + 1), rfl, SqL.of (by rw [upd_same, cut_map]), ?_⟩
    refine ⟨((sprM l p).take i).map V.int, ?_, ?_, ?_, ?_⟩
    · rw [upd_ne (ne_of_none hy ht)]; exact hy
    · rw [List.length_map, List.length_take, sizeLine_eq]; omega
    · exact same_grow hD s1 (same_lay ht)
    · rw [upd_same]
      have hl : i < (sprM l p).length := by unfold sprM; rw [List.length_map, List.length_range]; exact hi
      rw [List.take_add_one, List.getElem?_eq_getElem hl, List.map_append]
      congr 3
      unfold sprM
      simp
  · rintro H' ⟨s1, hy⟩
    have el : (sprM l p).length = l.length := by unfold sprM; rw [List.length_map, List.length_range]
    rw [← el, List.take_length] at hy
    exact k H' D s1 hD hy
end
end K2

set_option Elab.async false
set_option linter.all false
set_option maxRecDepth 100000
set_option maxHeartbeats 2000000
namespace K2
open PySem PySem.Spec PyProof.Rows L2 G1 G2
/-- a comprehension over enumerate(a list) -/
theorem lc_enum {K : PySem.W.Frag} {a : Addr} {xs : List V} {g : TG} {tt : TT} {te : TE} {vs : List Nat} {σ : L2.St} {H1 : Hp} {D : Addr} {Qd : Hp → Prop} (Pv : Nat → Hp → Prop) (h0 : Pv 0 (upd H1 D (.lst []))) (hl : ∀ i H, Pv i H → SqL K H a xs)
    (hs : ∀ i x T H, xs[i]? = some x → Pv i H → H T = none → g (.ref T) (wipe σ vs) (upd H T (.tup [.int (i : Nat), x])) fun σ2 H2 => wipe σ2 vs = wipe σ vs ∧ tt σ2 H2 fun b H3 =>
      if b = true then te σ2 H3 fun y H4 => ∃ acc, H4 D = some (.lst acc) ∧ acc.length < sizeLine ∧ Pv (i + 1) (upd H4 D (.lst (acc ++ [y]))) else Pv (i + 1) H3) (hd : ∀ H, Pv xs.length H → Qd H) :
    ∃ W : Nat → Nat → Hp → Prop, (∃ m, W 0 m (upd H1 D (.lst []))) ∧ ∀ i m H, W i m H →
      ((Ite K a).stop i H ∧ Qd H) ∨ ((Ite K a).go i H ∧ ∃ Nx : Hp → Prop, (∀ H', Nx H' → ∃ m', m' < m ∧ W (i + 1) m' H') ∧ ∀ x H', (Ite K a).yld i H x H' → g x (wipe σ vs) H' fun σ2 H2 => wipe σ2 vs = wipe σ vs ∧ tt σ2 H2 fun b H3 =>
        if b = true then te σ2 H3 fun y H4 => ∃ acc, H4 D = some (.lst acc) ∧ acc.length < sizeLine ∧ Nx (upd H4 D (.lst (acc ++ [y]))) else Nx H3) := by
  refine ⟨fun i m H => i + m = xs.length ∧ Pv i H, ⟨xs.length, by omega, h0⟩, ?_⟩
  rintro i m H ⟨e, p⟩
  by_cases hm : m = 0
  · subst hm
    have e' : i = xs.length := by omega
    subst e'
    exact .inl ⟨⟨xs, hl _ _ p, Nat.le_refl _⟩, hd _ p⟩
  · have hi : i < xs.length := by omega
    refine .inr ⟨⟨xs, xs[i], hl _ _ p, List.getElem?_eq_getElem hi⟩, Pv (i + 1), fun H' q => ⟨m - 1, by omega, by omega, q⟩, fun x H' y => ?_⟩
    obtain ⟨T, x', rfl, hT, rfl, hx⟩ := y
    exact hs i x' T H (hx xs (hl _ _ p)) p hT
/-! ### the mirror -/
def rowM (p : Nat) (r : Int) : List Int := (List.range p).map fun (w : Nat) => (if r < 1 + (w : Int) then r else 1 + (w : Int)) + 1
def lastsM (p n : Nat) : List Int := (List.range (n + 1)).map fun (r : Nat) => (rowM p (r : Int)).sum
def waysM (lasts : List Int) (n : Nat) (before : List Int) : List Int := (List.range before.length).map fun (t : Nat) => before.getD t 0 * lasts.getD (n - t) 0
def stepM (p n : Nat) (s : Int × List Int) : Int × List Int := (s.1 + (waysM (lastsM p n) n s.2).sum, sprM s.2 (p : Int))
def loopM (p n : Nat) : Nat → Int × List Int → Int × List Int
  | 0, s => s
  | k + 1, s => stepM p n (loopM p n k s)
def startM (n : Nat) : List Int := 1 :: List.replicate (n - 1) 0
def cntM (b p n : Nat) : Int := (loopM p n (b - 1) (1, startM n)).1
theorem spr_len (l : List Int) (p : Int) : (sprM l p).length = l.length := by unfold sprM; rw [List.length_map, List.length_range]
theorem loop_len (p n : Nat) (h : 1 ≤ n) : ∀ k, (loopM p n k (1, startM n)).2.length = n
  | 0 => by show (startM n).length = n; unfold startM; rw [List.length_cons, List.length_replicate]; omega
  | k + 1 => by show (sprM _ _).length = n; rw [spr_len]; exact loop_len p n h k
theorem lasts_small : ∀ p, p < 6 → ∀ n, n < 26 → ((lastsM p n).all fun x => decide (-1000 < x ∧ x < 1000)) = true := by decide +kernel
theorem cnt_small : ∀ q ∈ [(3, 2), (3, 3), (3, 4), (3, 5), (4, 2), (4, 3), (5, 2)], ∀ n, n < 11 → cntM q.1 q.2 n ≤ 2000 := by decide +kernel
end K2

set_option Elab.async false
set_option linter.all false
set_option maxRecDepth 100000
set_option maxHeartbeats 4000000
namespace K2
open PySem PySem.Spec PyProof.Rows L2 G1 G2
abbrev rMul : R2 := rI CMul fun i j => .int (i * j)
def spCnt : Sp := fun vs H Q _ => ∃ b p n : Nat, vs = [.int (b : Int), .int (p : Int), .int (n : Int)] ∧ p < 6 ∧ 1 ≤ n ∧ n < 26 ∧ 1 ≤ b ∧ b < 7 ∧ ∀ H' : Hp, Same H H' → Q (.int (cntM b p n)) H'
abbrev NC : List Str := ["blocks", "pages", "names", "lasts", "written", "room", "before", "many", "used", "total", "ways"]
abbrev teIn : TE := tOp rAdd (tCB rMin2 (tCons (tVar 4) (tCons (tVar 5) tNil))) (tC (.int 1))
abbrev teRow (K : PySem.W.Frag) : TE := tCB (rSum K) (tCons (tLc (iRng2 (tCons (tC (.int 1)) (tCons (tOp rAdd (tVar 1) (tC (.int 1))) tNil))) (gName 4) tYes teIn [4]) tNil)
abbrev teWay (K : PySem.W.Frag) : TE := tOp rMul (tVar 10) (tOp (rIxL K) (tVar 3) (tOp rSub (tVar 2) (tVar 9)))
abbrev scRoom : Scope := { kind := ScopeKind.function, names := [(Str.ofString ".0", NameKind.local), (Str.ofString "room", NameKind.cell), (Str.ofString "sum", NameKind.globalImplicit), (Str.ofString "range", NameKind.globalImplicit), (Str.ofString "pages", NameKind.cell)], isGenerator := false, isCoroutine := false }
theorem grow_map (f : Nat → Int) (m i : Nat) (hi : i < m) : (((List.range m).map f).take (i + 1)).map V.int = (((List.range m).map f).take i).map V.int ++ [V.int (f i)] := by
  rw [List.take_add_one, List.map_append]
  congr 1
  rw [List.getElem?_map, List.getElem?_range hi]
  rfl
theorem row_read {K : PySem.W.Frag} {H : Hp} {Q : VK} {b n : Int} {p : Nat} {r : Int} {x3 x4 x6 x7 x8 x9 x10 : Option V} (hp : p < 6) (k : ∀ H', Same H H' → Q (.int (rowM p r).sum) H') :
    teRow K [some (.int b), some (.int (p : Int)), some (.int n), x3, x4, some (.int r), x6, x7, x8, x9, x10] H Q := by
  refine ⟨_, rfl, _, _, rfl, rfl, 1, (p : Int) + 1, rfl, ⟨by omega, by omega, by omega, by omega⟩, fun D hD => ?_⟩
  have e0 : ((p : Int) + 1 - 1).toNat = p := by omega
  rw [e0]
  refine lc_range (lo := 1) (n := p) (fun i H' => Same H H' ∧ H' D = some (.lst (((rowM p r).take i).map V.int))) ⟨same_lay hD, by rw [upd_same]; rfl⟩ ?_ ?_
  · rintro i H' hi ⟨s1, hy⟩
    refine ⟨rfl, ?_⟩
    unfold tYes
    dsimp only
    rw [if_pos rfl]
    refine ⟨_, rfl, _, rfl, _, _, rfl, _, _, rfl, rfl, ((rowM p r).take i).map V.int, hy, ?_, ?_, ?_⟩
    · rw [List.length_map, List.length_take, sizeLine_eq]; omega
    · exact same_grow hD s1 (Same.refl _)
    · rw [upd_same]
      exact congrArg (fun z => some (HO.lst z)) (grow_map (fun (w : Nat) => (if r < 1 + (w : Int) then r else 1 + (w : Int)) + 1) p i hi).symm
  · rintro H' ⟨s1, hy⟩
    have el : (rowM p r).length = p := by unfold rowM; rw [List.length_map, List.length_range]
    have e1 : (rowM p r).take p = rowM p r := List.take_of_length_le (by omega)
    rw [e1] at hy
    exact ⟨D, rowM p r, rfl, SqL.of hy, k H' s1⟩
theorem lasts_read {K : PySem.W.Frag} {H : Hp} {Q : VK} {b : Int} {p n : Nat} (hp : p < 6) (hn : n < 26) (k : ∀ (H' : Hp) (D : Addr), Same H H' → H' D = some (.lst ((lastsM p n).map V.int)) → Q (.ref D) H') :
    tLc (iRng1 (tCons (tOp rAdd (tVar 2) (tC (.int 1))) tNil)) (gName 5) tYes (teRow K) [5] [some (.int b), some (.int (p : Int)), some (.int (n : Int)), none, none, none, none, none, none, none, none] H Q := by
  refine ⟨_, rfl, _, _, rfl, rfl, (n : Int) + 1, rfl, by omega, by omega, fun D hD => ?_⟩
  have e0 : ((n : Int) + 1).toNat = n + 1 := by omega
  rw [e0]
  refine lc_range (lo := 0) (n := n + 1) (fun i H' => Same H H' ∧ H' D = some (.lst (((lastsM p n).take i).map V.int))) ⟨same_lay hD, by rw [upd_same]; rfl⟩ ?_ ?_
  · rintro i H' hi ⟨s1, hy⟩
    refine ⟨rfl, ?_⟩
    unfold tYes
    dsimp only
    rw [if_pos rfl]
    refine row_read (r := 0 + (i : Int)) hp fun H2 s2 => ⟨((lastsM p n).take i).map V.int, s2 _ _ hy, ?_, ?_, ?_⟩
    · rw [List.length_map, List.length_take, sizeLine_eq]; omega
    · exact same_grow hD s1 s2
    · rw [upd_same]
      rw [Int.zero_add]
      exact congrArg (fun z => some (HO.lst z)) (grow_map (fun (r : Nat) => (rowM p (r : Int)).sum) (n + 1) i hi).symm
  · rintro H' ⟨s1, hy⟩
    have el : (lastsM p n).length = n + 1 := by unfold lastsM; rw [List.length_map, List.length_range]
    have e1 : (lastsM p n).take (n + 1) = lastsM p n := List.take_of_length_le (by omega)
    rw [e1] at hy
    exact k H' D s1 hy
theorem ways_read {K : PySem.W.Frag} {H : Hp} {Q : VK} {b : Int} {p n : Nat} {l B6 : Addr} {bef : List Int} {x4 x5 x7 x8 x9 x10 : Option V} (hp : p < 6) (hn : n < 26) (hl : H l = some (.lst ((lastsM p n).map V.int))) (hb : H B6 = some (.lst (bef.map V.int))) (hlen : bef.length = n)
    (k : ∀ (H' : Hp) (D : Addr), Same H H' → H' D = some (.lst ((waysM (lastsM p n) n bef).map V.int)) → Q (.ref D) H') :
    tLc (iEnum K (tCons (tVar 6) tNil)) (gTup K 2 (gCons (gName 9) (gCons (gName 10) gNil))) tYes (teWay K) [9, 10] [some (.int b), some (.int (p : Int)), some (.int (n : Int)), some (.ref l), x4, x5, some (.ref B6), x7, x8, x9, x10] H Q := by
  refine ⟨_, rfl, B6, _, rfl, SqL.of hb, fun D hD => ?_⟩
  refine lc_enum (K := K) (xs := bef.map V.int) (fun i H' => Same H H' ∧ H' D = some (.lst (((waysM (lastsM p n) n bef).take i).map V.int))) ⟨same_lay hD, by rw [upd_same]; rfl⟩ (fun i H' q => SqL.of (q.1 _ _ hb)) ?_ ?_
  · rintro i x T H' hi ⟨s1, hy⟩ hT
    have hi' : i < bef.length := by
      have z := (List.getElem?_eq_some_iff.mp hi).1
      rwa [List.length_map] at z
    have ex : x = .int (bef.getD i 0) := by
      rw [List.getElem?_map, List.getElem?_eq_getElem hi'] at hi
      rw [List.getD_eq_getElem?_getD, List.getElem?_eq_getElem hi']
      exact (Option.some.inj hi).symm
    subst ex
    refine ⟨T, _, rfl, SqT.of upd_same, rfl, _, _, rfl, _, _, rfl, rfl, rfl, ?_⟩
    unfold tYes
    dsimp only
    rw [if_pos rfl]
    have hj : n - i < (lastsM p n).length := by unfold lastsM; rw [List.length_map, List.length_range]; omega
    have sT : Same H' (upd H' T (.tup [.int (i : Nat), .int (bef.getD i 0)])) := same_lay hT
    have hv : -1000 < (lastsM p n).getD (n - i) 0 ∧ (lastsM p n).getD (n - i) 0 < 1000 := by
      have z := lasts_small p hp n hn
      rw [List.all_eq_true] at z
      have q := z ((lastsM p n).getD (n - i) 0) (by rw [List.getD_eq_getElem?_getD, List.getElem?_eq_getElem hj]; exact List.getElem_mem _)
      exact of_decide_eq_true q
    refine ⟨_, rfl, _, rfl, _, rfl, _, rfl, _, _, rfl, rfl, l, _, _, .int ((lastsM p n).getD (n - i) 0), rfl, rfl, SqL.of (sT _ _ (s1 _ _ hl)), ?_, _, _, rfl, rfl, .inr ⟨by omega, by omega⟩, ?_⟩
    · have e2 : (n : Int) - ((i : Nat) : Int) = ((n - i : Nat) : Int) := by omega
      show atI _ ((n : Int) - ((i : Nat) : Int)) = _
      rw [e2]
      refine atI_nat ?_
      rw [List.getElem?_map, List.getElem?_eq_getElem hj, List.getD_eq_getElem?_getD, List.getElem?_eq_getElem hj]
      rfl
    refine ⟨((waysM (lastsM p n) n bef).take i).map V.int, sT _ _ hy, ?_, ?_, ?_⟩
    · rw [List.length_map, List.length_take, sizeLine_eq]; omega
    · exact same_grow hD s1 sT
    · rw [upd_same]
      exact congrArg (fun z => some (HO.lst z)) (grow_map (fun (t : Nat) => bef.getD t 0 * (lastsM p n).getD (n - t) 0) bef.length i hi').symm
  · rintro H' ⟨s1, hy⟩
    have el : (waysM (lastsM p n) n bef).length = (bef.map V.int).length := by unfold waysM; rw [List.length_map, List.length_range, List.length_map]
    rw [← el, List.take_length] at hy
    exact k H' D s1 hy
section
variable {P : Program} {w : World} {K : PySem.W.Frag} {mg : Str → Option Value} {base : Heap}
theorem ok_cnt {f fS : Addr} {fd fdS : FuncData} (F : Fun K "count_stands" "count_stands" sCnt f fd) (B : Bl mg) (GS : FnOk P w K mg base CX0 1 fS fdS ["before", "pages"] (spSpr K)) (kS : PySem.W.keepIn K (.ref fS) = true) (bS : Binds K fdS ["before", "pages"] []) (gS : mg "spread" = some (.ref fS)) :
    FnOk P w K mg base CX0 2 f fd ["blocks", "pages", "names"] spCnt := by
  refine F.ok scCnt (fun vs H Q E h => ?_) (fun cdv A outer s H vs Q E hr h => ?_)
  · obtain ⟨b, p, n, rfl, _⟩ := h
    rfl
  obtain ⟨b, p, n, rfl, hp, hn1, hn2, hb1, hb2, k⟩ := h
  refine ⟨_, pss_cons (ps_set (i := 3) scCnt.nd rfl (.inr rfl) (pe_lc (own := [("room", 5)]) (g := gName 5) (tt := tYes) (te := teRow K) rfl scCnt.nd
      (pi_range1 (by rfl) B.range (pa_cons (pe_op op_add (pv 2) pe_int) pa_nil)) (blkOk_by (own := [("room", 5)]) (N := NC) (sc := defScope sCnt) (by decide +kernel))
      (fun _ _ _ _ _ => pg_name (i := 5) scCnt.nd rfl (Or.inr rfl)) (fun _ _ _ _ _ => pts_nil)
      (fun _ _ _ _ _ => pe_callB (cr_sum rfl) (by rfl) B.sum bSum (pa_cons (pe_lc (own := [("written", 4)]) (g := gName 4) (tt := tYes) (te := teIn) rfl scCnt.nd
        (pi_range2 (by rfl) B.range (pa_cons pe_int (pa_cons (pe_op op_add (pv 1) pe_int) pa_nil))) (blkOk_by (own := [("written", 4)]) (N := NC) (sc := scRoom) (by decide +kernel))
        (fun _ _ _ _ _ => pg_name (i := 4) scCnt.nd rfl (Or.inl rfl)) (fun _ _ _ _ _ => pts_nil)
        (fun _ _ _ _ _ => pe_op op_add (pe_callB (call_min2 rfl) (by rfl) B.min bMin (pa_cons (pv 4) (pa_cons (pv 5) pa_nil))) pe_int)) pa_nil))))
    (pss_cons (ps_set (i := 6) scCnt.nd rfl (.inl rfl) (pe_op op_cat (pe_lst (pa_cons pe_int pa_nil)) (pe_op op_rep (pe_lst (pa_cons pe_int pa_nil)) (pe_op op_sub (pv 2) pe_int))))
    (pss_cons (ps_set (i := 7) scCnt.nd rfl (.inl rfl) pe_int)
    (pss_cons (ps_for PassesOwn.never rfl (pi_range2 (by rfl) B.range (pa_cons pe_int (pa_cons (pv 0) pa_nil))) (pg_name (i := 8) scCnt.nd rfl (.inl rfl))
      (pss_cons (ps_aug (i := 7) scCnt.nd rfl (.inl rfl) (pe_callB (cr_sum rfl) (by rfl) B.sum bSum (pa_cons (pe_lc (own := [("total", 9), ("ways", 10)]) (g := gTup K 2 (gCons (gName 9) (gCons (gName 10) gNil))) (tt := tYes) (te := teWay K) rfl scCnt.nd
          (pi_enum (by rfl) B.enm (pa_cons (pv 6) pa_nil)) (blkOk_by (own := [("total", 9), ("ways", 10)]) (N := NC) (sc := defScope sCnt) (by decide +kernel))
          (fun _ _ _ _ _ => pg_tup rfl (pgs_cons (pg_name (i := 9) scCnt.nd rfl (Or.inl rfl)) (pgs_cons (pg_name (i := 10) scCnt.nd rfl (Or.inl rfl)) pgs_nil))) (fun _ _ _ _ _ => pts_nil)
          (fun _ _ _ _ _ => pe_op op_mul (pv 10) (pe_ix ix_list (pv 3) (pe_op op_sub (pv 2) (pv 9)) (fun _ _ => rfl)))) pa_nil)) ip_add)
      (pss_one (ps_set (i := 6) scCnt.nd rfl (.inl rfl) (pe_call GS hr (by rfl) gS kS bS .nil pass0 (pa_cons (pv 6) (pa_cons (pv 1) pa_nil)))))))
    (pss_one (ps_ret (pv 7)))))), ?_⟩
  refine seq_asg (lasts_read (K := K) hp hn2 fun H1 l s1 hl => ?_)
  refine seq_asg ?_
  refine ⟨by show 1 ≤ sizeLine; decide, fun q1 h1 => ⟨by show 1 ≤ sizeLine; decide, fun q2 h2 => ⟨_, rfl, _, _, rfl, rfl, q2, (n : Int) - 1, _, rfl, rfl, upd_same, by omega, by omega, ?_, fun q3 h3 => ?_⟩⟩⟩
  · show 1 * ((n : Int) - 1).toNat ≤ sizeLine
    rw [sizeLine_eq]; omega
  have s2 := s1.trans ((same_lay (o := .lst [.int 1]) h1).trans ((same_lay (o := .lst [.int 0]) h2).trans (same_lay (o := .lst (List.replicate ((n : Int) - 1).toNat [V.int 0]).flatten) h3)))
  have hl2 := ((same_lay (o := .lst [.int 1]) h1).trans ((same_lay (o := .lst [.int 0]) h2).trans (same_lay (o := .lst (List.replicate ((n : Int) - 1).toNat [V.int 0]).flatten) h3))) _ _ hl
  have hq1 := ((same_lay (o := .lst [.int 0]) h2).trans (same_lay (o := .lst (List.replicate ((n : Int) - 1).toNat [V.int 0]).flatten) h3)) q1 _ upd_same
  have hq3 : (upd (upd (upd H1 q1 (.lst [.int 1])) q2 (.lst [.int 0])) q3 (.lst (List.replicate ((n : Int) - 1).toNat [V.int 0]).flatten)) q3 = some (.lst ((List.replicate (n - 1) (0 : Int)).map V.int)) := by
    rw [upd_same]
    have e1 : ((n : Int) - 1).toNat = n - 1 := by omega
    rw [e1, List.map_replicate]
    congr 2
    generalize n - 1 = m
    induction m with
    | zero => rfl
    | succ m ih => rw [List.replicate_succ, List.flatten_cons, ih, List.replicate_succ]; rfl
  generalize upd (upd (upd H1 q1 (.lst [.int 1])) q2 (.lst [.int 0])) q3 (.lst (List.replicate ((n : Int) - 1).toNat [V.int 0]).flatten) = H3 at s2 hl2 hq1 hq3 ⊢
  refine ⟨q1, q3, _, _, rfl, rfl, hq1, hq3, ?_, fun B6 h6 => ?_⟩
  · rw [List.length_map, List.length_replicate, sizeLine_eq]
    show 1 + (n - 1) ≤ _
    omega
  refine seq_asg ?_
  refine c_read ?_
  refine seq_for fun D' hD1 hD2 => ?_
  refine ⟨_, rfl, 1, (b : Int), rfl, ⟨by omega, by omega, by omega, by omega⟩, ?_⟩
  have e0 : ((b : Int) - 1).toNat = b - 1 := by omega
  rw [e0]
  refine for_range (lo := 1) (n := b - 1) (fun i σ H' => ∃ (B : Addr) (x8 : Option V), σ = [some (.int (b : Int)), some (.int (p : Int)), some (.int (n : Int)), some (.ref l), none, none, some (.ref B), some (.int (loopM p n i (1, startM n)).1), x8, none, none] ∧ Same H H' ∧
      H' l = some (.lst ((lastsM p n).map V.int)) ∧ H' B = some (.lst ((loopM p n i (1, startM n)).2.map V.int))) ⟨B6, none, rfl, s2.trans (same_lay h6), same_lay h6 _ _ hl2, by rw [upd_same]; rfl⟩ ?_ ?_
  · rintro i σ H' hi ⟨B, x8, rfl, s3, hl3, hB⟩
    refine seq_aug ⟨_, rfl, ?_⟩
    refine cb_read (cons_read ?_)
    refine ways_read (K := K) hp hn2 hl3 hB (loop_len p n hn1 i) fun H4 D4 s4 h4 => ⟨D4, _, rfl, SqL.of h4, _, _, rfl, rfl, ?_⟩
    refine asg_read (call_read (cons_read ⟨_, rfl, cons_read ⟨_, rfl, ?_⟩⟩))
    refine ⟨B, (loopM p n i (1, startM n)).2, (p : Int), rfl, SqL.of (s4 _ _ hB), by rw [loop_len p n hn1 i]; omega, fun H5 q5 s5 n5 h5 => ?_⟩
    exact ⟨q5, _, rfl, s3.trans (s4.trans s5), s5 _ _ (s4 _ _ hl3), h5⟩
  · rintro σ H' ⟨B, x8, rfl, s3, hl3, hB⟩
    rw [hD1]
    exact ⟨_, rfl, k H' s3⟩
end
end K2

set_option Elab.async false
set_option linter.all false
set_option maxRecDepth 100000
set_option maxHeartbeats 4000000
namespace K2
open PySem PySem.Spec PyProof.Rows L2 G1 G2
abbrev sIsI : Stmt := topS 20
abbrev sWit : Stmt := topS 21
abbrev sRow : Stmt := topS 33
abbrev sChk : Stmt := topS 34
abbrev sSiz : Stmt := topS 45
theorem scIsI : FnScope ["value"] ["value"] (defScope sIsI) := ⟨rfl, rfl, rfl, by decide +kernel, rfl, by decide +kernel, by decide +kernel⟩
theorem scWit : FnScope ["value", "least", "most"] ["value", "least", "most"] (defScope sWit) := ⟨rfl, rfl, rfl, by decide +kernel, rfl, by decide +kernel, by decide +kernel⟩
theorem scRow : FnScope ["value", "pages", "limit", "word"] ["value", "pages"] (defScope sRow) := ⟨rfl, rfl, rfl, by decide +kernel, rfl, by decide +kernel, by decide +kernel⟩
theorem scChk : FnScope ["rows", "pages", "index", "row", "last"] ["rows", "pages"] (defScope sChk) := ⟨rfl, rfl, rfl, by decide +kernel, rfl, by decide +kernel, by decide +kernel⟩
theorem scSiz : FnScope ["blocks", "pages", "names"] ["blocks", "pages", "names"] (defScope sSiz) := ⟨rfl, rfl, rfl, by decide +kernel, rfl, by decide +kernel, by decide +kernel⟩
theorem bIsi : bootBuiltins "isinstance" = some (.builtin "isinstance") := by decide +kernel
theorem bBool : bootBuiltins "bool" = some (.type "bool") := by decide +kernel
theorem bTup : bootBuiltins "tuple" = some (.type "tuple") := by decide +kernel
theorem bStr : bootBuiltins "str" = some (.type "str") := by decide +kernel
theorem nx_read {D : Ends} {σ : L2.St} {H : Hp} (h : D.nx σ H) : tNext D σ H := h
theorem paired_get {α β : Type} {F : α → β → Prop} : ∀ {l₁ : List α} {l₂ : List β}, Paired F l₁ l₂ → ∀ {i : Nat} {a : α}, l₁[i]? = some a → ∃ b, l₂[i]? = some b ∧ F a b
  | _, _, .nil, i, a, h => by simp at h
  | _, _, .cons r t, 0, a, h => by
    simp at h
    subst h
    exact ⟨_, rfl, r⟩
  | _, _, .cons r t, i + 1, a, h => paired_get t (i := i) (by simpa using h)
/-! ### rows -/
abbrev RowD := Int × Str
def wordsL : List Str := ["oldest", "youngest", "least", "most"]
/-- a row of a drive with p pages -/
def RowOk (p : Nat) (r : RowD) : Prop := 0 ≤ r.1 ∧ r.1 ≤ (p : Int) ∧ r.2 ∈ wordsL
theorem Same.tup {K : PySem.W.Frag} {H H' : Hp} {a : Addr} {xs : List V} (e : Same H H') (h : SqT K H a xs) : SqT K H' a xs :=
  h.elim (fun h => .inl (h.elim (fun h => .inl (e _ _ h)) fun ⟨o, h⟩ => .inr ⟨o, e _ _ h⟩)) fun h => .inr h
/-- the tuple at t holds these rows -/
def RowsAt (K : PySem.W.Frag) (H : Hp) (t : Addr) (rows : List RowD) : Prop := ∃ rs : List Addr, SqT K H t (rs.map V.ref) ∧ Paired (fun (a : Addr) (r : RowD) => SqT K H a [.int r.1, .str r.2]) rs rows
theorem RowsAt.same {K : PySem.W.Frag} {H H' : Hp} {t : Addr} {rows : List RowD} (h : RowsAt K H t rows) (e : Same H H') : RowsAt K H' t rows := by
  obtain ⟨rs, h1, h2⟩ := h
  exact ⟨rs, K2.Same.tup e h1, Paired.mapP h2 fun _ _ z => K2.Same.tup e z⟩
/-! ### promises -/
def spIsI : Sp := fun vs H Q _ => ∃ i : Int, vs = [.int i] ∧ Q (.bl true) H
def spWit : Sp := fun vs H Q _ => ∃ v lo hi : Int, vs = [.int v, .int lo, .int hi] ∧ lo ≤ v ∧ v ≤ hi ∧ Q (.bl true) H
section
variable {P : Program} {w : World} {K : PySem.W.Frag} {mg : Str → Option Value} {base : Heap}
theorem ok_isI {f : Addr} {fd : FuncData} (F : Fun K "is_integer" "is_integer" sIsI f fd) (B : Bl mg) : FnOk P w K mg base CX0 1 f fd ["value"] spIsI := by
  refine F.ok scIsI (fun vs H Q E h => ?_) (fun cdv A outer s H vs Q E hr h => ?_)
  · obtain ⟨i, rfl, _⟩ := h
    rfl
  obtain ⟨i, rfl, k⟩ := h
  refine ⟨_, pss_one (ps_ret (pe_and (pe_callB call_isi (by rfl) B.isi bIsi (pa_cons (pv 0) (pa_cons (pe_bltn (v := .ty "int") (by rfl) B.int bInt rfl) pa_nil)))
    (pe_one (pe_not (pe_callB call_isi (by rfl) B.isi bIsi (pa_cons (pv 0) (pa_cons (pe_bltn (v := .ty "bool") (by rfl) B.boo bBool rfl) pa_nil))))))), ?_⟩
  refine ⟨_, rfl, _, _, _, _, true, rfl, .ty _, .base (.int i), kit_ty (by decide +kernel), true, rfl, iteT ?_⟩
  exact ⟨_, rfl, _, _, _, _, false, rfl, .ty _, .base (.int i), kit_ty (by decide +kernel), false, rfl, k⟩
theorem ok_wit {f fI : Addr} {fd fdI : FuncData} (F : Fun K "is_within" "is_within" sWit f fd) (GI : FnOk P w K mg base CX0 1 fI fdI ["value"] spIsI) (kI : PySem.W.keepIn K (.ref fI) = true) (bI : Binds K fdI ["value"] []) (gI : mg "is_integer" = some (.ref fI)) :
    FnOk P w K mg base CX0 2 f fd ["value", "least", "most"] spWit := by
  refine F.ok scWit (fun vs H Q E h => ?_) (fun cdv A outer s H vs Q E hr h => ?_)
  · obtain ⟨v, lo, hi, rfl, _⟩ := h
    rfl
  obtain ⟨v, lo, hi, rfl, h1, h2, k⟩ := h
  refine ⟨_, pss_one (ps_ret (pe_and (pe_call GI hr (by rfl) gI kI bI .nil pass0 (pa_cons (pv 0) pa_nil)) (pe_one (pe_chain op_le op_le (pv 1) (pv 0) (pv 2))))), ?_⟩
  refine ⟨_, rfl, v, rfl, true, rfl, iteT ?_⟩
  refine ⟨_, rfl, _, rfl, _, _, rfl, rfl, _, rfl, ?_⟩
  rw [decide_eq_true h1]
  refine iteT ⟨_, rfl, _, _, rfl, rfl, ?_⟩
  show Q (.bl (decide (v ≤ hi))) H
  rw [decide_eq_true h2]
  exact k
def WordsAt (K : PySem.W.Frag) (aW : Addr) : Prop := ∀ H : Hp, SqT K H aW (wordsL.map V.str)
def spRow (K : PySem.W.Frag) : Sp := fun vs H Q _ => ∃ (a : Addr) (p : Nat) (r : RowD), vs = [.ref a, .int (p : Int)] ∧ SqT K H a [.int r.1, .str r.2] ∧ RowOk p r ∧ Q (.bl true) H
def spChk (K : PySem.W.Frag) : Sp := fun vs H Q _ => ∃ (t : Addr) (p : Nat) (rows : List RowD), vs = [.ref t, .int (p : Int)] ∧ RowsAt K H t rows ∧ (∀ r ∈ rows, RowOk p r) ∧ rows.length ≤ 4 ∧ (∃ x y, rows = x ++ [((p : Int), y)]) ∧ ∀ H' : Hp, Same H H' → Q .non H'
theorem tup_ty {K : PySem.W.Frag} {H : Hp} {a : Addr} {xs : List V} (h : SqT K H a xs) : TyX K H (.ref a) (.type "tuple") := by
  rcases h with (h | ⟨o, h⟩) | ⟨o, its, n, hk, hc, _⟩
  · exact .base (.tup h)
  · exact .fTuple h
  · exact .kTuple hk hc
theorem inW : ∀ w ∈ wordsL, flatV (.str w) = true ∧ inV (.str w) (wordsL.map V.str) = true := by decide +kernel
theorem flatW : (wordsL.map V.str).all flatV = true := by decide +kernel
theorem ok_row {f fI aW : Addr} {fd fdI : FuncData} (F : Fun K "is_row" "is_row" sRow f fd) (B : Bl mg) (GI : FnOk P w K mg base CX0 2 fI fdI ["value", "least", "most"] spWit) (kI : PySem.W.keepIn K (.ref fI) = true) (bI : Binds K fdI ["value", "least", "most"] []) (gI : mg "is_within" = some (.ref fI))
    (gW : mg "WORDS" = some (.ref aW)) (hW : WordsAt K aW) : FnOk P w K mg base CX0 3 f fd ["value", "pages"] (spRow K) := by
  refine F.ok scRow (fun vs H Q E h => ?_) (fun cdv A outer s H vs Q E hr h => ?_)
  · obtain ⟨a, p, r, rfl, _⟩ := h
    rfl
  obtain ⟨a, p, ⟨l, x⟩, rfl, hT, ⟨h1, h2, h3⟩, k⟩ := h
  refine ⟨_, pss_cons (ps_if (PW.pt (pw_or (pt_not (pt_val (pe_callB call_isi (by rfl) B.isi bIsi (pa_cons (pv 0) (pa_cons (pe_bltn (v := .ty "tuple") (by rfl) B.tup bTup rfl) pa_nil)))))
      (pw_or1 (pt_cmpR op_ne (pe_callB call_len_seq (by rfl) B.len PySem.boot_len (pa_cons (pv 0) pa_nil)) pe_int (nomark _))))) (pss_one (ps_ret pe_bl)) pss_nil)
    (pss_cons (ps_asg (pv 0) (pg_tup rfl (pgs_cons (pg_name (i := 2) scRow.nd rfl (.inl rfl)) (pgs_cons (pg_name (i := 3) scRow.nd rfl (.inl rfl)) pgs_nil))))
    (pss_one (ps_ret (pe_and (pe_call GI hr (by rfl) gI kI bI .nil pass0 (pa_cons (pv 2) (pa_cons pe_int (pa_cons (pv 1) pa_nil))))
      (pe_and (pe_callB call_isi (by rfl) B.isi bIsi (pa_cons (pv 3) (pa_cons (pe_bltn (v := .ty "str") (by rfl) B.str bStr rfl) pa_nil)))
      (pe_one (pe_cmpR op_in_seq (pv 3) (pe_glob (v := .ref aW) rfl gW rfl) (by rfl)))))))), ?_⟩
  refine ⟨_, rfl, _, _, _, _, true, rfl, .ty _, tup_ty hT, kit_ty (by decide +kernel), true, rfl, iteF ?_⟩
  refine ⟨_, rfl, a, _, rfl, .inr hT, rfl, _, rfl, iteF ?_⟩
  refine ⟨_, rfl, a, _, rfl, hT, rfl, _, _, rfl, _, _, rfl, rfl, ?_⟩
  refine ⟨_, rfl, _, rfl, l, 0, (p : Int), rfl, h1, h2, true, rfl, iteT ?_⟩
  refine ⟨_, rfl, _, _, _, _, true, rfl, .ty _, .base (.str x), kit_ty (by decide +kernel), true, rfl, iteT ?_⟩
  refine ⟨_, rfl, aW, _, rfl, .inr (hW H), (inW x h3).1, flatW, ?_⟩
  show Q (.bl (inV (.str x) (wordsL.map V.str))) H
  rw [(inW x h3).2]
  exact k
theorem ok_chk {f fI : Addr} {fd fdI : FuncData} (F : Fun K "check_rows" "check_rows" sChk f fd) (B : Bl mg) (GI : FnOk P w K mg base CX0 3 fI fdI ["value", "pages"] (spRow K)) (kI : PySem.W.keepIn K (.ref fI) = true) (bI : Binds K fdI ["value", "pages"] []) (gI : mg "is_row" = some (.ref fI))
    (gM : ∃ t, mg "MOST_ROWS" = some (.int 4 t)) : FnOk P w K mg base CX0 4 f fd ["rows", "pages"] (spChk K) := by
  refine F.ok scChk (fun vs H Q E h => ?_) (fun cdv A outer s H vs Q E hr h => ?_)
  · obtain ⟨a, p, r, rfl, _⟩ := h
    rfl
  obtain ⟨t, p, rows, rfl, ⟨rs, hT, hP⟩, hok, h4, ⟨ini, y, e⟩, k⟩ := h
  obtain ⟨tM, cM⟩ := gM
  refine ⟨_, pss_cons (ps_if (PW.pt (pw_or (pt_not (pt_val (pe_callB call_isi (by rfl) B.isi bIsi (pa_cons (pv 0) (pa_cons (pe_bltn (v := .ty "tuple") (by rfl) B.tup bTup rfl) pa_nil)))))
      (pw_or1 (pt_not (pt_truth (pv 0) (by intro _; rfl)))))) (pss_one ps_never) pss_nil)
    (pss_cons (ps_for PassesOwn.never rfl (pi_enumT (by rfl) B.enm (pa_cons (pv 0) pa_nil)) (pg_tup rfl (pgs_cons (pg_name (i := 2) scChk.nd rfl (.inl rfl)) (pgs_cons (pg_name (i := 3) scChk.nd rfl (.inl rfl)) pgs_nil)))
      (pss_one (ps_if (PW.pt (pw_or (pt_cmpR op_eq (pv 2) (pe_glob (v := .int 4) rfl cM ⟨_, rfl⟩) (nomark _)) (pw_or1 (pt_not (pt_val (pe_call GI hr (by rfl) gI kI bI .nil pass0 (pa_cons (pv 3) (pa_cons (pv 1) pa_nil)))))))) (pss_one ps_never) pss_nil)))
    (pss_cons (ps_set (i := 4) scChk.nd rfl (.inl rfl) (pe_op op_sub (pe_callB call_len_seq (by rfl) B.len PySem.boot_len (pa_cons (pv 0) pa_nil)) pe_int))
    (pss_one (ps_if (pt_cmpR op_ne (pe_ix ix_tup (pe_ix ix_tup (pv 0) (pv 4) (fun _ _ => rfl)) pe_int (fun _ _ => rfl)) (pv 1) (nomark _)) (pss_one ps_never) pss_nil)))), ?_⟩
  have hlen : rs.length = rows.length := Paired.length hP
  have hne : rs.map V.ref ≠ [] := by
    intro z
    have : rows.length = 0 := by rw [← hlen, ← List.length_map (f := V.ref), z]; rfl
    rw [e] at this
    simp at this
  refine ⟨_, rfl, _, _, _, _, true, rfl, .ty _, tup_ty hT, kit_ty (by decide +kernel), true, rfl, iteF ?_⟩
  refine ⟨_, rfl, true, .inr (.inl ⟨_, hT, ?_⟩), iteF ?_⟩
  · cases hq : rs.map V.ref with
    | nil => exact absurd hq hne
    | cons _ _ => rfl
  unfold tNext
  dsimp only
  refine seq_for fun D' hD1 hD2 => ?_
  refine ⟨_, rfl, t, _, rfl, hT, ?_⟩
  refine for_enumT (K := K) (xs := rs.map V.ref) (fun i σ H' => ∃ x2 x3, σ = [some (.ref t), some (.int (p : Int)), x2, x3, none] ∧ Same H H') ⟨none, none, rfl, Same.refl _⟩ (fun i σ H' q => ?_) ?_ ?_
  · obtain ⟨_, _, _, s1⟩ := q
    exact K2.Same.tup s1 hT
  · rintro i x T σ H' hi ⟨x2, x3, rfl, s1⟩ hN
    rw [List.getElem?_map] at hi
    obtain ⟨a, ha, rfl⟩ : ∃ a, rs[i]? = some a ∧ V.ref a = x := by
      cases hq : rs[i]? with
      | none => rw [hq] at hi; cases hi
      | some a => rw [hq] at hi; exact ⟨a, rfl, Option.some.inj hi⟩
    have hi4 : i < 4 := by
      have z := (List.getElem?_eq_some_iff.mp ha).1
      omega
    obtain ⟨r, hr1, hr2⟩ := paired_get hP ha
    have s2 : Same H (upd H' T (.tup [.int (i : Nat), .ref a])) := s1.trans (same_lay hN)
    refine ⟨T, _, rfl, SqT.of upd_same, rfl, _, _, rfl, _, _, rfl, rfl, ?_⟩
    refine ⟨_, rfl, rfl, _, rfl, ?_⟩
    have ne4 : decide (V.int (i : Nat) = V.int 4) = false := decide_eq_false (fun z => by injection z with z; omega)
    show (if decide (V.int ((i : Nat) : Int) = V.int 4) = true then _ else _)
    rw [ne4]
    refine iteF ⟨_, rfl, _, rfl, a, p, r, rfl, K2.Same.tup s2 hr2, hok r (List.mem_of_getElem? hr1), true, rfl, ?_⟩
    exact iteF ⟨_, _, rfl, s2⟩
  · rintro σ H' ⟨x2, x3, rfl, s1⟩
    rw [hD1]
    refine ⟨_, rfl, t, _, rfl, .inr (K2.Same.tup s1 hT), _, _, rfl, rfl, ?_⟩
    have hl : rs.length = ini.length + 1 := by rw [hlen, e, List.length_append]; rfl
    obtain ⟨a, ha⟩ : ∃ a, rs[ini.length]? = some a := ⟨rs[ini.length], List.getElem?_eq_getElem (by omega)⟩
    obtain ⟨r, hr1, hr2⟩ := paired_get hP ha
    have er : r = ((p : Int), y) := by
      rw [e, List.getElem?_append_right (Nat.le_refl _), Nat.sub_self] at hr1
      exact (Option.some.inj hr1).symm
    subst er
    refine ⟨_, rfl, _, rfl, t, _, _, .ref a, rfl, rfl, K2.Same.tup s1 hT, ?_, a, _, _, .int (p : Int), rfl, rfl, K2.Same.tup s1 hr2, rfl, _, rfl, rfl, _, rfl, ?_⟩
    · have e2 : (((rs.map V.ref).length : Nat) : Int) - 1 = ((ini.length : Nat) : Int) := by rw [List.length_map]; omega
      show atI _ ((((rs.map V.ref).length : Nat) : Int) - 1) = _
      rw [e2]
      exact atI_nat (by rw [List.getElem?_map, ha]; rfl)
    · have z : (!decide (V.int (p : Int) = V.int (p : Int))) = false := by rw [decide_eq_true rfl]; rfl
      show (if (!decide (V.int (p : Int) = V.int (p : Int))) = true then _ else _)
      rw [z]
      exact iteF (k H' s1)
end
end K2

set_option Elab.async false
set_option linter.all false
set_option maxRecDepth 100000
set_option maxHeartbeats 4000000
namespace K2
open PySem PySem.Spec PyProof.Rows L2 G1 G2
abbrev sTxt : Stmt := topS 40
theorem scTxt : FnScope ["blocks", "pages", "names", "rows", "lines", "limit", "word"] ["blocks", "pages", "names", "rows"] (defScope sTxt) := ⟨rfl, rfl, rfl, by decide +kernel, rfl, by decide +kernel, by decide +kernel⟩
structure Cn (mg : Str → Option Value) : Prop where
  lb : ∃ t, mg "LEAST_BLOCKS" = some (.int 3 t)
  mb : ∃ t, mg "MOST_BLOCKS" = some (.int 6 t)
  lp : ∃ t, mg "LEAST_PAGES" = some (.int 2 t)
  mp : ∃ t, mg "MOST_PAGES" = some (.int 5 t)
  mr : ∃ t, mg "MOST_ROWS" = some (.int 4 t)
  ms : ∃ t, mg "MOST_STANDS" = some (.int 2000 t)
  wh : ∃ t, mg "WORDS_OF_HEAD" = some (.int 7 t)
  md : ∃ t, mg "MOST_DIGITS" = some (.int 2 t)
/-- sizes of a drive -/
structure Sz (b p n : Nat) : Prop where
  b0 : 3 ≤ b
  b1 : b ≤ 6
  p0 : 2 ≤ p
  p1 : p ≤ 5
  n0 : 1 ≤ n
  n1 : n ≤ p * (b - 1)
theorem Sz.n25 {b p n : Nat} (h : Sz b p n) : n < 26 := by
  have z : p * (b - 1) ≤ 5 * 5 := Nat.mul_le_mul h.p1 (by have := h.b1; omega)
  have := h.n1
  omega
def spSiz : Sp := fun vs H Q _ => ∃ b p n : Nat, vs = [.int (b : Int), .int (p : Int), .int (n : Int)] ∧ Sz b p n ∧ Q .non H
/-! ### the mirror of the text -/
def numS (i : Int) : Str := toString i
def headM (b p n : Int) : Str := ((((((Str.empty ++ ("drive " : Str)) ++ numS b) ++ (" blocks " : Str)) ++ numS p) ++ (" pages " : Str)) ++ numS n) ++ (" names" : Str)
def lineM (r : RowD) : Str := (((Str.empty ++ ("at most " : Str)) ++ numS r.1) ++ (": " : Str)) ++ r.2
def anyM (w : Str) : Str := ("any: " : Str) ++ w
def linesM (b p n : Int) (ini : List RowD) (w : Str) : List Str := headM b p n :: (ini.map lineM ++ [anyM w])
def textM (b p n : Int) (ini : List RowD) (w : Str) : Str := Txt.join ("\n" : Str) (linesM b p n ini w)
section
variable {P : Program} {w : World} {K : PySem.W.Frag} {mg : Str → Option Value} {base : Heap}
theorem ok_siz {f fI : Addr} {fd fdI : FuncData} (F : Fun K "check_sizes" "check_sizes" sSiz f fd) (C : Cn mg) (GI : FnOk P w K mg base CX0 2 fI fdI ["value", "least", "most"] spWit) (kI : PySem.W.keepIn K (.ref fI) = true) (bI : Binds K fdI ["value", "least", "most"] []) (gI : mg "is_within" = some (.ref fI)) :
    FnOk P w K mg base CX0 3 f fd ["blocks", "pages", "names"] spSiz := by
  refine F.ok scSiz (fun vs H Q E h => ?_) (fun cdv A outer s H vs Q E hr h => ?_)
  · obtain ⟨a, p, r, rfl, _⟩ := h
    rfl
  obtain ⟨b, p, n, rfl, hz, k⟩ := h
  obtain ⟨t1, c1⟩ := C.lb
  obtain ⟨t2, c2⟩ := C.mb
  obtain ⟨t3, c3⟩ := C.lp
  obtain ⟨t4, c4⟩ := C.mp
  have b0 := hz.b0
  have b1 := hz.b1
  have p0 := hz.p0
  have p1 := hz.p1
  have n0 := hz.n0
  have n1 : (n : Int) ≤ (p : Int) * ((b : Int) - 1) := by
    have z := hz.n1
    have e : ((p * (b - 1) : Nat) : Int) = (p : Int) * ((b : Int) - 1) := by
      rw [Int.natCast_mul, Int.natCast_sub (by omega)]; rfl
    omega
  refine ⟨_, pss_cons (ps_if (pt_not (pt_val (pe_call GI hr (by rfl) gI kI bI .nil pass0 (pa_cons (pv 0) (pa_cons (pe_glob (v := .int 3) rfl c1 ⟨_, rfl⟩) (pa_cons (pe_glob (v := .int 6) rfl c2 ⟨_, rfl⟩) pa_nil)))))) (pss_one ps_never) pss_nil)
    (pss_cons (ps_if (pt_not (pt_val (pe_call GI hr (by rfl) gI kI bI .nil pass0 (pa_cons (pv 1) (pa_cons (pe_glob (v := .int 2) rfl c3 ⟨_, rfl⟩) (pa_cons (pe_glob (v := .int 5) rfl c4 ⟨_, rfl⟩) pa_nil)))))) (pss_one ps_never) pss_nil)
    (pss_one (ps_if (pt_not (pt_val (pe_call GI hr (by rfl) gI kI bI .nil pass0 (pa_cons (pv 2) (pa_cons pe_int (pa_cons (pe_op op_mul (pv 1) (pe_op op_sub (pv 0) pe_int)) pa_nil)))))) (pss_one ps_never) pss_nil))), ?_⟩
  refine ⟨_, rfl, (b : Int), 3, 6, rfl, by omega, by omega, true, rfl, iteF ?_⟩
  refine ⟨_, rfl, (p : Int), 2, 5, rfl, by omega, by omega, true, rfl, iteF ?_⟩
  exact ⟨_, rfl, _, rfl, _, rfl, _, _, rfl, rfl, _, _, rfl, rfl, .inl ⟨by omega, by omega⟩, (n : Int), 1, _, rfl, by omega, n1, true, rfl, iteF k⟩
end
end K2

set_option Elab.async false
set_option linter.all false
set_option maxRecDepth 100000
set_option maxHeartbeats 4000000
namespace K2
open PySem PySem.Spec PyProof.Rows L2 G1 G2
theorem num_len : ∀ i : Nat, i < 26 → (numS (i : Int)).length ≤ 2 := by decide +kernel
theorem word_len : ∀ w ∈ wordsL, w.length ≤ 8 := by decide +kernel
theorem log_small (i : Nat) (h : i < 26) : (i : Int).natAbs.log2 < 1920 := by
  have z : ∀ j : Nat, j < 26 → (j : Int).natAbs.log2 < 1920 := by decide +kernel
  exact z i h
theorem small_line {k : Nat} (h : k ≤ 1000) : k ≤ sizeLine := by rw [sizeLine_eq]; omega
theorem six_last (xs : List V) (x : V) : HT.sIx (xs ++ [x]).length (xs ++ [x]).length (some (-1)) = xs.length := by
  unfold HT.sIx
  dsimp only
  rw [if_pos (by decide), List.length_append, List.length_singleton]
  omega
theorem cut_last (xs : List V) (x : V) : cutV (xs ++ [x]) none (some (-1)) = xs := by
  unfold cutV
  rw [HT.sIx_none, six_last, List.drop_zero, Nat.sub_zero]
  simp
theorem cut_not (xs : List V) (x : V) : ¬ (HT.sIx (xs ++ [x]).length 0 none = 0 ∧ HT.sIx (xs ++ [x]).length (xs ++ [x]).length (some (-1)) = (xs ++ [x]).length) := by
  rintro ⟨_, h⟩
  rw [six_last, List.length_append] at h
  simp at h
theorem at_last (xs : List V) (x : V) : atI (xs ++ [x]) (-1) = some x := by
  have e : ixN (xs ++ [x]).length (-1) = some xs.length := by
    unfold ixN
    rw [if_neg (by decide), List.length_append, List.length_singleton, if_pos (by omega)]
    exact congrArg some (by omega)
  unfold atI
  rw [e]
  simp
/-- the rows, but for the last one -/
def IniOk (p : Nat) (ini : List RowD) : Prop := (∀ r ∈ ini, RowOk p r) ∧ ini.length ≤ 3
theorem len_head (b p n : Nat) (hb : b < 26) (hp : p < 26) (hn : n < 26) : (headM (b : Int) (p : Int) (n : Int)).length ≤ 40 := by
  have h1 := num_len b hb
  have h2 := num_len p hp
  have h3 := num_len n hn
  unfold headM
  simp only [Str.length_append]
  have e1 : (Str.ofString "drive ").length = 6 := by decide +kernel
  have e2 : (Str.ofString " blocks ").length = 8 := by decide +kernel
  have e3 : (Str.ofString " pages ").length = 7 := by decide +kernel
  have e4 : (Str.ofString " names").length = 6 := by decide +kernel
  have e5 : Str.empty.length = 0 := by decide +kernel
  rw [e1, e2, e3, e4, e5]
  omega
theorem len_line (r : RowD) (p : Nat) (hp : p < 26) (h : RowOk p r) : (lineM r).length ≤ 40 := by
  obtain ⟨h1, h2, h3⟩ := h
  have e0 : r.1 = ((r.1.toNat : Nat) : Int) := by omega
  have n1 : (numS r.1).length ≤ 2 := by rw [e0]; exact num_len _ (by omega)
  have n2 := word_len r.2 h3
  unfold lineM
  simp only [Str.length_append]
  have e1 : (Str.ofString "at most ").length = 8 := by decide +kernel
  have e2 : (Str.ofString ": ").length = 2 := by decide +kernel
  have e5 : Str.empty.length = 0 := by decide +kernel
  rw [e1, e2, e5]
  omega
theorem len_any (w : Str) (h : w ∈ wordsL) : (anyM w).length ≤ 40 := by
  have n2 := word_len w h
  unfold anyM
  simp only [Str.length_append]
  have e1 : (Str.ofString "any: ").length = 5 := by decide +kernel
  rw [e1]
  omega
theorem empty_app (x : Str) : Str.empty ++ x = x := by
  show (⟨#[] ++ x.cps⟩ : Str) = x
  rw [Array.empty_append]
def spTxt (K : PySem.W.Frag) : Sp := fun vs H Q _ => ∃ (b p n : Nat) (t : Addr) (ini : List RowD) (y : Str), vs = [.int (b : Int), .int (p : Int), .int (n : Int), .ref t] ∧ b < 26 ∧ p < 26 ∧ n < 26 ∧ RowsAt K H t (ini ++ [((p : Int), y)]) ∧ IniOk p ini ∧ y ∈ wordsL ∧
  ∀ H' : Hp, Same H H' → Q (.str (textM (b : Int) (p : Int) (n : Int) ini y)) H'
theorem paired_split {α β : Type} {F : α → β → Prop} : ∀ {l : List α} {m : List β} {y : β}, Paired F l (m ++ [y]) → ∃ l' x, l = l' ++ [x] ∧ Paired F l' m ∧ F x y
  | [], [], y, h => nomatch h
  | [], _ :: _, y, h => nomatch h
  | _ :: _, [], y, .cons r .nil => ⟨[], _, rfl, .nil, r⟩
  | _ :: _, _ :: _, y, .cons r t => by
    obtain ⟨l', x, e, h1, h2⟩ := paired_split t
    exact ⟨_ :: l', x, by rw [e]; rfl, .cons r h1, h2⟩
theorem sum_le (l : List Str) (h : ∀ x ∈ l, x.length ≤ 40) : (l.map (·.length)).sum ≤ l.length * 40 := by
  induction l with
  | nil => exact Nat.le_refl _
  | cons a l ih =>
    have h1 := h a (List.mem_cons_self ..)
    have h2 := ih fun x hx => h x (List.mem_cons_of_mem _ hx)
    rw [List.map_cons, List.sum_cons, List.length_cons]
    omega
theorem lines_len (b p n : Nat) (hb : b < 26) (hp : p < 26) (hn : n < 26) (ini : List RowD) (hi : IniOk p ini) (y : Str) (hy : y ∈ wordsL) : (∀ x ∈ linesM (b : Int) (p : Int) (n : Int) ini y, x.length ≤ 40) ∧ (linesM (b : Int) (p : Int) (n : Int) ini y).length ≤ 5 := by
  unfold linesM
  refine ⟨fun x hx => ?_, ?_⟩
  · rcases List.mem_cons.mp hx with rfl | hx
    · exact len_head b p n hb hp hn
    rcases List.mem_append.mp hx with hx | hx
    · obtain ⟨r, hr, rfl⟩ := List.mem_map.mp hx
      exact len_line r p hp (hi.1 r hr)
    · rw [List.mem_singleton.mp hx]
      exact len_any y hy
  · have := hi.2
    simp
    omega
theorem join_fits (l : List Str) (h : (∀ x ∈ l, x.length ≤ 40) ∧ l.length ≤ 5) : (l.map (·.length)).sum + l.length * (Str.ofString "\n").length ≤ 16777216 := by
  have z := sum_le l h.1
  have e : (Str.ofString "\n").length = 1 := by decide +kernel
  have := h.2
  rw [e]
  omega
end K2

set_option Elab.async false
set_option linter.all false
set_option maxRecDepth 100000
set_option maxHeartbeats 4000000
namespace K2
open PySem PySem.Spec PyProof.Rows L2 G1 G2
theorem js_c {x acc : Str} {ts : List TE} {σ : L2.St} {H : Hp} {Q : Str → Hp → Prop} (h1 : (acc ++ x).length ≤ sizeLine) (h2 : tJs ts (acc ++ x) σ H Q) : tJs (tC (.str x) :: ts) acc σ H Q := ⟨x, rfl, h1, h2⟩
theorem js_i {te : TE} {acc : Str} {ts : List TE} {σ : L2.St} {H : Hp} {Q : Str → Hp → Prop} {i : Int} (ht : ∀ R : VK, R (.int i) H → te σ H R) (h0 : i.natAbs.log2 < 1920) (h1 : (acc ++ numS i).length ≤ sizeLine) (h2 : tJs ts (acc ++ numS i) σ H Q) : tJs (tFmt te :: ts) acc σ H Q :=
  ht _ (.inr ⟨i, rfl, h0, _, rfl, h1, h2⟩)
theorem js_s {te : TE} {acc : Str} {ts : List TE} {σ : L2.St} {H : Hp} {Q : Str → Hp → Prop} {x : Str} (ht : ∀ R : VK, R (.str x) H → te σ H R) (h0 : x.length ≤ sizeLine) (h1 : (acc ++ x).length ≤ sizeLine) (h2 : tJs ts (acc ++ x) σ H Q) : tJs (tFmt te :: ts) acc σ H Q :=
  ht _ (.inl ⟨x, rfl, h0, _, rfl, h1, h2⟩)
theorem js_0 {acc : Str} {σ : L2.St} {H : Hp} {Q : Str → Hp → Prop} (h : Q acc H) : tJs [] acc σ H Q := h
theorem head_read {t1 t2 t3 : TE} {σ : L2.St} {H : Hp} {Q : Str → Hp → Prop} {b p n : Nat} (hb : b < 26) (hp : p < 26) (hn : n < 26) (h1 : ∀ R : VK, R (.int (b : Int)) H → t1 σ H R) (h2 : ∀ R : VK, R (.int (p : Int)) H → t2 σ H R) (h3 : ∀ R : VK, R (.int (n : Int)) H → t3 σ H R)
    (k : Q (headM (b : Int) (p : Int) (n : Int)) H) : tJs [tC (.str (Str.ofString "drive ")), tFmt t1, tC (.str (Str.ofString " blocks ")), tFmt t2, tC (.str (Str.ofString " pages ")), tFmt t3, tC (.str (Str.ofString " names"))] Str.empty σ H Q := by
  have z := len_head b p n hb hp hn
  unfold headM at z
  simp only [Str.length_append] at z
  refine js_c ?_ (js_i h1 (log_small b hb) ?_ (js_c ?_ (js_i h2 (log_small p hp) ?_ (js_c ?_ (js_i h3 (log_small n hn) ?_ (js_c ?_ (js_0 k)))))))
  all_goals
    refine small_line ?_
    simp only [Str.length_append]
    omega
theorem line_read {t1 t2 : TE} {σ : L2.St} {H : Hp} {Q : Str → Hp → Prop} {r : RowD} {p : Nat} (hp : p < 26) (hr : RowOk p r) (h1 : ∀ R : VK, R (.int r.1) H → t1 σ H R) (h2 : ∀ R : VK, R (.str r.2) H → t2 σ H R)
    (k : Q (lineM r) H) : tJs [tC (.str (Str.ofString "at most ")), tFmt t1, tC (.str (Str.ofString ": ")), tFmt t2] Str.empty σ H Q := by
  have z := len_line r p hp hr
  unfold lineM at z
  simp only [Str.length_append] at z
  have hl : r.1.natAbs.log2 < 1920 := by
    obtain ⟨a1, a2, _⟩ := hr
    have e0 : r.1 = ((r.1.toNat : Nat) : Int) := by omega
    rw [e0]
    exact log_small _ (by omega)
  refine js_c ?_ (js_i h1 hl ?_ (js_c ?_ (js_s h2 ?_ ?_ (js_0 k))))
  all_goals
    refine small_line ?_
    (try simp only [Str.length_append])
    omega
theorem any_read {t1 : TE} {σ : L2.St} {H : Hp} {Q : Str → Hp → Prop} {x : Str} (hx : x ∈ wordsL) (h1 : ∀ R : VK, R (.str x) H → t1 σ H R) (k : Q (anyM x) H) : tJs [tC (.str (Str.ofString "any: ")), tFmt t1] Str.empty σ H Q := by
  have z := len_any x hx
  unfold anyM at z
  simp only [Str.length_append] at z
  refine js_c ?_ (js_s h1 ?_ ?_ (js_0 ?_))
  · rw [empty_app]; exact small_line (by omega)
  · exact small_line (by omega)
  · rw [empty_app]; simp only [Str.length_append]; exact small_line (by omega)
  · rw [empty_app]; exact k
section
variable {P : Program} {w : World} {K : PySem.W.Frag} {mg : Str → Option Value} {base : Heap}
theorem ok_txt {f : Addr} {fd : FuncData} (F : Fun K "text_of" "text_of" sTxt f fd) (B : Bl mg) : FnOk P w K mg base CX0 1 f fd ["blocks", "pages", "names", "rows"] (spTxt K) := by
  refine F.ok scTxt (fun vs H Q E h => ?_) (fun cdv A outer s H vs Q E hr h => ?_)
  · obtain ⟨b, p, n, t, ini, y, rfl, _⟩ := h
    rfl
  obtain ⟨b, p, n, t, ini, y, rfl, hb, hp, hn, ⟨rs0, hT0, hP0⟩, hini, hy, k⟩ := h
  obtain ⟨rs, rl, rfl, hP, hl⟩ := paired_split hP0
  have hT : SqT K H t (rs.map V.ref ++ [V.ref rl]) := by
    have e : (rs ++ [rl]).map V.ref = rs.map V.ref ++ [V.ref rl] := by simp
    rwa [e] at hT0
  refine ⟨_, pss_cons (ps_set (i := 4) scTxt.nd rfl (.inl rfl) (pe_lst (pa_cons (pe_joined (.cons pe_str (.cons (pe_fmt (pv 0)) (.cons pe_str (.cons (pe_fmt (pv 1)) (.cons pe_str (.cons (pe_fmt (pv 2)) (.cons pe_str .nil)))))))) pa_nil)))
    (pss_cons (ps_for PassesOwn.never rfl (pi_tup (pe_slice sl_tup (pv 3) po_none (po_some (pe_un un_neg pe_int)))) (pg_tup rfl (pgs_cons (pg_name (i := 5) scTxt.nd rfl (.inl rfl)) (pgs_cons (pg_name (i := 6) scTxt.nd rfl (.inl rfl)) pgs_nil)))
      (pss_one (ps_expr (pe_bm PySem.F.plainAttrs_list PySem.F.slot_list_append PySem.F.type_list_append mt_append (pv 4) (pa_cons (pe_joined (.cons pe_str (.cons (pe_fmt (pv 5)) (.cons pe_str (.cons (pe_fmt (pv 6)) .nil))))) pa_nil)))))
    (pss_cons (ps_expr (pe_bm PySem.F.plainAttrs_list PySem.F.slot_list_append PySem.F.type_list_append mt_append (pv 4) (pa_cons (pe_joined (.cons pe_str (.cons (pe_fmt (pe_ix ix_tup (pe_ix ix_tup (pv 3) (pe_un un_neg pe_int) (fun _ _ => rfl)) pe_int (fun _ _ => rfl))) .nil))) pa_nil)))
    (pss_one (ps_ret (pe_join pe_str (pv 4)))))), ?_⟩
  refine seq_asg (lst_read (cons_read ?_))
  refine head_read hb hp hn (fun R q => ⟨_, rfl, q⟩) (fun R q => ⟨_, rfl, q⟩) (fun R q => ⟨_, rfl, q⟩) ?_
  refine nil_read ⟨by show 1 ≤ sizeLine; decide, fun l nl => ?_⟩
  refine seq_for fun D' hD1 hD2 => ?_
  have s1 : Same H (upd H l (.lst [.str (headM (b : Int) (p : Int) (n : Int))])) := same_lay nl
  refine ⟨_, rfl, _, rfl, _, rfl, t, _, rfl, K2.Same.tup s1 hT, cut_not _ _, fun u nu => ?_⟩
  rw [show (-(1 : Int)) = -1 from rfl, cut_last]
  have hu : (upd (upd H l (.lst [.str (headM (b : Int) (p : Int) (n : Int))])) u (.tup (rs.map V.ref))) u = some (.tup (rs.map V.ref)) := upd_same
  refine ⟨u, rfl, ⟨_, SqT.of hu⟩, ?_⟩
  have nul : u ≠ l := fun z => by rw [z, upd_same] at nu; cases nu
  refine for_tup (K := K) (xs := rs.map V.ref) (fun i σ H' => ∃ x5 x6, σ = [some (.int (b : Int)), some (.int (p : Int)), some (.int (n : Int)), some (.ref t), some (.ref l), x5, x6] ∧ Same H H' ∧ H' u = some (.tup (rs.map V.ref)) ∧
      H' l = some (.lst ((headM (b : Int) (p : Int) (n : Int) :: (ini.take i).map lineM).map V.str))) ⟨none, none, rfl, s1.trans (same_lay nu), hu, ?_⟩ (fun i σ H' _ q => ?_) ?_ ?_
  · rw [upd_ne (Ne.symm nul), upd_same]; rfl
  · obtain ⟨_, _, _, _, q, _⟩ := q
    exact SqT.of q
  · rintro i x σ H' hi ⟨x5, x6, rfl, s2, q1, q2⟩
    rw [List.getElem?_map] at hi
    obtain ⟨a, ha, rfl⟩ : ∃ a, rs[i]? = some a ∧ V.ref a = x := by
      cases hq : rs[i]? with
      | none => rw [hq] at hi; cases hi
      | some a => rw [hq] at hi; exact ⟨a, rfl, Option.some.inj hi⟩
    obtain ⟨r, hr1, hr2⟩ := paired_get hP ha
    have hrok : RowOk p r := hini.1 r (List.mem_of_getElem? hr1)
    refine ⟨a, _, rfl, K2.Same.tup s2 hr2, rfl, _, _, rfl, _, _, rfl, rfl, ?_⟩
    refine ⟨_, rfl, .inl ⟨rfl, _, SqL.of q2⟩, ?_⟩
    refine line_read hp hrok (fun R q => ⟨_, rfl, q⟩) (fun R q => ⟨_, rfl, q⟩) ?_
    refine ⟨l, _, _, rfl, rfl, q2, ?_, _, _, rfl, fun b o e => ?_, ?_, ?_⟩
    · rw [List.length_map, List.length_cons, List.length_map, List.length_take, sizeLine_eq]
      have := hini.2
      omega
    · rw [upd_ne (ne_of_none e nl)]; exact s2 _ _ e
    · rw [upd_ne nul]; exact q1
    · rw [upd_same, List.take_add_one, hr1]
      simp
  · rintro σ H' ⟨x5, x6, rfl, s2, q1, q2⟩
    rw [hD1]
    have el : (rs.map V.ref).length = ini.length := by rw [List.length_map]; exact Paired.length hP
    rw [el, List.take_length] at q2
    refine ⟨_, rfl, .inl ⟨rfl, _, SqL.of q2⟩, ?_⟩
    refine any_read hy (fun R q => ⟨_, rfl, _, rfl, t, _, _, .ref rl, rfl, rfl, K2.Same.tup s2 hT, at_last _ _, rl, _, _, .str y, rfl, rfl, K2.Same.tup s2 hl, rfl, q⟩) ?_
    refine ⟨l, _, _, rfl, rfl, q2, ?_, ?_⟩
    · rw [List.length_map, List.length_cons, List.length_map, sizeLine_eq]
      have := hini.2
      omega
    have q3 : (upd H' l (.lst ((headM (b : Int) (p : Int) (n : Int) :: ini.map lineM).map V.str ++ [.str (anyM y)]))) l = some (.lst ((linesM (b : Int) (p : Int) (n : Int) ini y).map V.str)) := by
      rw [upd_same]
      unfold linesM
      simp
    refine ⟨⟨_, rfl⟩, _, rfl, _, l, linesM (b : Int) (p : Int) (n : Int) ini y, rfl, rfl, .inl (SqL.of q3), join_fits _ (lines_len b p n hb hp hn ini hini y hy), k _ fun c o e => ?_⟩
    rw [upd_ne (ne_of_none e nl)]; exact s2 _ _ e
end
end K2

set_option Elab.async false
set_option linter.all false
set_option maxRecDepth 100000
set_option maxHeartbeats 4000000
namespace K2
open PySem PySem.Spec PyProof.Rows L2 G1 G2
abbrev sDrv : Stmt := topS 46
abbrev sIni : Stmt := inClass sDrv 0
theorem scIni : FnScope ["self", "blocks", "pages", "names", "rows"] ["self", "blocks", "pages", "names", "rows"] (defScope sIni) := ⟨rfl, rfl, rfl, by decide +kernel, rfl, by decide +kernel, by decide +kernel⟩
/-- what the written part says of the class -/
structure DCls (K : PySem.W.Frag) (C : Addr) : Prop where
  cl : Cls K C
  nb : NoAttr K C "kept_blocks"
  np : NoAttr K C "kept_pages"
  nn : NoAttr K C "kept_names"
  nr : NoAttr K C "kept_rows"
  nt : NoAttr K C "kept_text"
def drvF (b p n : Nat) (t : Addr) (x : Str) : List (Str × V) := [("kept_blocks", .int (b : Int)), ("kept_pages", .int (p : Int)), ("kept_names", .int (n : Int)), ("kept_rows", .ref t), ("kept_text", .str x)]
def Keep (x : Addr) (H H' : Hp) : Prop := ∀ a o, H a = some o → a ≠ x → H' a = some o
theorem Keep.tup {K : PySem.W.Frag} {x a C dx : Addr} {H H' : Hp} {fs : List (Str × V)} {xs : List V} (k : Keep x H H') (hx : H x = some (.ins C dx fs)) (h : SqT K H a xs) : SqT K H' a xs := by
  rcases h with (h | ⟨o, h⟩) | h
  · exact .inl (.inl (k _ _ h (ne_of h hx (by intro z; cases z))))
  · exact .inl (.inr ⟨o, k _ _ h (ne_of h hx (by intro z; cases z))⟩)
  · exact .inr h
theorem Keep.rows {K : PySem.W.Frag} {x t C dx : Addr} {H H' : Hp} {fs : List (Str × V)} {rows : List RowD} (k : Keep x H H') (hx : H x = some (.ins C dx fs)) (h : RowsAt K H t rows) : RowsAt K H' t rows := by
  obtain ⟨rs, h1, h2⟩ := h
  exact ⟨rs, k.tup hx h1, Paired.mapP h2 fun _ _ z => k.tup hx z⟩
theorem Keep.refl (x : Addr) (H : Hp) : Keep x H H := fun _ _ h _ => h
theorem Keep.trans {x : Addr} {H H1 H2 : Hp} (a : Keep x H H1) (b : Keep x H1 H2) : Keep x H H2 := fun c o h n => b c o (a c o h n) n
theorem Keep.of {x : Addr} {H H' : Hp} (s : Same H H') : Keep x H H' := fun a o h _ => s a o h
theorem Keep.upd (x : Addr) (H : Hp) (o : HO) : Keep x H (L2.upd H x o) := fun a u h n => by rw [upd_ne n]; exact h
/-- what a drive is made of -/
structure DP (b p n : Nat) (ini : List RowD) (y : Str) : Prop where
  sz : Sz b p n
  few : cntM b p n ≤ 2000
  ini : IniOk p ini
  y : y ∈ wordsL
def spIni (K : PySem.W.Frag) (C : Addr) : Sp := fun vs H Q _ => ∃ (x dx t : Addr) (b p n : Nat) (ini : List RowD) (y : Str), vs = [.ref x, .int (b : Int), .int (p : Int), .int (n : Int), .ref t] ∧ H x = some (.ins C dx []) ∧ DP b p n ini y ∧ RowsAt K H t (ini ++ [((p : Int), y)]) ∧
  ∀ H' : Hp, Keep x H H' → H' x = some (.ins C dx (drvF b p n t (textM (b : Int) (p : Int) (n : Int) ini y))) → Q .non H'
/-- the defs that a drive is made with -/
structure Base (P : Program) (w : World) (K : PySem.W.Frag) (mg : Str → Option Value) (base : Heap) (fZ fR fT fC : Addr) (dZ dR dT dC : FuncData) : Prop where
  Z : FnOk P w K mg base CX0 3 fZ dZ ["blocks", "pages", "names"] spSiz
  kZ : PySem.W.keepIn K (.ref fZ) = true
  bZ : Binds K dZ ["blocks", "pages", "names"] []
  gZ : mg "check_sizes" = some (.ref fZ)
  R : FnOk P w K mg base CX0 4 fR dR ["rows", "pages"] (spChk K)
  kR : PySem.W.keepIn K (.ref fR) = true
  bR : Binds K dR ["rows", "pages"] []
  gR : mg "check_rows" = some (.ref fR)
  T : FnOk P w K mg base CX0 1 fT dT ["blocks", "pages", "names", "rows"] (spTxt K)
  kT : PySem.W.keepIn K (.ref fT) = true
  bT : Binds K dT ["blocks", "pages", "names", "rows"] []
  gT : mg "text_of" = some (.ref fT)
  C : FnOk P w K mg base CX0 2 fC dC ["blocks", "pages", "names"] spCnt
  kC : PySem.W.keepIn K (.ref fC) = true
  bC : Binds K dC ["blocks", "pages", "names"] []
  gC : mg "count_stands" = some (.ref fC)
theorem rows_ok {p : Nat} {ini : List RowD} {y : Str} (h : IniOk p ini) (hy : y ∈ wordsL) : (∀ r ∈ ini ++ [((p : Int), y)], RowOk p r) ∧ (ini ++ [((p : Int), y)]).length ≤ 4 := by
  refine ⟨fun r hr => ?_, ?_⟩
  · rcases List.mem_append.mp hr with hr | hr
    · exact h.1 r hr
    · rw [List.mem_singleton.mp hr]
      exact ⟨by omega, by omega, hy⟩
  · rw [List.length_append]
    have := h.2
    simp
    omega
section
variable {P : Program} {w : World} {K : PySem.W.Frag} {mg : Str → Option Value} {base : Heap}
theorem ok_ini {f C fZ fR fT fC : Addr} {fd dZ dR dT dC : FuncData} (F : Fun K "__init__" "Drive.__init__" sIni f fd) (T : DCls K C) (Cm : Cn mg) (G : Base P w K mg base fZ fR fT fC dZ dR dT dC) :
    FnOk P w K mg base CX0 5 f fd ["self", "blocks", "pages", "names", "rows"] (spIni K C) := by
  refine F.ok scIni (fun vs H Q E h => ?_) (fun cdv A outer s H vs Q E hr h => ?_)
  · obtain ⟨x, dx, t, b, p, n, ini, y, rfl, _⟩ := h
    rfl
  obtain ⟨x, dx, t, b, p, n, ini, y, rfl, hx, ⟨hz, hfew, hini, hy⟩, hR, k⟩ := h
  obtain ⟨tm, cm⟩ := Cm.ms
  have hr1 : Room 1 _ := hr.mono (by decide)
  have hr2 : Room 2 _ := hr.mono (by decide)
  have hr3 : Room 3 _ := hr.mono (by decide)
  refine ⟨_, pss_cons (ps_expr (pe_call G.Z hr3 (by rfl) G.gZ G.kZ G.bZ .nil pass0 (pa_cons (pv 1) (pa_cons (pv 2) (pa_cons (pv 3) pa_nil)))))
    (pss_cons (ps_expr (pe_call G.R hr (by rfl) G.gR G.kR G.bR .nil pass0 (pa_cons (pv 4) (pa_cons (pv 2) pa_nil))))
    (pss_cons (ps_fld (pv 0) (pv 1) rfl) (pss_cons (ps_fld (pv 0) (pv 2) rfl) (pss_cons (ps_fld (pv 0) (pv 3) rfl) (pss_cons (ps_fld (pv 0) (pv 4) rfl)
    (pss_cons (ps_fld (pv 0) (pe_call G.T hr1 (by rfl) G.gT G.kT G.bT .nil pass0 (pa_cons (pv 1) (pa_cons (pv 2) (pa_cons (pv 3) (pa_cons (pv 4) pa_nil))))) rfl)
    (pss_one (ps_if (pt_cmpR op_gt (pe_call G.C hr2 (by rfl) G.gC G.kC G.bC .nil pass0 (pa_cons (pv 1) (pa_cons (pv 2) (pa_cons (pv 3) pa_nil)))) (pe_glob (v := .int 2000) rfl cm ⟨_, rfl⟩) (nomark _)) (pss_one ps_never) pss_nil)))))))), ?_⟩
  refine ⟨_, rfl, _, rfl, _, rfl, b, p, n, rfl, hz, ?_⟩
  refine ⟨_, rfl, _, rfl, t, p, _, rfl, hR, (rows_ok hini hy).1, (rows_ok hini hy).2, ⟨ini, y, rfl⟩, fun H1 s1 => ?_⟩
  have hx1 := s1 _ _ hx
  refine ⟨_, rfl, _, rfl, x, C, dx, _, rfl, hx1, T.cl, T.nb, by decide, ?_⟩
  refine ⟨_, rfl, _, rfl, x, C, dx, _, rfl, upd_same, T.cl, T.np, by show 1 < 1000; decide, ?_⟩
  rw [upd_upd]
  refine ⟨_, rfl, _, rfl, x, C, dx, _, rfl, upd_same, T.cl, T.nn, by show 2 < 1000; decide, ?_⟩
  rw [upd_upd]
  refine ⟨_, rfl, _, rfl, x, C, dx, _, rfl, upd_same, T.cl, T.nr, by show 3 < 1000; decide, ?_⟩
  rw [upd_upd]
  have k1 := Keep.upd x H1 (.ins C dx [("kept_blocks", .int (b : Int)), ("kept_pages", .int (p : Int)), ("kept_names", .int (n : Int)), ("kept_rows", .ref t)])
  have e1 : (upd H1 x (.ins C dx [("kept_blocks", .int (b : Int)), ("kept_pages", .int (p : Int)), ("kept_names", .int (n : Int)), ("kept_rows", .ref t)])) x = some (.ins C dx [("kept_blocks", .int (b : Int)), ("kept_pages", .int (p : Int)), ("kept_names", .int (n : Int)), ("kept_rows", .ref t)]) := upd_same
  show tSeq _ _ _ _ (upd H1 x (.ins C dx [("kept_blocks", .int (b : Int)), ("kept_pages", .int (p : Int)), ("kept_names", .int (n : Int)), ("kept_rows", .ref t)]))
  generalize upd H1 x (.ins C dx [("kept_blocks", .int (b : Int)), ("kept_pages", .int (p : Int)), ("kept_names", .int (n : Int)), ("kept_rows", .ref t)]) = H2 at k1 e1 ⊢
  have kA : Keep x H H2 := (Keep.of s1).trans k1
  have n25 := hz.n25
  have hp1 := hz.p1
  have hb1 := hz.b1
  refine ⟨_, rfl, _, rfl, _, rfl, _, rfl, b, p, n, t, ini, y, rfl, by omega, by omega, n25, kA.rows hx hR, hini, hy, fun H3 s3 => ?_⟩
  refine ⟨_, rfl, x, C, dx, _, rfl, s3 _ _ e1, T.cl, T.nt, by show 4 < 1000; decide, ?_⟩
  have hb0 := hz.b0
  have hn0 := hz.n0
  refine ⟨_, rfl, _, rfl, _, rfl, b, p, n, rfl, by omega, hn0, n25, by omega, by omega, fun H4 s4 => ?_⟩
  refine ⟨_, _, rfl, rfl, _, rfl, ?_⟩
  have z : decide ((2000 : Int) < cntM b p n) = false := decide_eq_false (by omega)
  show (if decide ((2000 : Int) < cntM b p n) = true then _ else _)
  rw [z]
  refine iteF (k H4 ?_ ?_)
  · exact kA.trans ((Keep.of s3).trans ((Keep.upd x H3 _).trans (Keep.of s4)))
  · exact s4 _ _ upd_same
end
end K2

set_option Elab.async false
set_option linter.all false
set_option maxRecDepth 100000
set_option maxHeartbeats 4000000
namespace K2
open PySem PySem.Spec PyProof.Rows L2 G1 G2
def DrvAt (K : PySem.W.Frag) (C : Addr) (H : Hp) (x : Addr) (b p n : Nat) (ini : List RowD) (y : Str) : Prop := ∃ dx t, H x = some (.ins C dx (drvF b p n t (textM (b : Int) (p : Int) (n : Int) ini y))) ∧ RowsAt K H t (ini ++ [((p : Int), y)])
theorem DrvAt.same {K : PySem.W.Frag} {C x : Addr} {H H' : Hp} {b p n : Nat} {ini : List RowD} {y : Str} (h : DrvAt K C H x b p n ini y) (s : Same H H') : DrvAt K C H' x b p n ini y := by
  obtain ⟨dx, t, h1, h2⟩ := h
  exact ⟨dx, t, s _ _ h1, h2.same s⟩
/-- what follows the making of a drive -/
def Made (K : PySem.W.Frag) (C : Addr) (H : Hp) (Q : VK) (b p n : Nat) (ini : List RowD) (y : Str) : Prop := ∀ (H' : Hp) (x : Addr), Same H H' → H x = none → DrvAt K C H' x b p n ini y → Q (.ref x) H'
theorem make_read {K : PySem.W.Frag} {C : Addr} {H : Hp} {Q : VK} {E : XK} {b p n : Nat} {ini : List RowD} {y : Str} {t : Addr} (d : DP b p n ini y) (hR : RowsAt K H t (ini ++ [((p : Int), y)])) (k : Made K C H Q b p n ini y) :
    ∀ x dx, H x = none → H dx = none → dx ≠ x → spIni K C (.ref x :: ([.int (b : Int), .int (p : Int), .int (n : Int), .ref t] ++ [])) (upd (upd H dx (.own x)) x (.ins C dx [])) (fun v H2 => v = .non ∧ Q (.ref x) H2) E := by
  intro x dx nx nd ne
  have sm : Same H (upd (upd H dx (.own x)) x (.ins C dx [])) := fun c o e => by rw [upd_ne (ne_of_none e nx), upd_ne (ne_of_none e nd)]; exact e
  refine ⟨x, dx, t, b, p, n, ini, y, rfl, upd_same, d, hR.same sm, fun H' kp e => ⟨rfl, ?_⟩⟩
  have sm2 : Same H H' := fun c o e => kp c o (sm c o e) (ne_of_none e nx)
  exact k H' x sm2 nx ⟨dx, t, e, hR.same sm2⟩
/-- isinstance(.., Drive) -/
structure DKit (K : PySem.W.Frag) (C : Addr) : Prop where
  own : PySem.W.kitOne K (.ref C) (.ref C) = some true
  non : PySem.W.kitOne K (.type "NoneType") (.ref C) = some false
  bl : PySem.W.kitOne K (.type "bool") (.ref C) = some false
  int : PySem.W.kitOne K (.type "int") (.ref C) = some false
  str : PySem.W.kitOne K (.type "str") (.ref C) = some false
  tup : PySem.W.kitOne K (.type "tuple") (.ref C) = some false
  lst : PySem.W.kitOne K (.type "list") (.ref C) = some false
  ha : PySem.W.findIn K (.ref C) "__class__" = some (some (.builtin "object.__class__"))
  hn : PySem.W.specialIn K (.builtin "object.__class__") "__get__" = some (some (.builtin "getset_descriptor.__get__"))
  htk : PySem.W.takesIn K (.builtin "object.__class__") = some true
  hm : PySem.W.mroIn K C (.type "object") = some true
theorem paired_snoc {α β : Type} {F : α → β → Prop} : ∀ {l : List α} {m : List β} {a : α} {b : β}, Paired F l m → F a b → Paired F (l ++ [a]) (m ++ [b])
  | _, _, _, _, .nil, h => .cons h .nil
  | _, _, _, _, .cons r t, h => .cons r (paired_snoc t h)
end K2

set_option Elab.async false
set_option linter.all false
set_option maxRecDepth 100000
set_option maxHeartbeats 4000000
namespace K2
open PySem PySem.Spec PyProof.Rows L2 G1 G2
abbrev sShp : Stmt := topS 74
abbrev sTab : Stmt := topS 75
theorem scShp : FnScope ["_law_pool_here", "_law_many", "_law_size", "_law_room"] ["_law_pool_here"] (defScope sShp) := ⟨rfl, rfl, rfl, by decide +kernel, rfl, by decide +kernel, by decide +kernel⟩
theorem scTab : FnScope ["_law_pool_here", "_law_size", "_law_tones", "_law_some", "_law_k"] ["_law_pool_here", "_law_size"] (defScope sTab) := ⟨rfl, rfl, rfl, by decide +kernel, rfl, by decide +kernel, by decide +kernel⟩
/-- the pool at p, and nothing else of what was there, has changed -/
def Stp (p : Addr) (H H' : Hp) : Prop := (∃ i j n : Int, H' p = some (.lst [.int i, .int j, .int n]) ∧ 0 ≤ i ∧ i < 2 ^ 31) ∧ ∀ b o, b ≠ p → H b = some o → H' b = some o
def PoolAt (H : Hp) (p : Addr) : Prop := ∃ i j n : Int, H p = some (.lst [.int i, .int j, .int n]) ∧ 0 ≤ i ∧ i < 2 ^ 31
theorem Stp.trans {p : Addr} {H H1 H2 : Hp} (a : Stp p H H1) (b : Stp p H1 H2) : Stp p H H2 := ⟨b.1, fun c o n e => b.2 c o n (a.2 c o n e)⟩
theorem Stp.upd {p : Addr} {H : Hp} {i j n : Int} (h0 : 0 ≤ i) (h1 : i < 2 ^ 31) : Stp p H (L2.upd H p (.lst [.int i, .int j, .int n])) := ⟨⟨i, j, n, upd_same, h0, h1⟩, fun b o hb e => by rw [upd_ne hb]; exact e⟩
theorem Stp.of {p : Addr} {H H' : Hp} (hp : PoolAt H p) (s : Same H H') : Stp p H H' := by
  obtain ⟨i, j, n, e, h0, h1⟩ := hp
  exact ⟨⟨i, j, n, s _ _ e, h0, h1⟩, fun b o _ z => s _ _ z⟩
theorem Stp.tup {K : PySem.W.Frag} {p a : Addr} {H H' : Hp} {xs : List V} (s : Stp p H H') (hp : PoolAt H p) (h : SqT K H a xs) : SqT K H' a xs := by
  obtain ⟨i, j, n, e, _⟩ := hp
  rcases h with (h | ⟨o, h⟩) | h
  · exact .inl (.inl (s.2 _ _ (ne_of h e (by intro z; cases z)) h))
  · exact .inl (.inr ⟨o, s.2 _ _ (ne_of h e (by intro z; cases z)) h⟩)
  · exact .inr h
theorem Stp.rows {K : PySem.W.Frag} {p t : Addr} {H H' : Hp} {rows : List RowD} (s : Stp p H H') (hp : PoolAt H p) (h : RowsAt K H t rows) : RowsAt K H' t rows := by
  obtain ⟨rs, h1, h2⟩ := h
  exact ⟨rs, s.tup hp h1, Paired.mapP h2 fun _ _ z => s.tup hp z⟩
theorem draw_read {H : Hp} {Q : VK} {E : XK} {p : Addr} {m : Int} (hp : PoolAt H p) (m0 : 0 < m) (m1 : m < 2 ^ 60) (k : ∀ (H' : Hp) (r : Int), Stp p H H' → 0 ≤ r → r < m → Q (.int r) H') : spDraw [.ref p, .int m] H Q E := by
  obtain ⟨i, j, n, e, h0, h1⟩ := hp
  exact ⟨p, m, i, j, n, rfl, e, h0, h1, m0, m1, fun i' j' n' r a0 a1 r0 r1 => k _ r (Stp.upd a0 a1) r0 r1⟩
theorem draw_c {σ : L2.St} {H : Hp} {Q : VK} {p : Addr} {i : Nat} {m : Int} (hσ : σ[i]? = some (some (.ref p))) (hp : PoolAt H p) (m0 : 0 < m) (m1 : m < 2 ^ 60) (k : ∀ (H' : Hp) (r : Int), Stp p H H' → 0 ≤ r → r < m → Q (.int r) H') :
    tCall spDraw [] E0 (tCons (tVar i) (tCons (tC (.int m)) tNil)) σ H Q := ⟨_, hσ, draw_read (E := E0) (m := m) hp m0 m1 k⟩
theorem draw_v {σ : L2.St} {H : Hp} {Q : VK} {p : Addr} {i j : Nat} {m : Int} (hσ : σ[i]? = some (some (.ref p))) (hj : σ[j]? = some (some (.int m))) (hp : PoolAt H p) (m0 : 0 < m) (m1 : m < 2 ^ 60) (k : ∀ (H' : Hp) (r : Int), Stp p H H' → 0 ≤ r → r < m → Q (.int r) H') :
    tCall spDraw [] E0 (tCons (tVar i) (tCons (tVar j) tNil)) σ H Q := ⟨_, hσ, _, hj, draw_read (E := E0) (m := m) hp m0 m1 k⟩
theorem draw_t {σ : L2.St} {H : Hp} {Q : VK} {p : Addr} {i : Nat} {m : Int} {te : TE} (hσ : σ[i]? = some (some (.ref p))) (ht : ∀ R : VK, R (.int m) H → te σ H R) (hp : PoolAt H p) (m0 : 0 < m) (m1 : m < 2 ^ 60) (k : ∀ (H' : Hp) (r : Int), Stp p H H' → 0 ≤ r → r < m → Q (.int r) H') :
    tCall spDraw [] E0 (tCons (tVar i) (tCons te tNil)) σ H Q := ⟨_, hσ, ht _ (draw_read (E := E0) (m := m) hp m0 m1 k)⟩
/-! ### displays of pairs -/
def tPair (q : Int × Int) : TE := tTup (tCons (tC (.int q.1)) (tCons (tC (.int q.2)) tNil))
def taPairs : List (Int × Int) → TA
  | [] => tNil
  | q :: l => tCons (tPair q) (taPairs l)
theorem pairs_read {σ : L2.St} : ∀ (l : List (Int × Int)) (H : Hp) (Q : List V → Hp → Prop), (∀ (H' : Hp) (as : List Addr), Same H H' → Paired (fun (a : Addr) (q : Int × Int) => H' a = some (.tup [.int q.1, .int q.2])) as l → Q (as.map V.ref) H') → taPairs l σ H Q
  | [], H, Q, k => k H [] (Same.refl H) .nil
  | q :: l, H, Q, k => by
    refine cons_read (tup_read (cons_read (c_read (cons_read (c_read (nil_read ⟨by show 2 ≤ sizeLine; decide, fun a na => ?_⟩))))))
    refine pairs_read l _ _ fun H' as s h => ?_
    refine k H' (a :: as) ((same_lay na).trans s) (.cons (s _ _ upd_same) h)
def shapesL : List (Int × Int) := [(3, 2), (3, 3), (4, 2), (3, 4), (4, 3), (3, 5), (5, 2), (4, 2)]
/-- a shape that the law draws -/
def Shp (b p n : Nat) : Prop := (b, p) ∈ [(3, 2), (3, 3), (3, 4), (3, 5), (4, 2), (4, 3), (5, 2)] ∧ 1 ≤ n ∧ n ≤ p * (b - 1)
theorem Shp.sz {b p n : Nat} (h : Shp b p n) : Sz b p n := by
  obtain ⟨h1, h2, h3⟩ := h
  simp only [List.mem_cons, List.mem_nil_iff, or_false, Prod.mk.injEq] at h1
  rcases h1 with ⟨rfl, rfl⟩ | ⟨rfl, rfl⟩ | ⟨rfl, rfl⟩ | ⟨rfl, rfl⟩ | ⟨rfl, rfl⟩ | ⟨rfl, rfl⟩ | ⟨rfl, rfl⟩ <;> exact ⟨by omega, by omega, by omega, by omega, h2, h3⟩
theorem Shp.few {b p n : Nat} (h : Shp b p n) : cntM b p n ≤ 2000 := by
  obtain ⟨h1, h2, h3⟩ := h
  refine cnt_small (b, p) h1 n ?_
  simp only [List.mem_cons, List.mem_nil_iff, or_false, Prod.mk.injEq] at h1
  rcases h1 with ⟨rfl, rfl⟩ | ⟨rfl, rfl⟩ | ⟨rfl, rfl⟩ | ⟨rfl, rfl⟩ | ⟨rfl, rfl⟩ | ⟨rfl, rfl⟩ | ⟨rfl, rfl⟩ <;> omega
theorem shape_at : ∀ q ∈ shapesL, ∃ b p : Nat, q = ((b : Int), (p : Int)) ∧ (b, p) ∈ [(3, 2), (3, 3), (3, 4), (3, 5), (4, 2), (4, 3), (5, 2)] := by
  intro q hq
  simp only [shapesL, List.mem_cons, List.mem_nil_iff, or_false] at hq
  rcases hq with rfl | rfl | rfl | rfl | rfl | rfl | rfl | rfl
  · exact ⟨3, 2, rfl, by decide⟩
  · exact ⟨3, 3, rfl, by decide⟩
  · exact ⟨4, 2, rfl, by decide⟩
  · exact ⟨3, 4, rfl, by decide⟩
  · exact ⟨4, 3, rfl, by decide⟩
  · exact ⟨3, 5, rfl, by decide⟩
  · exact ⟨5, 2, rfl, by decide⟩
  · exact ⟨4, 2, rfl, by decide⟩
def spShp (K : PySem.W.Frag) : Sp := fun vs H Q _ => ∃ pl : Addr, vs = [.ref pl] ∧ PoolAt H pl ∧ ∀ (H' : Hp) (q : Addr) (b p n : Nat), Stp pl H H' → Shp b p n → H' q = some (.tup [.int (b : Int), .int (p : Int), .int (n : Int)]) → Q (.ref q) H'
section
variable {P : Program} {w : World} {K : PySem.W.Frag} {mg : Str → Option Value} {base : Heap}
theorem ok_shp {f fD : Addr} {fd fdD : FuncData} (F : Fun K "_law_shape" "_law_shape" sShp f fd) (GD : FnOk P w K mg base CX0 1 fD fdD ["_law_pool_here", "_law_many"] spDraw) (kD : PySem.W.keepIn K (.ref fD) = true) (bD : Binds K fdD ["_law_pool_here", "_law_many"] [])
    (gD : mg "_law_draw" = some (.ref fD)) : FnOk P w K mg base CX0 2 f fd ["_law_pool_here"] (spShp K) := by
  refine F.ok scShp (fun vs H Q E h => ?_) (fun cdv A outer s H vs Q E hr h => ?_)
  · obtain ⟨pl, rfl, _⟩ := h
    rfl
  obtain ⟨pl, rfl, hp, k⟩ := h
  refine ⟨_, pss_cons (ps_asg (pe_ix ix_list (pe_lst (pa_cons (pe_tup (pa_cons pe_int (pa_cons pe_int pa_nil))) (pa_cons (pe_tup (pa_cons pe_int (pa_cons pe_int pa_nil))) (pa_cons (pe_tup (pa_cons pe_int (pa_cons pe_int pa_nil))) (pa_cons (pe_tup (pa_cons pe_int (pa_cons pe_int pa_nil)))
      (pa_cons (pe_tup (pa_cons pe_int (pa_cons pe_int pa_nil))) (pa_cons (pe_tup (pa_cons pe_int (pa_cons pe_int pa_nil))) (pa_cons (pe_tup (pa_cons pe_int (pa_cons pe_int pa_nil))) (pa_cons (pe_tup (pa_cons pe_int (pa_cons pe_int pa_nil))) pa_nil)))))))))
      (pe_call GD hr (by rfl) gD kD bD .nil pass0 (pa_cons (pv 0) (pa_cons pe_int pa_nil))) (fun _ _ => rfl)) (pg_tup rfl (pgs_cons (pg_name (i := 1) scShp.nd rfl (.inl rfl)) (pgs_cons (pg_name (i := 2) scShp.nd rfl (.inl rfl)) pgs_nil))))
    (pss_cons (ps_set (i := 3) scShp.nd rfl (.inl rfl) (pe_op op_mul (pv 2) (pe_op op_sub (pv 1) pe_int)))
    (pss_cons (ps_if (pt_cmpR op_eq (pe_call GD hr (by rfl) gD kD bD .nil pass0 (pa_cons (pv 0) (pa_cons pe_int pa_nil))) pe_int (nomark _)) (pss_one (ps_ret (pe_tup (pa_cons (pv 1) (pa_cons (pv 2) (pa_cons (pv 3) pa_nil)))))) pss_nil)
    (pss_one (ps_ret (pe_tup (pa_cons (pv 1) (pa_cons (pv 2) (pa_cons (pe_op op_add pe_int (pe_call GD hr (by rfl) gD kD bD .nil pass0 (pa_cons (pv 0) (pa_cons (pv 3) pa_nil)))) pa_nil)))))))), ?_⟩
  refine seq_asg (op_read (lst_read ?_))
  refine pairs_read shapesL H _ fun H1 as s1 hP => ⟨by rw [List.length_map, Paired.length hP, sizeLine_eq]; decide, fun l nl => ?_⟩
  have s2 : Same H1 (upd H1 l (.lst (as.map V.ref))) := same_lay nl
  have S2 : Stp pl H (upd H1 l (.lst (as.map V.ref))) := Stp.of hp (s1.trans s2)
  have hl : (upd H1 l (.lst (as.map V.ref))) l = some (.lst (as.map V.ref)) := upd_same
  have hP2 : Paired (fun (a : Addr) (q : Int × Int) => (upd H1 l (.lst (as.map V.ref))) a = some (.tup [.int q.1, .int q.2])) as shapesL := Paired.mapP hP fun _ _ z => s2 _ _ z
  have npl : l ≠ pl := by
    obtain ⟨i, j, n, e, _⟩ := hp
    exact fun z => by rw [z] at nl; rw [s1 _ _ e] at nl; cases nl
  generalize upd H1 l (.lst (as.map V.ref)) = H2 at s2 S2 hl hP2 ⊢
  refine draw_c (p := pl) rfl S2.1 (by decide) (by decide) fun H3 r S3 r0 r1 => ?_
  have hlen : as.length = 8 := Paired.length hP
  obtain ⟨a, ha⟩ : ∃ a, as[r.toNat]? = some a := ⟨as[r.toNat]'(by omega), List.getElem?_eq_getElem (by omega)⟩
  obtain ⟨q, hq1, hq2⟩ := paired_get hP2 ha
  obtain ⟨b, p, rfl, hbp⟩ := shape_at q (List.mem_of_getElem? hq1)
  have hl3 := S3.2 _ _ npl hl
  have ea : r = ((r.toNat : Nat) : Int) := by omega
  refine ⟨l, _, r, .ref a, rfl, rfl, SqL.of hl3, ?_, ?_⟩
  · rw [ea]
    exact atI_nat (by rw [List.getElem?_map, ha]; rfl)
  have ha3 : H3 a = some (.tup [.int (b : Int), .int (p : Int)]) := by
    refine S3.2 _ _ ?_ hq2
    obtain ⟨i, j, n, e, _⟩ := S2.1
    exact ne_of hq2 e (by intro z; cases z)
  refine ⟨a, _, rfl, SqT.of ha3, rfl, _, _, rfl, _, _, rfl, rfl, ?_⟩
  have S4 := S2.trans S3
  have hz : 3 ≤ b ∧ b ≤ 6 ∧ 2 ≤ p ∧ p ≤ 5 := by
    simp only [List.mem_cons, List.mem_nil_iff, or_false, Prod.mk.injEq] at hbp
    omega
  obtain ⟨z1, z2, z3, z4⟩ := hz
  have eroom : (p : Int) * ((b : Int) - 1) = ((p * (b - 1) : Nat) : Int) := by rw [Int.natCast_mul, Int.natCast_sub (by omega)]; rfl
  have hroom : 1 ≤ p * (b - 1) := Nat.mul_pos (by omega) (by omega)
  have hroom2 : p * (b - 1) ≤ 5 * 5 := Nat.mul_le_mul z4 (by omega)
  refine ⟨_, rfl, _, rfl, _, _, rfl, rfl, _, _, rfl, rfl, .inl ⟨by omega, by omega⟩, ?_⟩
  refine draw_c (p := pl) rfl S4.1 (by decide) (by decide) fun H5 r2 S5 r20 r21 => ?_
  refine ⟨rfl, _, rfl, ite2 (fun _ => ?_) (fun _ => ?_)⟩
  · refine ⟨_, rfl, _, rfl, _, rfl, by show 3 ≤ sizeLine; decide, fun q nq => ?_⟩
    refine k _ q b p (p * (b - 1)) ((S4.trans S5).trans (Stp.of S5.1 (same_lay nq))) ⟨hbp, hroom, Nat.le_refl _⟩ ?_
    rw [upd_same, ← eroom]
  · refine ⟨_, rfl, _, rfl, ?_⟩
    refine draw_v (p := pl) rfl rfl S5.1 (by rw [eroom]; omega) (by rw [eroom]; omega) fun H6 r3 S6 r30 r31 => ?_
    rw [eroom] at r31
    refine ⟨_, _, rfl, rfl, by show 3 ≤ sizeLine; decide, fun q nq => ?_⟩
    refine k _ q b p (1 + r3.toNat) ((S4.trans S5).trans (S6.trans (Stp.of S6.1 (same_lay nq)))) ⟨hbp, by omega, by omega⟩ ?_
    rw [upd_same]
    have e : ((1 + r3.toNat : Nat) : Int) = 1 + r3 := by omega
    rw [e]
end
end K2

set_option Elab.async false
set_option linter.all false
set_option maxRecDepth 100000
set_option maxHeartbeats 4000000
namespace K2
open PySem PySem.Spec PyProof.Rows L2 G1 G2
def spTab (K : PySem.W.Frag) : Sp := fun vs H Q _ => ∃ (pl : Addr) (p : Nat), vs = [.ref pl, .int (p : Int)] ∧ PoolAt H pl ∧ p < 26 ∧ ∀ (H' : Hp) (t : Addr) (ini : List RowD) (y : Str), Stp pl H H' → RowsAt K H' t (ini ++ [((p : Int), y)]) → IniOk p ini → y ∈ wordsL → Q (.ref t) H'
theorem tone_at (r : Int) (h0 : 0 ≤ r) (h1 : r < 4) : ∃ w ∈ wordsL, atI (wordsL.map V.str) r = some (.str w) := by
  have c : r = 0 ∨ r = 1 ∨ r = 2 ∨ r = 3 := by omega
  rcases c with rfl | rfl | rfl | rfl
  · exact ⟨Str.ofString "oldest", by decide, rfl⟩
  · exact ⟨Str.ofString "youngest", by decide, rfl⟩
  · exact ⟨Str.ofString "least", by decide, rfl⟩
  · exact ⟨Str.ofString "most", by decide, rfl⟩
theorem pool_ne {H : Hp} {pl a : Addr} {xs : List V} (hp : PoolAt H pl) (ha : H a = some (.tup xs)) : a ≠ pl := by
  obtain ⟨i, j, n, e, _⟩ := hp
  exact ne_of ha e (by intro z; cases z)
theorem pool_new {H : Hp} {pl a : Addr} (hp : PoolAt H pl) (ha : H a = none) : a ≠ pl := by
  obtain ⟨i, j, n, e, _⟩ := hp
  exact fun z => by rw [z, e] at ha; cases ha
section
variable {P : Program} {w : World} {K : PySem.W.Frag} {mg : Str → Option Value} {base : Heap}
theorem ok_tab {f fD : Addr} {fd fdD : FuncData} (F : Fun K "_law_table" "_law_table" sTab f fd) (B : Bl mg) (GD : FnOk P w K mg base CX0 1 fD fdD ["_law_pool_here", "_law_many"] spDraw) (kD : PySem.W.keepIn K (.ref fD) = true) (bD : Binds K fdD ["_law_pool_here", "_law_many"] [])
    (gD : mg "_law_draw" = some (.ref fD)) : FnOk P w K mg base CX0 2 f fd ["_law_pool_here", "_law_size"] (spTab K) := by
  refine F.ok scTab (fun vs H Q E h => ?_) (fun cdv A outer s H vs Q E hr h => ?_)
  · obtain ⟨pl, p, rfl, _⟩ := h
    rfl
  obtain ⟨pl, p, rfl, hp, hp26, k⟩ := h
  refine ⟨_, pss_cons (ps_set (i := 2) scTab.nd rfl (.inl rfl) (pe_lst (pa_cons pe_str (pa_cons pe_str (pa_cons pe_str (pa_cons pe_str pa_nil))))))
    (pss_cons (ps_set (i := 3) scTab.nd rfl (.inl rfl) (pe_lst pa_nil))
    (pss_cons (ps_for PassesOwn.never rfl (pi_range1 (by rfl) B.range (pa_cons (pe_call GD hr (by rfl) gD kD bD .nil pass0 (pa_cons (pv 0) (pa_cons pe_int pa_nil))) pa_nil)) (pg_name (i := 4) scTab.nd rfl (.inl rfl))
      (pss_one (ps_expr (pe_bm PySem.F.plainAttrs_list PySem.F.slot_list_append PySem.F.type_list_append mt_append (pv 3) (pa_cons (pe_tup (pa_cons (pe_call GD hr (by rfl) gD kD bD .nil pass0 (pa_cons (pv 0) (pa_cons (pe_op op_add (pv 1) pe_int) pa_nil)))
        (pa_cons (pe_ix ix_list (pv 2) (pe_call GD hr (by rfl) gD kD bD .nil pass0 (pa_cons (pv 0) (pa_cons pe_int pa_nil))) (fun _ _ => rfl)) pa_nil))) pa_nil)))))
    (pss_cons (ps_expr (pe_bm PySem.F.plainAttrs_list PySem.F.slot_list_append PySem.F.type_list_append mt_append (pv 3) (pa_cons (pe_tup (pa_cons (pv 1)
        (pa_cons (pe_ix ix_list (pv 2) (pe_call GD hr (by rfl) gD kD bD .nil pass0 (pa_cons (pv 0) (pa_cons pe_int pa_nil))) (fun _ _ => rfl)) pa_nil))) pa_nil)))
    (pss_one (ps_ret (pe_callTy call_tuple_of (by rfl) B.tup bTup (pa_cons (pv 3) pa_nil))))))), ?_⟩
  refine seq_asg ⟨by show 4 ≤ sizeLine; decide, fun tn ntn => ?_⟩
  have s1 : Same H (upd H tn (.lst (wordsL.map V.str))) := same_lay ntn
  have e1 : (upd H tn (.lst (wordsL.map V.str))) tn = some (.lst (wordsL.map V.str)) := upd_same
  show tSeq _ _ _ _ (upd H tn (.lst (wordsL.map V.str)))
  generalize upd H tn (.lst (wordsL.map V.str)) = H1 at s1 e1 ⊢
  refine seq_asg ⟨by show 0 ≤ sizeLine; decide, fun sm nsm => ?_⟩
  have nts : tn ≠ sm := ne_of_none e1 nsm
  have s2 : Same H (upd H1 sm (.lst [])) := s1.trans (same_lay nsm)
  have e2 : (upd H1 sm (.lst [])) sm = some (.lst (([] : List Addr).map V.ref)) := upd_same
  have e3 : (upd H1 sm (.lst [])) tn = some (.lst (wordsL.map V.str)) := by rw [upd_ne nts]; exact e1
  have nH : H sm = none := s1.free nsm
  generalize upd H1 sm (.lst []) = H2 at s2 e2 e3 ⊢
  have ntp : tn ≠ pl := pool_new hp ntn
  have nsp : sm ≠ pl := pool_new hp nH
  refine seq_for fun D' hD1 hD2 => ?_
  refine draw_c (p := pl) rfl (Stp.of hp s2).1 (by decide) (by decide) fun H3 m S3 m0 m1 => ⟨m, rfl, by omega, by omega, ?_⟩
  have S0 : Stp pl H H3 := (Stp.of hp s2).trans S3
  refine for_range (lo := 0) (n := m.toNat) (fun i σ H' => ∃ (x4 : Option V) (rs : List Addr) (rows : List RowD), σ = [some (.ref pl), some (.int (p : Int)), some (.ref tn), some (.ref sm), x4] ∧ Stp pl H H' ∧ H' tn = some (.lst (wordsL.map V.str)) ∧ H' sm = some (.lst (rs.map V.ref)) ∧
      Paired (fun (a : Addr) (r : RowD) => H' a = some (.tup [.int r.1, .str r.2])) rs rows ∧ rows.length = i ∧ ∀ r ∈ rows, RowOk p r) ⟨none, [], [], rfl, S0, S3.2 _ _ ntp e3, S3.2 _ _ nsp e2, .nil, rfl, fun _ z => nomatch z⟩ ?_ ?_
  · rintro i σ H' hi ⟨x4, rs, rows, rfl, S4, q1, q2, q3, q4, q5⟩
    refine ⟨_, rfl, .inl ⟨rfl, _, SqL.of q2⟩, ?_⟩
    refine cons_read (tup_read (cons_read ?_))
    refine draw_t (p := pl) (m := (p : Int) + 1) rfl (fun R q => ⟨_, rfl, _, _, rfl, rfl, q⟩) S4.1 (by omega) (by omega) fun H5 l S5 l0 l1 => ?_
    refine cons_read (op_read ⟨_, rfl, ?_⟩)
    refine draw_c (p := pl) rfl S5.1 (by decide) (by decide) fun H6 r S6 r0 r1 => ?_
    have S56 := S5.trans S6
    obtain ⟨x, hx, ex⟩ := tone_at r r0 r1
    refine ⟨tn, _, r, _, rfl, rfl, SqL.of (S56.2 _ _ ntp q1), ex, ?_⟩
    refine nil_read ⟨by show 2 ≤ sizeLine; decide, fun a na => ?_⟩
    have s7 : Same H6 (upd H6 a (.tup [.int l, .str x])) := same_lay na
    have hs6 := S56.2 _ _ nsp q2
    refine ⟨sm, _, _, rfl, rfl, s7 _ _ hs6, ?_, _, rs ++ [a], rows ++ [(l, x)], rfl, ?_, ?_, ?_, ?_, ?_, ?_⟩
    · have hl2 := Paired.length q3
      rw [List.length_map, sizeLine_eq]
      omega
    · have S7 : Stp pl H (upd H6 a (.tup [.int l, .str x])) := S4.trans (S56.trans (Stp.of S56.1 s7))
      obtain ⟨i1, j1, n1, z1, z2, z3⟩ := S7.1
      refine ⟨⟨i1, j1, n1, by rw [upd_ne (Ne.symm nsp)]; exact z1, z2, z3⟩, fun c o hc e => ?_⟩
      rw [upd_ne (ne_of_none e nH)]
      exact S7.2 c o hc e
    · rw [upd_ne nts]; exact s7 _ _ (S56.2 _ _ ntp q1)
    · rw [upd_same]; simp
    · have nas : a ≠ sm := fun z => by rw [z, hs6] at na; cases na
      refine paired_snoc (Paired.mapP q3 fun c r z => ?_) (by rw [upd_ne nas, upd_same])
      have hcp := pool_ne S4.1 z
      have hcs : c ≠ sm := ne_of z q2 (by intro z; cases z)
      rw [upd_ne hcs]
      exact s7 _ _ (S56.2 _ _ hcp z)
    · rw [List.length_append, q4]; rfl
    · intro r' hr'
      rcases List.mem_append.mp hr' with hr' | hr'
      · exact q5 r' hr'
      · rw [List.mem_singleton.mp hr']
        exact ⟨l0, by omega, hx⟩
  · rintro σ H' ⟨x4, rs, rows, rfl, S4, q1, q2, q3, q4, q5⟩
    rw [hD1]
    refine ⟨_, rfl, .inl ⟨rfl, _, SqL.of q2⟩, ?_⟩
    refine cons_read (tup_read (cons_read ⟨_, rfl, cons_read (op_read ⟨_, rfl, ?_⟩)⟩))
    refine draw_c (p := pl) rfl S4.1 (by decide) (by decide) fun H6 r S6 r0 r1 => ?_
    obtain ⟨x, hx, ex⟩ := tone_at r r0 r1
    refine ⟨tn, _, r, _, rfl, rfl, SqL.of (S6.2 _ _ ntp q1), ex, ?_⟩
    refine nil_read ⟨by show 2 ≤ sizeLine; decide, fun a na => ?_⟩
    have s7 : Same H6 (upd H6 a (.tup [.int (p : Int), .str x])) := same_lay na
    have hs6 := S6.2 _ _ nsp q2
    have hl2 := Paired.length q3
    refine ⟨sm, _, _, rfl, rfl, s7 _ _ hs6, ?_, ?_⟩
    · rw [List.length_map, sizeLine_eq]
      omega
    have S7 : Stp pl H (upd H6 a (.tup [.int (p : Int), .str x])) := S4.trans (S6.trans (Stp.of S6.1 s7))
    have hsm : (upd (upd H6 a (.tup [.int (p : Int), .str x])) sm (.lst (rs.map V.ref ++ [.ref a]))) sm = some (.lst ((rs ++ [a]).map V.ref)) := by rw [upd_same]; simp
    have S8 : Stp pl H (upd (upd H6 a (.tup [.int (p : Int), .str x])) sm (.lst (rs.map V.ref ++ [.ref a]))) := by
      obtain ⟨i1, j1, n1, z1, z2, z3⟩ := S7.1
      refine ⟨⟨i1, j1, n1, by rw [upd_ne (Ne.symm nsp)]; exact z1, z2, z3⟩, fun c o hc e => ?_⟩
      rw [upd_ne (ne_of_none e nH)]
      exact S7.2 c o hc e
    have hPr : Paired (fun (c : Addr) (r : RowD) => (upd (upd H6 a (.tup [.int (p : Int), .str x])) sm (.lst (rs.map V.ref ++ [.ref a]))) c = some (.tup [.int r.1, .str r.2])) (rs ++ [a]) (rows ++ [((p : Int), x)]) := by
      have nas : a ≠ sm := fun z => by rw [z, hs6] at na; cases na
      refine paired_snoc (Paired.mapP q3 fun c r z => ?_) (by rw [upd_ne nas, upd_same])
      have hcp := pool_ne S4.1 z
      have hcs : c ≠ sm := ne_of z q2 (by intro z; cases z)
      rw [upd_ne hcs]
      exact s7 _ _ (S6.2 _ _ hcp z)
    generalize upd (upd H6 a (.tup [.int (p : Int), .str x])) sm (.lst (rs.map V.ref ++ [.ref a])) = H8 at hsm S8 hPr ⊢
    refine ⟨_, rfl, sm, _, rfl, .inl ⟨SqL.of hsm, fun t nt => ?_⟩⟩
    refine k _ t rows x (S8.trans (Stp.of S8.1 (same_lay nt))) ⟨rs ++ [a], SqT.of upd_same, Paired.mapP hPr fun c r z => SqT.of (same_lay nt _ _ z)⟩ ⟨q5, by omega⟩ hx
end
end K2

set_option Elab.async false
set_option linter.all false
set_option maxRecDepth 100000
set_option maxHeartbeats 4000000
namespace K2
open PySem PySem.Spec PyProof.Rows L2 G1 G2
abbrev sMad : Stmt := topS 76
theorem scMad : FnScope ["_law_shape_here", "_law_table_here"] ["_law_shape_here", "_law_table_here"] (defScope sMad) := ⟨rfl, rfl, rfl, by decide +kernel, rfl, by decide +kernel, by decide +kernel⟩
def ShpAt (K : PySem.W.Frag) (H : Hp) (s : Addr) (b p n : Nat) : Prop := SqT K H s [.int (b : Int), .int (p : Int), .int (n : Int)]
def spMad (K : PySem.W.Frag) (C : Addr) : Sp := fun vs H Q _ => ∃ (s t : Addr) (b p n : Nat) (ini : List RowD) (y : Str), vs = [.ref s, .ref t] ∧ ShpAt K H s b p n ∧ DP b p n ini y ∧ RowsAt K H t (ini ++ [((p : Int), y)]) ∧ Made K C H Q b p n ini y
section
variable {P : Program} {w : World} {K : PySem.W.Frag} {mg : Str → Option Value} {base : Heap}
theorem ok_mad {f C fI : Addr} {fd fdI : FuncData} (F : Fun K "_law_made" "_law_made" sMad f fd) (M : Mk K C fI) (GI : FnOk P w K mg base CX0 5 fI fdI ["self", "blocks", "pages", "names", "rows"] (spIni K C)) (bI : Binds K fdI ["self", "blocks", "pages", "names", "rows"] []) (gD : mg "Drive" = some (.ref C)) :
    FnOk P w K mg base CX0 7 f fd ["_law_shape_here", "_law_table_here"] (spMad K C) := by
  refine F.ok scMad (fun vs H Q E h => ?_) (fun cdv A outer s H vs Q E hr h => ?_)
  · obtain ⟨s, t, b, p, n, ini, y, rfl, _⟩ := h
    rfl
  obtain ⟨s, t, b, p, n, ini, y, rfl, hs, hd, hR, k⟩ := h
  refine ⟨_, pss_one (ps_ret (pe_make M GI hr (by rfl) gD bI .nil pass0 (pa_cons (pe_ix ix_tup (pv 0) pe_int (fun _ _ => rfl)) (pa_cons (pe_ix ix_tup (pv 0) pe_int (fun _ _ => rfl)) (pa_cons (pe_ix ix_tup (pv 0) pe_int (fun _ _ => rfl)) (pa_cons (pv 1) pa_nil)))))), ?_⟩
  refine ⟨_, rfl, s, _, _, _, rfl, rfl, hs, rfl, _, rfl, s, _, _, _, rfl, rfl, hs, rfl, _, rfl, s, _, _, _, rfl, rfl, hs, rfl, _, rfl, ?_⟩
  exact make_read hd hR k
end
end K2

set_option Elab.async false
set_option linter.all false
set_option maxRecDepth 100000
set_option maxHeartbeats 4000000
/-! min(xs, key = f), max(xs, key = f): f tells a whole number and leaves all objects as they are. -/
namespace G5
open PySem PySem.Spec PyProof.Rows L2
/-- all objects stay -/
abbrev Kp (h h' : Heap) : Prop := ∀ b o, h.get? b = some o → h'.get? b = some o
def lessB (kf : Nat → Int) (i j : Nat) : Bool := decide (kf i < kf j)
def moreB (kf : Nat → Int) (i j : Nat) : Bool := decide (kf i > kf j)
theorem best_less (kf : Nat → Int) : ∀ k, argBest (lessB kf) k ≤ k ∧ ∀ j, j ≤ k → kf (argBest (lessB kf) k) ≤ kf j ∧ (j < argBest (lessB kf) k → kf (argBest (lessB kf) k) < kf j)
  | 0 => ⟨Nat.le_refl _, fun j hj => by
    have e : j = 0 := by omega
    subst e
    exact ⟨Int.le_refl _, fun z => absurd z (Nat.not_lt_zero _)⟩⟩
  | k + 1 => by
    obtain ⟨h1, h2⟩ := best_less kf k
    unfold argBest
    by_cases c : lessB kf (k + 1) (argBest (lessB kf) k) = true
    · rw [if_pos c]
      have c' : kf (k + 1) < kf (argBest (lessB kf) k) := of_decide_eq_true c
      refine ⟨Nat.le_refl _, fun j hj => ?_⟩
      by_cases e : j = k + 1
      · subst e
        exact ⟨Int.le_refl _, fun z => absurd z (Nat.lt_irrefl _)⟩
      · have := (h2 j (by omega)).1
        exact ⟨by omega, fun _ => by omega⟩
    · rw [if_neg c]
      have c' : ¬ kf (k + 1) < kf (argBest (lessB kf) k) := fun z => c (decide_eq_true z)
      refine ⟨by omega, fun j hj => ?_⟩
      by_cases e : j = k + 1
      · subst e
        exact ⟨by omega, fun z => by omega⟩
      · exact h2 j (by omega)
theorem best_more (kf : Nat → Int) : ∀ k, argBest (moreB kf) k ≤ k ∧ ∀ j, j ≤ k → kf j ≤ kf (argBest (moreB kf) k) ∧ (j < argBest (moreB kf) k → kf j < kf (argBest (moreB kf) k))
  | 0 => ⟨Nat.le_refl _, fun j hj => by
    have e : j = 0 := by omega
    subst e
    exact ⟨Int.le_refl _, fun z => absurd z (Nat.not_lt_zero _)⟩⟩
  | k + 1 => by
    obtain ⟨h1, h2⟩ := best_more kf k
    unfold argBest
    by_cases c : moreB kf (k + 1) (argBest (moreB kf) k) = true
    · rw [if_pos c]
      have c' : kf (k + 1) > kf (argBest (moreB kf) k) := of_decide_eq_true c
      refine ⟨Nat.le_refl _, fun j hj => ?_⟩
      by_cases e : j = k + 1
      · subst e
        exact ⟨Int.le_refl _, fun z => absurd z (Nat.lt_irrefl _)⟩
      · have := (h2 j (by omega)).1
        exact ⟨by omega, fun _ => by omega⟩
    · rw [if_neg c]
      have c' : ¬ kf (k + 1) > kf (argBest (moreB kf) k) := fun z => c (decide_eq_true z)
      refine ⟨by omega, fun j hj => ?_⟩
      by_cases e : j = k + 1
      · subst e
        exact ⟨by omega, fun z => by omega⟩
      · exact h2 j (by omega)
section
variable {prog : Program} {w : World} {A : Around} {E : Value → Shared → Prop} {s : Shared} {l f : Addr} {items : List Value} {kf : Nat → Int} {Q : Value → Shared → Prop}
/-- f of the i-th item is the number kf i -/
def Turn (prog : Program) (w : World) (A : Around) (s : Shared) (f : Addr) (items : List Value) (kf : Nat → Int) : Prop := ∀ (i : Nat) (v : Value), items[i]? = some v → ∀ (h : Heap) (tk : Nat), Kp s.heap h → ∀ (Q' : Value → Shared → Prop) (E' : Value → Shared → Prop),
  (∀ t h' tk', Kp h h' → tk ≤ tk' → Q' (.int (kf i) t) { s with heap := h', toks := tk' }) → wpAny (model prog w) A (call (.ref f) [v]) Q' E' { s with heap := h, toks := tk }
/-- what stays while the items are gone through -/
def Jst (s s' : Shared) : Prop := Kp s.heap s'.heap ∧ s'.gens = s.gens ∧ s'.drawn = s.drawn ∧ s'.os = s.os
theorem Jst.eq {s s' : Shared} (j : Jst s s') : s' = { s with heap := s'.heap, toks := s'.toks } := by
  obtain ⟨h', g', d', tk', os'⟩ := s'
  obtain ⟨_, e1, e2, e3⟩ := j
  dsimp only at e1 e2 e3
  subst e1 e2 e3
  rfl
theorem keyRun {op : CmpOp} {bt : Nat → Nat → Bool} {S I : Addr} {h2 : Heap} (hl : s.heap.IsList l items.toArray) (turn : Turn prog w A s f items kf) (hcmp : CmpOf prog w A op (fun i v => ∃ t, v = Value.int (kf i) t) bt) (hI : s.heap.objs.size ≤ I) (hS : s.heap.objs.size ≤ S)
    (W : WalksS prog w A I [I, l] [I] (fun a b => b = a) items.toArray.size (fun i v => items.toArray[i]? = some v) (fun i s' => s'.heap.IsListIter I l i ∧ s'.heap.IsList l items.toArray)) :
    KeyRun prog w A (.ref f) op S [I] (fun a b => b = a) items.toArray.size (fun i v => items.toArray[i]? = some v) (fun i s' => s'.heap.IsListIter I l i ∧ s'.heap.IsList l items.toArray) (Jst s) (fun i k _ => ∃ t, k = Value.int (kf i) t) bt where
  keep := fun a b j m => by
    obtain ⟨k, e1, e2, e3⟩ := j
    refine ⟨fun c o e => m.heap c o (fun z => ?_) (k c o e), m.gens.trans e1, m.drawn.trans e2, m.os.trans e3⟩
    have hc := Heap.lt_size e
    rcases List.mem_cons.mp z with z | z
    · rw [z] at hc
      exact absurd hc (Nat.not_lt.mpr hS)
    · rw [List.mem_singleton.mp z] at hc
      exact absurd hc (Nat.not_lt.mpr hI)
  keepV := fun _ _ _ _ v _ => v
  turn := fun i v s' o Q' E' hi hv j st hS' hq => by
    have hv' : items[i]? = some v := by simpa using hv
    have e := j.eq
    rw [e]
    refine turn i v hv' s'.heap s'.toks j.1 Q' E' fun t h' tk' k htk => hq _ _ ⟨fun c o z => k c o (j.1 c o z), rfl, rfl, rfl⟩ ?_ (k S o hS') ⟨t, rfl⟩ fun _ _ z => z
    exact ⟨st.1.at fun o z => k I o z, st.2.at fun o z => k l o z⟩
  cmp := fun i j ki kj s' Q' E' _ vi vj hq => hcmp i j ki kj s' Q' E' vi vj hq
theorem min_key (hh : A.handled = none) (hl : s.heap.IsList l items.toArray) (hne : 0 < items.length) (turn : Turn prog w A.in1 s f items kf)
    (hQ : ∀ i v h' tk', items[i]? = some v → (∀ j, j < items.length → kf i ≤ kf j ∧ (j < i → kf i < kf j)) → Kp s.heap h' → Q v { s with heap := h', toks := tk' }) :
    wpAny (model prog w) A (call (.builtin "min") [.ref l] [(Str.ofString "key", .ref f)]) Q E s := by
  refine call_min_walkK (wpAny_pyIter_list hl ?_)
  have hlI : l ≠ s.heap.objs.size := by
    obtain ⟨o, ho, _⟩ := hl
    exact Nat.ne_of_lt (Heap.lt_size ho)
  have W := (Walks.list (prog := prog) (w := w) (A := A.in1) hh s.heap.objs.size l hlI items.toArray).toS
  have kp : Kp s.heap (s.heap.push { cls := .type "list_iterator", data := .fields #[.ref l, .int 0 0] }) := fun _ _ e => Heap.get?_push_of_some _ e
  refine ⟨_, _, _, _, _, _, _, Jst s, _, lessB kf, rfl, W, ⟨⟨_, Heap.get?_push_size _ rfl, rfl, rfl⟩, hl.at fun o e => kp _ _ e⟩, ?_, by rw [List.size_toArray]; exact hne, keyRun (h2 := s.heap) hl turn (CmpOf.ints_lt kf fun i v z => z) (Nat.le_refl _) (by simp [Heap.push]) W, ⟨kp, rfl, rfl, rfl⟩, fun v s' hv j => ?_⟩
  · intro b hb
    have hsz : (s.heap.push { cls := .type "list_iterator", data := .fields #[.ref l, .int 0 0] }).objs.size = s.heap.objs.size + 1 := by simp [Heap.push]
    show b < (s.heap.push _).objs.size
    rw [hsz]
    rcases List.mem_cons.mp hb with rfl | hb
    · exact Nat.lt_succ_self _
    · rw [List.mem_singleton.mp hb]
      obtain ⟨o, ho, _⟩ := hl
      exact Nat.lt_succ_of_lt (Heap.lt_size ho)
  · obtain ⟨b1, b2⟩ := best_less kf (items.toArray.size - 1)
    rw [j.eq]
    refine hQ _ v _ _ (by simpa using hv) (fun i hi => b2 i (by rw [List.size_toArray]; omega)) j.1
theorem max_key (hh : A.handled = none) (hl : s.heap.IsList l items.toArray) (hne : 0 < items.length) (turn : Turn prog w A.in1 s f items kf)
    (hQ : ∀ i v h' tk', items[i]? = some v → (∀ j, j < items.length → kf j ≤ kf i ∧ (j < i → kf j < kf i)) → Kp s.heap h' → Q v { s with heap := h', toks := tk' }) :
    wpAny (model prog w) A (call (.builtin "max") [.ref l] [(Str.ofString "key", .ref f)]) Q E s := by
  refine call_max_walkK (wpAny_pyIter_list hl ?_)
  have hlI : l ≠ s.heap.objs.size := by
    obtain ⟨o, ho, _⟩ := hl
    exact Nat.ne_of_lt (Heap.lt_size ho)
  have W := (Walks.list (prog := prog) (w := w) (A := A.in1) hh s.heap.objs.size l hlI items.toArray).toS
  have kp : Kp s.heap (s.heap.push { cls := .type "list_iterator", data := .fields #[.ref l, .int 0 0] }) := fun _ _ e => Heap.get?_push_of_some _ e
  refine ⟨_, _, _, _, _, _, _, Jst s, _, moreB kf, rfl, W, ⟨⟨_, Heap.get?_push_size _ rfl, rfl, rfl⟩, hl.at fun o e => kp _ _ e⟩, ?_, by rw [List.size_toArray]; exact hne, keyRun (h2 := s.heap) hl turn (CmpOf.ints_gt kf fun i v z => z) (Nat.le_refl _) (by simp [Heap.push]) W, ⟨kp, rfl, rfl, rfl⟩, fun v s' hv j => ?_⟩
  · intro b hb
    have hsz : (s.heap.push { cls := .type "list_iterator", data := .fields #[.ref l, .int 0 0] }).objs.size = s.heap.objs.size + 1 := by simp [Heap.push]
    show b < (s.heap.push _).objs.size
    rw [hsz]
    rcases List.mem_cons.mp hb with rfl | hb
    · exact Nat.lt_succ_self _
    · rw [List.mem_singleton.mp hb]
      obtain ⟨o, ho, _⟩ := hl
      exact Nat.lt_succ_of_lt (Heap.lt_size ho)
  · obtain ⟨b1, b2⟩ := best_more kf (items.toArray.size - 1)
    rw [j.eq]
    refine hQ _ v _ _ (by simpa using hv) (fun i hi => b2 i (by rw [List.size_toArray]; omega)) j.1
end
end G5

set_option Elab.async false
set_option linter.all false
set_option maxRecDepth 100000
set_option maxHeartbeats 4000000
/-! min(places, key = lambda place: closed[place]) -/
namespace G5
open PySem PySem.Spec PyProof.Rows L2
/-- the lambda's names: one parameter, one captured name -/
structure LamK (sc scope : Scope) (cn pn : Str) : Prop where
  kind : scope.kind = .function
  co : scope.isCoroutine = false
  gen : scope.isGenerator = false
  nocell : ∀ y ∈ scope.names, y.2 ≠ .cell
  par : scope.names.lookup pn = some .local
  cap : scope.names.lookup cn = some .free
  only : ∀ y ∈ scope.names, y.2 = .free → y.1 = cn
section
variable {prog : Program} {w : World} {A : Around} {s : Shared} {f c' t cc : Addr} {q cn pn : Str} {params : Arguments} {scope sc : Scope} {cl : List (Str × Addr)} {pm ctv : Value} {p1 p2 p3 : Pos} {items its : List Value} {cs : List Int} {pl : List Nat}
/-- the lambda, called with a place, tells what stands there -/
theorem lam_turn (L : LamK sc scope cn pn) (hdep : A.depth < recursionLimit) (hof : s.heap.get? f = some (PySem.W.kla_obj "<lambda>" q params (.Subscript (.Name cn p1) (.Name pn p2) p3) scope cl pm c' ctv)) (hrec : s.heap.CodeRec (.ref c') q) (hlim : s.heap.NoLimit)
    (hbind : ∀ u : Value, bindArgs (PySem.W.kla_fn "<lambda>" q params (.Subscript (.Name cn p1) (.Name pn p2) p3) scope cl pm (.ref c') ctv) ⟨[u], []⟩ = pure [(pn, u)])
    (hcl : cl.lookup cn = some cc) (hcell : s.heap.IsCell cc (some (.ref t))) (ht : IsTup s.heap t its.toArray) (hcs : Vals (cs.map V.int) its) (hcl60 : cs.length ≤ 1000) (hit : ∀ (i : Nat) (v : Value), items[i]? = some v → ∃ (k : Nat) (tk : Tok), pl[i]? = some k ∧ k < cs.length ∧ v = Value.int (k : Int) tk)
    (hd1 : (cn == ("__debug__" : Str)) = false) (hd2 : (pn == ("__debug__" : Str)) = false) (hd3 : (cn == ("__classdict__" : Str)) = false) :
    Turn prog w A s f items (fun i => cs.getD (pl.getD i 0) 0) := by
  intro i v hv h tk kp Q' E' hQ'
  obtain ⟨k, tv, hk, hkl, rfl⟩ := hit i v hv
  have hofh := kp _ _ hof
  obtain ⟨c2, oc, vs, t0, e2, hoc, hdc, hvc⟩ := hrec
  refine wpAny_call (PySem.W.kla_callFunE (s := { s with heap := h, toks := tk }) hdep hofh rfl L.co L.gen rfl ⟨c2, oc, vs, t0, e2, kp _ _ hoc, hdc, hvc⟩ ?_)
  rw [hbind]
  refine wpAny_pure (wpAny_newFunctionEnv L.nocell (fun y hy => ?_) (fun h₁ hns hsb => ⟨(hlim.keeps kp).fresh _ hsb, ?_⟩) L.kind)
  · rw [List.mem_singleton.mp hy]
    exact L.par
  have kp1 : Kp h h₁ := fun b o e => hsb.extBut b o (Nat.ne_of_lt (Heap.lt_size e)) (Heap.get?_push_of_some _ e)
  have kp2 : Kp s.heap h₁ := fun b o e => kp1 b o (kp b o e)
  refine PySem.W.kla_codeExpr ?_
  refine Subscript_ (wpAny_Name (wpAny_loadName_free (v := .ref t) L.kind L.cap hcl ?_ ?_ hd3) hd1)
  · obtain ⟨o, ho, hd⟩ := hcell
    exact ⟨o, kp2 _ _ ho, hd⟩
  refine wpAny_Name (wpAny_loadName_local (v := .int (k : Int) tv) L.kind L.par hns ?_ ?_) hd2
  · simp
  have hl := hcs.length
  rw [List.length_map] at hl
  obtain ⟨u, hu, ru⟩ := hcs.get (i := k) (x := .int (cs.getD k 0)) (by rw [List.getElem?_map, List.getElem?_eq_getElem hkl, List.getD_eq_getElem?_getD, List.getElem?_eq_getElem hkl]; rfl)
  obtain ⟨tu, rfl⟩ := ru
  have ht1 : IsTup h₁ t its.toArray := by
    obtain ⟨o, ho, r⟩ := ht
    exact ⟨o, kp2 _ _ ho, r⟩
  have hgk : pl.getD i 0 = k := by rw [List.getD_eq_getElem?_getD, hk]; rfl
  refine subscriptTail_builtinR (x := .int (cs.getD k 0) tu) ht1.typeIs slot_tuple_getitem.lookup (getItem_tuple (j := k) ht1 (by omega) (by omega) ?_ (by simpa using hu) ⟨rfl, ?_⟩) rfl
  · rw [List.size_toArray, ← hl]
    exact seqIndex_of (by omega) (by omega)
  · have := hQ' tu h₁ (tk + 1) kp1 (Nat.le_succ _)
    dsimp only at this ⊢
    rw [hgk] at this
    exact this
end
end G5

set_option Elab.async false
set_option linter.all false
set_option maxRecDepth 100000
set_option maxHeartbeats 4000000
namespace G5
open PySem PySem.Spec PyProof.Rows L2 LamX
theorem ext_lst {K : PySem.W.Frag} {H H' : Hp} {a : Addr} {xs : List V} (e : ExtN H H') (h : SqL K H a xs) : SqL K H' a xs := by
  rcases h with (h | ⟨o, h⟩) | h
  · exact .inl (.inl (e _ _ h (by intro ps z; cases z)))
  · exact .inl (.inr ⟨o, e _ _ h (by intro ps z; cases z)⟩)
  · exact .inr h
theorem ext_tup {K : PySem.W.Frag} {H H' : Hp} {a : Addr} {xs : List V} (e : ExtN H H') (h : SqT K H a xs) : SqT K H' a xs := by
  rcases h with (h | ⟨o, h⟩) | h
  · exact .inl (.inl (e _ _ h (by intro ps z; cases z)))
  · exact .inl (.inr ⟨o, e _ _ h (by intro ps z; cases z)⟩)
  · exact .inr h
abbrev nV (k : Nat) : V := .int (k : Int)
/-- the first place of pl at which cs is least (sg = true) or greatest -/
def Best (sg : Bool) (cs : List Int) (pl : List Nat) (j k : Nat) : Prop := pl[j]? = some k ∧ ∀ j' k', pl[j']? = some k' → if sg = true then cs.getD k 0 ≤ cs.getD k' 0 ∧ (j' < j → cs.getD k 0 < cs.getD k' 0) else cs.getD k' 0 ≤ cs.getD k 0 ∧ (j' < j → cs.getD k' 0 < cs.getD k 0)
def tMinL (sg : Bool) (T : List (Addr × Str)) (K : PySem.W.Frag) (i : Nat) (ta : TA) : TE := fun σ H Q => ta σ H fun xs H1 => Tabs T H1 ∧ ∃ (l t : Addr) (pl : List Nat) (cs : List Int), xs = [.ref l] ∧ SqL K H1 l (pl.map nV) ∧ σ[i]? = some (some (.ref t)) ∧ SqT K H1 t (cs.map V.int) ∧ pl ≠ [] ∧ (∀ k ∈ pl, k < cs.length) ∧ cs.length ≤ 1000 ∧
  ∀ (H2 : Hp) (j k : Nat), ExtN H1 H2 → Tabs T H2 → Best sg cs pl j k → Q (nV k) H2
theorem clo_look {cells : List (Str × Addr)} {scope : Scope} {cn : Str} {cc : Addr} (h1 : scope.names.lookup cn = some .free) (h2 : cells.lookup cn = some cc) (h3 : ∀ y ∈ scope.names, y.2 = .free → ∃ c, cells.lookup y.1 = some c) : (cloFrom cells scope.names []).lookup cn = some cc := by
  obtain ⟨c, hc⟩ := mem_lookup (cloFrom_has (cells := cells) (acc := []) (PySem.mem_of_lookup h1))
  rcases cloFrom_mem (PySem.mem_of_lookup hc) with hm | ⟨_, e⟩
  · cases hm
  · rw [hc]
    have e' : c = (cells.lookup cn).getD 0 := e
    rw [e', h2]
    rfl
theorem vals_nats : ∀ {pl : List Nat} {us : List Value}, Vals (pl.map nV) us → ∀ (i : Nat) (v : Value), us[i]? = some v → ∃ (k : Nat) (tk : Tok), pl[i]? = some k ∧ v = Value.int (k : Int) tk
  | [], _, .nil, i, v, h => by simp at h
  | k :: pl, _, .cons r t, 0, v, h => by
    obtain ⟨tk, e⟩ := (show ∃ tk, _ = Value.int (k : Int) tk from r)
    refine ⟨k, tk, rfl, ?_⟩
    rw [← e]
    exact (Option.some.inj h).symm
  | k :: pl, _, .cons r t, i + 1, v, h => by
    obtain ⟨k', tk, h1, h2⟩ := vals_nats t i v (by simpa using h)
    exact ⟨k', tk, by simpa using h1, h2⟩
section
variable {X : Cx} {T : List (Addr × Str)} {cn pn : Str} {c P : Addr} {params : Arguments} {scope : Scope} {p p1 p2 p3 kpos lpos pos : Pos} {e : Expr} {ta : TA} {i k : Nat}
/-- what the lambda's making and calling ask of the text -/
structure LamF (X : Cx) (T : List (Addr × Str)) (params : Arguments) (scope : Scope) (cn pn : Str) (i : Nat) (c P : Addr) (p1 p2 p3 : Pos) : Prop where
  L : LamK X.env.scope scope cn pn
  TB : TabB X.base X.mg c P
  code : X.env.code = .ref c
  mem : (P, X.env.qual ++ "<lambda>") ∈ T
  uniq : ∀ q ∈ T, q.1 = P → q.2 = X.env.qual ++ "<lambda>"
  dflt : defaultsOf params X.env = ([], [])
  bind : ∀ (q : Str) (cl : List (Str × Addr)) (pm cv ctv u : Value), bindArgs (PySem.W.kla_fn "<lambda>" q params (.Subscript (.Name cn p1) (.Name pn p2) p3) scope cl pm cv ctv) ⟨[u], []⟩ = pure [(pn, u)]
  slot : X.N[i]? = some cn
  cell : X.env.scope.names.lookup cn = some .cell
  d1 : (cn == ("__debug__" : Str)) = false
  d2 : (pn == ("__debug__" : Str)) = false
  d3 : (cn == ("__classdict__" : Str)) = false
theorem run_key {sg : Bool} {pins : List (Addr × Obj)} {σ : L2.St} {H : Hp} {s : Shared} {Q : VK} {us : List Value} {xs : List V} {EE : Value → Shared → Prop} (F : LamF X T params scope cn pn i c P p1 p2 p3) (hr : Room k X.A) (hc : X.calm = true) (I : Inv X pins σ H s) (r : Vals xs us)
    (h : Tabs T H ∧ ∃ (l t : Addr) (pl : List Nat) (cs : List Int), xs = [.ref l] ∧ SqL X.K H l (pl.map nV) ∧ σ[i]? = some (some (.ref t)) ∧ SqT X.K H t (cs.map V.int) ∧ pl ≠ [] ∧ (∀ k ∈ pl, k < cs.length) ∧ cs.length ≤ 1000 ∧ ∀ (H2 : Hp) (j k : Nat), ExtN H H2 → Tabs T H2 → Best sg cs pl j k → Q (nV k) H2) :
    wpAny (model X.prog X.w) X.A (eval (.Lambda params (.Subscript (.Name cn p1) (.Name pn p2) p3) scope lpos) X.env) (fun f s' => wpAny (model X.prog X.w) X.A (call (.builtin (if sg = true then "min" else "max")) us [(Str.ofString "key", f)]) (EP X pins σ Q) EE s') EE s := by
  obtain ⟨hT, l, t, pl, cs, rfl, hl, hσ, ht, hne, hin, hcs, q⟩ := h
  have hfree : ∀ y ∈ scope.names, y.2 = .free → ∃ c, X.env.cells.lookup y.1 = some c := fun y hy e => by
    rw [F.L.only y hy e]
    exact I.ok.has _ (.inl F.cell)
  refine lam_make2 I F.TB F.code F.mem F.uniq hT F.dflt hfree fun f c' pm ctv H2 s' I2 eN T2 hf hfn hfr hco => ?_
  rw [Vals.ref1 r]
  obtain ⟨its, rv, pl', hz⟩ := I2.list (ext_lst eN hl)
  obtain ⟨tts, rt, pt, hzt⟩ := I2.tuple (ext_tup eN ht)
  obtain ⟨m, hn, hloc⟩ := I2.loc
  obtain ⟨u, ru, lk⟩ := hloc i cn _ F.slot hσ (.inr (.inl F.cell))
  cases (show u = Value.ref t from ru)
  have hcell : ∃ cc, X.env.cells.lookup cn = some cc ∧ s'.heap.IsCell cc (some (.ref t)) := by
    rcases lk with ⟨z, _⟩ | ⟨_, z⟩
    · have z' : X.env.scope.names.lookup cn = some .local := z
      rw [F.cell] at z'
      cases z'
    · exact z
  obtain ⟨cc, hcc, hcell⟩ := hcell
  obtain ⟨⟨oc, vs, t0, hoc, hdc, hvc⟩, _, _⟩ := I2.hok c' _ hco
  have hpl : its.length = pl.length := by rw [← rv.length, List.length_map]
  have hit : ∀ (i : Nat) (v : Value), its[i]? = some v → ∃ (k : Nat) (tk : Tok), pl[i]? = some k ∧ k < cs.length ∧ v = Value.int (k : Int) tk := fun i v hv => by
    obtain ⟨k, tk, h1, h2⟩ := vals_nats rv i v hv
    exact ⟨k, tk, h1, hin k (List.mem_of_getElem? h1), h2⟩
  have turn : Turn X.prog X.w X.A.in1 s' f its (fun i => cs.getD (pl.getD i 0) 0) :=
    lam_turn F.L (by have := hr.dp; show X.A.depth < _; omega) hf ⟨c', oc, vs, t0, rfl, hoc, hdc, hvc⟩ I2.nolimit (fun u => F.bind _ _ _ _ _ u) (clo_look F.L.cap hcc hfree) hcell pt rt hcs hit F.d1 F.d2 F.d3
  have hlen : 0 < its.length := by
    rw [hpl]
    exact List.length_pos_iff.mpr hne
  have hgetD : ∀ {a b : Nat}, pl[a]? = some b → pl.getD a 0 = b := fun {a b} z => by rw [List.getD_eq_getElem?_getD, z]; rfl
  cases sg with
  | true =>
    refine min_key (I2.ok.hd hc) pl'.isList hlen turn fun j v h' tk' hv hb kp => ?_
    obtain ⟨kk, tv, h1, h2, rfl⟩ := hit j v hv
    refine ⟨nV kk, H2, I2.kept kp, ⟨_, rfl⟩, q H2 j kk eN T2 ⟨h1, fun j' k' hj' => ?_⟩⟩
    have hj := hb j' (by rw [hpl]; exact (List.getElem?_eq_some_iff.mp hj').1)
    rw [hgetD h1, hgetD hj'] at hj
    exact hj
  | false =>
    refine max_key (I2.ok.hd hc) pl'.isList hlen turn fun j v h' tk' hv hb kp => ?_
    obtain ⟨kk, tv, h1, h2, rfl⟩ := hit j v hv
    refine ⟨nV kk, H2, I2.kept kp, ⟨_, rfl⟩, q H2 j kk eN T2 ⟨h1, fun j' k' hj' => ?_⟩⟩
    have hj := hb j' (by rw [hpl]; exact (List.getElem?_eq_some_iff.mp hj').1)
    rw [hgetD h1, hgetD hj'] at hj
    exact hj
/-- min(e, key = lambda pn: cn[pn]), max(..) -/
theorem pe_minL {sg : Bool} {x : Str} (F : LamF X T params scope cn pn i c P p1 p2 p3) (hr : Room k X.A) (hc : X.calm = true) (hg : Gl X x) (hm : X.mg x = none) (hv : bootBuiltins x = some (.builtin (if sg = true then "min" else "max"))) (ha : PA X [e] ta) (hn : x ≠ "__name__" := by decide) (hdb : (x == ("__debug__" : Str)) = false := by decide)
    (he : backTo pos (starEach [e] X.env) = (false, eval e X.env) :: backTo pos (starEach [] X.env) := by rfl) (hpl : (backTo pos (starEach [e] X.env)).any (·.1) = false := by rfl) :
    PE X (.Call (.Name x p) [e] [⟨some (Str.ofString "key"), .Lambda params (.Subscript (.Name cn p1) (.Name pn p2) p3) scope lpos, kpos⟩] pos) (tMinL sg T X.K i ta) := by
  refine ⟨fun pins s σ H Q I h => ?_⟩
  refine wpAny_Call_Name_kw (ld_blt I hg hm hv ?_ hn hdb)
  refine PyProof.Rows.callWith_kw (thn (ha.run pos pins s σ H _ I h) fun us s1 ⟨vs, H1, I1, r1, q1⟩ => ?_) he hpl rfl rfl
  show wpAny _ _ (evalAll [(do let v ← eval (.Lambda params (.Subscript (.Name cn p1) (.Name pn p2) p3) scope lpos) X.env; standAt pos; pure v)]) _ _ s1
  refine wpAny_evalAll_cons (wpAny_bind (wpAny_mono (run_key (sg := sg) F hr hc I1 r1 q1) (fun f s2 hq => wpAny_bind (wpAny_standAt (wpAny_pure (wpAny_evalAll_nil ?_)))) fun _ _ z => z))
  exact hq
end
end G5

set_option Elab.async false
set_option linter.all false
set_option maxRecDepth 100000
set_option maxHeartbeats 4000000
/-! xs[i] read for xs[i] op= e; sets of tuples of whole numbers: set(), x in the empty one, add. -/
namespace G5
open PySem PySem.Spec PyProof.Rows L2 Builtin
section
variable {X : Cx}
/-- xs[i], 0 ≤ i -/
def rGetL (K : PySem.W.Frag) : V → V → Hp → VK → Prop := fun o i H Q => ∃ (p : Addr) (xs : List V) (k : Nat) (v : V), o = .ref p ∧ i = .int (k : Int) ∧ SqL K H p xs ∧ xs[k]? = some v ∧ Q v H
theorem get_list : PGet X (rGetL X.K) := by
  intro pins s σ H o i ov iv Q I ro ri h
  obtain ⟨p, xs, k, v, rfl, rfl, hq, hv, q⟩ := h
  cases ro
  obtain ⟨t, rfl⟩ := ri
  obtain ⟨its, r, pl, hz⟩ := I.list hq
  obtain ⟨u, hu, ru⟩ := r.get hv
  have hk : k < xs.length := (List.getElem?_eq_some_iff.mp hv).1
  have hn := line63
  have fin : EP X pins σ Q u s := ⟨v, H, I, ru, q⟩
  exact wpAny_getItem_list (k := (k : Int)) pl.isList (by omega) (by omega) (by simpa using hu) fin
end
/-! ### sets of tuples -/
section
variable {P : Program} {w : World} {A : Around} {E : Value → Shared → Prop} {s : Shared} {a x : Addr} {L : List (Addr × List Int)} {es : Array (Int × Value)} {ep : Nat} {t : SetTable} {k : List Int}
theorem SetTR.toks (R : SetTR P w s.heap a L es ep t) (n : Nat) : SetTR P w ({ s with toks := n } : Shared).heap a L es ep t := R
/-- nothing is found in the empty set -/
theorem find_none (R : SetTR P w s.heap a [] es ep t) {Q : Option Nat → Shared → Prop} (hQ : Q none s) : wpAny (model P w) A (setFind a (.ref x) (thash P w k)) Q E s := by
  obtain ⟨o, ho, hex, hd⟩ := R.ob
  obtain ⟨K, hKf, hK, hKb⟩ := R.tab.first (by have := R.room; rw [List.length_map]; omega) (thash P w k)
  have hpl : t.place.toList = [] := by
    have z := R.tab.sz
    rw [List.length_map] at z
    exact List.length_eq_zero_iff.mp (by rw [Array.length_toList]; exact z)
  unfold setFind
  rw [show (100000 : Nat) = 99999 + 1 from rfl]
  unfold setFindIn
  refine wpAny_bind (wpAny_setState_of ho hd R.fits ?_)
  dsimp only
  refine wp_if_neg (by simp [byScan, Value.scannable]) ?_
  (unfold setSearch; rw [show (100000 : Nat) = 99999 + 1 from rfl, setSearchFrom_succ])
  first
    | refine wpAny_bind (wpAny_bind (wpAny_setState_of ho hd R.fits ?_))
    | (refine wpAny_bind (wpAny_pure ?_); refine wpAny_bind (wpAny_bind (wpAny_setState_of ho hd R.fits ?_)))
  (dsimp only; refine wp_if_neg R.gw ?_)
  have spec := go_spec t R.tab.ris R.tab.dm (fun i => (es[i]?.map (·.1)).getD 0) (thash P w k) (10 * SetTable.turns t.mask) 0 (t.probeStart (thash P w k)) rfl (Nat.lt_of_le_of_lt (Nat.zero_le K) hKf) (fun _ h => absurd h (Nat.not_lt_zero _)) (by rw [hpl]; exact fun z => nomatch z)
  rcases spec with ⟨q, i, hq, _⟩ | ⟨_, hpr⟩
  · exact absurd hq (Nat.not_lt_zero _)
  · have hpr' : t.probe (fun i => (es[i]?.map (·.1)).getD 0) (thash P w k) ((none : Option SetTable.Probe).getD (t.probeStart (thash P w k))) = some (.empty (nth t.mask (t.probeStart (thash P w k)) 0).j none) := hpr
    first
      | (rw [hpr']; exact wpAny_pure (wpAny_pure hQ))
      | (refine wpAny_bind (wpAny_pure ?_); rw [hpr']; exact wpAny_pure (wpAny_pure hQ))
/-- x in the empty set -/
theorem in_none (R : SetTR P w s.heap a [] es ep t) (hx : IsT P w s.heap k x) (hu : A.units + 64 < cLine) {Q : Value → Shared → Prop} (hQ : ∀ n, Q (.bool false) { s with toks := n }) : wpAny (model P w) A (compareOp .In (.ref x) (.ref a)) Q E s := by
  have hT : s.TypeIs (.ref a) "set" := by
    obtain ⟨o, ho, hex, hd⟩ := R.ob
    exact ⟨o, ho, hex.1⟩
  show wpAny _ _ (do return .bool (← contains (.ref a) (.ref x))) Q E s
  (refine wpAny_bind ?_; unfold contains; try with_reducible refine wpAny_holding ?_)
  refine wpAny_bind (wpAny_specialOf hT F.slot_set_contains.lookup ?_)
  show wpAny _ _ (if (some (Value.builtin "set.__contains__") == some Value.none) = true then _ else _) _ E s
  rw [if_neg (by rw [beq_builtin_none]; exact Bool.false_ne_true)]
  refine wpAny_bind (wpAny_callSpecialUnlessNone?_slot (name := Str.ofString "__contains__") hT F.slot_set_contains (wpAny_call_entry F.slot_set_contains hT entry_set_contains ?_ (F.args_set_contains_2 _ _)))
  (unfold Builtin.«frozenset.__contains__» Builtin.Frozenset.oneOther; simp only [List.isEmpty_nil, bind_assoc]; unfold Builtin.Frozenset.addrOf Builtin.Frozenset.withSetAsKey setContains)
  (refine wpAny_bind (wpAny_pure ?_); try dsimp only)
  (refine wpAny_bind (wpAny_pure ?_); try dsimp only)
  (refine wpAny_bind (wpAny_tryCatch ?_); refine wpAny_holding ?_)
  refine wpAny_bind ((TK P w).pyHash (k := k) (by show _ < _; simp; omega) hx ?_)
  refine wpAny_bind (find_none (s := { s with toks := s.toks + (TK P w).draws k }) R ?_)
  (refine wpAny_pure ?_; show wpAny _ _ (ret (Value.bool false)) _ _ _)
  exact wpAny_pure ⟨_, rfl, wpAny_truthy_bool (wpAny_pure (hQ _))⟩
/-- add -/
theorem add_tup (R : SetTR P w s.heap a L es ep t) (hx : IsT P w s.heap k x) (hu : A.units + 64 < cLine) (hfew : L.length + 1 < 64) {Q : Value → Shared → Prop}
    (hQ : ∀ h' n L' es' ep' t', Heap.SameBut a s.heap h' → SetTR P w h' a L' es' ep' t' → (k ∈ L.map (·.2) → L' = L) → (k ∉ L.map (·.2) → L'.Perm ((x, k) :: L)) → Q .none { s with heap := h', toks := n }) :
    wpAny (model P w) A (call (.builtin "set.add") [.ref a, .ref x]) Q E s := by
  have hT : s.TypeIs (.ref a) "set" := by
    obtain ⟨o, ho, hex, hd⟩ := R.ob
    exact ⟨o, ho, hex.1⟩
  refine wpAny_call_entry F.slot_set_add hT F.entry_set_add ?_ (F.args_set_add_2 _ _)
  (unfold Builtin.«set.add» Builtin.Frozenset.oneOther; simp only [List.isEmpty_nil, bind_assoc]; unfold Builtin.Frozenset.addrOf setAdd)
  (refine wpAny_bind (wpAny_pure ?_); try dsimp only)
  (refine wpAny_bind (wpAny_pure ?_); try dsimp only)
  (refine wpAny_bind ?_; refine wpAny_holding ?_)
  refine wpAny_bind ((TK P w).pyHash (k := k) (by show _ < _; simp; omega) hx ?_)
  refine add_at (s := { s with toks := s.toks + (TK P w).draws k }) R hx (by simp; omega) hfew fun b h' L' es' ep' t' sb R' h1 h2 => ?_
  show wpAny _ _ (ret Value.none) _ _ _
  exact wpAny_pure ⟨_, rfl, hQ h' _ L' es' ep' t' sb R' h1 h2⟩
end
section
variable {X : Cx}
/-- the tuples of a set stand -/
def TupsOf (K : PySem.W.Frag) (H : Hp) (L : List (Addr × List Int)) : Prop := ∀ p ∈ L, SqT K H p.1 (p.2.map V.int)
theorem set_full {pins : List (Addr × Obj)} {σ : L2.St} {H : Hp} {s : Shared} {a : Addr} {L : List (Addr × List Int)} (I : Inv X pins σ H s) (h : H a = some (SetTO X.prog X.w a L)) (hL : TupsOf X.K H L) : ∃ es ep t, SetTR X.prog X.w s.heap a L es ep t := by
  have z : ObjOk X.prog X.w H s.heap a (SetTO X.prog X.w a L) := I.hok a _ h
  exact SetT0.full z.1 fun p hp => I.isT (hL p hp)
/-- set() -/
def rSet0T (P : Program) (w : World) : List V → Hp → VK → Prop := fun xs H Q => xs = [] ∧ ∀ p, H p = none → Q (.ref p) (upd H p (SetTO P w p []))
theorem cr_set0T : CallR X (.type "set") (rSet0T X.prog X.w) := by
  intro pins s σ H xs us Q I r h
  obtain ⟨rfl, q⟩ := h
  cases r
  refine setR_new fun _ => ?_
  exact ⟨.ref s.heap.objs.size, _, I.laid (t' := s.toks) (fun b u e => Heap.get?_push_of_some _ e) (Nat.le_refl _) (setTO_new (setTR_fresh (P := X.prog) (w := X.w) (Heap.get?_push_size _ rfl)).t0), rfl, q _ (I.hok.fresh (Nat.le_refl _))⟩
/-- x in the empty set -/
def rInT0 (K : PySem.W.Frag) (P : Program) (w : World) : R2 := fun x y H Q => ∃ (b a : Addr) (k : List Int), x = .ref b ∧ y = .ref a ∧ SqT K H b (k.map V.int) ∧ H a = some (SetTO P w a []) ∧ Q (.bl false) H
theorem op_inT0 (hu : X.A.units + 64 < cLine) : OpR X (compareOp .In) (rInT0 X.K X.prog X.w) := by
  intro pins s σ H x y v u Q I rx ry h
  obtain ⟨b, a, k, rfl, rfl, hb, ha, q⟩ := h
  cases rx
  cases ry
  obtain ⟨es, ep, t, R⟩ := set_full I ha (fun p hp => (nomatch hp))
  exact in_none R (I.isT hb) hu fun n => ⟨.bl false, H, I.tok n, rfl, q⟩
/-- add -/
def rAddT (K : PySem.W.Frag) (P : Program) (w : World) : V → List V → Hp → VK → Prop := fun x xs H Q => ∃ (a b : Addr) (k : List Int) (L : List (Addr × List Int)), x = .ref a ∧ xs = [.ref b] ∧ SqT K H b (k.map V.int) ∧ H a = some (SetTO P w a L) ∧ TupsOf K H L ∧ L.length + 1 < 64 ∧
  ∀ L', (k ∈ L.map (·.2) → L' = L) → (k ∉ L.map (·.2) → L'.Perm ((b, k) :: L)) → Q .non (upd H a (SetTO P w a L'))
theorem mt_addT (hu : X.A.units + 64 < cLine) : MtR X "set.add" (rAddT X.K X.prog X.w) := by
  intro pins s σ H x xs v us Q I rx rxs h
  obtain ⟨a, b, k, L, rfl, rfl, hb, ha, hL, hf, q⟩ := h
  cases rx
  cases rxs with
  | cons ry rt =>
    cases rt
    cases ry
    obtain ⟨es, ep, t, R⟩ := set_full I ha hL
    refine add_tup R (I.isT hb) hu hf fun h' n L' es' ep' t' sb R' h1 h2 => ?_
    obtain ⟨o, ho, _⟩ := R'.ob
    exact ⟨.non, _, I.write (e := a) (t' := n) (by rw [ha]; trivial) (.inl rfl) (fun c u hc hu => (sb.2 c hc).trans hu) ⟨o, ho⟩ (setTO_new R'.t0), rfl, q L' h1 h2⟩
end
end G5

set_option Elab.async false
set_option linter.all false
set_option maxRecDepth 100000
set_option maxHeartbeats 4000000
/-! seen.add(x) of a set of tuples; yield from a list. -/
namespace G5
open PySem PySem.Spec PyProof.Rows L2 Builtin
section
variable {X : Cx} {o e : Expr} {to : TE} {ta : TA} {apos cpos : Pos}
def tAddT (K : PySem.W.Frag) (P : Program) (w : World) (to : TE) (t : TA) : TE := fun σ H Q => to σ H fun x H1 => (∃ a L, x = V.ref a ∧ H1 a = some (SetTO P w a L)) ∧ t σ H1 fun xs H2 => rAddT K P w x xs H2 Q
theorem pe_addT (hu : X.A.units + 64 < cLine) (ho : PE X o to) (ha : PA X [e] ta) (hb : attributeBase o "add" X.env (eval o X.env) = eval o X.env := by rfl)
    (hf : ((backTo cpos (starEach [e] X.env)).all (fun x => !x.1) && (backToKw cpos (keywordEach [] X.env)).all (fun x => x.1.isSome) && decide (([e] : List Expr).length + ([] : List Keyword).length + (if ([] : List Keyword).isEmpty then 0 else 1) < 30)) = true := by rfl)
    (hl : (apos.endLine == cpos.line) = true := by rfl) (hs : starEach [e] X.env = (false, eval e X.env) :: starEach [] X.env := by rfl) (hp : (backTo cpos (starEach [] X.env)).any (·.1) = false := by rfl) :
    PE X (.Call (.Attribute o "add" apos) [e] [] cpos) (tAddT X.K X.prog X.w to ta) := by
  refine ⟨fun pins s σ H Q I h => ?_⟩
  refine wpAny_Call_method_late hb hf hl rfl (thn (ho.run pins s σ H _ I h) fun v s1 ⟨x, H1, I1, r1, ty, q1⟩ => ?_)
  obtain ⟨a, L, rfl, hka⟩ := ty
  cases r1
  have z : ObjOk X.prog X.w H1 s1.heap a (SetTO X.prog X.w a L) := I1.hok a _ hka
  obtain ⟨es, ep, t, ⟨ob, hob, hex, hda⟩, _⟩ := (show SetT0 X.prog X.w s1.heap a L from z.1).ex
  refine ⟨"set", "set.add", F.plainAttrs_set, F.slot_set_add, F.type_set_add, ⟨ob, hob, hex.1⟩, fun b z => (by cases z; exact ⟨ob, hob, hex.2.1⟩), ?_⟩
  have hA := ha.run cpos pins s1 σ H1 _ I1 q1
  rw [hs] at hA ⊢
  refine Calls.callWith_builtin (by show (false || (backTo cpos (starEach [] X.env)).any (·.1)) = false; rw [hp] <;> rfl) (Calls.evalArgs_plain ?_)
  exact thn hA fun us s2 ⟨vs, H2, I2, r2, q2⟩ => mt_addT hu pins s2 σ H2 (.ref a) vs (.ref a) us Q I2 rfl r2 q2
end
/-! ### a list's iterator, turn by turn -/
section
variable {prog : Program} {w : World} {A : Around} {E : Value → Shared → Prop} {s : Shared} {it l : Addr} {i : Nat} {items : Array Value}
theorem lst_turn {x : Value} {Q : Option Value → Shared → Prop} (hit : s.heap.IsListIter it l i) (hl : s.heap.IsList l items) (hx : items[i]? = some x) (hQ : ∀ h', h'.IsListIter it l (i + 1) → Heap.SameBut it s.heap h' → Q (some x) { s with heap := h' }) : wpAny (model prog w) A (callSpecial? (.ref it) "__next__") Q E s := by
  obtain ⟨oi, hoi, hci, hdi⟩ := id hit
  obtain ⟨oo, hoo, _, nn, hdd⟩ := hl
  refine wpAny_callSpecial?_slot (name := Str.ofString "__next__") hit.typeIs slot_listiter_next (wpAny_call_entry slot_listiter_next hit.typeIs entry_listiter_next ?_ (args_listiter_next _))
  (show wpAny _ _ (field (.ref it) 0 >>= _) _ _ s; refine wpAny_bind (wpAny_field hoi hdi (x := .ref l) rfl ?_))
  (show wpAny _ _ (if (Value.ref l == Value.none) = true then _ else _) _ _ s; rw [if_neg (show ¬ ((Value.ref l == Value.none) = true) from Bool.false_ne_true)])
  (show wpAny _ _ (field (.ref it) 1 >>= _) _ _ s; refine wpAny_bind (wpAny_field hoi hdi (x := .int i 0) rfl ?_))
  (show wpAny _ _ (seqItems? (.ref l) >>= _) _ _ s; refine wpAny_bind (wpAny_seqItems hoo hdd ?_))
  simp only [Int.toNat_natCast, hx]
  refine wpAny_bind (wpAny_setField hoi hdi (by simp) (wpAny_pure ⟨x, rfl, hQ _ ?_ (Heap.SameBut.update ..)⟩))
  exact ⟨_, Heap.get?_update_self _ hoi (Obj.isFreed_of_fields (Obj.data_mapFields hdi _)), (Obj.cls_mapFields ..).trans hci, by rw [Obj.data_mapFields hdi]; simp [rawInt]⟩
theorem lst_stop {Q : Option Value → Shared → Prop} (hh : A.handled = none) (hit : s.heap.IsListIter it l i) (hl : s.heap.IsList l items) (hx : items[i]? = none) (hE : ∀ e h', StopX e h' → Heap.ExtBut it s.heap h' → E e { s with heap := h' }) : wpAny (model prog w) A (callSpecial? (.ref it) "__next__") Q E s := by
  obtain ⟨oi, hoi, hci, hdi⟩ := id hit
  obtain ⟨oo, hoo, _, nn, hdd⟩ := hl
  refine wpAny_callSpecial?_slot (name := Str.ofString "__next__") hit.typeIs slot_listiter_next (wpAny_call_entry slot_listiter_next hit.typeIs entry_listiter_next ?_ (args_listiter_next _))
  (show wpAny _ _ (field (.ref it) 0 >>= _) _ _ s; refine wpAny_bind (wpAny_field hoi hdi (x := .ref l) rfl ?_))
  (show wpAny _ _ (if (Value.ref l == Value.none) = true then _ else _) _ _ s; rw [if_neg (show ¬ ((Value.ref l == Value.none) = true) from Bool.false_ne_true)])
  (show wpAny _ _ (field (.ref it) 1 >>= _) _ _ s; refine wpAny_bind (wpAny_field hoi hdi (x := .int i 0) rfl ?_))
  (show wpAny _ _ (seqItems? (.ref l) >>= _) _ _ s; refine wpAny_bind (wpAny_seqItems hoo hdd ?_))
  simp only [Int.toNat_natCast, hx]
  refine wpAny_bind (wpAny_rule (wpAny_bind (wpAny_setField hoi hdi (by simp) ?_)))
  (show wpAny _ _ (newExc (.type "StopIteration") [] >>= _) _ _ _; refine wpAny_bind ?_; simp only [newExc, newTuple])
  refine wpAny_bind (wpAny_newObj_type ?_ (by size_fits))
  refine wpAny_bind (m := firstArgMember _ _) (wpAny_of_eq (a := Value.none) (by first | rfl | (simp only [firstArgMember]; rfl)) ?_)
  (refine wpAny_newObj_type ?_ (by size_fits); simp only [raiseNew]; refine wpAny_bind (wpAny_handled ?_))
  first | rw [show A.in1.handled = none from hh] | rw [hh]
  refine wpAny_bind (wpAny_pure (wpAny_throw ?_))
  refine hE _ _ ⟨_, _, _, rfl, Heap.get?_push_size _ rfl, rfl, rfl, ?_⟩ (((Heap.SameBut.update ..).extBut.push _).push _)
  first
    | rfl
    | (rw [Array.getElem?_append_left (by decide)]; rfl)
    | kernel_rfl
end
section
variable {X : Cx} {e : Expr} {te : TE}
def tYfLst (te : TE) : TYf := fun σ H Q => te σ H fun x H1 => ∃ a xs, x = .ref a ∧ H1 a = some (.lst xs) ∧ Q xs H1
theorem close_lst : typeLookup (.type "list_iterator") "close" = pure none := by rw [typeLookup_type, builtinLookup_eq_fast]; kernel_rfl
theorem yf_lst (he : PE X e te) : YfE X e (tYfLst te) := by
  refine ⟨fun pins s σ H Q I h => ?_⟩
  refine thn (he.run pins s σ H _ I h) fun v s1 ⟨x, H1, I1, r1, a, xs, ex, ha, hq⟩ => ?_
  subst ex
  obtain rfl : v = Value.ref a := r1
  obtain ⟨its, nn, rits, hob, hzz⟩ := I1.lst ha
  have hl : s1.heap.IsList a its.toArray := ⟨_, hob, rfl, nn, rfl⟩
  refine ⟨"list", hl.typeIs, by decide, wpAny_pyIter_list hl ?_⟩
  have ksz : ∀ b o, s1.heap.get? b = some o → b ≠ s1.heap.objs.size := fun b o e => Nat.ne_of_lt (Heap.lt_size e)
  have kp : Kp s1.heap (s1.heap.push { cls := .type "list_iterator", data := .fields #[.ref a, .int 0 0] }) := fun b o e => Heap.get?_push_of_some _ e
  have hne : a ≠ s1.heap.objs.size := ksz a _ hob
  refine ⟨s1.heap.objs.size, H1, xs, fun j h => h.IsListIter s1.heap.objs.size a j ∧ h.IsList a its.toArray, rfl, I1.kept (t' := s1.toks) kp, .inr I1.sz, Nat.ne_of_gt I1.lt, fun y c hy => ?_, I1.hok.fresh (Nat.le_refl _), fun p hp => ksz p.1 _ (I1.pin p hp).1,
    ⟨⟨_, Heap.get?_push_size _ rfl, rfl, rfl⟩, hl.at fun o z => kp _ _ z⟩, ⟨⟨"list_iterator", fun j h q => ?_, close_lst, by decide⟩, fun j h h' q hk => ?_, fun A' j x s2 Q' E' hA hx q hQ => ?_, fun A' s2 Q' E' hA q hE => ?_⟩, hq⟩
  · obtain ⟨v, o, ho, _⟩ := I1.cell y c hy
    exact ksz c o ho
  · obtain ⟨⟨o, ho, hc, _⟩, _⟩ := q
    exact ⟨o, ho, hc⟩
  · exact ⟨q.1.at fun o z => hk _ o (.inl rfl) z, q.2.at fun o z => hk _ o (.inr (by rw [ha]; exact fun z => by cases z)) z⟩
  · obtain ⟨q1, q2⟩ := q
    obtain ⟨u, hu, ru⟩ := rits.get hx
    exact lst_turn q1 q2 (x := u) (by simpa using hu) fun h' q1' hs => hQ u h' s2.toks ru ⟨q1', q2.extBut hs.extBut hne⟩ fun b o hb eb => hs.extBut b o hb eb
  · obtain ⟨q1, q2⟩ := q
    have hnone : its.toArray[xs.length]? = none := by
      have e1 := rits.length
      have e2 : its[xs.length]? = none := List.getElem?_eq_none_iff.mpr (by omega)
      simpa using e2
    exact lst_stop hA q1 q2 hnone fun e h' hS hk => hE e h' s2.toks hS fun b o hb eb => hk b o hb eb
end
end G5

set_option Elab.async false
set_option linter.all false
set_option maxRecDepth 100000
set_option maxHeartbeats 4000000
/-! the play's state, and where it stands -/
namespace K6
open PySem PySem.Spec PyProof.Rows L2 G1 G2 K2 G5
/-- what an event told -/
abbrev Tld := Option Nat × List Nat × Int
structure Pl where
  cont : List (List (Option Str))
  liv : List Int
  free : List Nat
  clo : List Nat
  fil : Option Nat
  hom : List (L2.Key × V)
  told : List Tld
def oS : Option Str → V
  | none => .non
  | some x => .str x
def oN : Option Nat → V
  | none => .non
  | some k => .int (k : Int)
/-- where its parts stand -/
structure PAd where
  dx : Addr
  dr : Addr
  ac : Addr
  rcs : List Addr
  al : Addr
  af : Addr
  acl : Addr
  ad : Addr
  ta : Addr
  rt : List Addr
def plF (A : PAd) (f : Option Nat) : List (Str × V) := [("drive", .ref A.dr), ("content", .ref A.ac), ("living", .ref A.al), ("free", .ref A.af), ("closed", .ref A.acl), ("filling", oN f), ("homes", .ref A.ad), ("told", .ref A.ta)]
def TldAt (H : Hp) (a : Addr) (t : Tld) : Prop := ∃ q, H a = some (.tup [oN t.1, .ref q, .int t.2.2]) ∧ H q = some (.tup (t.2.1.map nV))
/-- the lists that change -/
def PAd.ls (A : PAd) : List Addr := A.ac :: A.al :: A.af :: A.acl :: A.ta :: A.rcs
structure PlayAt (C : Addr) (H : Hp) (x : Addr) (s : Pl) (A : PAd) : Prop where
  ins : H x = some (.ins C A.dx (plF A s.fil))
  cont : H A.ac = some (.lst (A.rcs.map V.ref))
  inner : Paired (fun (a : Addr) (c : List (Option Str)) => H a = some (.lst (c.map oS))) A.rcs s.cont
  liv : H A.al = some (.lst (s.liv.map V.int))
  free : H A.af = some (.lst (s.free.map nV))
  clo : H A.acl = some (.lst (s.clo.map nV))
  hom : H A.ad = some (.dK s.hom)
  told : H A.ta = some (.lst (A.rt.map V.ref))
  tat : Paired (TldAt H) A.rt s.told
  nd : A.ls.Nodup
/-- all that the play may change -/
def PAd.foot (A : PAd) (x : Addr) : List Addr := x :: A.ad :: A.ls
/-- nothing else of what was there has changed -/
def Frm (F : List Addr) (H H' : Hp) : Prop := ∀ b o, H b = some o → b ∉ F → H' b = some o
theorem Frm.refl (F : List Addr) (H : Hp) : Frm F H H := fun _ _ h _ => h
theorem Frm.same {F : List Addr} {H H' : Hp} (s : Same H H') : Frm F H H' := fun b o h _ => s b o h
/-- nothing stands there -/
abbrev Nw (H : Hp) (a : Addr) : Prop := H a = none
/-- what is new behind was new ahead -/
theorem Frm.back {F : List Addr} {H H' : Hp} (f : Frm F H H') (k : ∀ a ∈ F, ∃ o, H' a = some o ∧ ∀ ps, o ≠ .tbl ps) {a : Addr} (h : Nw H' a) : Nw H a := by
  cases e : H a with
  | none => exact e
  | some o =>
    by_cases z : a ∈ F
    · obtain ⟨u, hu, _⟩ := k a z
      rw [h] at hu
      cases hu
    · have := f a o e z
      rw [h] at this
      cases this
theorem paired_upd {C : Type} {H : Hp} {a : Addr} {o : HO} {f : C → HO} : ∀ {rs : List Addr} {cs : List C}, Paired (fun (b : Addr) (c : C) => H b = some (f c)) rs cs → a ∉ rs → Paired (fun (b : Addr) (c : C) => upd H a o b = some (f c)) rs cs
  | _, _, .nil, _ => .nil
  | _, _, .cons r t, h => .cons (by rw [upd_ne fun z => h (by rw [z]; exact List.mem_cons_self ..)]; exact r) (paired_upd t fun z => h (List.mem_cons_of_mem _ z))
theorem TldAt.upd {H : Hp} {a b : Addr} {o : HO} {t : Tld} (h : TldAt H b t) (ha : ∀ xs, H a ≠ some (.tup xs)) : TldAt (L2.upd H a o) b t := by
  obtain ⟨q, h1, h2⟩ := h
  exact ⟨q, by rw [upd_ne fun z => ha _ (z ▸ h1)]; exact h1, by rw [upd_ne fun z => ha _ (z ▸ h2)]; exact h2⟩
section
variable {C x : Addr} {H : Hp} {s : Pl} {A : PAd}
theorem ne_lst_tup {a : Addr} {xs ys : List V} (h : H a = some (.lst xs)) : H a ≠ some (.tup ys) := fun z => by rw [h] at z; cases z
/-- a list among the changing ones is written -/
theorem PlayAt.base (h : PlayAt C H x s A) {a : Addr} {xs ys : List V} (ha : H a = some (.lst xs)) : upd H a (.lst ys) x = some (.ins C A.dx (plF A s.fil)) ∧ upd H a (.lst ys) A.ad = some (.dK s.hom) ∧ Paired (TldAt (upd H a (.lst ys))) A.rt s.told :=
  ⟨by rw [upd_ne (ne_of h.ins ha (by intro z; cases z))]; exact h.ins, by rw [upd_ne (ne_of h.hom ha (by intro z; cases z))]; exact h.hom, Paired.mapP h.tat fun _ _ z => z.upd fun _ => ne_lst_tup ha⟩
theorem PlayAt.liv_put (h : PlayAt C H x s A) (l : List Int) : PlayAt C (upd H A.al (.lst (l.map V.int))) x { s with liv := l } A := by
  obtain ⟨b1, b2, b3⟩ := h.base (ys := l.map V.int) h.liv
  have nd := h.nd
  unfold PAd.ls at nd
  simp only [List.nodup_cons, List.mem_cons, not_or] at nd
  obtain ⟨⟨n1, n2, n3, n4, n5⟩, ⟨m1, m2, m3, m4⟩, _⟩ := nd
  exact ⟨b1, by rw [upd_ne n1]; exact h.cont, paired_upd h.inner m4, upd_same, by rw [upd_ne (Ne.symm m1)]; exact h.free, by rw [upd_ne (Ne.symm m2)]; exact h.clo, b2, by rw [upd_ne (Ne.symm m3)]; exact h.told, b3, h.nd⟩
theorem PlayAt.free_put (h : PlayAt C H x s A) (l : List Nat) : PlayAt C (upd H A.af (.lst (l.map nV))) x { s with free := l } A := by
  obtain ⟨b1, b2, b3⟩ := h.base (ys := l.map nV) h.free
  have nd := h.nd
  unfold PAd.ls at nd
  simp only [List.nodup_cons, List.mem_cons, not_or] at nd
  obtain ⟨⟨n1, n2, n3, n4, n5⟩, ⟨m1, m2, m3, m4⟩, ⟨k1, k2, k3⟩, _⟩ := nd
  exact ⟨b1, by rw [upd_ne n2]; exact h.cont, paired_upd h.inner k3, by rw [upd_ne m1]; exact h.liv, upd_same, by rw [upd_ne (Ne.symm k1)]; exact h.clo, b2, by rw [upd_ne (Ne.symm k2)]; exact h.told, b3, h.nd⟩
theorem PlayAt.clo_put (h : PlayAt C H x s A) (l : List Nat) : PlayAt C (upd H A.acl (.lst (l.map nV))) x { s with clo := l } A := by
  obtain ⟨b1, b2, b3⟩ := h.base (ys := l.map nV) h.clo
  have nd := h.nd
  unfold PAd.ls at nd
  simp only [List.nodup_cons, List.mem_cons, not_or] at nd
  obtain ⟨⟨n1, n2, n3, n4, n5⟩, ⟨m1, m2, m3, m4⟩, ⟨k1, k2, k3⟩, ⟨j1, j2⟩, _⟩ := nd
  exact ⟨b1, by rw [upd_ne n3]; exact h.cont, paired_upd h.inner j2, by rw [upd_ne m2]; exact h.liv, by rw [upd_ne k1]; exact h.free, upd_same, b2, by rw [upd_ne (Ne.symm j1)]; exact h.told, b3, h.nd⟩
theorem PlayAt.told_put (h : PlayAt C H x s A) {a : Addr} {t : Tld} (ha : TldAt H a t) : PlayAt C (upd H A.ta (.lst (A.rt.map V.ref ++ [.ref a]))) x { s with told := s.told ++ [t] } { A with rt := A.rt ++ [a] } := by
  obtain ⟨b1, b2, b3⟩ := h.base (ys := A.rt.map V.ref ++ [.ref a]) h.told
  have nd := h.nd
  unfold PAd.ls at nd
  simp only [List.nodup_cons, List.mem_cons, not_or] at nd
  obtain ⟨⟨n1, n2, n3, n4, n5⟩, ⟨m1, m2, m3, m4⟩, ⟨k1, k2, k3⟩, ⟨j1, j2⟩, i1, _⟩ := nd
  exact ⟨b1, by rw [upd_ne n4]; exact h.cont, paired_upd h.inner i1, by rw [upd_ne m3]; exact h.liv, by rw [upd_ne k2]; exact h.free, by rw [upd_ne j1]; exact h.clo, b2, by rw [upd_same, List.map_append]; rfl, paired_snoc b3 (ha.upd fun _ => ne_lst_tup h.told), h.nd⟩
theorem PlayAt.hom_put (h : PlayAt C H x s A) (l : List (L2.Key × V)) : PlayAt C (upd H A.ad (.dK l)) x { s with hom := l } A := by
  have nl : ∀ {a xs}, H a = some (.lst xs) → a ≠ A.ad := fun {a xs} z => ne_of z h.hom (by intro z; cases z)
  refine ⟨by rw [upd_ne (ne_of h.ins h.hom (by intro z; cases z))]; exact h.ins, by rw [upd_ne (nl h.cont)]; exact h.cont, ?_, by rw [upd_ne (nl h.liv)]; exact h.liv, by rw [upd_ne (nl h.free)]; exact h.free, by rw [upd_ne (nl h.clo)]; exact h.clo, upd_same, by rw [upd_ne (nl h.told)]; exact h.told, Paired.mapP h.tat fun _ _ z => z.upd fun ys e => (by rw [h.hom] at e; cases e), h.nd⟩
  exact Paired.mapP h.inner fun b c z => by rw [upd_ne (nl z)]; exact z
theorem put_fil (A : PAd) (f g : Option Nat) : putF "filling" (oN g) (plF A f) = plF A g := by
  cases f <;> rfl
theorem PlayAt.fil_put (h : PlayAt C H x s A) (g : Option Nat) : PlayAt C (upd H x (.ins C A.dx (plF A g))) x { s with fil := g } A := by
  have nl : ∀ {a xs}, H a = some (.lst xs) → a ≠ x := fun {a xs} z => ne_of z h.ins (by intro z; cases z)
  refine ⟨upd_same, by rw [upd_ne (nl h.cont)]; exact h.cont, ?_, by rw [upd_ne (nl h.liv)]; exact h.liv, by rw [upd_ne (nl h.free)]; exact h.free, by rw [upd_ne (nl h.clo)]; exact h.clo, by rw [upd_ne (ne_of h.hom h.ins (by intro z; cases z))]; exact h.hom, by rw [upd_ne (nl h.told)]; exact h.told, Paired.mapP h.tat fun _ _ z => z.upd fun ys e => (by rw [h.ins] at e; cases e), h.nd⟩
  exact Paired.mapP h.inner fun b c z => by rw [upd_ne (nl z)]; exact z
/-- the k-th of the inner lists is written -/
theorem paired_put {D : Type} {f : D → HO} {c : D} : ∀ {rs : List Addr} {cs : List D} {k : Nat} {a : Addr}, Paired (fun (b : Addr) (c : D) => H b = some (f c)) rs cs → rs.Nodup → rs[k]? = some a → Paired (fun (b : Addr) (d : D) => upd H a (f c) b = some (f d)) rs (cs.set k c)
  | _, _, _, _, .nil, _, h => by simp at h
  | _, _, 0, a, .cons (a := r) (b := d) h t, nd, e => by
    have e' : r = a := by simpa using e
    subst e'
    rw [List.nodup_cons] at nd
    exact .cons upd_same (paired_upd t nd.1)
  | _, _, k + 1, a, .cons (a := r) (b := d) h t, nd, e => by
    rw [List.nodup_cons] at nd
    have e' := e
    rw [List.getElem?_cons_succ] at e'
    have hm := List.mem_of_getElem? e'
    exact .cons (by rw [upd_ne fun z => nd.1 (by rw [z]; exact hm)]; exact h) (paired_put t nd.2 e')
theorem PlayAt.cont_put (h : PlayAt C H x s A) {k : Nat} {a : Addr} (ha : A.rcs[k]? = some a) (c : List (Option Str)) : PlayAt C (upd H a (.lst (c.map oS))) x { s with cont := s.cont.set k c } A := by
  obtain ⟨c0, hc0, hin⟩ := K2.paired_get h.inner ha
  obtain ⟨b1, b2, b3⟩ := h.base (ys := c.map oS) hin
  have hm := List.mem_of_getElem? ha
  have nd := h.nd
  unfold PAd.ls at nd
  simp only [List.nodup_cons, List.mem_cons, not_or] at nd
  obtain ⟨⟨n1, n2, n3, n4, n5⟩, ⟨m1, m2, m3, m4⟩, ⟨k1, k2, k3⟩, ⟨j1, j2⟩, i1, i2⟩ := nd
  have ne : ∀ {b : Addr}, b ∉ A.rcs → b ≠ a := fun {b} z e => z (by rw [e]; exact hm)
  exact ⟨b1, by rw [upd_ne (ne n5)]; exact h.cont, paired_put (f := fun (c : List (Option Str)) => HO.lst (c.map oS)) h.inner i2 ha, by rw [upd_ne (ne m4)]; exact h.liv, by rw [upd_ne (ne k3)]; exact h.free, by rw [upd_ne (ne j2)]; exact h.clo, b2, by rw [upd_ne (ne i1)]; exact h.told, b3, h.nd⟩
theorem PlayAt.same {H' : Hp} (h : PlayAt C H x s A) (e : Same H H') : PlayAt C H' x s A :=
  ⟨e _ _ h.ins, e _ _ h.cont, Paired.mapP h.inner fun _ _ z => e _ _ z, e _ _ h.liv, e _ _ h.free, e _ _ h.clo, e _ _ h.hom, e _ _ h.told, Paired.mapP h.tat fun _ _ ⟨q, z1, z2⟩ => ⟨q, e _ _ z1, e _ _ z2⟩, h.nd⟩
end
end K6

set_option Elab.async false
set_option linter.all false
set_option maxRecDepth 100000
set_option maxHeartbeats 4000000
namespace K6
open PySem PySem.Spec PyProof.Rows L2 G1 G2 K2 G5
structure PrpOk (P : Program) (w : World) (K : PySem.W.Frag) (mg : Str → Option Value) (base : Heap) (C : Addr) (nm fld : Str) : Prop where
  ex : ∃ (p g : Addr) (fd : FuncData), PropOf K C nm p g ∧ FnOk P w K mg base CX0 1 g fd ["self"] (getSp C fld) ∧ Binds K fd ["self"] []
/-- a drive's properties -/
structure DD (P : Program) (w : World) (K : PySem.W.Frag) (mg : Str → Option Value) (base : Heap) (C : Addr) : Prop where
  T : DCls K C
  D : DKit K C
  pb : PrpOk P w K mg base C "blocks" "kept_blocks"
  pp : PrpOk P w K mg base C "pages" "kept_pages"
  pn : PrpOk P w K mg base C "names" "kept_names"
  pr : PrpOk P w K mg base C "rows" "kept_rows"
  gD : mg "Drive" = some (.ref C)
/-- a play's class -/
structure PCls (K : PySem.W.Frag) (C : Addr) : Prop where
  cl : Cls K C
  n1 : NoAttr K C "drive"
  n2 : NoAttr K C "content"
  n3 : NoAttr K C "living"
  n4 : NoAttr K C "free"
  n5 : NoAttr K C "closed"
  n6 : NoAttr K C "filling"
  n7 : NoAttr K C "homes"
  n8 : NoAttr K C "told"
structure FAt (P : Program) (w : World) (K : PySem.W.Frag) (mg : Str → Option Value) (base : Heap) (k : Nat) (x : Str) (ps : List Str) (sp : Sp) : Prop where
  ex : ∃ (f : Addr) (fd : FuncData), FnOk P w K mg base CX0 k f fd ps sp ∧ PySem.W.keepIn K (.ref f) = true ∧ Binds K fd ps [] ∧ mg x = some (.ref f)
abbrev sPut : Stmt := topS 60
theorem scPut : FnScope ["play", "name", "block"] ["play", "name"] (defScope sPut) := ⟨rfl, rfl, rfl, by decide +kernel, rfl, by decide +kernel, by decide +kernel⟩
/-- put_page -/
def putP (p : Nat) (s : Pl) (k : Nat) (nm : Str) : Pl :=
  if (s.cont.getD k []).length + 1 = p then { s with cont := s.cont.set k (s.cont.getD k [] ++ [some nm]), liv := s.liv.set k (s.liv.getD k 0 + 1), hom := putK s.hom (.inr nm) (nV k), clo := s.clo ++ [k], fil := none }
  else { s with cont := s.cont.set k (s.cont.getD k [] ++ [some nm]), liv := s.liv.set k (s.liv.getD k 0 + 1), hom := putK s.hom (.inr nm) (nV k) }
/-- sizes that are never passed -/
structure Fit (s : Pl) : Prop where
  cont : ∀ c ∈ s.cont, c.length ≤ 100
  hom : s.hom.length ≤ 5000
  clo : s.clo.length ≤ 100
  lens : s.liv.length = s.cont.length
def spPut (K : PySem.W.Frag) (CD C : Addr) : Sp := fun vs H Q _ => ∃ (x : Addr) (nm : Str) (s : Pl) (A : PAd) (k b p n : Nat) (ini : List RowD) (y : Str), vs = [.ref x, .str nm] ∧ PlayAt C H x s A ∧ Fit s ∧ s.fil = some k ∧ k < s.cont.length ∧ DrvAt K CD H A.dr b p n ini y ∧ A.dr ≠ x ∧
  ∀ H' : Hp, PlayAt C H' x (putP p s k nm) A → Frm (A.foot x) H H' → Q .non H'
theorem foot_ad {A : PAd} {x : Addr} : A.ad ∈ A.foot x := List.mem_cons_of_mem _ (List.mem_cons_self ..)
theorem foot_ls {A : PAd} {x a : Addr} (h : a ∈ A.ls) : a ∈ A.foot x := List.mem_cons_of_mem _ (List.mem_cons_of_mem _ h)
theorem foot_rc {A : PAd} {x a : Addr} (h : a ∈ A.rcs) : a ∈ A.foot x := foot_ls (by unfold PAd.ls; exact List.mem_cons_of_mem _ (List.mem_cons_of_mem _ (List.mem_cons_of_mem _ (List.mem_cons_of_mem _ (List.mem_cons_of_mem _ h)))))
theorem foot_x {A : PAd} {x : Addr} : x ∈ A.foot x := List.mem_cons_self ..
theorem foot_al {A : PAd} {x : Addr} : A.al ∈ A.foot x := foot_ls (by unfold PAd.ls; simp)
theorem foot_acl {A : PAd} {x : Addr} : A.acl ∈ A.foot x := foot_ls (by unfold PAd.ls; simp)
theorem Frm.upd {F : List Addr} {H H1 : Hp} {a : Addr} {o : HO} (f : Frm F H H1) (h : a ∈ F) : Frm F H (L2.upd H1 a o) := fun b u e nb => by rw [upd_ne fun z => nb (by rw [z]; exact h)]; exact f b u e nb
theorem ix_at {n k : Nat} (h : k < n) : ixN n (k : Int) = some k := by
  unfold ixN
  rw [if_pos (by omega), if_pos (by omega), Int.toNat_natCast]
theorem drv_out {C x CD dd : Addr} {H : Hp} {s : Pl} {A : PAd} {fs : List (Str × V)} (h : PlayAt C H x s A) (hd : H A.dr = some (.ins CD dd fs)) (hx : A.dr ≠ x) : A.dr ∉ A.foot x := by
  have nl : ∀ {a : Addr} {xs : List V}, H a = some (.lst xs) → A.dr ≠ a := fun {a xs} z => ne_of hd z (by intro z; cases z)
  intro z
  unfold PAd.foot PAd.ls at z
  simp only [List.mem_cons] at z
  rcases z with z | z | z | z | z | z | z | z
  · exact hx z
  · exact ne_of hd h.hom (by intro z; cases z) z
  · exact nl h.cont z
  · exact nl h.liv z
  · exact nl h.free z
  · exact nl h.clo z
  · exact nl h.told z
  · obtain ⟨j, hj, e⟩ := List.getElem_of_mem z
    obtain ⟨c, _, hc⟩ := K2.paired_get h.inner (List.getElem?_eq_getElem hj)
    rw [e] at hc
    exact nl hc rfl
theorem one_if6 {tt : TT} {t : TS} {D : Ends} {σ : L2.St} {H : Hp} (h : tt σ H fun c H1 => if c = true then t D σ H1 else D.nx σ H1) : tIfS tt t tNext D σ H := h
theorem test_read6 {te : TE} {σ : L2.St} {H : Hp} {Q : Bool → Hp → Prop} (h : te σ H fun x H1 => ∃ k, x = .bl k ∧ Q k H1) : tTest te σ H Q := h
theorem eqI6 (i j : Int) : decide (V.int i = V.int j) = decide (i = j) := by
  by_cases e : i = j
  · rw [e, decide_eq_true rfl, decide_eq_true rfl]
  · rw [decide_eq_false e, decide_eq_false fun z => e (by injection z)]
section
variable {P : Program} {w : World} {K : PySem.W.Frag} {mg : Str → Option Value} {base : Heap} {CD C : Addr}
theorem ok_put {f : Addr} {fd : FuncData} (F : Fun K "put_page" "put_page" sPut f fd) (B : Bl mg) (M : DD P w K mg base CD) (T : PCls K C) : FnOk P w K mg base CX0 3 f fd ["play", "name"] (spPut K CD C) := by
  refine F.ok scPut (fun vs H Q E h => ?_) (fun cdv A0 outer s0 H vs Q E hr h => ?_)
  · obtain ⟨x, nm, s, A, k, b, p, n, ini, y, rfl, _⟩ := h
    rfl
  obtain ⟨x, nm, s, A, k, b, p, n, ini, y, rfl, hp, hf, hk, hkl, ⟨dd, td, hd, hR⟩, hdx, q⟩ := h
  have hr2 : Room 2 _ := hr.mono (by decide)
  have hu := hu_of hr
  obtain ⟨pp, gp, fp, P2, F2, B2⟩ := M.pp.ex
  refine ⟨_, pss_cons (ps_set (i := 2) scPut.nd rfl (.inl rfl) (pe_fld (pv 0) rfl))
    (pss_cons (ps_expr (pe_bm PySem.F.plainAttrs_list PySem.F.slot_list_append PySem.F.type_list_append mt_append (pe_ix ix_list (pe_fld (pv 0) rfl) (pv 2) (fun _ _ => rfl)) (pa_cons (pv 1) pa_nil)))
    (pss_cons (ps_augS (pe_fld (pv 0) rfl) (pv 2) get_list pe_int ip_add set_list)
    (pss_cons (ps_dput hu (pe_fld (pv 0) rfl) (pv 1) (pv 2) rfl)
    (pss_one (ps_if (pt_cmpR op_eq (pe_callB call_len_seq (by rfl) B.len PySem.boot_len (pa_cons (pe_ix ix_list (pe_fld (pv 0) rfl) (pv 2) (fun _ _ => rfl)) pa_nil)) (pe_prop (pe_fld (pv 0) rfl) M.T.cl P2 F2 hr2 B2 .nil pass0 rfl) (nomark _))
      (pss_cons (ps_expr (pe_bm PySem.F.plainAttrs_list PySem.F.slot_list_append PySem.F.type_list_append mt_append (pe_fld (pv 0) rfl) (pa_cons (pv 2) pa_nil)))
      (pss_one (ps_fld (pv 0) pe_non rfl))) pss_nil))))), ?_⟩
  have hlr := Paired.length hp.inner
  obtain ⟨a, ha⟩ : ∃ a, A.rcs[k]? = some a := ⟨A.rcs[k]'(by omega), List.getElem?_eq_getElem _⟩
  obtain ⟨c, hc, hin⟩ := K2.paired_get hp.inner ha
  have hcD : s.cont.getD k [] = c := by rw [List.getD_eq_getElem?_getD, hc]; rfl
  have hcl := hf.cont c (List.mem_of_getElem? hc)
  have har := List.mem_of_getElem? ha
  refine seq_asg ⟨_, rfl, x, C, A.dx, _, nV k, rfl, hp.ins, T.cl, T.n6, by rw [hk]; rfl, ?_⟩
  -- content[block].append(name)
  refine ⟨_, rfl, x, C, A.dx, _, _, rfl, hp.ins, T.cl, T.n2, rfl, _, rfl, A.ac, _, (k : Int), .ref a, rfl, rfl, SqL.of hp.cont, atI_nat (by rw [List.getElem?_map, ha]; rfl), .inl ⟨rfl, _, SqL.of hin⟩, cons_read ⟨_, rfl, nil_read ⟨a, _, _, rfl, rfl, hin, by rw [List.length_map, sizeLine_eq]; omega, ?_⟩⟩⟩
  have e1 : (c.map oS ++ [V.str nm]) = (c ++ [some nm]).map oS := by rw [List.map_append]; rfl
  rw [e1]
  have p1 := hp.cont_put ha (c ++ [some nm])
  have f1 : Frm (A.foot x) H (L2.upd H a (.lst ((c ++ [some nm]).map oS))) := (Frm.refl _ _).upd (foot_rc har)
  have in1 : (L2.upd H a (.lst ((c ++ [some nm]).map oS))) a = some (.lst ((c ++ [some nm]).map oS)) := upd_same
  generalize L2.upd H a (.lst ((c ++ [some nm]).map oS)) = H1 at p1 f1 in1 ⊢
  -- living[block] += 1
  have hlv : (s.liv.map V.int)[k]? = some (.int (s.liv.getD k 0)) := by
    have hlk : k < s.liv.length := by rw [hf.lens]; exact hkl
    rw [List.getElem?_map, List.getElem?_eq_getElem hlk, List.getD_eq_getElem?_getD, List.getElem?_eq_getElem hlk]
    rfl
  dsimp only
  refine ⟨_, rfl, x, C, A.dx, _, _, rfl, p1.ins, T.cl, T.n3, rfl, _, rfl, A.al, _, k, _, rfl, rfl, SqL.of p1.liv, hlv, _, _, rfl, rfl, A.al, _, _, k, rfl, rfl, p1.liv, ix_at (by rw [List.length_map, hf.lens]; exact hkl), ?_⟩
  have e2 : (s.liv.map V.int).set k (.int (s.liv.getD k 0 + 1)) = (s.liv.set k (s.liv.getD k 0 + 1)).map V.int := by rw [List.map_set]
  rw [e2]
  have p2 := p1.liv_put (s.liv.set k (s.liv.getD k 0 + 1))
  have f2 := f1.upd (o := .lst ((s.liv.set k (s.liv.getD k 0 + 1)).map V.int)) (foot_al (A := A) (x := x))
  have in2 : (L2.upd H1 A.al (.lst ((s.liv.set k (s.liv.getD k 0 + 1)).map V.int))) a = some (.lst ((c ++ [some nm]).map oS)) := by
    obtain ⟨c2, hc2, z⟩ := K2.paired_get p2.inner ha
    rw [List.getElem?_set_self hkl] at hc2
    cases hc2
    exact z
  generalize L2.upd H1 A.al (.lst ((s.liv.set k (s.liv.getD k 0 + 1)).map V.int)) = H2 at p2 f2 in2 ⊢
  -- homes[name] = block
  dsimp only
  refine ⟨_, rfl, _, rfl, x, C, A.dx, _, _, rfl, p2.ins, T.cl, T.n7, rfl, _, rfl, A.ad, _, rfl, DPut.k (k := Sum.inr nm) p2.hom (by have := hf.hom; rw [sizeLine_eq]; show s.hom.length < _; omega), ?_⟩
  have p3 := p2.hom_put (putK s.hom (.inr nm) (nV k))
  have f3 := f2.upd (o := .dK (putK s.hom (.inr nm) (nV k))) (foot_ad (A := A) (x := x))
  have in3 : (L2.upd H2 A.ad (.dK (putK s.hom (.inr nm) (nV k)))) a = some (.lst ((c ++ [some nm]).map oS)) := by
    rw [upd_ne (ne_of in2 p2.hom (by intro z; cases z))]
    exact in2
  dsimp only
  generalize L2.upd H2 A.ad (.dK (putK s.hom (.inr nm) (nV k))) = H3 at p3 f3 in3 ⊢
  have hd3 : H3 A.dr = some (.ins CD dd (drvF b p n td (textM (b : Int) (p : Int) (n : Int) ini y))) := f3 _ _ hd (drv_out hp hd hdx)
  refine one_if6 (test_read6 (op_read (cb_read (cons_read (op_read ?_)))))
  refine ⟨_, rfl, x, C, A.dx, _, _, rfl, p3.ins, T.cl, T.n2, rfl, _, rfl, A.ac, _, (k : Int), .ref a, rfl, rfl, SqL.of p3.cont, atI_nat (by rw [List.getElem?_map, ha]; rfl), nil_read ⟨a, _, rfl, .inl (SqL.of in3), ?_⟩⟩
  refine ⟨_, rfl, x, C, A.dx, _, _, rfl, p3.ins, T.cl, T.n1, rfl, A.dr, dd, _, rfl, hd3, A.dr, dd, _, _, rfl, hd3, rfl, rfl, _, rfl, ?_⟩
  rw [eqI6, List.length_map, List.length_append]
  have hput : putP p s k nm = if c.length + 1 = p then { s with cont := s.cont.set k (c ++ [some nm]), liv := s.liv.set k (s.liv.getD k 0 + 1), hom := putK s.hom (.inr nm) (nV k), clo := s.clo ++ [k], fil := none } else { s with cont := s.cont.set k (c ++ [some nm]), liv := s.liv.set k (s.liv.getD k 0 + 1), hom := putK s.hom (.inr nm) (nV k) } := by
    unfold putP
    rw [hcD]
  by_cases hfull : c.length + 1 = p
  · rw [if_pos hfull] at hput
    rw [decide_eq_true (by show ((c.length + 1 : Nat) : Int) = (p : Int); omega)]
    refine iteT ?_
    refine ⟨_, rfl, x, C, A.dx, _, _, rfl, p3.ins, T.cl, T.n5, rfl, .inl ⟨rfl, _, SqL.of p3.clo⟩, cons_read ⟨_, rfl, nil_read ⟨A.acl, _, _, rfl, rfl, p3.clo, by have := hf.clo; rw [List.length_map, sizeLine_eq]; show s.clo.length < _; omega, ?_⟩⟩⟩
    have e4 : (s.clo.map nV ++ [nV k]) = (s.clo ++ [k]).map nV := by rw [List.map_append]; rfl
    have p4 := p3.clo_put (s.clo ++ [k])
    have f4 := f3.upd (o := .lst ((s.clo ++ [k]).map nV)) (foot_acl (A := A) (x := x))
    dsimp only
    rw [e4]
    generalize L2.upd H3 A.acl (.lst ((s.clo ++ [k]).map nV)) = H4 at p4 f4 ⊢
    refine ⟨_, rfl, x, C, A.dx, _, rfl, p4.ins, T.cl, T.n6, by show 8 < 1000; decide, ?_⟩
    have e5 : putF "filling" V.non (plF A s.fil) = plF A none := put_fil A s.fil none
    have p5 := p4.fil_put none
    have f5 := f4.upd (o := .ins C A.dx (plF A none)) (foot_x (A := A) (x := x))
    show Q .non (L2.upd H4 x (.ins C A.dx (putF "filling" V.non (plF A s.fil))))
    rw [e5]
    refine q _ ?_ f5
    rw [hput]
    exact p5
  · rw [if_neg hfull] at hput
    rw [decide_eq_false (by show ¬ ((c.length + 1 : Nat) : Int) = (p : Int); omega)]
    refine iteF (q _ ?_ f3)
    rw [hput]
    exact p3
end
end K6

set_option Elab.async false
set_option linter.all false
set_option maxRecDepth 100000
set_option maxHeartbeats 4000000
namespace K6
open PySem PySem.Spec PyProof.Rows L2 G1 G2 K2 G5
section
variable {C x : Addr} {H : Hp} {s : Pl} {A : PAd}
/-- an inner list is exchanged for a new, empty one -/
theorem PlayAt.cont_new (h : PlayAt C H x s A) {k : Nat} {a : Addr} (hk : k < A.rcs.length) (na : H a = none) : PlayAt C (L2.upd (L2.upd H a (.lst [])) A.ac (.lst ((A.rcs.set k a).map V.ref))) x { s with cont := s.cont.set k [] } { A with rcs := A.rcs.set k a } := by
  have h1 := h.same (same_lay (o := .lst []) na)
  obtain ⟨b1, b2, b3⟩ := h1.base (ys := (A.rcs.set k a).map V.ref) h1.cont
  have ea : (L2.upd H a (.lst [])) a = some (.lst []) := upd_same
  have nd := h.nd
  unfold PAd.ls at nd
  simp only [List.nodup_cons, List.mem_cons, not_or] at nd
  obtain ⟨⟨n1, n2, n3, n4, n5⟩, ⟨m1, m2, m3, m4⟩, ⟨k1, k2, k3⟩, ⟨j1, j2⟩, i1, i2⟩ := nd
  have fr : ∀ {b : Addr} {o : HO}, H b = some o → b ≠ a := fun {b o} z => ne_of_none z na
  have nin : ∀ {b : Addr} {o : HO}, H b = some o → b ∉ A.rcs → b ∉ A.rcs.set k a := fun {b o} z hn hm => by
    rcases List.mem_or_eq_of_mem_set hm with q | q
    · exact hn q
    · exact fr z q
  have nar : a ∉ A.rcs := fun z => by
    obtain ⟨j, hj, e⟩ := List.getElem_of_mem z
    obtain ⟨c, _, hc⟩ := K2.paired_get h.inner (List.getElem?_eq_getElem hj)
    rw [e, na] at hc
    cases hc
  have nac : A.ac ≠ a := fr h.cont
  refine ⟨b1, upd_same, ?_, by rw [upd_ne (Ne.symm n1)]; exact h1.liv, by rw [upd_ne (Ne.symm n2)]; exact h1.free, by rw [upd_ne (Ne.symm n3)]; exact h1.clo, b2, by rw [upd_ne (Ne.symm n4)]; exact h1.told, b3, ?_⟩
  · have key : ∀ {rs : List Addr} {cs : List (List (Option Str))} {k : Nat}, Paired (fun (b : Addr) (c : List (Option Str)) => (L2.upd H a (.lst [])) b = some (.lst (c.map oS))) rs cs → A.ac ∉ rs → Paired (fun (b : Addr) (c : List (Option Str)) => (L2.upd (L2.upd H a (.lst [])) A.ac (.lst ((A.rcs.set k a).map V.ref))) b = some (.lst (c.map oS))) (rs.set k a) (cs.set k []) → True := fun _ _ _ => True.intro
    have go : ∀ (rs : List Addr) (cs : List (List (Option Str))) (k' : Nat), Paired (fun (b : Addr) (c : List (Option Str)) => (L2.upd H a (.lst [])) b = some (.lst (c.map oS))) rs cs → A.ac ∉ rs → Paired (fun (b : Addr) (c : List (Option Str)) => (L2.upd (L2.upd H a (.lst [])) A.ac (.lst ((A.rcs.set k a).map V.ref))) b = some (.lst (c.map oS))) (rs.set k' a) (cs.set k' []) := by
      intro rs
      induction rs with
      | nil =>
        intro cs k' p _
        cases p
        exact .nil
      | cons r rs ih =>
        intro cs k' p hn
        cases p with
        | cons hr t =>
          have hr' : A.ac ≠ r := fun z => hn (by rw [z]; exact List.mem_cons_self ..)
          have hn' : A.ac ∉ rs := fun z => hn (List.mem_cons_of_mem _ z)
          cases k' with
          | zero => exact .cons (by rw [upd_ne (Ne.symm nac)]; exact ea) (Paired.mapP (paired_upd (f := fun (c : List (Option Str)) => HO.lst (c.map oS)) t hn') fun _ _ z => z)
          | succ k' => exact .cons (by rw [upd_ne (Ne.symm hr')]; exact hr) (ih _ k' t hn')
    exact go A.rcs s.cont k h1.inner n5
  · show (A.ac :: A.al :: A.af :: A.acl :: A.ta :: A.rcs.set k a).Nodup
    simp only [List.nodup_cons, List.mem_cons, not_or]
    refine ⟨⟨n1, n2, n3, n4, nin h.cont n5⟩, ⟨m1, m2, m3, nin h.liv m4⟩, ⟨k1, k2, nin h.free k3⟩, ⟨j1, nin h.clo j2⟩, nin h.told i1, ?_⟩
    have sn : ∀ (rs : List Addr) (k' : Nat), rs.Nodup → a ∉ rs → (rs.set k' a).Nodup := by
      intro rs
      induction rs with
      | nil => intro k' h _; exact h
      | cons r rs ih =>
        intro k' h hn
        rw [List.nodup_cons] at h
        cases k' with
        | zero => exact List.nodup_cons.mpr ⟨fun z => hn (List.mem_cons_of_mem _ z), h.2⟩
        | succ k' =>
          refine List.nodup_cons.mpr ⟨fun z => ?_, ih k' h.2 fun z => hn (List.mem_cons_of_mem _ z)⟩
          rcases List.mem_or_eq_of_mem_set z with q | q
          · exact h.1 q
          · exact hn (by rw [← q]; exact List.mem_cons_self ..)
    exact sn A.rcs k i2 nar
end
/-- many pages, one behind another -/
def putsP (p k : Nat) (s : Pl) (ns : List Str) : Pl := ns.foldl (fun s nm => putP p s k nm) s
theorem puts_snoc (p k : Nat) (s : Pl) (ns : List Str) (nm : Str) : putsP p k s (ns ++ [nm]) = putP p (putsP p k s ns) k nm := by
  unfold putsP
  rw [List.foldl_append]
  rfl
/-- what stays alike while block k is filled -/
theorem put_cont (p k : Nat) (s : Pl) (nm : Str) : (putP p s k nm).cont = s.cont.set k (s.cont.getD k [] ++ [some nm]) := by
  unfold putP
  split <;> rfl
theorem put_free (p k : Nat) (s : Pl) (nm : Str) : (putP p s k nm).free = s.free := by
  unfold putP
  split <;> rfl
theorem put_told (p k : Nat) (s : Pl) (nm : Str) : (putP p s k nm).told = s.told := by
  unfold putP
  split <;> rfl
theorem put_livn (p k : Nat) (s : Pl) (nm : Str) : (putP p s k nm).liv = s.liv.set k (s.liv.getD k 0 + 1) := by
  unfold putP
  split <;> rfl
theorem put_hom (p k : Nat) (s : Pl) (nm : Str) : (putP p s k nm).hom = putK s.hom (.inr nm) (nV k) := by
  unfold putP
  split <;> rfl
theorem put_filn {p k : Nat} {s : Pl} {nm : Str} (h : (s.cont.getD k []).length + 1 ≠ p) : (putP p s k nm).fil = s.fil ∧ (putP p s k nm).clo = s.clo := by
  unfold putP
  rw [if_neg h]
  exact ⟨rfl, rfl⟩
theorem put_clon (p k : Nat) (s : Pl) (nm : Str) : (putP p s k nm).clo = s.clo ∨ (putP p s k nm).clo = s.clo ++ [k] := by
  unfold putP
  split
  · exact .inr rfl
  · exact .inl rfl
theorem getD_set {k : Nat} {l : List (List (Option Str))} {c : List (Option Str)} (h : k < l.length) : (l.set k c).getD k [] = c := by
  rw [List.getD_eq_getElem?_getD, List.getElem?_set_self h]
  rfl
/-- while pages are put into block k -/
structure Run (p k : Nat) (s0 s : Pl) (j : Nat) : Prop where
  cl : s.cont.length = s0.cont.length
  len : (s.cont.getD k []).length = (s0.cont.getD k []).length + j
  fil : (s0.cont.getD k []).length + j < p → s.fil = some k
  clo : s.clo.length ≤ s0.clo.length + j
  hom : s.hom.length ≤ s0.hom.length + j
  liv : s.liv.length = s0.liv.length
  oth : ∀ i, i ≠ k → s.cont[i]? = s0.cont[i]?
theorem Run.zero {p k : Nat} {s : Pl} (h : s.fil = some k) : Run p k s s 0 := ⟨rfl, rfl, fun _ => h, Nat.le_refl _, Nat.le_refl _, rfl, fun _ _ => rfl⟩
theorem Run.step {p k j : Nat} {s0 s : Pl} {nm : Str} (hk : k < s0.cont.length) (h : Run p k s0 s j) : Run p k s0 (putP p s k nm) (j + 1) := by
  have hk' : k < s.cont.length := by rw [h.cl]; exact hk
  have hl := h.len
  refine ⟨by rw [put_cont, List.length_set]; exact h.cl, ?_, fun z => ?_, ?_, ?_, by rw [put_livn, List.length_set]; exact h.liv, fun i hi => ?_⟩
  · rw [put_cont, getD_set hk', List.length_append]
    show _ + 1 = _
    omega
  · obtain ⟨e, _⟩ := put_filn (p := p) (s := s) (nm := nm) (k := k) (by omega)
    rw [e]
    exact h.fil (by omega)
  · have := h.clo
    rcases put_clon p k s nm with e | e <;> rw [e]
    · omega
    · rw [List.length_append]
      show _ + 1 ≤ _
      omega
  · have := h.hom
    have h2 := length_putK s.hom (.inr nm) (nV k)
    rw [put_hom]
    omega
  · rw [put_cont, List.getElem?_set_ne (Ne.symm hi)]
    exact h.oth i hi
end K6

set_option Elab.async false
set_option linter.all false
set_option maxRecDepth 100000
set_option maxHeartbeats 4000000
namespace K6
open PySem PySem.Spec PyProof.Rows L2 G1 G2 K2 G5
abbrev sCln : Stmt := topS 59
abbrev NCln : List Str := ["play", "place", "picked", "kept", "name"]
theorem scCln : FnScope NCln ["play", "place"] (defScope sCln) := ⟨rfl, rfl, rfl, by decide +kernel, rfl, by decide +kernel, by decide +kernel⟩
def keptN (c : List (Option Str)) : List Str := c.filterMap id
/-- clean_place, the block k at place i, the free block f -/
def cln1 (s : Pl) (i k f : Nat) : Pl := { s with clo := s.clo.eraseIdx i, cont := s.cont.set k [], liv := s.liv.set k 0, fil := some f, free := s.free.eraseIdx 0 }
def cleanP (p : Nat) (s : Pl) (i k f : Nat) : Pl := { putsP p f (cln1 s i k f) (keptN (s.cont.getD k [])) with free := s.free.eraseIdx 0 ++ [k] }
structure Fit2 (s : Pl) : Prop where
  cont : ∀ c ∈ s.cont, c.length ≤ 10
  hom : s.hom.length ≤ 1000
  clo : s.clo.length ≤ 10
  free : s.free.length ≤ 10
  lens : s.liv.length = s.cont.length
theorem Run.fit {p k j : Nat} {s0 s : Pl} (h : Run p k s0 s j) (hk : k < s0.cont.length) (hf : Fit2 s0) (hj : j ≤ 10) : Fit s := by
  have h1 := h.clo
  have h2 := h.hom
  have h3 := hf.clo
  have h4 := hf.hom
  refine ⟨fun c hc => ?_, by omega, by omega, by rw [h.liv, h.cl]; exact hf.lens⟩
  obtain ⟨i, hi, e⟩ := List.getElem_of_mem hc
  by_cases z : i = k
  · subst z
    have := h.len
    have hb : (s0.cont.getD i []).length ≤ 10 := by
      rw [List.getD_eq_getElem?_getD, List.getElem?_eq_getElem hk]
      exact hf.cont _ (List.getElem_mem hk)
    rw [List.getD_eq_getElem?_getD, List.getElem?_eq_getElem hi] at this
    have e2 : (some (s.cont[i]'hi)).getD [] = c := e
    rw [e2] at this
    omega
  · have e3 := h.oth i z
    rw [List.getElem?_eq_getElem hi, e] at e3
    have := hf.cont c (List.mem_of_getElem? e3.symm)
    omega
theorem puts_free (p k : Nat) : ∀ (s : Pl) (ns : List Str), (putsP p k s ns).free = s.free
  | s, [] => rfl
  | s, nm :: ns => by
    show (putsP p k (putP p s k nm) ns).free = s.free
    rw [puts_free p k _ ns, put_free]
def spCln (K : PySem.W.Frag) (CD C : Addr) : Sp := fun vs H Q _ => ∃ (x : Addr) (s : Pl) (A : PAd) (i k f b p n : Nat) (ini : List RowD) (y : Str), vs = [.ref x, nV i] ∧ PlayAt C H x s A ∧ Fit2 s ∧ s.clo[i]? = some k ∧ s.free[0]? = some f ∧ k < s.cont.length ∧ f < s.cont.length ∧ f ≠ k ∧ s.cont.getD f [] = [] ∧ (keptN (s.cont.getD k [])).length ≤ p ∧ DrvAt K CD H A.dr b p n ini y ∧ A.dr ≠ x ∧
  ∀ (H' : Hp) (A' : PAd), PlayAt C H' x (cleanP p s i k f) A' → A'.dr = A.dr → Frm (A.foot x) H H' → (∀ a ∈ A'.foot x, a ∈ A.foot x ∨ Nw H a) → Q .non H'
theorem kept_snoc (c : List (Option Str)) (o : Option Str) : keptN (c ++ [o]) = keptN c ++ (match o with | none => [] | some z => [z]) := by
  unfold keptN
  rw [List.filterMap_append]
  cases o <;> rfl
theorem kept_len (c : List (Option Str)) : (keptN c).length ≤ c.length := List.length_filterMap_le _ _
theorem Frm.trans {F : List Addr} {H H1 H2 : Hp} (a : Frm F H H1) (b : Frm F H1 H2) : Frm F H H2 := fun c o h n => b c o (a c o h n) n
theorem Frm.grow {F F' : List Addr} {H H1 H2 : Hp} (a : Frm F H H1) (b : Frm F' H1 H2) (g : ∀ c ∈ F', c ∈ F ∨ Nw H c) : Frm F H H2 := fun c o h n => b c o (a c o h n) fun z => by
  rcases g c z with q | q
  · exact n q
  · exact absurd (h.symm.trans q) (by intro z; cases z)
/-- what stands in the play's places -/
theorem foot_kind {C x : Addr} {H : Hp} {s : Pl} {A : PAd} (h : PlayAt C H x s A) : ∀ a ∈ A.foot x, (∃ xs, H a = some (.lst xs)) ∨ (∃ l, H a = some (.dK l)) ∨ ∃ C' dx fs, H a = some (.ins C' dx fs) := by
  intro a z
  unfold PAd.foot PAd.ls at z
  simp only [List.mem_cons] at z
  rcases z with z | z | z | z | z | z | z | z
  · exact .inr (.inr ⟨_, _, _, z ▸ h.ins⟩)
  · exact .inr (.inl ⟨_, z ▸ h.hom⟩)
  · exact .inl ⟨_, z ▸ h.cont⟩
  · exact .inl ⟨_, z ▸ h.liv⟩
  · exact .inl ⟨_, z ▸ h.free⟩
  · exact .inl ⟨_, z ▸ h.clo⟩
  · exact .inl ⟨_, z ▸ h.told⟩
  · obtain ⟨j, hj, e⟩ := List.getElem_of_mem z
    obtain ⟨c, _, hc⟩ := K2.paired_get h.inner (List.getElem?_eq_getElem hj)
    rw [e] at hc
    exact .inl ⟨_, hc⟩
theorem foot_some {C x : Addr} {H : Hp} {s : Pl} {A : PAd} (h : PlayAt C H x s A) (a : Addr) (z : a ∈ A.foot x) : ∃ o, H a = some o ∧ ∀ ps, o ≠ .tbl ps := by
  rcases foot_kind h a z with ⟨_, q⟩ | ⟨_, q⟩ | ⟨_, _, _, q⟩ <;> exact ⟨_, q, by intro ps z; cases z⟩
theorem tup_frm {K : PySem.W.Frag} {C x a : Addr} {H H' : Hp} {s : Pl} {A : PAd} {xs : List V} (h : PlayAt C H x s A) (f : Frm (A.foot x) H H') (ht : SqT K H a xs) : SqT K H' a xs := by
  have out : ∀ {o : HO}, H a = some o → (∀ xs, o ≠ .lst xs) → (∀ l, o ≠ .dK l) → (∀ C' dx fs, o ≠ .ins C' dx fs) → a ∉ A.foot x := fun {o} e n1 n2 n3 z => by
    rcases foot_kind h a z with ⟨ys, q⟩ | ⟨l, q⟩ | ⟨C', dx, fs, q⟩
    · rw [e] at q; exact n1 _ (Option.some.inj q)
    · rw [e] at q; exact n2 _ (Option.some.inj q)
    · rw [e] at q; exact n3 _ _ _ (Option.some.inj q)
  rcases ht with (ht | ⟨o, ht⟩) | ht
  · exact .inl (.inl (f _ _ ht (out ht (by intro _ z; cases z) (by intro _ z; cases z) (by intro _ _ _ z; cases z))))
  · exact .inl (.inr ⟨o, f _ _ ht (out ht (by intro _ z; cases z) (by intro _ z; cases z) (by intro _ _ _ z; cases z))⟩)
  · exact .inr ht
theorem drv_frm {K : PySem.W.Frag} {CD C x : Addr} {H H' : Hp} {s : Pl} {A : PAd} {b p n : Nat} {ini : List RowD} {y : Str} (h : PlayAt C H x s A) (f : Frm (A.foot x) H H') (hx : A.dr ≠ x) (hd : DrvAt K CD H A.dr b p n ini y) : DrvAt K CD H' A.dr b p n ini y := by
  obtain ⟨dx, t, h1, rs, h2, h3⟩ := hd
  exact ⟨dx, t, f _ _ h1 (drv_out h h1 hx), rs, tup_frm h f h2, Paired.mapP h3 fun _ _ z => tup_frm h f z⟩
theorem map_erase {α β : Type} (g : α → β) (l : List α) (i : Nat) : (l.map g).eraseIdx i = (l.eraseIdx i).map g := by
  rw [List.eraseIdx_eq_take_drop_succ, List.eraseIdx_eq_take_drop_succ, List.map_append, List.map_take, List.map_drop]
theorem sq_ix {n k : Nat} (h : k < n) : seqIndex? (k : Int) n = some k := seqIndex_of (by omega) (by omega)
section
variable {P : Program} {w : World} {K : PySem.W.Frag} {mg : Str → Option Value} {base : Heap} {CD C : Addr}
theorem ok_cln {f0 : Addr} {fd : FuncData} (F : Fun K "clean_place" "clean_place" sCln f0 fd) (B : Bl mg) (T : PCls K C) (GP : FAt P w K mg base 3 "put_page" ["play", "name"] (spPut K CD C)) : FnOk P w K mg base CX0 4 f0 fd ["play", "place"] (spCln K CD C) := by
  refine F.ok scCln (fun vs H Q E h => ?_) (fun cdv A0 outer s0 H vs Q E hr h => ?_)
  · obtain ⟨x, s, A, i, k, f, b, p, n, ini, y, rfl, _⟩ := h
    rfl
  obtain ⟨x, s, A, i, k, f, b, p, n, ini, y, rfl, hp, hf, hi, hfr, hk, hfl, hfk, hfe, hkp, hd, hdx, q⟩ := h
  obtain ⟨fP, dP, GP, kP, bP, gP⟩ := GP.ex
  refine ⟨_, pss_cons (ps_set (i := 2) scCln.nd rfl (.inl rfl) (pe_bm PySem.F.plainAttrs_list PySem.F.slot_list_pop PySem.F.type_list_pop mt_popAt (pe_fld (pv 0) rfl) (pa_cons (pv 1) pa_nil)))
    (pss_cons (ps_setLc (i := 3) (own := [("name", 4)]) (g := gName 4) (tt := _) (te := tVar 4) rfl scCln.nd rfl rfl (by rfl) (pi_list (pe_ix ix_list (pe_fld (pv 0) rfl) (pv 2) (fun _ _ => rfl))) (blkOk_by (own := [("name", 4)]) (N := NCln) (sc := defScope sCln) (by decide +kernel))
        (fun _ _ _ _ _ => pg_name (i := 4) scCln.nd rfl (Or.inl rfl)) (fun _ _ _ _ _ => pts_one (pt_cmpR op_notN (pv 4) pe_non (nomark _))) (fun _ _ _ _ _ => pv 4))
    (pss_cons (ps_asg (pe_lst pa_nil) (pg_sub (pe_fld (pv 0) rfl) (pv 2) set_list))
    (pss_cons (ps_asg pe_int (pg_sub (pe_fld (pv 0) rfl) (pv 2) set_list))
    (pss_cons (ps_fld (pv 0) (pe_bm PySem.F.plainAttrs_list PySem.F.slot_list_pop PySem.F.type_list_pop mt_popAt (pe_fld (pv 0) rfl) (pa_cons pe_int pa_nil)) rfl)
    (pss_cons (ps_for PassesOwn.never rfl (pi_list (pv 3)) (pg_name (i := 4) scCln.nd rfl (.inl rfl)) (pss_one (ps_expr (pe_call GP hr (by rfl) gP kP bP .nil pass0 (pa_cons (pv 0) (pa_cons (pv 4) pa_nil))))))
    (pss_one (ps_expr (pe_bm PySem.F.plainAttrs_list PySem.F.slot_list_append PySem.F.type_list_append mt_append (pe_fld (pv 0) rfl) (pa_cons (pv 2) pa_nil))))))))), ?_⟩
  have hil := (List.getElem?_eq_some_iff.mp hi).1
  have hfl0 := (List.getElem?_eq_some_iff.mp hfr).1
  have hcl := hf.clo
  have hlr := Paired.length hp.inner
  obtain ⟨a, ha⟩ : ∃ a, A.rcs[k]? = some a := ⟨A.rcs[k]'(by omega), List.getElem?_eq_getElem _⟩
  -- closed.pop(place)
  refine seq_asg ⟨_, rfl, x, C, A.dx, _, _, rfl, hp.ins, T.cl, T.n5, rfl, .inl ⟨rfl, _, SqL.of hp.clo⟩, cons_read ⟨_, rfl, nil_read ⟨A.acl, _, (i : Int), i, nV k, rfl, rfl, hp.clo, by omega, by omega, sq_ix (by rw [List.length_map]; exact hil), by rw [List.getElem?_map, hi]; rfl, ?_⟩⟩⟩
  rw [map_erase]
  have p1 := hp.clo_put (s.clo.eraseIdx i)
  have f1 : Frm (A.foot x) H (L2.upd H A.acl (.lst ((s.clo.eraseIdx i).map nV))) := (Frm.refl _ _).upd foot_acl
  generalize L2.upd H A.acl (.lst ((s.clo.eraseIdx i).map nV)) = H1 at p1 f1 ⊢
  obtain ⟨c, hc, hin⟩ := K2.paired_get p1.inner ha
  have hcD : s.cont.getD k [] = c := by
    have hc' : s.cont[k]? = some c := hc
    rw [List.getD_eq_getElem?_getD, hc']
    rfl
  have hc10 : c.length ≤ 10 := hf.cont c (List.mem_of_getElem? hc)
  -- kept
  refine seq_asg ?_
  refine ⟨_, rfl, x, C, A.dx, _, _, rfl, p1.ins, T.cl, T.n2, rfl, _, rfl, A.ac, _, (k : Int), .ref a, rfl, rfl, SqL.of p1.cont, atI_nat (by rw [List.getElem?_map, ha]; rfl), a, rfl, ⟨_, SqL.of hin⟩, fun D hD => ?_⟩
  refine lc_list (K := K) (xs := c.map oS) (fun j H' => Same H1 H' ∧ H' D = some (.lst ((keptN (c.take j)).map V.str))) ⟨same_lay hD, upd_same⟩ (fun j H' _ z => SqL.of (z.1 _ _ hin)) ?_ ?_
  · rintro j v H' hj ⟨sj, ej⟩
    rw [List.getElem?_map] at hj
    obtain ⟨o, ho, rfl⟩ : ∃ o, c[j]? = some o ∧ oS o = v := by
      cases hq : c[j]? with
      | none => rw [hq] at hj; cases hj
      | some o => rw [hq] at hj; exact ⟨o, rfl, Option.some.inj hj⟩
    have hjl := (List.getElem?_eq_some_iff.mp ho).1
    have htk : c.take (j + 1) = c.take j ++ [o] := by rw [List.take_add_one, ho]; rfl
    refine ⟨rfl, test_read6 (op_read ⟨_, rfl, c_read ⟨rfl, _, rfl, ?_⟩⟩)⟩
    cases o with
    | none =>
      refine iteF ⟨sj, ?_⟩
      rw [htk, kept_snoc, List.append_nil]
      exact ej
    | some z =>
      refine iteT ⟨_, rfl, _, ej, ?_, fun d u e => ?_, ?_⟩
      · have := kept_len (c.take j)
        rw [List.length_take] at this
        rw [List.length_map, sizeLine_eq]
        omega
      · rw [upd_ne (ne_of_none e hD)]
        exact sj _ _ e
      · rw [upd_same, htk, kept_snoc, List.map_append]
        rfl
  rintro H2 ⟨s2, hD2⟩
  rw [List.length_map, List.take_length] at hD2
  have p2 := p1.same s2
  have f2 := f1.trans (Frm.same (F := A.foot x) s2)
  -- content[picked] = []
  refine seq_asg (lst_read (nil_read ⟨by show 0 ≤ sizeLine; decide, fun a' na => ?_⟩))
  have p2' := p2.same (same_lay (o := .lst []) na)
  refine ⟨_, rfl, x, C, A.dx, _, _, rfl, p2'.ins, T.cl, T.n2, rfl, _, rfl, A.ac, _, _, k, rfl, rfl, p2'.cont, ix_at (by rw [List.length_map]; omega), ?_⟩
  rw [← List.map_set]
  have p3 := p2.cont_new (k := k) (a := a') (by omega) na
  have hDA : D ≠ A.ac := Ne.symm (ne_of_none p1.cont hD)
  have hD3 : (L2.upd (L2.upd H2 a' (.lst [])) A.ac (.lst ((A.rcs.set k a').map V.ref))) D = some (.lst ((keptN c).map V.str)) := by
    rw [upd_ne hDA, upd_ne (ne_of_none hD2 na)]
    exact hD2
  have f3 : Frm (A.foot x) H (L2.upd (L2.upd H2 a' (.lst [])) A.ac (.lst ((A.rcs.set k a').map V.ref))) := (f2.trans (Frm.same (F := A.foot x) (same_lay (o := .lst []) na))).upd (foot_ls (by unfold PAd.ls; exact List.mem_cons_self ..))
  have nH : Nw H a' := f2.back (fun b hb => foot_some p2 b hb) na
  have hD2n : ∀ {b : Addr} {o : HO}, H1 b = some o → D ≠ b := fun {b o} z => Ne.symm (ne_of_none z hD)
  have hDout : D ∉ ({ A with rcs := A.rcs.set k a' } : PAd).foot x := by
    intro z
    unfold PAd.foot PAd.ls at z
    simp only [List.mem_cons] at z
    rcases z with z | z | z | z | z | z | z | z
    · exact hD2n p1.ins z
    · exact hD2n p1.hom z
    · exact hD2n p1.cont z
    · exact hD2n p1.liv z
    · exact hD2n p1.free z
    · exact hD2n p1.clo z
    · exact hD2n p1.told z
    · rcases List.mem_or_eq_of_mem_set z with z | z
      · obtain ⟨o, ho, _⟩ := foot_some p1 D (foot_rc z)
        rw [hD] at ho
        cases ho
      · rw [z, na] at hD2
        cases hD2
  have hgrow : ∀ b ∈ ({ A with rcs := A.rcs.set k a' } : PAd).foot x, b ∈ A.foot x ∨ Nw H b := by
    intro b z
    unfold PAd.foot PAd.ls at z
    simp only [List.mem_cons] at z
    rcases z with z | z | z | z | z | z | z | z
    · exact .inl (by rw [z]; exact foot_x)
    · exact .inl (by rw [z]; exact foot_ad)
    · exact .inl (foot_ls (by rw [z]; unfold PAd.ls; simp))
    · exact .inl (foot_ls (by rw [z]; unfold PAd.ls; simp))
    · exact .inl (foot_ls (by rw [z]; unfold PAd.ls; simp))
    · exact .inl (foot_ls (by rw [z]; unfold PAd.ls; simp))
    · exact .inl (foot_ls (by rw [z]; unfold PAd.ls; simp))
    · rcases List.mem_or_eq_of_mem_set z with z | z
      · exact .inl (foot_rc z)
      · exact .inr (by rw [z]; exact nH)
  generalize L2.upd (L2.upd H2 a' (.lst [])) A.ac (.lst ((A.rcs.set k a').map V.ref)) = H3 at p3 hD3 f3 ⊢
  have hdr : ({ A with rcs := A.rcs.set k a' } : PAd).dr = A.dr := rfl
  generalize hA3 : ({ A with rcs := A.rcs.set k a' } : PAd) = A3 at p3 hDout hgrow hdr
  have e_dx : A.dx = A3.dx := by rw [← hA3]
  -- living[picked] = 0
  refine seq_asg (c_read ?_)
  refine ⟨_, rfl, x, C, A3.dx, _, _, rfl, p3.ins, T.cl, T.n3, rfl, _, rfl, A3.al, _, _, k, rfl, rfl, p3.liv, ix_at (by rw [List.length_map]; show k < s.liv.length; rw [hf.lens]; exact hk), ?_⟩
  have e4 : (s.liv.map V.int).set k (.int 0) = (s.liv.set k 0).map V.int := by rw [List.map_set]
  dsimp only
  rw [e4]
  have p4 := p3.liv_put (s.liv.set k 0)
  have f4 := (Frm.refl (A3.foot x) H3).upd (o := .lst ((s.liv.set k 0).map V.int)) (foot_al (A := A3) (x := x))
  generalize L2.upd H3 A3.al (.lst ((s.liv.set k 0).map V.int)) = H4 at p4 f4 ⊢
  -- filling = free.pop(0)
  refine ⟨_, rfl, x, C, A3.dx, _, _, rfl, p4.ins, T.cl, T.n4, rfl, .inl ⟨rfl, _, SqL.of p4.free⟩, cons_read (c_read (nil_read ⟨A3.af, _, ((0 : Nat) : Int), 0, nV f, rfl, rfl, p4.free, by decide, by decide, sq_ix (by rw [List.length_map]; exact hfl0), by show (s.free.map nV)[0]? = _; rw [List.getElem?_map, hfr]; rfl, ?_⟩))⟩
  dsimp only
  rw [map_erase]
  have p5 := p4.free_put (s.free.eraseIdx 0)
  have f5 := f4.upd (o := .lst ((s.free.eraseIdx 0).map nV)) (foot_ls (A := A3) (x := x) (a := A3.af) (by unfold PAd.ls; simp))
  generalize L2.upd H4 A3.af (.lst ((s.free.eraseIdx 0).map nV)) = H5 at p5 f5 ⊢
  refine ⟨_, rfl, x, C, A3.dx, _, rfl, p5.ins, T.cl, T.n6, by show 8 < 1000; decide, ?_⟩
  have e6 : putF "filling" (nV f) (plF A3 s.fil) = plF A3 (some f) := put_fil A3 s.fil (some f)
  dsimp only
  rw [e6]
  have p6 := p5.fil_put (some f)
  have f6 := f5.upd (o := .ins C A3.dx (plF A3 (some f))) (foot_x (A := A3) (x := x))
  generalize L2.upd H5 x (.ins C A3.dx (plF A3 (some f))) = H6 at p6 f6 ⊢
  have p6' : PlayAt C H6 x (cln1 s i k f) A3 := p6
  have hD6 : H6 D = some (.lst ((keptN c).map V.str)) := f6 _ _ hD3 hDout
  have hfit : Fit2 (cln1 s i k f) := by
    refine ⟨fun d hd' => ?_, hf.hom, ?_, ?_, ?_⟩
    · rcases List.mem_or_eq_of_mem_set hd' with z | z
      · exact hf.cont d z
      · rw [z]
        exact Nat.zero_le _
    · exact Nat.le_trans (List.length_eraseIdx_le ..) hf.clo
    · exact Nat.le_trans (List.length_eraseIdx_le ..) hf.free
    · show (s.liv.set k 0).length = (s.cont.set k []).length
      rw [List.length_set, List.length_set]
      exact hf.lens
  have hfs : f < (cln1 s i k f).cont.length := by
    show f < (s.cont.set k []).length
    rw [List.length_set]
    exact hfl
  have hf0 : ((cln1 s i k f).cont.getD f []).length = 0 := by
    show ((s.cont.set k []).getD f []).length = 0
    rw [List.getD_eq_getElem?_getD, List.getElem?_set_ne (Ne.symm hfk), ← List.getD_eq_getElem?_getD, hfe]
    rfl
  have hkl := kept_len c
  rw [hcD] at hkp
  -- the pages are put again
  refine seq_for fun D' e1 e2 => ?_
  refine ⟨_, rfl, D, rfl, ⟨_, SqL.of hD6⟩, ?_⟩
  refine for_list (K := K) (xs := (keptN c).map V.str) (fun j σ H' => ∃ x4 : Option V, σ = [some (.ref x), some (nV i), some (nV k), some (.ref D), x4] ∧ PlayAt C H' x (putsP p f (cln1 s i k f) ((keptN c).take j)) A3 ∧ Run p f (cln1 s i k f) (putsP p f (cln1 s i k f) ((keptN c).take j)) j ∧ Frm (A3.foot x) H6 H') ⟨none, rfl, p6', Run.zero rfl, Frm.refl _ _⟩ (fun j σ H' _ z => ?_) ?_ ?_
  · obtain ⟨_, _, _, _, z⟩ := z
    exact SqL.of (z _ _ hD6 hDout)
  · rintro j v σ H' hj ⟨x4, rfl, pj, rj, fj⟩
    rw [List.getElem?_map] at hj
    obtain ⟨nm, hnm, rfl⟩ : ∃ nm, (keptN c)[j]? = some nm ∧ V.str nm = v := by
      cases hq : (keptN c)[j]? with
      | none => rw [hq] at hj; cases hj
      | some nm => rw [hq] at hj; exact ⟨nm, rfl, Option.some.inj hj⟩
    have hjl := (List.getElem?_eq_some_iff.mp hnm).1
    have htk : (keptN c).take (j + 1) = (keptN c).take j ++ [nm] := by rw [List.take_add_one, hnm]; rfl
    have fH : Frm (A.foot x) H H' := f3.grow (f6.trans fj) hgrow
    have hdj : DrvAt K CD H' A3.dr b p n ini y := by
      rw [hdr]
      exact drv_frm hp fH hdx hd
    refine ⟨_, rfl, _, rfl, x, nm, _, A3, f, b, p, n, ini, y, rfl, pj, rj.fit hfs hfit (by omega), rj.fil (by omega), by rw [rj.cl]; exact hfs, hdj, by rw [hdr]; exact hdx, fun H'' p'' f'' => ?_⟩
    rw [← puts_snoc, ← htk] at p''
    have rj' := rj.step (nm := nm) hfs
    rw [← puts_snoc, ← htk] at rj'
    exact ⟨_, rfl, p'', rj', fj.trans f''⟩
  · rintro σ H' ⟨x4, rfl, pj, rj, fj⟩
    rw [List.length_map, List.take_length] at pj rj
    rw [e1]
    have efree : (putsP p f (cln1 s i k f) (keptN c)).free = s.free.eraseIdx 0 := puts_free p f (cln1 s i k f) (keptN c)
    have hfl10 := hfit.free
    refine ⟨_, rfl, x, C, A3.dx, _, _, rfl, pj.ins, T.cl, T.n4, rfl, .inl ⟨rfl, _, SqL.of pj.free⟩, cons_read ⟨_, rfl, nil_read ⟨A3.af, _, _, rfl, rfl, pj.free, by rw [List.length_map, efree, sizeLine_eq]; have : (s.free.eraseIdx 0).length ≤ 10 := hfl10; omega, ?_⟩⟩⟩
    have e9 : ((putsP p f (cln1 s i k f) (keptN c)).free.map nV ++ [nV k]) = (s.free.eraseIdx 0 ++ [k]).map nV := by rw [efree, List.map_append]; rfl
    dsimp only
    rw [e9]
    have p7 := pj.free_put (s.free.eraseIdx 0 ++ [k])
    have f7 := (f6.trans fj).upd (o := .lst ((s.free.eraseIdx 0 ++ [k]).map nV)) (foot_ls (A := A3) (x := x) (a := A3.af) (by unfold PAd.ls; simp))
    refine q _ A3 ?_ hdr (f3.grow f7 hgrow) hgrow
    unfold cleanP
    rw [hcD]
    exact p7
end
end K6

set_option Elab.async false
set_option linter.all false
set_option maxRecDepth 100000
set_option maxHeartbeats 4000000
namespace K6
open PySem PySem.Spec PyProof.Rows L2 G1 G2 K2 G5
abbrev sDie : Stmt := topS 57
theorem scDie : FnScope ["play", "name", "home", "page"] ["play", "name"] (defScope sDie) := ⟨rfl, rfl, rfl, by decide +kernel, rfl, by decide +kernel, by decide +kernel⟩
/-- let_name_die: the name stands at page j of block h -/
def dieP (s : Pl) (h j : Nat) (nm : Str) : Pl := { s with hom := dropK s.hom (.inr nm), cont := s.cont.set h ((s.cont.getD h []).set j none), liv := s.liv.set h (s.liv.getD h 0 - 1) }
def spDie (C : Addr) : Sp := fun vs H Q _ => ∃ (x : Addr) (nm : Str) (s : Pl) (A : PAd) (h j : Nat), vs = [.ref x, .str nm] ∧ PlayAt C H x s A ∧ s.liv.length = s.cont.length ∧ valV s.hom (.inr nm) = some (nV h) ∧ h < s.cont.length ∧ (s.cont.getD h [])[j]? = some (some nm) ∧ (∀ m, m < j → (s.cont.getD h [])[m]? ≠ some (some nm)) ∧
  ∀ H' : Hp, PlayAt C H' x (dieP s h j nm) A → Frm (A.foot x) H H' → Q .non H'
theorem flat_oS : ∀ c : List (Option Str), (c.map oS).all flatV = true
  | [] => rfl
  | none :: c => by rw [List.map_cons, List.all_cons, flat_oS c]; rfl
  | some z :: c => by rw [List.map_cons, List.all_cons, flat_oS c]; rfl
section
variable {P : Program} {w : World} {K : PySem.W.Frag} {mg : Str → Option Value} {base : Heap} {C : Addr}
theorem ok_die {f : Addr} {fd : FuncData} (F : Fun K "let_name_die" "let_name_die" sDie f fd) (T : PCls K C) : FnOk P w K mg base CX0 1 f fd ["play", "name"] (spDie C) := by
  refine F.ok scDie (fun vs H Q E h => ?_) (fun cdv A0 outer s0 H vs Q E hr h => ?_)
  · obtain ⟨x, nm, s, A, h, j, rfl, _⟩ := h
    rfl
  obtain ⟨x, nm, s, A, h, j, rfl, hp, hlv, hv, hhl, hj, hfst, q⟩ := h
  refine ⟨_, pss_cons (ps_set (i := 2) scDie.nd rfl (.inl rfl) (pe_dpop1 (pe_fld (pv 0) rfl) (pv 1) ⟨rfl, rfl, rfl, rfl⟩))
    (pss_cons (ps_set (i := 3) scDie.nd rfl (.inl rfl) (pe_bm PySem.F.plainAttrs_list PySem.F.slot_list_index PySem.F.type_list_index mt_index (pe_ix ix_list (pe_fld (pv 0) rfl) (pv 2) (fun _ _ => rfl)) (pa_cons (pv 1) pa_nil)))
    (pss_cons (ps_asg pe_non (pg_sub (pe_ix ix_list (pe_fld (pv 0) rfl) (pv 2) (fun _ _ => rfl)) (pv 3) set_list))
    (pss_one (ps_augS (pe_fld (pv 0) rfl) (pv 2) get_list pe_int ip_sub set_list)))), ?_⟩
  have hlr := Paired.length hp.inner
  obtain ⟨a, ha⟩ : ∃ a, A.rcs[h]? = some a := ⟨A.rcs[h]'(by omega), List.getElem?_eq_getElem _⟩
  have har := List.mem_of_getElem? ha
  refine seq_asg ⟨_, rfl, x, C, A.dx, _, _, rfl, hp.ins, T.cl, T.n7, rfl, A.ad, rfl, .inl ⟨_, .inl hp.hom⟩, _, rfl, s.hom, .inr nm, nV h, hp.hom, rfl, hv, ?_⟩
  have p1 := hp.hom_put (dropK s.hom (.inr nm))
  have f1 : Frm (A.foot x) H (L2.upd H A.ad (.dK (dropK s.hom (.inr nm)))) := (Frm.refl _ _).upd foot_ad
  generalize L2.upd H A.ad (.dK (dropK s.hom (.inr nm))) = H1 at p1 f1 ⊢
  obtain ⟨c, hc, hin⟩ := K2.paired_get p1.inner ha
  have hc' : s.cont[h]? = some c := hc
  have hcD : s.cont.getD h [] = c := by rw [List.getD_eq_getElem?_getD, hc']; rfl
  rw [hcD] at hj hfst
  have hjl := (List.getElem?_eq_some_iff.mp hj).1
  refine seq_asg ⟨_, rfl, x, C, A.dx, _, _, rfl, p1.ins, T.cl, T.n2, rfl, _, rfl, A.ac, _, (h : Int), .ref a, rfl, rfl, SqL.of p1.cont, atI_nat (by rw [List.getElem?_map, ha]; rfl), .inl ⟨rfl, _, SqL.of hin⟩, cons_read ⟨_, rfl, nil_read ⟨a, _, .str nm, j, .str nm, rfl, rfl, SqL.of hin, rfl, flat_oS c, by rw [List.getElem?_map, hj]; rfl, by show (nm == nm) = true; exact beq_self_eq_true nm, fun m z hm hz => ?_, ?_⟩⟩⟩
  · rw [List.getElem?_map] at hz
    cases hq : c[m]? with
    | none => rw [hq] at hz; cases hz
    | some o =>
      rw [hq] at hz
      have ez : oS o = z := Option.some.inj hz
      rw [← ez]
      cases o with
      | none => rfl
      | some y =>
        show (y == nm) = false
        rw [beq_eq_false_iff_ne]
        exact fun e => hfst m hm (by rw [hq, e])
  -- content[home][page] = None
  refine seq_asg (c_read ?_)
  refine ⟨_, rfl, x, C, A.dx, _, _, rfl, p1.ins, T.cl, T.n2, rfl, _, rfl, A.ac, _, (h : Int), .ref a, rfl, rfl, SqL.of p1.cont, atI_nat (by rw [List.getElem?_map, ha]; rfl), _, rfl, a, _, _, j, rfl, rfl, hin, ix_at (by rw [List.length_map]; exact hjl), ?_⟩
  have e2 : (c.map oS).set j .non = (c.set j none).map oS := by rw [List.map_set]; rfl
  dsimp only
  rw [e2]
  have p2 := p1.cont_put ha (c.set j none)
  have f2 := f1.upd (o := .lst ((c.set j none).map oS)) (foot_rc (x := x) har)
  generalize L2.upd H1 a (.lst ((c.set j none).map oS)) = H2 at p2 f2 ⊢
  -- living[home] -= 1
  have hlk : h < s.liv.length := by rw [hlv]; exact hhl
  have hlvv : (s.liv.map V.int)[h]? = some (.int (s.liv.getD h 0)) := by
    rw [List.getElem?_map, List.getElem?_eq_getElem hlk, List.getD_eq_getElem?_getD, List.getElem?_eq_getElem hlk]
    rfl
  refine ⟨_, rfl, x, C, A.dx, _, _, rfl, p2.ins, T.cl, T.n3, rfl, _, rfl, A.al, _, h, _, rfl, rfl, SqL.of p2.liv, hlvv, _, _, rfl, rfl, A.al, _, _, h, rfl, rfl, p2.liv, ix_at (by rw [List.length_map]; exact hlk), ?_⟩
  have e3 : (s.liv.map V.int).set h (.int (s.liv.getD h 0 - 1)) = (s.liv.set h (s.liv.getD h 0 - 1)).map V.int := by rw [List.map_set]
  dsimp only
  rw [e3]
  refine q _ ?_ (f2.upd foot_al)
  have p3 := p2.liv_put (s.liv.set h (s.liv.getD h 0 - 1))
  unfold dieP
  rw [hcD]
  exact p3
end
end K6

set_option Elab.async false
set_option linter.all false
set_option maxRecDepth 100000
set_option maxHeartbeats 4000000
namespace K6
open PySem PySem.Spec PyProof.Rows L2 G1 G2 K2 G5 LamX
/-- a def of the text whose code object is at c -/
structure FunC (K : PySem.W.Frag) (x qual : Str) (st : Stmt) (f c : Addr) (fd : FuncData) : Prop where
  ex : ∃ (oc : Value) (od : Option Addr) (kV doc pm : Value) (an : Option Addr) (ct : Value) (osl : Array (Option Value)),
    fd = PySem.W.fnOf x qual (defArgs st) (defBody st) (defScope st) .none kV doc pm an (.ref c) ct ∧ K.lookup f = some ⟨oc, od, .func fd, osl⟩ ∧ PySem.W.codeIn K (.ref c) qual = true
  kp : PySem.W.keepIn K (.ref f) = true
section
variable {P : Program} {w : World} {K : PySem.W.Frag} {mg : Str → Option Value} {base : Heap}
theorem okC {x qual : Str} {st : Stmt} {f c : Addr} {fd : FuncData} {N ps : List Str} {k : Nat} {sp : Sp} (F : FunC K x qual st f c fd) (S : FnScope N ps (defScope st)) (len : ∀ vs H Q E, sp vs H Q E → vs.length = ps.length)
    (hbody : ∀ (A : Around) (outer : List Env) (s : Shared) (H : Hp) (vs : List V) (Q : VK) (E : XK), Room k (A.deeper (envOfC qual (defScope st) s.heap.objs.size f (.ref c))) → sp vs H Q E →
      ∃ t, PSs (cxOf CX0 P w K mg base N qual (defScope st) f (.ref c) A outer s H E).nox (defBody st) t ∧ t { nx := fun _ H' => Q .non H', rt := Q } (start N vs) H) :
    FnOk P w K mg base CX0 (k + 1) f fd ps sp := by
  obtain ⟨oc, od, kV, doc, pm, an, ct, osl, rfl, lk, hcd⟩ := F.ex
  constructor
  · exact len
  intro A outer s H args us vs Q E room e0 bnd rel want
  refine LamX.run_ofS (CX := CX0) (N := N) lk hcd S room e0 bnd rel (len _ _ _ _ want) fun hr' => ?_
  obtain ⟨t, h1, h2⟩ := hbody A outer s H vs Q E hr' want
  exact ⟨t, h1.nox, h2⟩
end
abbrev sCho : Stmt := topS 36
abbrev NCho : List Str := ["word", "closed", "places"]
theorem scCho : FnScope NCho ["word", "closed", "places"] (defScope sCho) := ⟨rfl, rfl, rfl, by decide +kernel, rfl, by decide +kernel, by decide +kernel⟩
abbrev qCho : Str := "choose.<locals>.<lambda>"
/-- of the places pl the one that the word chooses -/
def ChoR (wd : Str) (cs : List Int) (pl : List Nat) (k : Nat) : Prop := (wd = "oldest" → pl[0]? = some k) ∧ (wd = "youngest" → pl.getLast? = some k) ∧ (wd = "least" → ∃ j, Best true cs pl j k) ∧ (wd = "most" → ∃ j, Best false cs pl j k)
def spCho (K : PySem.W.Frag) (T : List (Addr × Str)) : Sp := fun vs H Q _ => ∃ (wd : Str) (t l : Addr) (cs : List Int) (pl : List Nat), vs = [.str wd, .ref t, .ref l] ∧ wd ∈ wordsL ∧ SqT K H t (cs.map V.int) ∧ SqL K H l (pl.map nV) ∧ pl ≠ [] ∧ (∀ k ∈ pl, k < cs.length) ∧ cs.length ≤ 1000 ∧ Tabs T H ∧
  ∀ (H' : Hp) (k : Nat), ExtN H H' → Tabs T H' → k ∈ pl → ChoR wd cs pl k → Q (nV k) H'
theorem bMin6 : bootBuiltins "min" = some (.builtin (if true = true then "min" else "max")) := by decide +kernel
theorem bMax6 : bootBuiltins "max" = some (.builtin (if false = true then "min" else "max")) := by decide +kernel
/-- a maker's table -/
structure TabC (base : Heap) (mg : Str → Option Value) (T : List (Addr × Str)) (c P0 : Addr) (q : Str) : Prop where
  tb : TabB base mg c P0
  mem : (P0, q) ∈ T
  uq : ∀ z ∈ T, z.1 = P0 → z.2 = q
theorem seq_if6 {tt : TT} {t t2 : TS} {D : Ends} {σ : L2.St} {H : Hp} (h : tt σ H fun c H1 => if c = true then t { D with nx := t2 D } σ H1 else t2 D σ H1) : tSeq (tIfS tt t tNext) t2 D σ H := h
theorem minL_read {sg : Bool} {T : List (Addr × Str)} {K : PySem.W.Frag} {i : Nat} {ta : TA} {σ : L2.St} {H : Hp} {Q : VK} (h : ta σ H fun xs H1 => Tabs T H1 ∧ ∃ (l t : Addr) (pl : List Nat) (cs : List Int), xs = [.ref l] ∧ SqL K H1 l (pl.map nV) ∧ σ[i]? = some (some (.ref t)) ∧ SqT K H1 t (cs.map V.int) ∧ pl ≠ [] ∧ (∀ k ∈ pl, k < cs.length) ∧ cs.length ≤ 1000 ∧
  ∀ (H2 : Hp) (j k : Nat), ExtN H1 H2 → Tabs T H2 → Best sg cs pl j k → Q (nV k) H2) : tMinL sg T K i ta σ H Q := h
section
variable {P : Program} {w : World} {K : PySem.W.Frag} {mg : Str → Option Value} {base : Heap}
theorem ok_cho {f c P0 : Addr} {fd : FuncData} {T : List (Addr × Str)} (F : FunC K "choose" "choose" sCho f c fd) (B : Bl mg) (TC : TabC base mg T c P0 qCho) : FnOk P w K mg base CX0 3 f fd ["word", "closed", "places"] (spCho K T) := by
  refine okC F scCho (fun vs H Q E h => ?_) (fun A outer s H vs Q E hr h => ?_)
  · obtain ⟨wd, t, l, cs, pl, rfl, _⟩ := h
    rfl
  obtain ⟨wd, t, l, cs, pl, rfl, hw, ht, hl, hne, hin, hcs, hT, q⟩ := h
  refine ⟨_, pss_cons (ps_if (pt_cmpR op_eq (pv 0) pe_str (nomark _)) (pss_one (ps_ret (pe_ix ix_list (pv 2) pe_int (fun _ _ => rfl)))) pss_nil)
    (pss_cons (ps_if (pt_cmpR op_eq (pv 0) pe_str (nomark _)) (pss_one (ps_ret (pe_ix ix_list (pv 2) (pe_un un_neg pe_int) (fun _ _ => rfl)))) pss_nil)
    (pss_cons (ps_if (pt_cmpR op_eq (pv 0) pe_str (nomark _)) (pss_one (ps_ret (pe_minL (sg := true) (T := T) (i := 1) (c := c) (P := P0) ⟨⟨rfl, rfl, rfl, by decide +kernel, rfl, rfl, by decide +kernel⟩, TC.tb, rfl, TC.mem, TC.uq, rfl, fun _ _ _ _ _ _ => rfl, rfl, rfl, by decide, by decide, by decide⟩ hr rfl (by rfl) B.min bMin6 (pa_cons (pv 2) pa_nil)))) pss_nil)
    (pss_one (ps_ret (pe_minL (sg := false) (T := T) (i := 1) (c := c) (P := P0) ⟨⟨rfl, rfl, rfl, by decide +kernel, rfl, rfl, by decide +kernel⟩, TC.tb, rfl, TC.mem, TC.uq, rfl, fun _ _ _ _ _ _ => rfl, rfl, rfl, by decide, by decide, by decide⟩ hr rfl (by rfl) B.max bMax6 (pa_cons (pv 2) pa_nil)))))), ?_⟩
  simp only [wordsL, List.mem_cons, List.not_mem_nil, or_false] at hw
  rcases hw with w | w | w | w
  · subst w
    refine seq_if6 (test_read6 (op_read ⟨_, rfl, c_read ⟨rfl, _, rfl, iteT (ret_read (op_read ?_))⟩⟩))
    obtain ⟨a, r, e⟩ : ∃ a r, pl = a :: r := by
      cases pl with
      | nil => exact absurd rfl hne
      | cons a r => exact ⟨a, r, rfl⟩
    subst e
    exact ⟨_, rfl, c_read ⟨l, _, _, nV a, rfl, rfl, hl, atI_nat (j := 0) rfl, q H a (ExtN.refl H) hT (List.mem_cons_self ..) ⟨fun _ => rfl, fun z => absurd z (by decide), fun z => absurd z (by decide), fun z => absurd z (by decide)⟩⟩⟩
  · subst w
    refine seq_if6 (test_read6 (op_read ⟨_, rfl, c_read ⟨rfl, _, rfl, iteF ?_⟩⟩))
    refine seq_if6 (test_read6 (op_read ⟨_, rfl, c_read ⟨rfl, _, rfl, iteT (ret_read (op_read ?_))⟩⟩))
    have e5 : pl.map nV = (pl.dropLast.map nV) ++ [nV (pl.getLast hne)] := by rw [← List.map_singleton, ← List.map_append, List.dropLast_concat_getLast hne]
    refine ⟨_, rfl, _, rfl, l, _, _, nV (pl.getLast hne), rfl, rfl, hl, by rw [e5]; exact atI_last _ _, q H _ (ExtN.refl H) hT (List.getLast_mem hne) ⟨fun z => absurd z (by decide), fun _ => List.getLast?_eq_some_getLast hne, fun z => absurd z (by decide), fun z => absurd z (by decide)⟩⟩
  · subst w
    refine seq_if6 (test_read6 (op_read ⟨_, rfl, c_read ⟨rfl, _, rfl, iteF ?_⟩⟩))
    refine seq_if6 (test_read6 (op_read ⟨_, rfl, c_read ⟨rfl, _, rfl, iteF ?_⟩⟩))
    refine seq_if6 (test_read6 (op_read ⟨_, rfl, c_read ⟨rfl, _, rfl, iteT (ret_read (minL_read (cons_read ⟨_, rfl, nil_read ⟨hT, l, t, pl, cs, rfl, hl, rfl, ht, hne, hin, hcs, fun H2 j k e2 T2 hb => ?_⟩⟩)))⟩⟩))
    exact q H2 k e2 T2 (List.mem_of_getElem? hb.1) ⟨fun z => absurd z (by decide), fun z => absurd z (by decide), fun _ => ⟨j, hb⟩, fun z => absurd z (by decide)⟩
  · subst w
    refine seq_if6 (test_read6 (op_read ⟨_, rfl, c_read ⟨rfl, _, rfl, iteF ?_⟩⟩))
    refine seq_if6 (test_read6 (op_read ⟨_, rfl, c_read ⟨rfl, _, rfl, iteF ?_⟩⟩))
    refine seq_if6 (test_read6 (op_read ⟨_, rfl, c_read ⟨rfl, _, rfl, iteF ?_⟩⟩))
    refine ret_read (minL_read (cons_read ⟨_, rfl, nil_read ⟨hT, l, t, pl, cs, rfl, hl, rfl, ht, hne, hin, hcs, fun H2 j k e2 T2 hb => ?_⟩⟩))
    exact q H2 k e2 T2 (List.mem_of_getElem? hb.1) ⟨fun z => absurd z (by decide), fun z => absurd z (by decide), fun z => absurd z (by decide), fun _ => ⟨j, hb⟩⟩
end
end K6

set_option Elab.async false
set_option linter.all false
set_option maxRecDepth 100000
set_option maxHeartbeats 4000000
namespace K6
open PySem PySem.Spec PyProof.Rows L2 G1 G2 K2 G5 LamX
/-- a comprehension over enumerate(a tuple) -/
theorem lc_enumT {K : PySem.W.Frag} {a : Addr} {xs : List V} {g : TG} {tt : TT} {te : TE} {vs : List Nat} {σ : L2.St} {H1 : Hp} {D : Addr} {Qd : Hp → Prop} (Pv : Nat → Hp → Prop) (h0 : Pv 0 (upd H1 D (.lst []))) (hl : ∀ i H, Pv i H → SqT K H a xs)
    (hs : ∀ i x T H, xs[i]? = some x → Pv i H → H T = none → g (.ref T) (wipe σ vs) (upd H T (.tup [.int (i : Nat), x])) fun σ2 H2 => wipe σ2 vs = wipe σ vs ∧ tt σ2 H2 fun b H3 =>
      if b = true then te σ2 H3 fun y H4 => ∃ acc, H4 D = some (.lst acc) ∧ acc.length < sizeLine ∧ Pv (i + 1) (upd H4 D (.lst (acc ++ [y]))) else Pv (i + 1) H3) (hd : ∀ H, Pv xs.length H → Qd H) :
    ∃ W : Nat → Nat → Hp → Prop, (∃ m, W 0 m (upd H1 D (.lst []))) ∧ ∀ i m H, W i m H →
      ((ItT K a).stop i H ∧ Qd H) ∨ ((ItT K a).go i H ∧ ∃ Nx : Hp → Prop, (∀ H', Nx H' → ∃ m', m' < m ∧ W (i + 1) m' H') ∧ ∀ x H', (ItT K a).yld i H x H' → g x (wipe σ vs) H' fun σ2 H2 => wipe σ2 vs = wipe σ vs ∧ tt σ2 H2 fun b H3 =>
        if b = true then te σ2 H3 fun y H4 => ∃ acc, H4 D = some (.lst acc) ∧ acc.length < sizeLine ∧ Nx (upd H4 D (.lst (acc ++ [y]))) else Nx H3) := by
  refine ⟨fun i m H => i + m = xs.length ∧ Pv i H, ⟨xs.length, by omega, h0⟩, ?_⟩
  rintro i m H ⟨e, p⟩
  by_cases hm : m = 0
  · have e' : i = xs.length := by omega
    exact .inl ⟨⟨xs, hl _ _ p, e'.symm⟩, hd _ (e' ▸ p)⟩
  have hi : i < xs.length := by omega
  refine .inr ⟨⟨xs, xs[i], hl _ _ p, List.getElem?_eq_getElem hi⟩, Pv (i + 1), fun H' q => ⟨m - 1, by omega, by omega, q⟩, ?_⟩
  rintro _ _ ⟨T, x', rfl, hT, rfl, hx⟩
  exact hs i x' T H (hx xs (hl _ _ p)) p hT
abbrev sPck : Stmt := topS 35
abbrev NPck : List Str := ["rows", "closed", "limit", "word", "places", "place", "living"]
theorem scPck : FnScope NPck ["rows", "closed"] (defScope sPck) := ⟨rfl, rfl, rfl, by decide +kernel, rfl, by decide +kernel, by decide +kernel⟩
/-- the places whose count is not above the limit -/
def plcs (L : Int) (cs : List Int) (n : Nat) : List Nat := (List.range n).filter fun i => decide (cs.getD i 0 ≤ L)
theorem plcs_snoc (L : Int) (cs : List Int) (n : Nat) : plcs L cs (n + 1) = plcs L cs n ++ (if cs.getD n 0 ≤ L then [n] else []) := by
  unfold plcs
  rw [List.range_succ, List.filter_append]
  by_cases h : cs.getD n 0 ≤ L
  · rw [if_pos h]
    simp only [List.filter_cons, List.filter_nil, decide_eq_true h, if_true]
  · rw [if_neg h]
    simp only [List.filter_cons, List.filter_nil, decide_eq_false h]
    simp
theorem plcs_len (L : Int) (cs : List Int) (n : Nat) : (plcs L cs n).length ≤ n := by
  have := List.length_filter_le (fun i => decide (cs.getD i 0 ≤ L)) (List.range n)
  rw [List.length_range] at this
  exact this
theorem plcs_lt {L : Int} {cs : List Int} {n k : Nat} (h : k ∈ plcs L cs n) : k < n := by
  unfold plcs at h
  exact List.mem_range.mp (List.mem_filter.mp h).1
/-- the place that the rows pick -/
def PickR (rows : List RowD) (cs : List Int) (k : Nat) : Prop := ∃ (j : Nat) (r : RowD), rows[j]? = some r ∧ (∀ (i : Nat) (r' : RowD), i < j → rows[i]? = some r' → plcs r'.1 cs cs.length = []) ∧ k ∈ plcs r.1 cs cs.length ∧ ChoR r.2 cs (plcs r.1 cs cs.length) k
def spPck (K : PySem.W.Frag) (T : List (Addr × Str)) : Sp := fun vs H Q _ => ∃ (t u : Addr) (p : Nat) (rows ini : List RowD) (y : Str) (cs : List Int), vs = [.ref t, .ref u] ∧ RowsAt K H t rows ∧ (∀ r ∈ rows, r.2 ∈ wordsL) ∧ rows = ini ++ [((p : Int), y)] ∧ SqT K H u (cs.map V.int) ∧ cs ≠ [] ∧ (∀ c ∈ cs, c ≤ (p : Int)) ∧ cs.length ≤ 1000 ∧ Tabs T H ∧
  ∀ (H' : Hp) (k : Nat), ExtN H H' → Tabs T H' → PickR rows cs k → Q (nV k) H'
section
variable {P : Program} {w : World} {K : PySem.W.Frag} {mg : Str → Option Value} {base : Heap}
theorem ok_pck {f : Addr} {fd : FuncData} {T : List (Addr × Str)} (F : Fun K "pick" "pick" sPck f fd) (B : Bl mg) (GC : FAt P w K mg base 3 "choose" ["word", "closed", "places"] (spCho K T)) : FnOk P w K mg base CX0 4 f fd ["rows", "closed"] (spPck K T) := by
  refine F.ok scPck (fun vs H Q E h => ?_) (fun cdv A0 outer s0 H vs Q E hr h => ?_)
  · obtain ⟨t, u, p, rows, ini, y, cs, rfl, _⟩ := h
    rfl
  obtain ⟨t, u, p, rows, ini, y, cs, rfl, ⟨rs, hT, hP⟩, hok, hrow, hu, hne, hcp, hcl, hTb, q⟩ := h
  obtain ⟨fC, dC, GC, kC, bC, gC⟩ := GC.ex
  refine ⟨_, pss_one (ps_for PassesOwn.never rfl (pi_tup (pv 0)) (pg_tup rfl (pgs_cons (pg_name (i := 2) scPck.nd rfl (.inr rfl)) (pgs_cons (pg_name (i := 3) scPck.nd rfl (.inl rfl)) pgs_nil)))
    (pss_cons (ps_setLc (i := 4) (own := [("place", 5), ("living", 6)]) (g := gTup K 2 (gCons (gName 5) (gCons (gName 6) gNil))) (tt := _) (te := tVar 5) rfl scPck.nd rfl rfl (by rfl) (pi_enumT (by rfl) B.enm (pa_cons (pv 1) pa_nil)) (blkOk_by (own := [("place", 5), ("living", 6)]) (N := NPck) (sc := defScope sPck) (by decide +kernel))
        (fun _ _ _ _ _ => pg_tup rfl (pgs_cons (pg_name (i := 5) scPck.nd rfl (Or.inl rfl)) (pgs_cons (pg_name (i := 6) scPck.nd rfl (Or.inl rfl)) pgs_nil))) (fun _ _ _ _ _ => pts_one (pt_cmpR op_le (pv 6) (pv 2) (nomark _))) (fun _ _ _ _ _ => pv 5))
      (pss_one (ps_if (pt_truth (pv 4) (by intro _; rfl)) (pss_one (ps_ret (pe_call GC hr (by rfl) gC kC bC .nil pass0 (pa_cons (pv 3) (pa_cons (pv 1) (pa_cons (pv 4) pa_nil)))))) pss_nil)))), ?_⟩
  refine ⟨_, rfl, t, rfl, ⟨_, hT⟩, ?_⟩
  refine for_tup (K := K) (xs := rs.map V.ref) (fun i σ H' => ∃ x2 x3 x4 x5 x6, σ = [some (.ref t), some (.ref u), x2, x3, x4, x5, x6] ∧ Same H H' ∧ (∀ (j : Nat) (r' : RowD), j < i → rows[j]? = some r' → plcs r'.1 cs cs.length = [])) ⟨none, none, none, none, none, rfl, Same.refl _, fun j _ z => absurd z (Nat.not_lt_zero j)⟩ (fun i σ H' _ z => ?_) ?_ ?_
  · obtain ⟨_, _, _, _, _, _, z, _⟩ := z
    exact K2.Same.tup z hT
  · rintro i x σ H' hi ⟨x2, x3, x4, x5, x6, rfl, s1, hb⟩
    rw [List.getElem?_map] at hi
    obtain ⟨a, ha, rfl⟩ : ∃ a, rs[i]? = some a ∧ V.ref a = x := by
      cases hq : rs[i]? with
      | none => rw [hq] at hi; cases hi
      | some a => rw [hq] at hi; exact ⟨a, rfl, Option.some.inj hi⟩
    obtain ⟨r, hr1, hr2⟩ := K2.paired_get hP ha
    refine ⟨a, _, rfl, K2.Same.tup s1 hr2, rfl, _, _, rfl, _, _, rfl, rfl, ?_⟩
    refine seq_asg ⟨_, rfl, u, _, rfl, K2.Same.tup s1 hu, fun D hD => ?_⟩
    refine lc_enumT (K := K) (xs := cs.map V.int) (fun j H2 => Same H' H2 ∧ H2 D = some (.lst ((plcs r.1 cs j).map nV))) ⟨same_lay hD, upd_same⟩ (fun j H2 z => K2.Same.tup z.1 (K2.Same.tup s1 hu)) ?_ ?_
    · rintro j v T1 H2 hj ⟨sj, ej⟩ hT1
      have hj' : j < cs.length := by
        have z := (List.getElem?_eq_some_iff.mp hj).1
        rwa [List.length_map] at z
      have ex : v = .int (cs.getD j 0) := by
        rw [List.getElem?_map, List.getElem?_eq_getElem hj'] at hj
        rw [List.getD_eq_getElem?_getD, List.getElem?_eq_getElem hj']
        exact (Option.some.inj hj).symm
      subst ex
      have sT : Same H2 (upd H2 T1 (.tup [.int (j : Nat), .int (cs.getD j 0)])) := same_lay hT1
      refine ⟨T1, _, rfl, SqT.of upd_same, rfl, _, _, rfl, _, _, rfl, rfl, rfl, test_read6 (op_read ⟨_, rfl, _, rfl, _, _, rfl, rfl, _, rfl, ?_⟩)⟩
      by_cases hle : cs.getD j 0 ≤ r.1
      · rw [decide_eq_true hle]
        refine iteT ⟨_, rfl, _, sT _ _ ej, ?_, same_grow hD sj sT, ?_⟩
        · have := plcs_len r.1 cs j
          rw [List.length_map, sizeLine_eq]
          omega
        · rw [upd_same, plcs_snoc, if_pos hle, List.map_append]
          rfl
      · rw [decide_eq_false hle]
        refine iteF ⟨sj.trans sT, ?_⟩
        rw [plcs_snoc, if_neg hle, List.append_nil]
        exact sT _ _ ej
    rintro H2 ⟨s2, hD2⟩
    rw [List.length_map] at hD2
    have s3 := s1.trans s2
    by_cases hem : plcs r.1 cs cs.length = []
    · refine ⟨_, rfl, false, .inl ⟨_, SqL.of hD2, by rw [hem]; rfl⟩, iteF ⟨_, _, _, _, _, rfl, s3, fun j r' hj hr' => ?_⟩⟩
      rcases Nat.lt_succ_iff_lt_or_eq.mp hj with z | z
      · exact hb j r' z hr'
      · subst z
        rw [hr1] at hr'
        cases hr'
        exact hem
    · refine ⟨_, rfl, true, .inl ⟨_, SqL.of hD2, ?_⟩, iteT (ret_read (call_read (cons_read ⟨_, rfl, cons_read ⟨_, rfl, cons_read ⟨_, rfl, nil_read ?_⟩⟩⟩)))⟩
      · cases hq : plcs r.1 cs cs.length with
        | nil => exact absurd hq hem
        | cons _ _ => rfl
      refine ⟨r.2, u, D, cs, plcs r.1 cs cs.length, rfl, hok r (List.mem_of_getElem? hr1), K2.Same.tup s3 hu, SqL.of hD2, hem, fun k hk => plcs_lt hk, hcl, hTb.ext s3, fun H3 k e3 T3 hk hch => ?_⟩
      exact q H3 k ((ExtN.of s3).trans e3) T3 ⟨i, r, hr1, hb, hk, hch⟩
  · rintro σ H' ⟨x2, x3, x4, x5, x6, rfl, s1, hb⟩
    exfalso
    have hl : (rs.map V.ref).length = rows.length := by rw [List.length_map]; exact Paired.length hP
    rw [hl] at hb
    have hlast : rows[ini.length]? = some ((p : Int), y) := by rw [hrow]; simp
    have z := hb ini.length _ (by rw [hrow]; simp) hlast
    obtain ⟨c, cs', e⟩ : ∃ c cs', cs = c :: cs' := by
      cases cs with
      | nil => exact absurd rfl hne
      | cons c cs' => exact ⟨c, cs', rfl⟩
    have m : 0 ∈ plcs (p : Int) cs cs.length := by
      unfold plcs
      refine List.mem_filter.mpr ⟨List.mem_range.mpr (by rw [e]; simp), decide_eq_true ?_⟩
      rw [e]
      exact hcp c (by rw [e]; exact List.mem_cons_self ..)
    have z' : plcs (p : Int) cs cs.length = [] := z
    rw [z'] at m
    cases m
end
end K6

set_option Elab.async false
set_option linter.all false
set_option maxRecDepth 100000
set_option maxHeartbeats 4000000
namespace K6
open PySem PySem.Spec PyProof.Rows L2 G1 G2 K2 G5 LamX
/-- as Frm, but tables may grow -/
def FrmN (F : List Addr) (H H' : Hp) : Prop := ∀ b o, H b = some o → b ∉ F → (∀ ps, o ≠ .tbl ps) → H' b = some o
theorem FrmN.of {F : List Addr} {H H' : Hp} (f : Frm F H H') : FrmN F H H' := fun b o h n _ => f b o h n
theorem FrmN.ext {F : List Addr} {H H' : Hp} (e : ExtN H H') : FrmN F H H' := fun b o h _ t => e b o h t
theorem FrmN.refl (F : List Addr) (H : Hp) : FrmN F H H := .of (Frm.refl F H)
theorem FrmN.trans {F : List Addr} {H H1 H2 : Hp} (a : FrmN F H H1) (b : FrmN F H1 H2) : FrmN F H H2 := fun c o h n t => b c o (a c o h n t) n t
/-- nothing stands there, but perhaps a table -/
def NwN (H : Hp) (a : Addr) : Prop := ∀ o, H a = some o → ∃ ps, o = .tbl ps
theorem NwN.of {H : Hp} {a : Addr} (h : H a = none) : NwN H a := fun o e => by rw [h] at e; cases e
theorem FrmN.grow {F F' : List Addr} {H H1 H2 : Hp} (a : FrmN F H H1) (b : FrmN F' H1 H2) (g : ∀ c ∈ F', c ∈ F ∨ NwN H c) : FrmN F H H2 := fun c o h n t => b c o (a c o h n t) (fun z => by
  rcases g c z with q | q
  · exact n q
  · obtain ⟨ps, e⟩ := q o h
    exact t ps e) t
theorem FrmN.back {F : List Addr} {H H' : Hp} (f : FrmN F H H') (k : ∀ a ∈ F, ∃ o, H' a = some o ∧ ∀ ps, o ≠ .tbl ps) {a : Addr} (h : NwN H' a) : NwN H a := fun o e => by
  by_cases t : ∃ ps, o = .tbl ps
  · exact t
  exfalso
  have nt : ∀ ps, o ≠ .tbl ps := fun ps z => t ⟨ps, z⟩
  by_cases z : a ∈ F
  · obtain ⟨u, hu, nu⟩ := k a z
    obtain ⟨ps, e2⟩ := h u hu
    exact nu ps e2
  · obtain ⟨ps, e2⟩ := h o (f a o e z nt)
    exact nt ps e2
theorem foot_out {C x a : Addr} {H : Hp} {s : Pl} {A : PAd} {o : HO} (h : PlayAt C H x s A) (e : H a = some o) (n1 : ∀ xs, o ≠ .lst xs) (n2 : ∀ l, o ≠ .dK l) (n3 : ∀ C' dx fs, o ≠ .ins C' dx fs) : a ∉ A.foot x := fun z => by
  rcases foot_kind h a z with ⟨ys, q⟩ | ⟨l, q⟩ | ⟨C', dx, fs, q⟩
  · rw [e] at q; exact n1 _ (Option.some.inj q)
  · rw [e] at q; exact n2 _ (Option.some.inj q)
  · rw [e] at q; exact n3 _ _ _ (Option.some.inj q)
theorem tabs_frm {T : List (Addr × Str)} {C x : Addr} {H H' : Hp} {s : Pl} {A : PAd} (h : PlayAt C H x s A) (f : Frm (A.foot x) H H') (t : Tabs T H) : Tabs T H' := fun p hp => by
  obtain ⟨ps, h1, h2, h3⟩ := t p hp
  refine ⟨ps, f _ _ h1 (foot_out h h1 (by intro _ z; cases z) (by intro _ z; cases z) (by intro _ _ _ z; cases z)), h2, fun pos cv hc => ?_⟩
  obtain ⟨c, e1, e2⟩ := h3 pos cv hc
  exact ⟨c, e1, f _ _ e2 (foot_out h e2 (by intro _ z; cases z) (by intro _ z; cases z) (by intro _ _ _ z; cases z))⟩
theorem PlayAt.ext {C x : Addr} {H H' : Hp} {s : Pl} {A : PAd} (h : PlayAt C H x s A) (e : ExtN H H') : PlayAt C H' x s A := by
  have e' : ∀ {b : Addr} {o : HO}, H b = some o → (∀ ps, o ≠ .tbl ps) → H' b = some o := fun {b o} => e b o
  refine ⟨e' h.ins (by intro _ z; cases z), e' h.cont (by intro _ z; cases z), Paired.mapP h.inner fun _ _ z => e' z (by intro _ z; cases z), e' h.liv (by intro _ z; cases z), e' h.free (by intro _ z; cases z), e' h.clo (by intro _ z; cases z), e' h.hom (by intro _ z; cases z), e' h.told (by intro _ z; cases z), Paired.mapP h.tat fun _ _ z => ?_, h.nd⟩
  obtain ⟨q, z1, z2⟩ := z
  exact ⟨q, e' z1 (by intro _ z; cases z), e' z2 (by intro _ z; cases z)⟩
theorem DrvAt.extN {K : PySem.W.Frag} {CD x : Addr} {H H' : Hp} {b p n : Nat} {ini : List RowD} {y : Str} (hd : DrvAt K CD H x b p n ini y) (e : ExtN H H') : DrvAt K CD H' x b p n ini y := by
  obtain ⟨dx, t, h1, rs, h2, h3⟩ := hd
  exact ⟨dx, t, e _ _ h1 (by intro _ z; cases z), rs, ext_tup e h2, Paired.mapP h3 fun _ _ z => ext_tup e z⟩
/-- many pages put: the run -/
theorem run_puts (p k : Nat) {s0 : Pl} (hk : k < s0.cont.length) (h0 : s0.fil = some k) : ∀ ns : List Str, Run p k s0 (putsP p k s0 ns) ns.length := by
  intro ns
  have key : ∀ j, j ≤ ns.length → Run p k s0 (putsP p k s0 (ns.take j)) j := by
    intro j
    induction j with
    | zero => exact fun _ => Run.zero h0
    | succ j ih =>
      intro hj
      have hj' : j < ns.length := hj
      have e : ns.take (j + 1) = ns.take j ++ [ns[j]] := by rw [List.take_add_one, List.getElem?_eq_getElem hj']; rfl
      rw [e, puts_snoc]
      exact (ih (by omega)).step hk
  have := key ns.length (Nat.le_refl _)
  rwa [List.take_length] at this
/-- what stands when one block was cleaned -/
theorem clean_run {p : Nat} {s : Pl} {i k f : Nat} (hf : f < s.cont.length) (hfk : f ≠ k) (hfe : s.cont.getD f [] = []) (fit : Fit2 s) (hkp : (keptN (s.cont.getD k [])).length < p) (hk : k < s.cont.length) : Fit (cleanP p s i k f) ∧ (cleanP p s i k f).fil = some f ∧ (cleanP p s i k f).cont.length = s.cont.length := by
  have hfs : f < (cln1 s i k f).cont.length := by
    show f < (s.cont.set k []).length
    rw [List.length_set]
    exact hf
  have r := run_puts p f (s0 := cln1 s i k f) hfs rfl (keptN (s.cont.getD k []))
  have hf0 : ((cln1 s i k f).cont.getD f []).length = 0 := by
    show ((s.cont.set k []).getD f []).length = 0
    rw [List.getD_eq_getElem?_getD, List.getElem?_set_ne (Ne.symm hfk), ← List.getD_eq_getElem?_getD, hfe]
    rfl
  have hfit : Fit2 (cln1 s i k f) := by
    refine ⟨fun d hd' => ?_, fit.hom, ?_, ?_, ?_⟩
    · rcases List.mem_or_eq_of_mem_set hd' with z | z
      · exact fit.cont d z
      · rw [z]
        exact Nat.zero_le _
    · exact Nat.le_trans (List.length_eraseIdx_le ..) fit.clo
    · exact Nat.le_trans (List.length_eraseIdx_le ..) fit.free
    · show (s.liv.set k 0).length = (s.cont.set k []).length
      rw [List.length_set, List.length_set]
      exact fit.lens
  have h10 : (keptN (s.cont.getD k [])).length ≤ 10 := by
    refine Nat.le_trans (kept_len _) ?_
    rw [List.getD_eq_getElem?_getD, List.getElem?_eq_getElem hk]
    exact fit.cont _ (List.getElem_mem hk)
  have z := r.fit hfs hfit h10
  refine ⟨⟨z.cont, z.hom, z.clo, z.lens⟩, r.fil (by rw [hf0]; omega), ?_⟩
  show (putsP p f (cln1 s i k f) (keptN (s.cont.getD k []))).cont.length = _
  rw [r.cl]
  show (s.cont.set k []).length = _
  rw [List.length_set]
theorem Fit2.fit {s : Pl} (h : Fit2 s) : Fit s := ⟨fun c hc => Nat.le_trans (h.cont c hc) (by decide), Nat.le_trans h.hom (by decide), Nat.le_trans h.clo (by decide), h.lens⟩
end K6

set_option Elab.async false
set_option linter.all false
set_option maxRecDepth 100000
set_option maxHeartbeats 4000000
namespace K6
open PySem PySem.Spec PyProof.Rows L2 G1 G2 K2 G5 LamX
abbrev sBrg : Stmt := topS 58
abbrev NBrg : List Str := ["play", "name", "cleaned", "copied", "seen", "counts", "place", "block"]
theorem scBrg : FnScope NBrg ["play", "name"] (defScope sBrg) := ⟨rfl, rfl, rfl, by decide +kernel, rfl, by decide +kernel, by decide +kernel⟩
theorem bSet9 : bootBuiltins "set" = some (.type "set") := by decide +kernel
/-- the living pages of the closed blocks -/
def cntP (s : Pl) : List Int := s.clo.map fun k => s.liv.getD k 0
/-- a block is open, at most one cleaned: state, block, cleaned ones, pages copied -/
def OpnR (p : Nat) (rows : List RowD) (s s1 : Pl) (k : Nat) (cl : List Nat) (cp : Int) : Prop :=
  (s.fil = some k ∧ s1 = s ∧ cl = [] ∧ cp = 0) ∨
  (s.fil = none ∧ 1 < s.free.length ∧ s.free[0]? = some k ∧ s1 = { s with free := s.free.eraseIdx 0, fil := some k } ∧ cl = [] ∧ cp = 0) ∨
  (s.fil = none ∧ s.free = [k] ∧ ∃ i j, s.clo[i]? = some j ∧ PickR rows (cntP s) i ∧ s1 = cleanP p s i j k ∧ cl = [j] ∧ cp = s.liv.getD j 0)
structure BrgOk (p : Nat) (rows : List RowD) (s : Pl) : Prop where
  fit : Fit2 s
  fil : ∀ k, s.fil = some k → k < s.cont.length
  fre : ∀ k ∈ s.free, k < s.cont.length
  due : s.fil = none → s.free.length ≤ 1 → ∃ f, s.free = [f] ∧ s.cont.getD f [] = [] ∧ s.clo ≠ [] ∧ (∀ k ∈ s.clo, k < s.cont.length ∧ f ≠ k ∧ s.liv.getD k 0 ≤ (p : Int)) ∧ ∀ i k, PickR rows (cntP s) i → s.clo[i]? = some k → (keptN (s.cont.getD k [])).length < p
  told : s.told.length ≤ 10000
def spBrg (K : PySem.W.Frag) (T : List (Addr × Str)) (CD C : Addr) : Sp := fun vs H Q _ => ∃ (x : Addr) (nm : Str) (s : Pl) (A : PAd) (b p n : Nat) (ini : List RowD) (y : Str), vs = [.ref x, .str nm] ∧ PlayAt C H x s A ∧ BrgOk p (ini ++ [((p : Int), y)]) s ∧ (∀ r ∈ ini ++ [((p : Int), y)], r.2 ∈ wordsL) ∧ DrvAt K CD H A.dr b p n ini y ∧ A.dr ≠ x ∧ Tabs T H ∧
  ∀ (H' : Hp) (A' : PAd) (s1 : Pl) (k : Nat) (cl : List Nat) (cp : Int), OpnR p (ini ++ [((p : Int), y)]) s s1 k cl cp → PlayAt C H' x (putP p { s1 with told := s1.told ++ [(some k, cl, cp)] } k nm) A' → A'.dr = A.dr → FrmN (A.foot x) H H' → (∀ a ∈ A'.foot x, a ∈ A.foot x ∨ NwN H a) → Tabs T H' → Q (.bl true) H'
theorem seq_while9 {c : TT} {tb t2 : TS} {D : Ends} {σ : L2.St} {H : Hp} (h : ∃ W : Nat → L2.St → Hp → Prop, (∃ m, W m σ H) ∧ ∀ m σ H, W m σ H → c σ H fun b H1 => if b = true then ∃ N : L2.St → Hp → Prop, (∀ σ' H', N σ' H' → ∃ m', m' < m ∧ W m' σ' H') ∧ tb { D with nx := N, ct := N, bk := t2 D } σ H1 else t2 D σ H1) : tSeq (tWhile c tb) t2 D σ H := h
theorem one_ifE {tt : TT} {t u : TS} {D : Ends} {σ : L2.St} {H : Hp} (h : tt σ H fun c H1 => if c = true then t D σ H1 else u D σ H1) : tIfS tt t u D σ H := h
theorem not_foot {C x a : Addr} {H : Hp} {s : Pl} {A : PAd} (h : PlayAt C H x s A) (n : H a = none) : a ∉ A.foot x := fun z => by
  obtain ⟨o, ho, _⟩ := foot_some h a z
  rw [n] at ho
  cases ho
theorem tabs_upd {T : List (Addr × Str)} {H : Hp} {a : Addr} {xs : List V} {o : HO} (h : H a = some (.lst xs)) (t : Tabs T H) : Tabs T (L2.upd H a o) := fun p hp => by
  obtain ⟨ps, h1, h2, h3⟩ := t p hp
  refine ⟨ps, by rw [upd_ne (ne_of h1 h (by intro z; cases z))]; exact h1, h2, fun pos cv hc => ?_⟩
  obtain ⟨c, e1, e2⟩ := h3 pos cv hc
  exact ⟨c, e1, by rw [upd_ne (ne_of e2 h (by intro z; cases z))]; exact e2⟩
theorem puts_told (p k : Nat) : ∀ (s : Pl) (ns : List Str), (putsP p k s ns).told = s.told
  | s, [] => rfl
  | s, nm :: ns => by
    show (putsP p k (putP p s k nm) ns).told = s.told
    rw [puts_told p k _ ns]
    unfold putP
    split <;> rfl
theorem clean_told (p : Nat) (s : Pl) (i k f : Nat) : (cleanP p s i k f).told = s.told := by
  show (putsP p f (cln1 s i k f) (keptN (s.cont.getD k []))).told = s.told
  rw [puts_told]
  rfl
theorem oN_non (k : Nat) : decide (oN (some k) = V.non) = false := decide_eq_false (by intro z; cases z)
section
variable {P : Program} {w : World} {K : PySem.W.Frag} {mg : Str → Option Value} {base : Heap} {CD C : Addr}
theorem ok_brg {f0 : Addr} {fd : FuncData} {T : List (Addr × Str)} (F : Fun K "bring_name" "bring_name" sBrg f0 fd) (B : Bl mg) (hset : mg "set" = none) (M : DD P w K mg base CD) (PC : PCls K C) (GP : FAt P w K mg base 3 "put_page" ["play", "name"] (spPut K CD C)) (GC : FAt P w K mg base 4 "clean_place" ["play", "place"] (spCln K CD C)) (GK : FAt P w K mg base 4 "pick" ["rows", "closed"] (spPck K T)) :
    FnOk P w K mg base CX0 5 f0 fd ["play", "name"] (spBrg K T CD C) := by
  refine F.ok scBrg (fun vs H Q E h => ?_) (fun cdv A0 outer s0 H vs Q E hr h => ?_)
  · obtain ⟨x, nm, s, A, b, p, n, ini, y, rfl, _⟩ := h
    rfl
  obtain ⟨x, nm, s, A, b, p, n, ini, y, rfl, hp, hok, hwd, hd, hdx, hT, q⟩ := h
  obtain ⟨fP, dP, GP, kP, bP, gP⟩ := GP.ex
  obtain ⟨fC, dC, GC, kC, bC, gC⟩ := GC.ex
  obtain ⟨fK, dK, GK, kK, bK, gK⟩ := GK.ex
  obtain ⟨pp, gp, fp, P2, F2, B2⟩ := M.pr.ex
  have hu := hr.units
  refine ⟨_, pss_cons (ps_set (i := 2) scBrg.nd rfl (.inl rfl) (pe_lst pa_nil))
    (pss_cons (ps_set (i := 3) scBrg.nd rfl (.inl rfl) pe_int)
    (pss_cons (ps_set (i := 4) scBrg.nd rfl (.inl rfl) (pe_callTy0 cr_set0T (by rfl) hset bSet9))
    (pss_cons (ps_while PassesOwn.never (pt_cmpR op_isN (pe_fld (pv 0) rfl) pe_non (nomark _))
      (pss_one (ps_if (pt_cmpR op_gt (pe_callB call_len_seq (by rfl) B.len PySem.boot_len (pa_cons (pe_fld (pv 0) rfl) pa_nil)) pe_int (nomark _))
        (pss_one (ps_fld (pv 0) (pe_bm PySem.F.plainAttrs_list PySem.F.slot_list_pop PySem.F.type_list_pop mt_popAt (pe_fld (pv 0) rfl) (pa_cons pe_int pa_nil)) rfl))
        (pss_cons (ps_set (i := 5) scBrg.nd rfl (.inl rfl) (pe_callTy call_tuple_of (by rfl) B.tup bTup (pa_cons (pe_lc (own := [("block", 7)]) (g := gName 7) (tt := tYes) (te := tOp (rIxL K) (tFld K (tVar 0) "living") (tVar 7)) rfl scBrg.nd (pi_list (pe_fld (pv 0) rfl)) (blkOk_by (own := [("block", 7)]) (N := NBrg) (sc := defScope sBrg) (by decide +kernel))
            (fun _ _ _ _ _ => pg_name (i := 7) scBrg.nd rfl (Or.inl rfl)) (fun _ _ _ _ _ => pts_nil) (fun _ _ _ _ _ => pe_ix ix_list (pe_fld (pv 0) rfl) (pv 7) (fun _ _ => rfl))) pa_nil)))
        (pss_cons (ps_if (pt_cmpR (op_inT0 hu) (pv 5) (pv 4) (by rfl)) (pss_one (ps_ret pe_bl)) pss_nil)
        (pss_cons (ps_expr (pe_addT hu (pv 4) (pa_cons (pv 5) pa_nil)))
        (pss_cons (ps_set (i := 6) scBrg.nd rfl (.inl rfl) (pe_call GK hr (by rfl) gK kK bK .nil pass0 (pa_cons (pe_prop (pe_fld (pv 0) rfl) M.T.cl P2 F2 (hr.mono (by decide)) B2 .nil pass0 rfl) (pa_cons (pv 5) pa_nil))))
        (pss_cons (ps_aug (i := 3) scBrg.nd rfl (.inl rfl) (pe_ix ix_tup (pv 5) (pv 6) (fun _ _ => rfl)) ip_add)
        (pss_cons (ps_expr (pe_bm PySem.F.plainAttrs_list PySem.F.slot_list_append PySem.F.type_list_append mt_append (pv 2) (pa_cons (pe_ix ix_list (pe_fld (pv 0) rfl) (pv 6) (fun _ _ => rfl)) pa_nil)))
        (pss_one (ps_expr (pe_call GC hr (by rfl) gC kC bC .nil pass0 (pa_cons (pv 0) (pa_cons (pv 6) pa_nil))))))))))))))
    (pss_cons (ps_expr (pe_bm PySem.F.plainAttrs_list PySem.F.slot_list_append PySem.F.type_list_append mt_append (pe_fld (pv 0) rfl) (pa_cons (pe_tup (pa_cons (pe_fld (pv 0) rfl) (pa_cons (pe_callTy call_tuple_of (by rfl) B.tup bTup (pa_cons (pv 2) pa_nil)) (pa_cons (pv 3) pa_nil)))) pa_nil)))
    (pss_cons (ps_expr (pe_call GP (hr.mono (by decide)) (by rfl) gP kP bP .nil pass0 (pa_cons (pv 0) (pa_cons (pv 1) pa_nil))))
    (pss_one (ps_ret pe_bl))))))), ?_⟩
  generalize erows : ini ++ [((p : Int), y)] = rows at hok hwd q
  refine seq_asg (lst_read (nil_read ⟨by show 0 ≤ sizeLine; decide, fun lc nlc => ?_⟩))
  refine seq_asg (c_read ?_)
  refine seq_asg (cb_read (nil_read ⟨rfl, fun se nse => ?_⟩))
  have sA : Same H (L2.upd (L2.upd H lc (.lst [])) se (SetTO P w se [])) := (same_lay nlc).trans (same_lay nse)
  have hlc : (L2.upd (L2.upd H lc (.lst [])) se (SetTO P w se [])) lc = some (.lst []) := (same_lay nse) lc _ upd_same
  have hse : (L2.upd (L2.upd H lc (.lst [])) se (SetTO P w se [])) se = some (SetTO P w se []) := upd_same
  have nse' : H se = none := by
    cases e : H se with
    | none => rfl
    | some o => rw [(same_lay nlc) se o e] at nse; cases nse
  have elc : lc ≠ se := fun z => by rw [← z, upd_same] at nse; cases nse
  show tSeq _ _ _ [some (.ref x), some (.str nm), some (.ref lc), some (.int 0), some (.ref se), none, none, none] (L2.upd (L2.upd H lc (.lst [])) se (SetTO P w se []))
  generalize L2.upd (L2.upd H lc (.lst [])) se (SetTO P w se []) = H2 at sA hlc hse ⊢
  have p1 := hp.same sA
  have d1 := hd.same sA
  have t1 := hT.ext sA
  have f1 : FrmN (A.foot x) H H2 := .of (Frm.same sA)
  refine seq_while9 ?_
  let OpS : L2.St → Hp → Prop := fun σ H' => ∃ (s1 : Pl) (A1 : PAd) (k : Nat) (cl : List Nat) (cp : Int) (x4 x5 x6 x7 : Option V), σ = [some (.ref x), some (.str nm), some (.ref lc), some (.int cp), x4, x5, x6, x7] ∧ OpnR p rows s s1 k cl cp ∧ PlayAt C H' x s1 A1 ∧ Fit s1 ∧ s1.fil = some k ∧ k < s1.cont.length ∧ A1.dr = A.dr ∧ FrmN (A.foot x) H H' ∧ (∀ a ∈ A1.foot x, a ∈ A.foot x ∨ NwN H a) ∧ H' lc = some (.lst (cl.map nV)) ∧ DrvAt K CD H' A.dr b p n ini y ∧ Tabs T H' ∧ s1.told.length ≤ 10000 ∧ cl.length ≤ 1
  refine ⟨fun m σ H' => (m = 0 ∧ OpS σ H') ∨ (m = 1 ∧ s.fil = none ∧ σ = [some (.ref x), some (.str nm), some (.ref lc), some (.int 0), some (.ref se), none, none, none] ∧ H' = H2), ?_, ?_⟩
  · cases hfil : s.fil with
    | none => exact ⟨1, .inr ⟨rfl, rfl, rfl, rfl⟩⟩
    | some k => exact ⟨0, .inl ⟨rfl, s, A, k, [], 0, _, _, _, _, rfl, .inl ⟨hfil, rfl, rfl, rfl⟩, p1, hok.fit.fit, hfil, hok.fil k hfil, rfl, f1, fun a z => .inl z, hlc, d1, t1, hok.told, by decide⟩⟩
  rintro m σ H' (⟨rfl, s1, A1, k, cl, cp, x4, x5, x6, x7, rfl, ho, p3, fit3, hfil, hk, hdr, f3, g3, hlc3, d3, t3, htl, hcl⟩ | ⟨rfl, hfil, rfl, rfl⟩)
  · -- a block is open
    refine test_read6 (op_read ⟨_, rfl, x, C, A1.dx, _, oN s1.fil, rfl, p3.ins, PC.cl, PC.n6, rfl, c_read ⟨rfl, _, rfl, ?_⟩⟩)
    rw [hfil, oN_non]
    refine iteF ?_
    have htl1 : A1.rt.length ≤ 10000 := by rw [Paired.length p3.tat]; exact htl
    refine ⟨_, rfl, x, C, A1.dx, _, _, rfl, p3.ins, PC.cl, PC.n8, rfl, .inl ⟨rfl, _, SqL.of p3.told⟩, cons_read (tup_read (cons_read ⟨_, rfl, x, C, A1.dx, _, oN s1.fil, rfl, p3.ins, PC.cl, PC.n6, rfl, cons_read (cb_read (cons_read ⟨_, rfl, nil_read ⟨lc, _, rfl, .inl ⟨SqL.of hlc3, fun q1 nq1 => ?_⟩⟩⟩))⟩))⟩
    refine cons_read ⟨_, rfl, nil_read ⟨by show 3 ≤ sizeLine; decide, fun u nu => nil_read ⟨A1.ta, A1.rt.map V.ref, _, rfl, rfl, ?_, ?_, ?_⟩⟩⟩
    · exact (same_lay nu) _ _ ((same_lay nq1) _ _ p3.told)
    · rw [List.length_map, sizeLine_eq]; omega
    have sB : Same H' (L2.upd (L2.upd H' q1 (.tup (cl.map nV))) u (.tup [oN s1.fil, .ref q1, .int cp])) := (same_lay nq1).trans (same_lay nu)
    have p4 := p3.same sB
    have ht : TldAt (L2.upd (L2.upd H' q1 (.tup (cl.map nV))) u (.tup [oN s1.fil, .ref q1, .int cp])) u (some k, cl, cp) := ⟨q1, by rw [upd_same, hfil], (same_lay nu) _ _ upd_same⟩
    have p5 := p4.told_put ht
    have f5 := (Frm.same (F := A1.foot x) sB).upd (o := .lst (A1.rt.map V.ref ++ [.ref u])) (foot_ls (A := A1) (x := x) (a := A1.ta) (by unfold PAd.ls; simp))
    dsimp only
    generalize L2.upd (L2.upd (L2.upd H' q1 (.tup (cl.map nV))) u (.tup [oN s1.fil, .ref q1, .int cp])) A1.ta (.lst (A1.rt.map V.ref ++ [.ref u])) = H5 at p5 f5 ⊢
    have d5 : DrvAt K CD H5 A.dr b p n ini y := by
      rw [← hdr] at d3 ⊢
      exact drv_frm p3 f5 (by rw [hdr]; exact hdx) d3
    have t5 := tabs_frm p3 f5 t3
    refine ⟨_, rfl, _, rfl, x, nm, _, _, k, b, p, n, ini, y, rfl, p5, ⟨fit3.cont, fit3.hom, fit3.clo, fit3.lens⟩, hfil, hk, by show DrvAt K CD H5 A1.dr b p n ini y; rw [hdr]; exact d5, by show A1.dr ≠ x; rw [hdr]; exact hdx, fun H6 p6 f6 => ?_⟩
    have t6 := tabs_frm p5 f6 t5
    show Q (.bl true) H6
    exact q H6 _ s1 k cl cp ho p6 hdr (f3.grow (.of (f5.trans f6)) g3) g3 t6
  · -- none is open
    refine test_read6 (op_read ⟨_, rfl, x, C, A.dx, _, oN s.fil, rfl, p1.ins, PC.cl, PC.n6, rfl, c_read ⟨rfl, _, rfl, ?_⟩⟩)
    rw [hfil]
    refine iteT ⟨OpS, fun σ' H'' z => ⟨0, by decide, .inl ⟨rfl, z⟩⟩, one_ifE ?_⟩
    refine test_read6 (op_read (cb_read (cons_read ⟨_, rfl, x, C, A.dx, _, _, rfl, p1.ins, PC.cl, PC.n4, rfl, nil_read ⟨A.af, _, rfl, .inl (SqL.of p1.free), c_read ⟨_, _, rfl, rfl, _, rfl, ?_⟩⟩⟩)))
    rw [List.length_map]
    by_cases hlen : 1 < s.free.length
    · rw [decide_eq_true (by omega)]
      refine iteT ?_
      have hfr : s.free[0]? = some s.free[0] := List.getElem?_eq_getElem (by omega)
      refine ⟨_, rfl, x, C, A.dx, _, _, rfl, p1.ins, PC.cl, PC.n4, rfl, .inl ⟨rfl, _, SqL.of p1.free⟩, cons_read (c_read (nil_read ⟨A.af, _, ((0 : Nat) : Int), 0, nV s.free[0], rfl, rfl, p1.free, by decide, by decide, sq_ix (by rw [List.length_map]; omega), by rw [List.getElem?_map, hfr]; rfl, ?_⟩))⟩
      dsimp only
      rw [map_erase]
      have p2 := p1.free_put (s.free.eraseIdx 0)
      have f2 := (Frm.refl (A.foot x) H').upd (o := .lst ((s.free.eraseIdx 0).map nV)) (foot_ls (A := A) (x := x) (a := A.af) (by unfold PAd.ls; simp))
      generalize L2.upd H' A.af (.lst ((s.free.eraseIdx 0).map nV)) = H3 at p2 f2 ⊢
      refine ⟨_, rfl, x, C, A.dx, _, rfl, p2.ins, PC.cl, PC.n6, by show 8 < 1000; decide, ?_⟩
      have e6 : putF "filling" (nV s.free[0]) (plF A s.fil) = plF A (some s.free[0]) := put_fil A s.fil (some s.free[0])
      dsimp only
      rw [e6]
      have p3 := p2.fil_put (some s.free[0])
      have f3 := f2.upd (o := .ins C A.dx (plF A (some s.free[0]))) (foot_x (A := A) (x := x))
      generalize L2.upd H3 x (.ins C A.dx (plF A (some s.free[0]))) = H4 at p3 f3 ⊢
      have fit := hok.fit
      refine ⟨_, A, s.free[0], [], 0, _, _, _, _, rfl, .inr (.inl ⟨hfil, hlen, hfr, rfl, rfl, rfl⟩), p3, ⟨fit.fit.cont, fit.fit.hom, fit.fit.clo, fit.fit.lens⟩, rfl, hok.fre _ (List.getElem_mem _), rfl, f1.trans (.of f3), fun a z => .inl z, f3 _ _ hlc (not_foot hp nlc), drv_frm p1 f3 hdx d1, tabs_frm p1 f3 t1, hok.told, by decide⟩
    · rw [decide_eq_false (by omega)]
      refine iteF ?_
      obtain ⟨f, hfe, hcf, hcne, hck, hkept⟩ := hok.due hfil (by omega)
      refine seq_asg (cb_read (cons_read ⟨_, rfl, x, C, A.dx, _, _, rfl, p1.ins, PC.cl, PC.n5, rfl, A.acl, rfl, ⟨_, SqL.of p1.clo⟩, fun D hD => ?_⟩))
      refine lc_list (K := K) (xs := s.clo.map nV) (fun j H3 => Same H' H3 ∧ H3 D = some (.lst (((cntP s).take j).map V.int))) ⟨same_lay hD, upd_same⟩ (fun j H3 _ z => SqL.of (z.1 _ _ p1.clo)) ?_ ?_
      · rintro j v H3 hj ⟨sj, ej⟩
        rw [List.getElem?_map] at hj
        obtain ⟨k, hk, rfl⟩ : ∃ k, s.clo[j]? = some k ∧ nV k = v := by
          cases hq : s.clo[j]? with
          | none => rw [hq] at hj; cases hj
          | some k => rw [hq] at hj; exact ⟨k, rfl, Option.some.inj hj⟩
        have hkl := (hck k (List.mem_of_getElem? hk)).1
        have hkv : k < s.liv.length := by rw [hok.fit.lens]; exact hkl
        have hc5 := hok.fit.clo
        refine ⟨rfl, ?_⟩
        unfold tYes
        dsimp only
        rw [if_pos rfl]
        refine ⟨_, rfl, x, C, A.dx, _, _, rfl, sj _ _ p1.ins, PC.cl, PC.n3, rfl, _, rfl, A.al, _, (k : Int), .int (s.liv.getD k 0), rfl, rfl, SqL.of (sj _ _ p1.liv), atI_nat (by rw [List.getElem?_map, List.getElem?_eq_getElem hkv, List.getD_eq_getElem?_getD, List.getElem?_eq_getElem hkv]; rfl), _, ej, ?_, fun d u e => ?_, ?_⟩
        · rw [List.length_map, List.length_take, sizeLine_eq]
          unfold cntP
          rw [List.length_map]
          omega
        · rw [upd_ne (ne_of_none e hD)]
          exact sj _ _ e
        · rw [upd_same, List.take_add_one]
          have e5 : (cntP s)[j]? = some (s.liv.getD k 0) := by
            unfold cntP
            rw [List.getElem?_map, hk]
            rfl
          rw [e5, List.map_append]
          rfl
      rintro H3 ⟨s3, hD3⟩
      have ecl : (s.clo.map nV).length = (cntP s).length := by unfold cntP; rw [List.length_map, List.length_map]
      rw [ecl, List.take_length] at hD3
      refine nil_read ⟨D, _, rfl, .inl ⟨SqL.of hD3, fun u nu => ?_⟩⟩
      have s4 : Same H' (L2.upd H3 u (.tup ((cntP s).map V.int))) := s3.trans (same_lay nu)
      have hu4 : (L2.upd H3 u (.tup ((cntP s).map V.int))) u = some (.tup ((cntP s).map V.int)) := upd_same
      have hus : u ≠ se := Ne.symm (ne_of_none (s3 _ _ hse) nu)
      generalize L2.upd H3 u (.tup ((cntP s).map V.int)) = H4 at s4 hu4 ⊢
      refine seq_if6 (test_read6 (op_read ⟨_, rfl, _, rfl, u, se, cntP s, rfl, rfl, SqT.of hu4, s4 _ _ hse, _, rfl, iteF ?_⟩))
      refine ⟨_, rfl, ⟨se, [], rfl, s4 _ _ hse⟩, cons_read ⟨_, rfl, nil_read ⟨se, u, cntP s, [], rfl, rfl, SqT.of hu4, s4 _ _ hse, fun p hp => (nomatch hp), by decide, fun L' _ _ => ?_⟩⟩⟩
      have s5 : Same H (L2.upd H4 se (SetTO P w se L')) := fun b o e => by
        rw [upd_ne (ne_of_none e nse')]
        exact s4 _ _ (sA _ _ e)
      have hlc5 : (L2.upd H4 se (SetTO P w se L')) lc = some (.lst []) := by rw [upd_ne elc]; exact s4 _ _ hlc
      have hu5 : (L2.upd H4 se (SetTO P w se L')) u = some (.tup ((cntP s).map V.int)) := by rw [upd_ne hus]; exact hu4
      dsimp only
      show tSeq (tAsg _ _) _ _ [some (.ref x), some (.str nm), some (.ref lc), some (.int 0), some (.ref se), some (.ref u), none, none] (L2.upd H4 se (SetTO P w se L'))
      generalize L2.upd H4 se (SetTO P w se L') = H5 at s5 hlc5 hu5 ⊢
      have p5 := hp.same s5
      obtain ⟨dd, td, hd5, hR5⟩ := hd.same s5
      rw [erows] at hR5
      have hc5 := hok.fit.clo
      refine seq_asg ?_
      refine call_read ?_
      refine cons_read ?_
      refine ⟨_, rfl, x, C, A.dx, _, _, rfl, p5.ins, PC.cl, PC.n1, rfl, A.dr, dd, _, rfl, hd5, A.dr, dd, _, .ref td, rfl, hd5, rfl, ?_⟩
      refine cons_read ⟨_, rfl, nil_read ?_⟩
      refine ⟨td, u, p, rows, ini, y, cntP s, rfl, hR5, hwd, erows.symm, SqT.of hu5, ?_, ?_, ?_, hT.ext s5, fun H6 i e6 t6 hpk => ?_⟩
      · intro z
        unfold cntP at z
        exact hcne (List.map_eq_nil_iff.mp z)
      · intro c hc
        unfold cntP at hc
        obtain ⟨k, hk, rfl⟩ := List.mem_map.mp hc
        exact (hck k hk).2.2
      · rw [← ecl, List.length_map]
        omega
      have hil : i < s.clo.length := by
        obtain ⟨_, _, _, _, z, _⟩ := hpk
        have := plcs_lt z
        rwa [← ecl, List.length_map] at this
      obtain ⟨k, hik⟩ : ∃ k, s.clo[i]? = some k := ⟨_, List.getElem?_eq_getElem hil⟩
      have p6 := p5.ext e6
      have hlc6 := e6 _ _ hlc5 (by intro _ z; cases z)
      obtain ⟨hkl, hfk, _⟩ := hck k (List.mem_of_getElem? hik)
      have e7 : (cntP s)[i]? = some (s.liv.getD k 0) := by
        unfold cntP
        rw [List.getElem?_map, hik]
        rfl
      refine ⟨.int 0, rfl, _, rfl, _, rfl, u, _, (i : Int), .int (s.liv.getD k 0), rfl, rfl, ext_tup e6 (SqT.of hu5), atI_nat (by rw [List.getElem?_map, e7]; rfl), _, _, rfl, rfl, ?_⟩
      refine ⟨_, rfl, .inl ⟨rfl, _, SqL.of hlc6⟩, cons_read ⟨_, rfl, x, C, A.dx, _, _, rfl, p6.ins, PC.cl, PC.n5, rfl, _, rfl, A.acl, _, (i : Int), nV k, rfl, rfl, SqL.of p6.clo, atI_nat (by rw [List.getElem?_map, hik]; rfl), nil_read ⟨lc, [], _, rfl, rfl, hlc6, by show 0 < sizeLine; decide, ?_⟩⟩⟩
      have x7 : ExtN H (L2.upd H6 lc (.lst ([] ++ [nV k]))) := fun b o e nt => by
        rw [upd_ne (ne_of_none e nlc)]
        exact e6 _ _ (s5 _ _ e) nt
      have t7 : Tabs T (L2.upd H6 lc (.lst ([] ++ [nV k]))) := tabs_upd hlc6 t6
      have hlc7 : (L2.upd H6 lc (.lst ([] ++ [nV k]))) lc = some (.lst ([k].map nV)) := upd_same
      dsimp only
      generalize L2.upd H6 lc (.lst ([] ++ [nV k])) = H7 at x7 t7 hlc7 ⊢
      have p7 := hp.ext x7
      have d7 := DrvAt.extN hd x7
      have hfl : f < s.cont.length := hok.fre f (by rw [hfe]; exact List.mem_cons_self ..)
      have hkp := hkept i k hpk hik
      refine ⟨_, rfl, _, rfl, x, s, A, i, k, f, b, p, n, ini, y, rfl, p7, hok.fit, hik, by rw [hfe]; rfl, hkl, hfl, hfk, hcf, Nat.le_of_lt hkp, d7, hdx, fun H8 A8 p8 hdr8 f8 g8 => ?_⟩
      obtain ⟨fit8, fil8, cl8⟩ := clean_run (i := i) hfl hfk hcf hok.fit hkp hkl
      refine ⟨cleanP p s i k f, A8, f, [k], 0 + s.liv.getD k 0, _, _, _, _, rfl, .inr (.inr ⟨hfil, hfe, i, k, hik, hpk, rfl, rfl, Int.zero_add _⟩), p8, fit8, fil8, by rw [cl8]; exact hfl, hdr8, (FrmN.ext x7).trans (.of f8), fun a z => ?_, f8 _ _ hlc7 (not_foot hp nlc), drv_frm p7 f8 hdx d7, tabs_frm p7 f8 t7, ?_, Nat.le_refl 1⟩
      · rcases g8 a z with q1 | q1
        · exact .inl q1
        · exact .inr ((FrmN.ext (F := A.foot x) x7).back (fun b hb => foot_some p7 b hb) (.of q1))
      · rw [clean_told]
        exact hok.told
end
end K6

set_option Elab.async false
set_option linter.all false
set_option maxRecDepth 100000
set_option maxHeartbeats 4000000
namespace K6
open PySem PySem.Spec PyProof.Rows L2 G1 G2 K2 G5 LamX
abbrev sEvt : Stmt := topS 56
abbrev NEvt : List Str := ["play", "event", "word", "name"]
theorem scEvt : FnScope NEvt ["play", "event"] (defScope sEvt) := ⟨rfl, rfl, rfl, by decide +kernel, rfl, by decide +kernel, by decide +kernel⟩
theorem call_lenD {X : Cx} : CallR X (.builtin "len") (fun xs H Q => ∃ (a : Addr) (kvs : List (L2.Key × V)), xs = [.ref a] ∧ H a = some (.dK kvs) ∧ Q (.int (kvs.length : Int)) H) := by
  intro pins s σ H xs us Q I r h
  obtain ⟨a, kvs, rfl, e, q⟩ := h
  obtain ⟨u, rfl, ru⟩ := vals1 r
  cases ru
  exact d_len I (.inl e) fun t s' I' => ⟨.int (kvs.length : Int), H, I', ⟨t, rfl⟩, q⟩
/-- the name lives at page j of block h -/
structure LivesAt (s : Pl) (nm : Str) (h j : Nat) : Prop where
  hom : valV s.hom (.inr nm) = some (nV h)
  blk : h < s.cont.length
  pg : (s.cont.getD h [])[j]? = some (some nm)
  fst : ∀ m, m < j → (s.cont.getD h [])[m]? ≠ some (some nm)
/-- the state once the page of the name is dead, if it had one -/
def DeadR (s s0 : Pl) (nm : Str) : Prop := (valV s.hom (.inr nm) = none ∧ s0 = s) ∨ ∃ h j, LivesAt s nm h j ∧ s0 = dieP s h j nm
/-- a let event -/
def EvtOk (p n : Nat) (rows : List RowD) (s : Pl) (wd nm : Str) : Prop := s.liv.length = s.cont.length ∧ s.told.length ≤ 10000 ∧ (wd = "write" ∨ wd = "trim") ∧
  ((valV s.hom (.inr nm) = none ∧ wd = "write" ∧ s.hom.length ≠ n ∧ BrgOk p rows s) ∨ ∃ h j, LivesAt s nm h j ∧ (wd = "write" → BrgOk p rows (dieP s h j nm)))
def EvtR (p : Nat) (rows : List RowD) (s s' : Pl) (wd nm : Str) : Prop := ∃ s0, DeadR s s0 nm ∧
  ((wd = "trim" ∧ s' = { s0 with told := s0.told ++ [(none, [], 0)] }) ∨ (wd = "write" ∧ ∃ (s1 : Pl) (k : Nat) (cl : List Nat) (cp : Int), OpnR p rows s0 s1 k cl cp ∧ s' = putP p { s1 with told := s1.told ++ [(some k, cl, cp)] } k nm))
def spEvt (K : PySem.W.Frag) (T : List (Addr × Str)) (CD C : Addr) : Sp := fun vs H Q _ => ∃ (x e : Addr) (wd nm : Str) (s : Pl) (A : PAd) (b p n : Nat) (ini : List RowD) (y : Str), vs = [.ref x, .ref e] ∧ SqT K H e [.str wd, .str nm] ∧ PlayAt C H x s A ∧ EvtOk p n (ini ++ [((p : Int), y)]) s wd nm ∧ (∀ r ∈ ini ++ [((p : Int), y)], r.2 ∈ wordsL) ∧ DrvAt K CD H A.dr b p n ini y ∧ A.dr ≠ x ∧ Tabs T H ∧
  ∀ (H' : Hp) (A' : PAd) (s' : Pl), EvtR p (ini ++ [((p : Int), y)]) s s' wd nm → PlayAt C H' x s' A' → A'.dr = A.dr → FrmN (A.foot x) H H' → (∀ a ∈ A'.foot x, a ∈ A.foot x ∨ NwN H a) → Tabs T H' → Q (.bl true) H'
theorem b_read9 {t : TE} {σ : L2.St} {H : Hp} {Q : Bool → Hp → Prop} (h : t σ H fun x H1 => ∃ c, x = .bl c ∧ Q c H1) : tB t σ H Q := h
theorem seq_ifE {tt : TT} {t u t2 : TS} {D : Ends} {σ : L2.St} {H : Hp} (h : tt σ H fun c H1 => if c = true then t { D with nx := t2 D } σ H1 else u { D with nx := t2 D } σ H1) : tSeq (tIfS tt t u) t2 D σ H := h
section
variable {P : Program} {w : World} {K : PySem.W.Frag} {mg : Str → Option Value} {base : Heap} {CD C : Addr}
theorem evt_tail {D : Ends} {T : List (Addr × Str)} {H1 : Hp} {x e : Addr} {wd nm : Str} {s0 : Pl} {A : PAd} {b p n : Nat} {ini : List RowD} {y : Str} (PC : PCls K C) (p1 : PlayAt C H1 x s0 A) (hbr : wd = "write" → BrgOk p (ini ++ [((p : Int), y)]) s0) (hw : wd = "write" ∨ wd = "trim") (htl : s0.told.length ≤ 10000) (d1 : DrvAt K CD H1 A.dr b p n ini y) (hdx : A.dr ≠ x) (t1 : Tabs T H1) (hwd : ∀ r ∈ ini ++ [((p : Int), y)], r.2 ∈ wordsL)
    (q : ∀ (H' : Hp) (A' : PAd) (s' : Pl), ((wd = "trim" ∧ s' = { s0 with told := s0.told ++ [(none, [], 0)] }) ∨ (wd = "write" ∧ ∃ (s1 : Pl) (k : Nat) (cl : List Nat) (cp : Int), OpnR p (ini ++ [((p : Int), y)]) s0 s1 k cl cp ∧ s' = putP p { s1 with told := s1.told ++ [(some k, cl, cp)] } k nm)) → PlayAt C H' x s' A' → A'.dr = A.dr → FrmN (A.foot x) H1 H' → (∀ a ∈ A'.foot x, a ∈ A.foot x ∨ NwN H1 a) → Tabs T H' → D.rt (.bl true) H') :
    tSeq (tIfS (tTest (tOp rEq (tVar 2) (tC (V.str "trim")))) (tSeq (tDrop (tBM K "list" rAppend (tFld K (tVar 0) "told") (tCons (tTup (tCons (tC V.non) (tCons (tTup tNil) (tCons (tC (V.int 0)) tNil)))) tNil))) (tRet (tC (V.bl true)))) tNext)
      (tRet (tCall (spBrg K T CD C) [] E0 (tCons (tVar 0) (tCons (tVar 3) tNil)))) D [some (.ref x), some (.ref e), some (.str wd), some (.str nm)] H1 := by
  rcases hw with w | w
  · subst w
    refine seq_if6 (test_read6 (op_read ⟨_, rfl, c_read ⟨rfl, _, rfl, iteF ?_⟩⟩))
    refine ret_read (call_read (cons_read ⟨_, rfl, cons_read ⟨_, rfl, nil_read ?_⟩⟩))
    exact ⟨x, nm, s0, A, b, p, n, ini, y, rfl, p1, hbr rfl, hwd, d1, hdx, t1, fun H' A' s1 k cl cp ho p' hdr f g t => q H' A' _ (.inr ⟨rfl, s1, k, cl, cp, ho, rfl⟩) p' hdr f g t⟩
  · subst w
    refine seq_if6 (test_read6 (op_read ⟨_, rfl, c_read ⟨rfl, _, rfl, iteT ?_⟩⟩))
    have htl1 : A.rt.length ≤ 10000 := by rw [Paired.length p1.tat]; exact htl
    refine ⟨_, rfl, x, C, A.dx, _, _, rfl, p1.ins, PC.cl, PC.n8, rfl, .inl ⟨rfl, _, SqL.of p1.told⟩, cons_read (tup_read (cons_read (c_read (cons_read (tup_read (nil_read ⟨by show 0 ≤ sizeLine; decide, fun q1 nq1 => ?_⟩))))))⟩
    refine cons_read (c_read (nil_read ⟨by show 3 ≤ sizeLine; decide, fun u nu => nil_read ⟨A.ta, A.rt.map V.ref, _, rfl, rfl, ?_, ?_, ?_⟩⟩))
    · exact (same_lay nu) _ _ ((same_lay nq1) _ _ p1.told)
    · rw [List.length_map, sizeLine_eq]; omega
    have sB : Same H1 (L2.upd (L2.upd H1 q1 (.tup [])) u (.tup [.non, .ref q1, .int 0])) := (same_lay nq1).trans (same_lay nu)
    have ht : TldAt (L2.upd (L2.upd H1 q1 (.tup [])) u (.tup [.non, .ref q1, .int 0])) u (none, [], 0) := ⟨q1, upd_same, (same_lay nu) _ _ upd_same⟩
    have p5 := (p1.same sB).told_put ht
    have f5 := (Frm.same (F := A.foot x) sB).upd (o := .lst (A.rt.map V.ref ++ [.ref u])) (foot_ls (A := A) (x := x) (a := A.ta) (by unfold PAd.ls; simp))
    show D.rt (.bl true) _
    exact q _ _ _ (.inl ⟨rfl, rfl⟩) p5 rfl (.of f5) (fun a z => .inl z) (tabs_frm p1 f5 t1)
theorem ok_evt {f0 : Addr} {fd : FuncData} {T : List (Addr × Str)} (F : Fun K "play_event" "play_event" sEvt f0 fd) (B : Bl mg) (gT : ∃ t, mg "TRIM" = some (.str "trim" t)) (M : DD P w K mg base CD) (PC : PCls K C) (GL : FAt P w K mg base 1 "let_name_die" ["play", "name"] (spDie C)) (GB : FAt P w K mg base 5 "bring_name" ["play", "name"] (spBrg K T CD C)) :
    FnOk P w K mg base CX0 6 f0 fd ["play", "event"] (spEvt K T CD C) := by
  refine F.ok scEvt (fun vs H Q E h => ?_) (fun cdv A0 outer s0 H vs Q E hr h => ?_)
  · obtain ⟨x, e, wd, nm, s, A, b, p, n, ini, y, rfl, _⟩ := h
    rfl
  obtain ⟨x, e, wd, nm, s, A, b, p, n, ini, y, rfl, he, hp, hok, hwd, hd, hdx, hT, q⟩ := h
  obtain ⟨fL, dL, GL, kL, bL, gL⟩ := GL.ex
  obtain ⟨fB, dB, GB, kB, bB, gB⟩ := GB.ex
  obtain ⟨pp, gp, fp, P2, F2, B2⟩ := M.pn.ex
  obtain ⟨tT, cT⟩ := gT
  refine ⟨_, pss_cons (ps_asg (pv 1) (pg_tup rfl (pgs_cons (pg_name (i := 2) scEvt.nd rfl (.inl rfl)) (pgs_cons (pg_name (i := 3) scEvt.nd rfl (.inl rfl)) pgs_nil))))
    (pss_cons (ps_if (pt_cmp (pc_din (hu_of hr) (pv 3) (pe_fld (pv 0) rfl)))
        (pss_one (ps_expr (pe_call GL (hr.mono (by decide)) (by rfl) gL kL bL .nil pass0 (pa_cons (pv 0) (pa_cons (pv 3) pa_nil)))))
        (pss_one (ps_if (PW.pt (pw_or (pt_cmpR op_eq (pv 2) (pe_glob (v := .str "trim") rfl cT ⟨_, rfl⟩) (nomark _)) (pw_or1 (pt_cmpR op_eq (pe_callB call_lenD (by rfl) B.len PySem.boot_len (pa_cons (pe_fld (pv 0) rfl) pa_nil)) (pe_prop (pe_fld (pv 0) rfl) M.T.cl P2 F2 (hr.mono (by decide)) B2 .nil pass0 rfl) (nomark _))))) (pss_one (ps_ret pe_bl)) pss_nil)))
    (pss_cons (ps_if (pt_cmpR op_eq (pv 2) (pe_glob (v := .str "trim") rfl cT ⟨_, rfl⟩) (nomark _))
        (pss_cons (ps_expr (pe_bm PySem.F.plainAttrs_list PySem.F.slot_list_append PySem.F.type_list_append mt_append (pe_fld (pv 0) rfl) (pa_cons (pe_tup (pa_cons pe_non (pa_cons (pe_tup pa_nil) (pa_cons pe_int pa_nil)))) pa_nil)))
        (pss_one (ps_ret pe_bl))) pss_nil)
    (pss_one (ps_ret (pe_call GB hr (by rfl) gB kB bB .nil pass0 (pa_cons (pv 0) (pa_cons (pv 3) pa_nil))))))), ?_⟩
  obtain ⟨hlv, htl, hw, hc⟩ := hok
  refine seq_asg ⟨_, rfl, e, _, rfl, he, rfl, _, _, rfl, _, _, rfl, rfl, ?_⟩
  refine seq_ifE (b_read9 ⟨_, rfl, _, rfl, x, C, A.dx, _, _, rfl, hp.ins, PC.cl, PC.n7, rfl, A.ad, valV s.hom (.inr nm), rfl, DGet.k (k := Sum.inr nm) hp.hom, _, rfl, ?_⟩)
  rcases hc with ⟨hn, hwr, hnn, hbr⟩ | ⟨h, j, hl, hbr⟩
  · rw [hn]
    refine iteF ?_
    obtain ⟨dd, td, hd', _⟩ := id hd
    subst hwr
    refine ⟨_, rfl, rfl, _, rfl, iteF ?_⟩
    refine ⟨_, rfl, x, C, A.dx, _, _, rfl, hp.ins, PC.cl, PC.n7, rfl, nil_read ⟨A.ad, _, rfl, hp.hom, ?_⟩⟩
    refine ⟨_, rfl, x, C, A.dx, _, _, rfl, hp.ins, PC.cl, PC.n1, rfl, A.dr, dd, _, rfl, hd', A.dr, dd, _, _, rfl, hd', rfl, rfl, _, rfl, ?_⟩
    rw [eqI6, decide_eq_false (by omega)]
    refine iteF ?_
    exact evt_tail PC hp (fun _ => hbr) hw htl hd hdx hT hwd fun H' A' s' z p' hdr f g t => q H' A' s' ⟨s, .inl ⟨hn, rfl⟩, z⟩ p' hdr f g t
  · rw [hl.hom]
    refine iteT ?_
    refine ⟨_, rfl, _, rfl, x, nm, s, A, h, j, rfl, hp, hlv, hl.hom, hl.blk, hl.pg, hl.fst, fun H1 p1 f1 => ?_⟩
    exact evt_tail PC p1 hbr hw htl (drv_frm hp f1 hdx hd) hdx (tabs_frm hp f1 hT) hwd fun H' A' s' z p' hdr f g t => q H' A' s' ⟨_, .inr ⟨h, j, hl, rfl⟩, z⟩ p' hdr ((FrmN.of f1).trans f) (fun a m => (g a m).imp id fun z => (FrmN.of f1).back (fun b hb => foot_some p1 b hb) z) t
end
end K6

set_option Elab.async false
set_option linter.all false
set_option maxRecDepth 100000
set_option maxHeartbeats 4000000
namespace K6
open PySem PySem.Spec PyProof.Rows L2 G1 G2 K2 G5 LamX
abbrev sNam : Stmt := topS 22
abbrev NNam : List Str := ["value", "character"]
theorem scNam : FnScope NNam ["value"] (defScope sNam) := ⟨rfl, rfl, rfl, by decide +kernel, rfl, by decide +kernel, by decide +kernel⟩
theorem bAll9 : bootBuiltins "all" = some (.builtin "all") := by decide +kernel
abbrev letS : Str := "abcdefghijklmnopqrstuvwxyz"
abbrev digS : Str := "0123456789"
/-- a letter, and behind it up to seven letters or digits -/
structure NameOk (nm : Str) : Prop where
  lo : 1 ≤ nm.length
  hi : nm.length ≤ 8
  fst : ∃ c, nm.cps.toList[0]? = some c ∧ c ∈ letS.cps.toList
  all : ∀ c ∈ nm.cps.toList, c ∈ letS.cps.toList ∨ c ∈ digS.cps.toList
def spNam : Sp := fun vs H Q _ => ∃ nm : Str, vs = [.str nm] ∧ NameOk nm ∧ ∀ H', Same H H' → Q (.bl true) H'
def rInSg : R2 := fun x y H Q => ∃ (c : Nat) (z : Str), x = .str ⟨#[c]⟩ ∧ y = .str z ∧ Q (.bl (decide (c ∈ z.cps.toList))) H
theorem op_inSg {X : Cx} : OpR X (compareOp .In) rInSg := op_in_sign
/-- a comprehension over a text -/
theorem lc_str {z : Str} {g : TG} {tt : TT} {te : TE} {vs : List Nat} {σ : L2.St} {H1 : Hp} {D : Addr} {Qd : Hp → Prop} (Pv : Nat → Hp → Prop) (h0 : Pv 0 (upd H1 D (.lst [])))
    (hs : ∀ i c H, z.cps[i]? = some c → Pv i H → g (.str ⟨#[c]⟩) (wipe σ vs) H fun σ2 H2 => wipe σ2 vs = wipe σ vs ∧ tt σ2 H2 fun b H3 =>
      if b = true then te σ2 H3 fun y H4 => ∃ acc, H4 D = some (.lst acc) ∧ acc.length < sizeLine ∧ Pv (i + 1) (upd H4 D (.lst (acc ++ [y]))) else Pv (i + 1) H3) (hd : ∀ H, Pv z.cps.size H → Qd H) :
    ∃ W : Nat → Nat → Hp → Prop, (∃ m, W 0 m (upd H1 D (.lst []))) ∧ ∀ i m H, W i m H →
      ((Its z).stop i H ∧ Qd H) ∨ ((Its z).go i H ∧ ∃ Nx : Hp → Prop, (∀ H', Nx H' → ∃ m', m' < m ∧ W (i + 1) m' H') ∧ ∀ x H', (Its z).yld i H x H' → g x (wipe σ vs) H' fun σ2 H2 => wipe σ2 vs = wipe σ vs ∧ tt σ2 H2 fun b H3 =>
        if b = true then te σ2 H3 fun y H4 => ∃ acc, H4 D = some (.lst acc) ∧ acc.length < sizeLine ∧ Nx (upd H4 D (.lst (acc ++ [y]))) else Nx H3) := by
  refine ⟨fun i m H => i + m = z.cps.size ∧ Pv i H, ⟨z.cps.size, by omega, h0⟩, ?_⟩
  rintro i m H ⟨e, p⟩
  by_cases hm : m = 0
  · have e' : i = z.cps.size := by omega
    exact .inl ⟨Nat.le_of_eq e'.symm, hd _ (e' ▸ p)⟩
  have hi : i < z.cps.size := by omega
  refine .inr ⟨hi, Pv (i + 1), fun H' q => ⟨m - 1, by omega, by omega, q⟩, ?_⟩
  rintro _ _ ⟨rfl, c, hc, rfl⟩
  exact hs i c _ hc p
section
variable {P : Program} {w : World} {K : PySem.W.Frag} {mg : Str → Option Value} {base : Heap} {CD C : Addr}
theorem ok_nam {f0 : Addr} {fd : FuncData} (F : Fun K "is_name" "is_name" sNam f0 fd) (B : Bl mg) (gL : ∃ t, mg "LETTERS" = some (.str letS t)) (gD : ∃ t, mg "DIGITS" = some (.str digS t)) (gM : ∃ t, mg "MOST_CHARACTERS" = some (.int 8 t)) : FnOk P w K mg base CX0 1 f0 fd ["value"] spNam := by
  refine F.ok scNam (fun vs H Q E h => ?_) (fun cdv A0 outer s0 H vs Q E hr h => ?_)
  · obtain ⟨nm, rfl, _⟩ := h
    rfl
  obtain ⟨nm, rfl, hn, q⟩ := h
  obtain ⟨tL, cL⟩ := gL
  obtain ⟨tD, cD⟩ := gD
  obtain ⟨tM, cM⟩ := gM
  refine ⟨_, pss_cons (ps_if (PW.pt (pw_or (pt_not (pt_val (pe_callB call_isi (by rfl) B.isi bIsi (pa_cons (pv 0) (pa_cons (pe_bltn (v := .ty "str") (by rfl) B.str bStr rfl) pa_nil)))))
      (pw_or (pt_not (pt_chain op_le op_le pe_int (pe_callB call_len_str (by rfl) B.len PySem.boot_len (pa_cons (pv 0) pa_nil)) (pe_glob (v := .int 8) rfl cM ⟨_, rfl⟩)))
      (pw_or1 (pt_cmpR op_notIn_sign (pe_ix ix_str (pv 0) pe_int (fun _ _ => rfl)) (pe_glob (v := .str letS) rfl cL ⟨_, rfl⟩) (by rfl)))))) (pss_one (ps_ret pe_bl)) pss_nil)
    (pss_one (ps_ret (pe_callB (cr_all rfl) (by rfl) B.all bAll9 (pa_cons (pe_lc (own := [("character", 1)]) (g := gName 1) (tt := tYes) (te := tOrV (tOp rInSg (tVar 1) (tC (.str letS))) (tOp rInSg (tVar 1) (tC (.str digS)))) rfl scNam.nd (pi_str (pv 0)) (blkOk_by (own := [("character", 1)]) (N := NNam) (sc := defScope sNam) (by decide +kernel))
        (fun _ _ _ _ _ => pg_name (i := 1) scNam.nd rfl (Or.inl rfl)) (fun _ _ _ _ _ => pts_nil) (fun _ _ _ _ _ => pe_or (pe_cmpR op_inSg (pv 1) (pe_glob (v := .str letS) rfl cL ⟨_, rfl⟩) (by rfl)) (pe_one (pe_cmpR op_inSg (pv 1) (pe_glob (v := .str digS) rfl cD ⟨_, rfl⟩) (by rfl))))) pa_nil)))), ?_⟩
  have h8 := hn.hi
  have h1 := hn.lo
  have hz : nm.length ≤ sizeLine := by rw [sizeLine_eq]; omega
  obtain ⟨c0, hc0, hl0⟩ := hn.fst
  refine ⟨_, rfl, _, _, _, _, true, rfl, .ty _, .base (.str nm), kit_ty (by decide +kernel), true, rfl, iteF ?_⟩
  refine ⟨_, rfl, nm, rfl, hz, _, _, rfl, rfl, _, rfl, ?_⟩
  rw [decide_eq_true (show (1 : Int) ≤ (nm.length : Int) by omega)]
  refine iteT ⟨_, _, rfl, rfl, _, rfl, ?_⟩
  rw [decide_eq_true (show (nm.length : Int) ≤ 8 by omega)]
  refine iteF ⟨_, rfl, nm, 0, c0, rfl, rfl, hz, atI_nat (j := 0) hc0, c0, letS, rfl, rfl, _, rfl, ?_⟩
  rw [decide_eq_true hl0]
  refine iteF ?_
  refine nx_read ?_
  dsimp only
  refine ret_read (cb_read (cons_read ⟨_, rfl, nm, rfl, fun D hD => ?_⟩))
  refine lc_str (fun i H' => Same H H' ∧ H' D = some (.lst ((List.replicate i true).map V.bl))) ⟨same_lay hD, upd_same⟩ ?_ ?_
  · rintro i c H' hc ⟨s1, e1⟩
    have hil : i < nm.cps.size := by
      rcases Nat.lt_or_ge i nm.cps.size with z | z
      · exact z
      · rw [Array.getElem?_eq_none z] at hc; cases hc
    have hin : c ∈ nm.cps.toList := by
      rw [Array.getElem?_eq_getElem hil] at hc
      rw [← Option.some.inj hc]
      exact Array.getElem_mem_toList hil
    have fin : ∃ acc, H' D = some (.lst acc) ∧ acc.length < sizeLine ∧ Same H (L2.upd H' D (.lst (acc ++ [V.bl true]))) ∧ (L2.upd H' D (.lst (acc ++ [V.bl true]))) D = some (.lst ((List.replicate (i + 1) true).map V.bl)) := by
      refine ⟨_, e1, ?_, fun d u e => ?_, ?_⟩
      · rw [List.length_map, List.length_replicate, sizeLine_eq]
        have : nm.cps.size = nm.length := rfl
        omega
      · rw [upd_ne (ne_of_none e hD)]
        exact s1 _ _ e
      · rw [upd_same, List.replicate_succ', List.map_append]
        rfl
    refine ⟨rfl, ?_⟩
    unfold tYes
    dsimp only
    rw [if_pos rfl]
    refine ⟨_, rfl, c, letS, rfl, rfl, _, rfl, ?_⟩
    by_cases hl : c ∈ letS.cps.toList
    · rw [decide_eq_true hl]
      exact iteT fin
    · rw [decide_eq_false hl]
      refine iteF ⟨_, rfl, c, digS, rfl, rfl, ?_⟩
      rw [decide_eq_true ((hn.all c hin).resolve_left hl)]
      exact fin
  · rintro H' ⟨s1, e1⟩
    refine nil_read ⟨D, List.replicate nm.cps.size true, rfl, SqL.of e1, ?_⟩
    have e2 : (List.replicate nm.cps.size true).all id = true := by
      rw [List.all_eq_true]
      intro b hb
      exact (List.mem_replicate.mp hb).2
    rw [e2]
    exact q H' s1
end
end K6

set_option Elab.async false
set_option linter.all false
set_option maxRecDepth 100000
set_option maxHeartbeats 4000000
namespace K6
open PySem PySem.Spec PyProof.Rows L2 G1 G2 K2 G5 LamX
abbrev sIev : Stmt := topS 54
abbrev NIev : List Str := ["value", "word", "name"]
theorem scIev : FnScope NIev ["value"] (defScope sIev) := ⟨rfl, rfl, rfl, by decide +kernel, rfl, by decide +kernel, by decide +kernel⟩
def spIev (K : PySem.W.Frag) : Sp := fun vs H Q _ => ∃ (e : Addr) (wd nm : Str), vs = [.ref e] ∧ SqT K H e [.str wd, .str nm] ∧ (wd = "write" ∨ wd = "trim") ∧ NameOk nm ∧ ∀ H', Same H H' → Q (.bl true) H'
section
variable {P : Program} {w : World} {K : PySem.W.Frag} {mg : Str → Option Value} {base : Heap} {CD C : Addr}
theorem ok_iev {f0 : Addr} {fd : FuncData} (F : Fun K "is_event" "is_event" sIev f0 fd) (B : Bl mg) (gW : ∃ t, mg "WRITE" = some (.str "write" t)) (gT : ∃ t, mg "TRIM" = some (.str "trim" t)) (GN : FAt P w K mg base 1 "is_name" ["value"] spNam) : FnOk P w K mg base CX0 2 f0 fd ["value"] (spIev K) := by
  refine F.ok scIev (fun vs H Q E h => ?_) (fun cdv A0 outer s0 H vs Q E hr h => ?_)
  · obtain ⟨e, wd, nm, rfl, _⟩ := h
    rfl
  obtain ⟨e, wd, nm, rfl, he, hw, hn, q⟩ := h
  obtain ⟨tW, cW⟩ := gW
  obtain ⟨tT, cT⟩ := gT
  obtain ⟨fN, dN, GN, kN, bN, gN⟩ := GN.ex
  refine ⟨_, pss_cons (ps_if (PW.pt (pw_or (pt_not (pt_val (pe_callB call_isi (by rfl) B.isi bIsi (pa_cons (pv 0) (pa_cons (pe_bltn (v := .ty "tuple") (by rfl) B.tup bTup rfl) pa_nil)))))
      (pw_or1 (pt_cmpR op_ne (pe_callB call_len_seq (by rfl) B.len PySem.boot_len (pa_cons (pv 0) pa_nil)) pe_int (nomark _))))) (pss_one (ps_ret pe_bl)) pss_nil)
    (pss_cons (ps_asg (pv 0) (pg_tup rfl (pgs_cons (pg_name (i := 1) scIev.nd rfl (.inl rfl)) (pgs_cons (pg_name (i := 2) scIev.nd rfl (.inl rfl)) pgs_nil))))
    (pss_one (ps_ret (pe_and (pe_callB call_isi (by rfl) B.isi bIsi (pa_cons (pv 1) (pa_cons (pe_bltn (v := .ty "str") (by rfl) B.str bStr rfl) pa_nil)))
      (pe_and (pe_cmpR op_in_seq (pv 1) (pe_tup (pa_cons (pe_glob (v := .str "write") rfl cW ⟨_, rfl⟩) (pa_cons (pe_glob (v := .str "trim") rfl cT ⟨_, rfl⟩) pa_nil))) (by rfl))
      (pe_one (pe_call GN hr (by rfl) gN kN bN .nil pass0 (pa_cons (pv 2) pa_nil)))))))), ?_⟩
  refine ⟨_, rfl, _, _, _, _, true, rfl, .ty _, tup_ty he, kit_ty (by decide +kernel), true, rfl, iteF ?_⟩
  refine ⟨_, rfl, e, _, rfl, .inr he, rfl, _, rfl, iteF ?_⟩
  refine nx_read ?_
  dsimp only
  refine seq_asg ⟨_, rfl, e, _, rfl, he, rfl, _, _, rfl, _, _, rfl, rfl, ?_⟩
  refine ⟨_, rfl, _, _, _, _, true, rfl, .ty _, .base (.str wd), kit_ty (by decide +kernel), true, rfl, iteT ?_⟩
  refine ⟨_, rfl, by show 2 ≤ sizeLine; decide, fun u nu => ?_⟩
  have sN : Same H (L2.upd H u (.tup [.str "write", .str "trim"])) := same_lay nu
  have hin : inV (.str wd) [.str "write", .str "trim"] = true := by
    rcases hw with z | z <;> subst z <;> decide +kernel
  refine ⟨u, _, rfl, .inr (SqT.of upd_same), rfl, rfl, true, ?_, iteT ?_⟩
  · exact congrArg V.bl hin
  refine ⟨_, rfl, nm, rfl, hn, fun H' s' => q H' (sN.trans s')⟩
end
end K6

set_option Elab.async false
set_option linter.all false
set_option maxRecDepth 100000
set_option maxHeartbeats 4000000
namespace K6
open PySem PySem.Spec PyProof.Rows L2 G1 G2 K2 G5 LamX
abbrev sPin : Stmt := inClass (topS 53) 0
abbrev NPin : List Str := ["self", "drive", "block"]
theorem scPin : FnScope NPin ["self", "drive"] (defScope sPin) := ⟨rfl, rfl, rfl, by decide +kernel, rfl, by decide +kernel, by decide +kernel⟩
/-- a new play -/
def newP (b : Nat) : Pl := ⟨List.replicate b [], List.replicate b 0, List.range b, [], none, [], []⟩
/-- all stays but what stands at x -/
def spPin (K : PySem.W.Frag) (CD C : Addr) : Sp := fun vs H Q _ => ∃ (x dx dr : Addr) (b p n : Nat) (ini : List RowD) (y : Str), vs = [.ref x, .ref dr] ∧ H x = some (.ins C dx []) ∧ DrvAt K CD H dr b p n ini y ∧ dr ≠ x ∧ b ≤ 10 ∧
  ∀ (H' : Hp) (A : PAd), PlayAt C H' x (newP b) A → A.dr = dr → (∀ a ∈ A.foot x, a = x ∨ H a = none) → Keep x H H' → Q .non H'
theorem keep_none {x a : Addr} {H H' : Hp} {o : HO} (k : Keep x H H') (hx : H' x = some o) (h : H' a = none) : H a = none ∧ a ≠ x := by
  have ne : a ≠ x := fun z => by rw [z, hx] at h; cases h
  refine ⟨?_, ne⟩
  cases e : H a with
  | none => rfl
  | some u => rw [k a u e ne] at h; cases h
section
variable {P : Program} {w : World} {K : PySem.W.Frag} {mg : Str → Option Value} {base : Heap} {CD C : Addr}
theorem ok_pin {f0 : Addr} {fd : FuncData} (F : Fun K "__init__" "Play.__init__" sPin f0 fd) (B : Bl mg) (hlist : mg "list" = none) (M : DD P w K mg base CD) (PC : PCls K C) : FnOk P w K mg base CX0 3 f0 fd ["self", "drive"] (spPin K CD C) := by
  refine F.ok scPin (fun vs H Q E h => ?_) (fun cdv A0 outer s0 H vs Q E hr h => ?_)
  · obtain ⟨x, dx, dr, b, p, n, ini, y, rfl, _⟩ := h
    rfl
  obtain ⟨x, dx, dr, b, p, n, ini, y, rfl, hx, ⟨dd, td, hd, hR⟩, hdx, hb, q⟩ := h
  obtain ⟨pp, gp, fp, P2, F2, B2⟩ := M.pb.ex
  refine ⟨_, pss_cons (ps_fld (pv 0) (pv 1) rfl)
    (pss_cons (ps_fld (pv 0) (pe_lc (own := [("block", 2)]) (g := gName 2) (tt := tYes) (te := tLst tNil) rfl scPin.nd (pi_range1 (by rfl) B.range (pa_cons (pe_prop (pv 1) M.T.cl P2 F2 hr B2 .nil pass0 rfl) pa_nil)) (blkOk_by (own := [("block", 2)]) (N := NPin) (sc := defScope sPin) (by decide +kernel))
        (fun _ _ _ _ _ => pg_name (i := 2) scPin.nd rfl (Or.inl rfl)) (fun _ _ _ _ _ => pts_nil) (fun _ _ _ _ _ => pe_lst pa_nil)) rfl)
    (pss_cons (ps_fld (pv 0) (pe_op op_rep (pe_lst (pa_cons pe_int pa_nil)) (pe_prop (pv 1) M.T.cl P2 F2 hr B2 .nil pass0 rfl)) rfl)
    (pss_cons (ps_fld (pv 0) (pe_listRg rfl (by rfl) hlist (prg_1 (by rfl) B.range (pe_prop (pv 1) M.T.cl P2 F2 hr B2 .nil pass0 rfl))) rfl)
    (pss_cons (ps_fld (pv 0) (pe_lst pa_nil) rfl)
    (pss_cons (ps_fld (pv 0) pe_non rfl)
    (pss_cons (ps_fld (pv 0) pe_dnewK rfl)
    (pss_one (ps_fld (pv 0) (pe_lst pa_nil) rfl)))))))), ?_⟩
  -- drive
  refine ⟨_, rfl, _, rfl, x, C, dx, _, rfl, hx, PC.cl, PC.n1, by decide, ?_⟩
  have k1 : Keep x H (L2.upd H x (.ins C dx [("drive", .ref dr)])) := Keep.upd x H _
  have x1 : (L2.upd H x (.ins C dx [("drive", .ref dr)])) x = some (.ins C dx [("drive", .ref dr)]) := upd_same
  dsimp only
  show tSeq (sFld _ _ _ _) _ _ _ (L2.upd H x (.ins C dx [("drive", .ref dr)]))
  generalize L2.upd H x (.ins C dx [("drive", .ref dr)]) = H1 at k1 x1 ⊢
  have hd1 := k1 _ _ hd hdx
  -- content
  refine ⟨_, rfl, dr, dd, _, rfl, hd1, dr, dd, _, _, rfl, hd1, rfl, nil_read ⟨(b : Int), rfl, by omega, by omega, fun D hD => ?_⟩⟩
  rw [Int.toNat_natCast]
  refine lc_range (lo := 0) (n := b) (fun i H' => Same H1 H' ∧ ∃ rcs : List Addr, H' D = some (.lst (rcs.map V.ref)) ∧ rcs.length = i ∧ rcs.Nodup ∧ ∀ r ∈ rcs, H' r = some (.lst []) ∧ H1 r = none ∧ r ≠ D) ⟨same_lay hD, [], upd_same, rfl, List.nodup_nil, fun r z => (nomatch z)⟩ ?_ ?_
  · rintro i H' hi ⟨s1, rcs, e1, e2, e3, e4⟩
    refine ⟨rfl, ?_⟩
    unfold tYes
    dsimp only
    rw [if_pos rfl]
    refine lst_read (nil_read ⟨by show 0 ≤ sizeLine; decide, fun r nr => ?_⟩)
    have rD : r ≠ D := Ne.symm (ne_of_none e1 nr)
    have nr1 : H1 r = none := by
      cases e : H1 r with
      | none => rfl
      | some o => rw [s1 _ _ e] at nr; cases nr
    refine ⟨rcs.map V.ref, (same_lay nr) _ _ e1, by rw [List.length_map, sizeLine_eq]; omega, fun d u e => ?_, rcs ++ [r], ?_, ?_, ?_, fun r' z => ?_⟩
    · rw [upd_ne (ne_of_none e hD)]
      exact (same_lay nr) _ _ (s1 _ _ e)
    · rw [upd_same, List.map_append]
      rfl
    · rw [List.length_append, e2]
      rfl
    · rw [List.nodup_append]
      refine ⟨e3, by simp, fun a ha c hc z => ?_⟩
      rw [List.mem_singleton.mp hc] at z
      have := (e4 a ha).1
      rw [z, nr] at this
      cases this
    · rcases List.mem_append.mp z with z | z
      · obtain ⟨z1, z2, z3⟩ := e4 r' z
        exact ⟨by rw [upd_ne z3]; exact (same_lay nr) _ _ z1, z2, z3⟩
      · rw [List.mem_singleton.mp z]
        exact ⟨by rw [upd_ne rD, upd_same], nr1, rD⟩
  rintro H2 ⟨s2, rcs, hD2, e2, nd2, hr2⟩
  refine ⟨_, rfl, x, C, dx, _, rfl, s2 _ _ x1, PC.cl, PC.n2, by show 1 < 1000; decide, ?_⟩
  obtain ⟨nD, nDx⟩ := keep_none k1 x1 hD
  have hrx : ∀ r ∈ rcs, H r = none ∧ r ≠ x := fun r z => keep_none k1 x1 (hr2 r z).2.1
  have k3 : Keep x H (L2.upd H2 x (.ins C dx [("drive", .ref dr), ("content", .ref D)])) := (k1.trans (Keep.of s2)).trans (Keep.upd x H2 _)
  have x3 : (L2.upd H2 x (.ins C dx [("drive", .ref dr), ("content", .ref D)])) x = some (.ins C dx [("drive", .ref dr), ("content", .ref D)]) := upd_same
  have D3 : (L2.upd H2 x (.ins C dx [("drive", .ref dr), ("content", .ref D)])) D = some (.lst (rcs.map V.ref)) := by rw [upd_ne nDx]; exact hD2
  have r3 : ∀ r ∈ rcs, (L2.upd H2 x (.ins C dx [("drive", .ref dr), ("content", .ref D)])) r = some (.lst []) := fun r z => by rw [upd_ne (hrx r z).2]; exact (hr2 r z).1
  dsimp only
  show tSeq (sFld _ _ _ _) _ _ _ (L2.upd H2 x (.ins C dx [("drive", .ref dr), ("content", .ref D)]))
  generalize L2.upd H2 x (.ins C dx [("drive", .ref dr), ("content", .ref D)]) = H3 at k3 x3 D3 r3 ⊢
  have hd3 := k3 _ _ hd hdx
  -- living
  have DH3 := D3
  have rcH3 := r3
  have kH3 := k3
  have xH3 := x3
  refine ⟨by show 1 ≤ sizeLine; decide, fun l0 nl0 => ?_⟩
  have hd3' := (same_lay (o := .lst [.int 0]) nl0) _ _ hd3
  refine ⟨_, rfl, dr, dd, _, rfl, hd3', dr, dd, _, _, rfl, hd3', rfl, l0, (b : Int), _, rfl, rfl, upd_same, by omega, by omega, ?_, fun L nL => ?_⟩
  · show 1 * ((b : Int)).toNat ≤ sizeLine
    rw [sizeLine_eq]
    omega
  have eL : (List.replicate ((b : Int)).toNat [V.int 0]).flatten = (List.replicate b (0 : Int)).map V.int := by
    rw [Int.toNat_natCast, List.map_replicate]
    exact List.flatten_replicate_singleton
  rw [eL]
  have s3 : Same H3 (L2.upd (L2.upd H3 l0 (.lst [.int 0])) L (.lst ((List.replicate b (0 : Int)).map V.int))) := (same_lay nl0).trans (same_lay nL)
  have fL : (L2.upd (L2.upd H3 l0 (.lst [.int 0])) L (.lst ((List.replicate b (0 : Int)).map V.int))) L = some (.lst ((List.replicate b (0 : Int)).map V.int)) := upd_same
  have nL3 : H3 L = none := by
    cases e : H3 L with
    | none => rfl
    | some o => rw [(same_lay nl0) _ _ e] at nL; cases nL
  generalize L2.upd (L2.upd H3 l0 (.lst [.int 0])) L (.lst ((List.replicate b (0 : Int)).map V.int)) = H4 at s3 fL ⊢
  obtain ⟨nLH, nLx⟩ := keep_none kH3 xH3 nL3
  have neLD : L ≠ D := Ne.symm (ne_of_none DH3 nL3)
  have neLr : ∀ r ∈ rcs, L ≠ r := fun r z => Ne.symm (ne_of_none (rcH3 r z) nL3)
  have fD := s3 _ _ DH3
  have frc : ∀ r ∈ rcs, _ := fun r z => s3 _ _ (rcH3 r z)
  refine ⟨_, rfl, x, C, dx, _, rfl, s3 _ _ xH3, PC.cl, PC.n3, by show 2 < 1000; decide, ?_⟩
  have kH5 : Keep x H (L2.upd H4 x (.ins C dx [("drive", .ref dr), ("content", .ref D), ("living", .ref L)])) := (kH3.trans (Keep.of s3)).trans (Keep.upd x H4 _)
  have xH5 : (L2.upd H4 x (.ins C dx [("drive", .ref dr), ("content", .ref D), ("living", .ref L)])) x = some (.ins C dx [("drive", .ref dr), ("content", .ref D), ("living", .ref L)]) := upd_same
  have DH5 : (L2.upd H4 x (.ins C dx [("drive", .ref dr), ("content", .ref D), ("living", .ref L)])) D = some (.lst (rcs.map V.ref)) := by rw [upd_ne nDx]; exact fD
  have LH5 : (L2.upd H4 x (.ins C dx [("drive", .ref dr), ("content", .ref D), ("living", .ref L)])) L = some (.lst ((List.replicate b (0 : Int)).map V.int)) := by rw [upd_ne nLx]; exact fL
  have rcH5 : ∀ r ∈ rcs, (L2.upd H4 x (.ins C dx [("drive", .ref dr), ("content", .ref D), ("living", .ref L)])) r = some (.lst []) := fun r z => by rw [upd_ne (hrx r z).2]; exact frc r z
  dsimp only
  show tSeq (sFld _ _ _ _) _ _ _ (L2.upd H4 x (.ins C dx [("drive", .ref dr), ("content", .ref D), ("living", .ref L)]))
  generalize L2.upd H4 x (.ins C dx [("drive", .ref dr), ("content", .ref D), ("living", .ref L)]) = H5 at DH5 LH5 rcH5 kH5 xH5 ⊢
  have hd5 := kH5 _ _ hd hdx
  refine ⟨_, rfl, dr, dd, _, rfl, hd5, dr, dd, _, _, rfl, hd5, rfl, (b : Int), rfl, RgOk.of_le (by omega) (by omega) (by omega) (by omega), fun Fq nFq => ?_⟩
  have eF : rgV 0 (b : Int) = (List.range b).map nV := by
    unfold rgV
    rw [Int.sub_zero, Int.toNat_natCast]
    exact List.map_congr_left fun i _ => by rw [Int.zero_add]
  rw [eF]
  have sH6 : Same H5 (L2.upd H5 Fq (.lst ((List.range b).map nV))) := same_lay nFq
  have fFq : (L2.upd H5 Fq (.lst ((List.range b).map nV))) Fq = some (.lst ((List.range b).map nV)) := upd_same
  generalize L2.upd H5 Fq (.lst ((List.range b).map nV)) = H6 at sH6 fFq ⊢
  obtain ⟨nFqH, nFqx⟩ := keep_none kH5 xH5 nFq
  have neFqD : Fq ≠ D := Ne.symm (ne_of_none DH5 nFq)
  have neFqL : Fq ≠ L := Ne.symm (ne_of_none LH5 nFq)
  have neFqr : ∀ r ∈ rcs, Fq ≠ r := fun r z => Ne.symm (ne_of_none (rcH5 r z) nFq)
  have fD := sH6 _ _ DH5
  have fL := sH6 _ _ LH5
  have frc : ∀ r ∈ rcs, _ := fun r z => sH6 _ _ (rcH5 r z)
  refine ⟨_, rfl, x, C, dx, _, rfl, sH6 _ _ xH5, PC.cl, PC.n4, by show 3 < 1000; decide, ?_⟩
  have kH7 : Keep x H (L2.upd H6 x (.ins C dx [("drive", .ref dr), ("content", .ref D), ("living", .ref L), ("free", .ref Fq)])) := (kH5.trans (Keep.of sH6)).trans (Keep.upd x H6 _)
  have xH7 : (L2.upd H6 x (.ins C dx [("drive", .ref dr), ("content", .ref D), ("living", .ref L), ("free", .ref Fq)])) x = some (.ins C dx [("drive", .ref dr), ("content", .ref D), ("living", .ref L), ("free", .ref Fq)]) := upd_same
  have DH7 : (L2.upd H6 x (.ins C dx [("drive", .ref dr), ("content", .ref D), ("living", .ref L), ("free", .ref Fq)])) D = some (.lst (rcs.map V.ref)) := by rw [upd_ne nDx]; exact fD
  have LH7 : (L2.upd H6 x (.ins C dx [("drive", .ref dr), ("content", .ref D), ("living", .ref L), ("free", .ref Fq)])) L = some (.lst ((List.replicate b (0 : Int)).map V.int)) := by rw [upd_ne nLx]; exact fL
  have FqH7 : (L2.upd H6 x (.ins C dx [("drive", .ref dr), ("content", .ref D), ("living", .ref L), ("free", .ref Fq)])) Fq = some (.lst ((List.range b).map nV)) := by rw [upd_ne nFqx]; exact fFq
  have rcH7 : ∀ r ∈ rcs, (L2.upd H6 x (.ins C dx [("drive", .ref dr), ("content", .ref D), ("living", .ref L), ("free", .ref Fq)])) r = some (.lst []) := fun r z => by rw [upd_ne (hrx r z).2]; exact frc r z
  dsimp only
  show tSeq (sFld _ _ _ _) _ _ _ (L2.upd H6 x (.ins C dx [("drive", .ref dr), ("content", .ref D), ("living", .ref L), ("free", .ref Fq)]))
  generalize L2.upd H6 x (.ins C dx [("drive", .ref dr), ("content", .ref D), ("living", .ref L), ("free", .ref Fq)]) = H7 at DH7 LH7 FqH7 rcH7 kH7 xH7 ⊢
  refine ⟨by show 0 ≤ sizeLine; decide, fun Cl nCl => ?_⟩
  have sH8 : Same H7 (L2.upd H7 Cl (.lst [])) := same_lay nCl
  have fCl : (L2.upd H7 Cl (.lst [])) Cl = some (.lst []) := upd_same
  generalize L2.upd H7 Cl (.lst []) = H8 at sH8 fCl ⊢
  obtain ⟨nClH, nClx⟩ := keep_none kH7 xH7 nCl
  have neClD : Cl ≠ D := Ne.symm (ne_of_none DH7 nCl)
  have neClL : Cl ≠ L := Ne.symm (ne_of_none LH7 nCl)
  have neClFq : Cl ≠ Fq := Ne.symm (ne_of_none FqH7 nCl)
  have neClr : ∀ r ∈ rcs, Cl ≠ r := fun r z => Ne.symm (ne_of_none (rcH7 r z) nCl)
  have fD := sH8 _ _ DH7
  have fL := sH8 _ _ LH7
  have fFq := sH8 _ _ FqH7
  have frc : ∀ r ∈ rcs, _ := fun r z => sH8 _ _ (rcH7 r z)
  refine ⟨_, rfl, x, C, dx, _, rfl, sH8 _ _ xH7, PC.cl, PC.n5, by show 4 < 1000; decide, ?_⟩
  have kH9 : Keep x H (L2.upd H8 x (.ins C dx [("drive", .ref dr), ("content", .ref D), ("living", .ref L), ("free", .ref Fq), ("closed", .ref Cl)])) := (kH7.trans (Keep.of sH8)).trans (Keep.upd x H8 _)
  have xH9 : (L2.upd H8 x (.ins C dx [("drive", .ref dr), ("content", .ref D), ("living", .ref L), ("free", .ref Fq), ("closed", .ref Cl)])) x = some (.ins C dx [("drive", .ref dr), ("content", .ref D), ("living", .ref L), ("free", .ref Fq), ("closed", .ref Cl)]) := upd_same
  have DH9 : (L2.upd H8 x (.ins C dx [("drive", .ref dr), ("content", .ref D), ("living", .ref L), ("free", .ref Fq), ("closed", .ref Cl)])) D = some (.lst (rcs.map V.ref)) := by rw [upd_ne nDx]; exact fD
  have LH9 : (L2.upd H8 x (.ins C dx [("drive", .ref dr), ("content", .ref D), ("living", .ref L), ("free", .ref Fq), ("closed", .ref Cl)])) L = some (.lst ((List.replicate b (0 : Int)).map V.int)) := by rw [upd_ne nLx]; exact fL
  have FqH9 : (L2.upd H8 x (.ins C dx [("drive", .ref dr), ("content", .ref D), ("living", .ref L), ("free", .ref Fq), ("closed", .ref Cl)])) Fq = some (.lst ((List.range b).map nV)) := by rw [upd_ne nFqx]; exact fFq
  have ClH9 : (L2.upd H8 x (.ins C dx [("drive", .ref dr), ("content", .ref D), ("living", .ref L), ("free", .ref Fq), ("closed", .ref Cl)])) Cl = some (.lst []) := by rw [upd_ne nClx]; exact fCl
  have rcH9 : ∀ r ∈ rcs, (L2.upd H8 x (.ins C dx [("drive", .ref dr), ("content", .ref D), ("living", .ref L), ("free", .ref Fq), ("closed", .ref Cl)])) r = some (.lst []) := fun r z => by rw [upd_ne (hrx r z).2]; exact frc r z
  dsimp only
  show tSeq (sFld _ _ _ _) _ _ _ (L2.upd H8 x (.ins C dx [("drive", .ref dr), ("content", .ref D), ("living", .ref L), ("free", .ref Fq), ("closed", .ref Cl)]))
  generalize L2.upd H8 x (.ins C dx [("drive", .ref dr), ("content", .ref D), ("living", .ref L), ("free", .ref Fq), ("closed", .ref Cl)]) = H9 at DH9 LH9 FqH9 ClH9 rcH9 kH9 xH9 ⊢
  have sH9 : Same H9 H9 := fun _ _ e => e
  have fD := sH9 _ _ DH9
  have fL := sH9 _ _ LH9
  have fFq := sH9 _ _ FqH9
  have fCl := sH9 _ _ ClH9
  have frc : ∀ r ∈ rcs, _ := fun r z => sH9 _ _ (rcH9 r z)
  refine ⟨_, rfl, x, C, dx, _, rfl, xH9, PC.cl, PC.n6, by show 5 < 1000; decide, ?_⟩
  have kH10 : Keep x H (L2.upd H9 x (.ins C dx [("drive", .ref dr), ("content", .ref D), ("living", .ref L), ("free", .ref Fq), ("closed", .ref Cl), ("filling", .non)])) := (kH9.trans (Keep.of sH9)).trans (Keep.upd x H9 _)
  have xH10 : (L2.upd H9 x (.ins C dx [("drive", .ref dr), ("content", .ref D), ("living", .ref L), ("free", .ref Fq), ("closed", .ref Cl), ("filling", .non)])) x = some (.ins C dx [("drive", .ref dr), ("content", .ref D), ("living", .ref L), ("free", .ref Fq), ("closed", .ref Cl), ("filling", .non)]) := upd_same
  have DH10 : (L2.upd H9 x (.ins C dx [("drive", .ref dr), ("content", .ref D), ("living", .ref L), ("free", .ref Fq), ("closed", .ref Cl), ("filling", .non)])) D = some (.lst (rcs.map V.ref)) := by rw [upd_ne nDx]; exact fD
  have LH10 : (L2.upd H9 x (.ins C dx [("drive", .ref dr), ("content", .ref D), ("living", .ref L), ("free", .ref Fq), ("closed", .ref Cl), ("filling", .non)])) L = some (.lst ((List.replicate b (0 : Int)).map V.int)) := by rw [upd_ne nLx]; exact fL
  have FqH10 : (L2.upd H9 x (.ins C dx [("drive", .ref dr), ("content", .ref D), ("living", .ref L), ("free", .ref Fq), ("closed", .ref Cl), ("filling", .non)])) Fq = some (.lst ((List.range b).map nV)) := by rw [upd_ne nFqx]; exact fFq
  have ClH10 : (L2.upd H9 x (.ins C dx [("drive", .ref dr), ("content", .ref D), ("living", .ref L), ("free", .ref Fq), ("closed", .ref Cl), ("filling", .non)])) Cl = some (.lst []) := by rw [upd_ne nClx]; exact fCl
  have rcH10 : ∀ r ∈ rcs, (L2.upd H9 x (.ins C dx [("drive", .ref dr), ("content", .ref D), ("living", .ref L), ("free", .ref Fq), ("closed", .ref Cl), ("filling", .non)])) r = some (.lst []) := fun r z => by rw [upd_ne (hrx r z).2]; exact frc r z
  dsimp only
  show tSeq (sFld _ _ _ _) _ _ _ (L2.upd H9 x (.ins C dx [("drive", .ref dr), ("content", .ref D), ("living", .ref L), ("free", .ref Fq), ("closed", .ref Cl), ("filling", .non)]))
  generalize L2.upd H9 x (.ins C dx [("drive", .ref dr), ("content", .ref D), ("living", .ref L), ("free", .ref Fq), ("closed", .ref Cl), ("filling", .non)]) = H10 at DH10 LH10 FqH10 ClH10 rcH10 kH10 xH10 ⊢
  refine fun Hm nHm => ?_
  have sH11 : Same H10 (L2.upd H10 Hm (.dK [])) := same_lay nHm
  have fHm : (L2.upd H10 Hm (.dK [])) Hm = some (.dK []) := upd_same
  generalize L2.upd H10 Hm (.dK []) = H11 at sH11 fHm ⊢
  obtain ⟨nHmH, nHmx⟩ := keep_none kH10 xH10 nHm
  have neHmD : Hm ≠ D := Ne.symm (ne_of_none DH10 nHm)
  have neHmL : Hm ≠ L := Ne.symm (ne_of_none LH10 nHm)
  have neHmFq : Hm ≠ Fq := Ne.symm (ne_of_none FqH10 nHm)
  have neHmCl : Hm ≠ Cl := Ne.symm (ne_of_none ClH10 nHm)
  have neHmr : ∀ r ∈ rcs, Hm ≠ r := fun r z => Ne.symm (ne_of_none (rcH10 r z) nHm)
  have fD := sH11 _ _ DH10
  have fL := sH11 _ _ LH10
  have fFq := sH11 _ _ FqH10
  have fCl := sH11 _ _ ClH10
  have frc : ∀ r ∈ rcs, _ := fun r z => sH11 _ _ (rcH10 r z)
  refine ⟨_, rfl, x, C, dx, _, rfl, sH11 _ _ xH10, PC.cl, PC.n7, by show 6 < 1000; decide, ?_⟩
  have kH12 : Keep x H (L2.upd H11 x (.ins C dx [("drive", .ref dr), ("content", .ref D), ("living", .ref L), ("free", .ref Fq), ("closed", .ref Cl), ("filling", .non), ("homes", .ref Hm)])) := (kH10.trans (Keep.of sH11)).trans (Keep.upd x H11 _)
  have xH12 : (L2.upd H11 x (.ins C dx [("drive", .ref dr), ("content", .ref D), ("living", .ref L), ("free", .ref Fq), ("closed", .ref Cl), ("filling", .non), ("homes", .ref Hm)])) x = some (.ins C dx [("drive", .ref dr), ("content", .ref D), ("living", .ref L), ("free", .ref Fq), ("closed", .ref Cl), ("filling", .non), ("homes", .ref Hm)]) := upd_same
  have DH12 : (L2.upd H11 x (.ins C dx [("drive", .ref dr), ("content", .ref D), ("living", .ref L), ("free", .ref Fq), ("closed", .ref Cl), ("filling", .non), ("homes", .ref Hm)])) D = some (.lst (rcs.map V.ref)) := by rw [upd_ne nDx]; exact fD
  have LH12 : (L2.upd H11 x (.ins C dx [("drive", .ref dr), ("content", .ref D), ("living", .ref L), ("free", .ref Fq), ("closed", .ref Cl), ("filling", .non), ("homes", .ref Hm)])) L = some (.lst ((List.replicate b (0 : Int)).map V.int)) := by rw [upd_ne nLx]; exact fL
  have FqH12 : (L2.upd H11 x (.ins C dx [("drive", .ref dr), ("content", .ref D), ("living", .ref L), ("free", .ref Fq), ("closed", .ref Cl), ("filling", .non), ("homes", .ref Hm)])) Fq = some (.lst ((List.range b).map nV)) := by rw [upd_ne nFqx]; exact fFq
  have ClH12 : (L2.upd H11 x (.ins C dx [("drive", .ref dr), ("content", .ref D), ("living", .ref L), ("free", .ref Fq), ("closed", .ref Cl), ("filling", .non), ("homes", .ref Hm)])) Cl = some (.lst []) := by rw [upd_ne nClx]; exact fCl
  have HmH12 : (L2.upd H11 x (.ins C dx [("drive", .ref dr), ("content", .ref D), ("living", .ref L), ("free", .ref Fq), ("closed", .ref Cl), ("filling", .non), ("homes", .ref Hm)])) Hm = some (.dK []) := by rw [upd_ne nHmx]; exact fHm
  have rcH12 : ∀ r ∈ rcs, (L2.upd H11 x (.ins C dx [("drive", .ref dr), ("content", .ref D), ("living", .ref L), ("free", .ref Fq), ("closed", .ref Cl), ("filling", .non), ("homes", .ref Hm)])) r = some (.lst []) := fun r z => by rw [upd_ne (hrx r z).2]; exact frc r z
  dsimp only
  show sFld _ _ _ _ _ _ (L2.upd H11 x (.ins C dx [("drive", .ref dr), ("content", .ref D), ("living", .ref L), ("free", .ref Fq), ("closed", .ref Cl), ("filling", .non), ("homes", .ref Hm)]))
  generalize L2.upd H11 x (.ins C dx [("drive", .ref dr), ("content", .ref D), ("living", .ref L), ("free", .ref Fq), ("closed", .ref Cl), ("filling", .non), ("homes", .ref Hm)]) = H12 at DH12 LH12 FqH12 ClH12 HmH12 rcH12 kH12 xH12 ⊢
  refine ⟨by show 0 ≤ sizeLine; decide, fun Tl nTl => ?_⟩
  have sH13 : Same H12 (L2.upd H12 Tl (.lst [])) := same_lay nTl
  have fTl : (L2.upd H12 Tl (.lst [])) Tl = some (.lst []) := upd_same
  generalize L2.upd H12 Tl (.lst []) = H13 at sH13 fTl ⊢
  obtain ⟨nTlH, nTlx⟩ := keep_none kH12 xH12 nTl
  have neTlD : Tl ≠ D := Ne.symm (ne_of_none DH12 nTl)
  have neTlL : Tl ≠ L := Ne.symm (ne_of_none LH12 nTl)
  have neTlFq : Tl ≠ Fq := Ne.symm (ne_of_none FqH12 nTl)
  have neTlCl : Tl ≠ Cl := Ne.symm (ne_of_none ClH12 nTl)
  have neTlHm : Tl ≠ Hm := Ne.symm (ne_of_none HmH12 nTl)
  have neTlr : ∀ r ∈ rcs, Tl ≠ r := fun r z => Ne.symm (ne_of_none (rcH12 r z) nTl)
  have fD := sH13 _ _ DH12
  have fL := sH13 _ _ LH12
  have fFq := sH13 _ _ FqH12
  have fCl := sH13 _ _ ClH12
  have fHm := sH13 _ _ HmH12
  have frc : ∀ r ∈ rcs, _ := fun r z => sH13 _ _ (rcH12 r z)
  refine ⟨_, rfl, x, C, dx, _, rfl, sH13 _ _ xH12, PC.cl, PC.n8, by show 7 < 1000; decide, ?_⟩
  have kH14 : Keep x H (L2.upd H13 x (.ins C dx [("drive", .ref dr), ("content", .ref D), ("living", .ref L), ("free", .ref Fq), ("closed", .ref Cl), ("filling", .non), ("homes", .ref Hm), ("told", .ref Tl)])) := (kH12.trans (Keep.of sH13)).trans (Keep.upd x H13 _)
  have xH14 : (L2.upd H13 x (.ins C dx [("drive", .ref dr), ("content", .ref D), ("living", .ref L), ("free", .ref Fq), ("closed", .ref Cl), ("filling", .non), ("homes", .ref Hm), ("told", .ref Tl)])) x = some (.ins C dx [("drive", .ref dr), ("content", .ref D), ("living", .ref L), ("free", .ref Fq), ("closed", .ref Cl), ("filling", .non), ("homes", .ref Hm), ("told", .ref Tl)]) := upd_same
  have DH14 : (L2.upd H13 x (.ins C dx [("drive", .ref dr), ("content", .ref D), ("living", .ref L), ("free", .ref Fq), ("closed", .ref Cl), ("filling", .non), ("homes", .ref Hm), ("told", .ref Tl)])) D = some (.lst (rcs.map V.ref)) := by rw [upd_ne nDx]; exact fD
  have LH14 : (L2.upd H13 x (.ins C dx [("drive", .ref dr), ("content", .ref D), ("living", .ref L), ("free", .ref Fq), ("closed", .ref Cl), ("filling", .non), ("homes", .ref Hm), ("told", .ref Tl)])) L = some (.lst ((List.replicate b (0 : Int)).map V.int)) := by rw [upd_ne nLx]; exact fL
  have FqH14 : (L2.upd H13 x (.ins C dx [("drive", .ref dr), ("content", .ref D), ("living", .ref L), ("free", .ref Fq), ("closed", .ref Cl), ("filling", .non), ("homes", .ref Hm), ("told", .ref Tl)])) Fq = some (.lst ((List.range b).map nV)) := by rw [upd_ne nFqx]; exact fFq
  have ClH14 : (L2.upd H13 x (.ins C dx [("drive", .ref dr), ("content", .ref D), ("living", .ref L), ("free", .ref Fq), ("closed", .ref Cl), ("filling", .non), ("homes", .ref Hm), ("told", .ref Tl)])) Cl = some (.lst []) := by rw [upd_ne nClx]; exact fCl
  have HmH14 : (L2.upd H13 x (.ins C dx [("drive", .ref dr), ("content", .ref D), ("living", .ref L), ("free", .ref Fq), ("closed", .ref Cl), ("filling", .non), ("homes", .ref Hm), ("told", .ref Tl)])) Hm = some (.dK []) := by rw [upd_ne nHmx]; exact fHm
  have TlH14 : (L2.upd H13 x (.ins C dx [("drive", .ref dr), ("content", .ref D), ("living", .ref L), ("free", .ref Fq), ("closed", .ref Cl), ("filling", .non), ("homes", .ref Hm), ("told", .ref Tl)])) Tl = some (.lst []) := by rw [upd_ne nTlx]; exact fTl
  have rcH14 : ∀ r ∈ rcs, (L2.upd H13 x (.ins C dx [("drive", .ref dr), ("content", .ref D), ("living", .ref L), ("free", .ref Fq), ("closed", .ref Cl), ("filling", .non), ("homes", .ref Hm), ("told", .ref Tl)])) r = some (.lst []) := fun r z => by rw [upd_ne (hrx r z).2]; exact frc r z
  dsimp only
  show Q .non (L2.upd H13 x (.ins C dx [("drive", .ref dr), ("content", .ref D), ("living", .ref L), ("free", .ref Fq), ("closed", .ref Cl), ("filling", .non), ("homes", .ref Hm), ("told", .ref Tl)]))
  generalize L2.upd H13 x (.ins C dx [("drive", .ref dr), ("content", .ref D), ("living", .ref L), ("free", .ref Fq), ("closed", .ref Cl), ("filling", .non), ("homes", .ref Hm), ("told", .ref Tl)]) = H14 at DH14 LH14 FqH14 ClH14 HmH14 TlH14 rcH14 kH14 xH14 ⊢
  refine q H14 ⟨dx, dr, D, rcs, L, Fq, Cl, Hm, Tl, []⟩ ⟨xH14, DH14, ?_, LH14, FqH14, ClH14, HmH14, TlH14, .nil, ?_⟩ rfl (fun a z => ?_) kH14
  · have go : ∀ (rs : List Addr) (m : Nat), rs.length = m → (∀ r ∈ rs, H14 r = some (.lst [])) → Paired (fun (a : Addr) (c : List (Option Str)) => H14 a = some (.lst (c.map oS))) rs (List.replicate m []) := by
      intro rs
      induction rs with
      | nil => intro m e _; subst e; exact .nil
      | cons r rs ih =>
        intro m e h
        subst e
        exact .cons (h r (List.mem_cons_self ..)) (ih _ rfl fun r' z => h r' (List.mem_cons_of_mem _ z))
    exact go rcs b e2 rcH14
  · show (D :: L :: Fq :: Cl :: Tl :: rcs).Nodup
    simp only [List.nodup_cons, List.mem_cons, not_or]
    exact ⟨⟨Ne.symm neLD, Ne.symm neFqD, Ne.symm neClD, Ne.symm neTlD, fun z => (hr2 D z).2.2 rfl⟩, ⟨Ne.symm neFqL, Ne.symm neClL, Ne.symm neTlL, fun z => neLr L z rfl⟩, ⟨Ne.symm neClFq, Ne.symm neTlFq, fun z => neFqr Fq z rfl⟩, ⟨Ne.symm neTlCl, fun z => neClr Cl z rfl⟩, fun z => neTlr Tl z rfl, nd2⟩
  · unfold PAd.foot PAd.ls at z
    simp only [List.mem_cons] at z
    rcases z with z | z | z | z | z | z | z | z
    · exact .inl z
    · exact .inr (z ▸ nHmH)
    · exact .inr (z ▸ nD)
    · exact .inr (z ▸ nLH)
    · exact .inr (z ▸ nFqH)
    · exact .inr (z ▸ nClH)
    · exact .inr (z ▸ nTlH)
    · exact .inr (hrx a z).1
end
end K6

set_option Elab.async false
set_option linter.all false
set_option maxRecDepth 100000
set_option maxHeartbeats 4000000
namespace K6
open PySem PySem.Spec PyProof.Rows L2 G1 G2 K2 G5 LamX
abbrev sLod : Stmt := topS 55
abbrev NLod : List Str := ["drive", "load", "play", "index", "event"]
theorem scLod : FnScope NLod ["drive", "load"] (defScope sLod) := ⟨rfl, rfl, rfl, by decide +kernel, rfl, by decide +kernel, by decide +kernel⟩
/-- every event is let, however the ones before it went -/
def LoadOk (p n : Nat) (rows : List RowD) : Pl → List (Str × Str) → Prop
  | _, [] => True
  | s, e :: es => EvtOk p n rows s e.1 e.2 ∧ NameOk e.2 ∧ ∀ s', EvtR p rows s s' e.1 e.2 → LoadOk p n rows s' es
def PlaysTo (p : Nat) (rows : List RowD) : Pl → List (Str × Str) → Pl → Prop
  | s, [], s' => s' = s
  | s, e :: es, s' => ∃ s1, EvtR p rows s s1 e.1 e.2 ∧ PlaysTo p rows s1 es s'
theorem plays_snoc {p : Nat} {rows : List RowD} : ∀ {es : List (Str × Str)} {s s1 s2 : Pl} {e : Str × Str}, PlaysTo p rows s es s1 → EvtR p rows s1 s2 e.1 e.2 → PlaysTo p rows s (es ++ [e]) s2
  | [], s, s1, s2, e, h, h2 => by
    cases (show s1 = s from h)
    exact ⟨s2, h2, rfl⟩
  | _ :: es, s, s1, s2, e, ⟨s0, h0, h⟩, h2 => ⟨s0, h0, plays_snoc h h2⟩
def spLod (K : PySem.W.Frag) (T : List (Addr × Str)) (CD C : Addr) : Sp := fun vs H Q _ => ∃ (dr ld : Addr) (eas : List Addr) (es : List (Str × Str)) (b p n : Nat) (ini : List RowD) (y : Str), vs = [.ref dr, .ref ld] ∧ SqT K H ld (eas.map V.ref) ∧ Paired (fun (a : Addr) (e : Str × Str) => SqT K H a [.str e.1, .str e.2]) eas es ∧ DrvAt K CD H dr b p n ini y ∧ b ≤ 10 ∧ (∀ r ∈ ini ++ [((p : Int), y)], r.2 ∈ wordsL) ∧ LoadOk p n (ini ++ [((p : Int), y)]) (newP b) es ∧ es.length ≤ 2000 ∧ Tabs T H ∧
  ∀ (H' : Hp) (x : Addr) (s' : Pl) (A : PAd), PlaysTo p (ini ++ [((p : Int), y)]) (newP b) es s' → PlayAt C H' x s' A → A.dr = dr → H x = none → ExtN H H' → Tabs T H' → Q (.ref x) H'
section
variable {P : Program} {w : World} {K : PySem.W.Frag} {mg : Str → Option Value} {base : Heap} {CD C : Addr}
theorem ok_lod {f0 fI : Addr} {fd fdI : FuncData} {T : List (Addr × Str)} (F : Fun K "play_load" "play_load" sLod f0 fd) (B : Bl mg) (gM : ∃ t, mg "MOST_EVENTS" = some (.int 2000 t)) (MP : Mk K C fI) (GI : FnOk P w K mg base CX0 3 fI fdI ["self", "drive"] (spPin K CD C)) (bI : Binds K fdI ["self", "drive"] []) (gP : mg "Play" = some (.ref C))
    (GE : FAt P w K mg base 2 "is_event" ["value"] (spIev K)) (GV : FAt P w K mg base 6 "play_event" ["play", "event"] (spEvt K T CD C)) : FnOk P w K mg base CX0 7 f0 fd ["drive", "load"] (spLod K T CD C) := by
  refine F.ok scLod (fun vs H Q E h => ?_) (fun cdv A0 outer s0 H vs Q E hr h => ?_)
  · obtain ⟨dr, ld, eas, es, b, p, n, ini, y, rfl, _⟩ := h
    rfl
  obtain ⟨dr, ld, eas, es, b, p, n, ini, y, rfl, hld, hes, hd, hb, hwd, hok, hlen, hT, q⟩ := h
  obtain ⟨fE, dE, GE, kE, bE, gE⟩ := GE.ex
  obtain ⟨fV, dV, GV, kV, bV, gV⟩ := GV.ex
  obtain ⟨tM, cM⟩ := gM
  refine ⟨_, pss_cons (ps_if (pt_not (pt_val (pe_callB call_isi (by rfl) B.isi bIsi (pa_cons (pv 1) (pa_cons (pe_bltn (v := .ty "tuple") (by rfl) B.tup bTup rfl) pa_nil))))) (pss_one ps_never) pss_nil)
    (pss_cons (ps_set (i := 2) scLod.nd rfl (.inl rfl) (pe_make MP GI (hr.mono (by decide)) (by rfl) gP bI .nil pass0 (pa_cons (pv 0) pa_nil)))
    (pss_cons (ps_for PassesOwn.never rfl (pi_enumT (by rfl) B.enm (pa_cons (pv 1) pa_nil)) (pg_tup rfl (pgs_cons (pg_name (i := 3) scLod.nd rfl (.inl rfl)) (pgs_cons (pg_name (i := 4) scLod.nd rfl (.inl rfl)) pgs_nil)))
      (pss_one (ps_if (PW.pt (pw_or (pt_cmpR op_eq (pv 3) (pe_glob (v := .int 2000) rfl cM ⟨_, rfl⟩) (nomark _)) (pw_or (pt_not (pt_val (pe_call GE (hr.mono (by decide)) (by rfl) gE kE bE .nil pass0 (pa_cons (pv 4) pa_nil))))
        (pw_or1 (pt_not (pt_val (pe_call GV hr (by rfl) gV kV bV .nil pass0 (pa_cons (pv 2) (pa_cons (pv 4) pa_nil))))))))) (pss_one ps_never) pss_nil)))
    (pss_one (ps_ret (pv 2))))), ?_⟩
  generalize erows : ini ++ [((p : Int), y)] = rows at hwd hok q
  refine ⟨_, rfl, _, _, _, _, true, rfl, .ty _, tup_ty hld, kit_ty (by decide +kernel), true, rfl, iteF ?_⟩
  refine nx_read ?_
  dsimp only
  refine seq_asg ⟨_, rfl, fun x dx nx nd ne => ?_⟩
  have sm : Same H (L2.upd (L2.upd H dx (.own x)) x (.ins C dx [])) := fun c o e => by rw [upd_ne (ne_of_none e nx), upd_ne (ne_of_none e nd)]; exact e
  have hdrx : dr ≠ x := by
    obtain ⟨_, _, z, _⟩ := id hd
    exact ne_of_none z nx
  refine ⟨x, dx, dr, b, p, n, ini, y, rfl, upd_same, hd.same sm, hdrx, hb, fun H1 A p1 hdr g1 k1 => ⟨rfl, ?_⟩⟩
  have s1 : Same H H1 := fun c o e => k1 c o (sm c o e) (ne_of_none e nx)
  have w1 : ∀ a ∈ A.foot x, NwN H a := fun a z => by
    rcases g1 a z with e | e
    · exact .of (e ▸ nx)
    · refine .of ?_
      cases e2 : H a with
      | none => rfl
      | some o => rw [sm _ _ e2] at e; cases e
  refine seq_for fun D' hD1 hD2 => ?_
  refine ⟨_, rfl, ld, _, rfl, K2.Same.tup s1 hld, ?_⟩
  have hle : eas.length = es.length := Paired.length hes
  refine for_enumT (K := K) (xs := eas.map V.ref) (fun i σ H' => ∃ (s2 : Pl) (A2 : PAd) (x3 x4 : Option V), σ = [some (.ref dr), some (.ref ld), some (.ref x), x3, x4] ∧ PlayAt C H' x s2 A2 ∧ A2.dr = dr ∧ PlaysTo p rows (newP b) (es.take i) s2 ∧ LoadOk p n rows s2 (es.drop i) ∧ ExtN H H' ∧ (∀ a ∈ A2.foot x, NwN H a) ∧ Tabs T H') ⟨newP b, A, none, none, rfl, p1, hdr, rfl, hok, .of s1, w1, hT.ext s1⟩ (fun i σ H' z => ?_) ?_ ?_
  · obtain ⟨_, _, _, _, _, _, _, _, _, z, _⟩ := z
    exact ext_tup z hld
  · rintro i v T1 σ H' hi ⟨s2, A2, x3, x4, rfl, p2, hdr2, pl2, ok2, e2, w2, t2⟩ hT1
    rw [List.getElem?_map] at hi
    obtain ⟨a, ha, rfl⟩ : ∃ a, eas[i]? = some a ∧ V.ref a = v := by
      cases hq : eas[i]? with
      | none => rw [hq] at hi; cases hi
      | some a => rw [hq] at hi; exact ⟨a, rfl, Option.some.inj hi⟩
    obtain ⟨ev, hev, hat⟩ := K2.paired_get hes ha
    have hil := (List.getElem?_eq_some_iff.mp hev).1
    have edr : es.drop i = ev :: es.drop (i + 1) := by
      rw [List.drop_eq_getElem_cons hil]
      rw [List.getElem?_eq_getElem hil] at hev
      rw [Option.some.inj hev]
    rw [edr] at ok2
    obtain ⟨o1, o2, o3⟩ := ok2
    have sT : Same H' (L2.upd H' T1 (.tup [.int (i : Nat), .ref a])) := same_lay hT1
    refine ⟨T1, _, rfl, SqT.of upd_same, rfl, _, _, rfl, _, _, rfl, rfl, ?_⟩
    refine ⟨_, rfl, rfl, _, rfl, ?_⟩
    rw [eqI6, decide_eq_false (by omega)]
    have eT : ExtN H (L2.upd H' T1 (.tup [.int (i : Nat), .ref a])) := e2.trans (.of sT)
    refine iteF ⟨_, rfl, a, ev.1, ev.2, rfl, ext_tup eT hat, o1.2.2.1, o2, fun H3 s3 => ⟨true, rfl, iteF ?_⟩⟩
    have e3 : ExtN H H3 := eT.trans (.of s3)
    have s23 : Same H' H3 := sT.trans s3
    refine ⟨_, rfl, _, rfl, x, a, ev.1, ev.2, s2, A2, b, p, n, ini, y, rfl, ext_tup e3 hat, p2.same s23, by rw [erows]; exact o1, by rw [erows]; exact hwd, by rw [hdr2]; exact DrvAt.extN hd e3, by rw [hdr2]; exact hdrx, t2.ext s23, fun H4 A4 s4 r4 p4 dr4 f4 g4 t4 => ⟨true, rfl, iteF ?_⟩⟩
    rw [erows] at r4
    refine ⟨s4, A4, _, _, rfl, p4, by rw [dr4]; exact hdr2, ?_, o3 s4 r4, fun c o e nt => ?_, fun c z => ?_, t4⟩
    · rw [List.take_add_one, hev]
      exact plays_snoc pl2 r4
    · refine f4 c o (e3 c o e nt) (fun z => ?_) nt
      obtain ⟨ps, z2⟩ := w2 c z o e
      exact nt ps z2
    · rcases g4 c z with z | z
      · exact w2 c z
      · intro o e
        by_cases nt : ∃ ps, o = .tbl ps
        · exact nt
        · exact z o (e3 c o e fun ps z => nt ⟨ps, z⟩)
  · rintro σ H' ⟨s2, A2, x3, x4, rfl, p2, hdr2, pl2, ok2, e2, w2, t2⟩
    rw [hD1]
    rw [List.length_map, hle, List.take_length] at pl2
    refine ⟨_, rfl, ?_⟩
    exact q H' x s2 A2 pl2 p2 hdr2 nx e2 t2
end
end K6

set_option Elab.async false
set_option linter.all false
set_option maxRecDepth 100000
set_option maxHeartbeats 4000000
namespace K6
open PySem PySem.Spec PyProof.Rows L2 G1 G2 K2 G5 LamX
abbrev sCkd : Stmt := topS 48
theorem scCkd : FnScope ["drive"] ["drive"] (defScope sCkd) := ⟨rfl, rfl, rfl, by decide +kernel, rfl, by decide +kernel, by decide +kernel⟩
def spCkd (K : PySem.W.Frag) (C : Addr) : Sp := fun vs H Q _ => ∃ (x : Addr) (b p n : Nat) (ini : List RowD) (y : Str), vs = [.ref x] ∧ DrvAt K C H x b p n ini y ∧ Q .non H
section
variable {P : Program} {w : World} {K : PySem.W.Frag} {mg : Str → Option Value} {base : Heap} {C : Addr}
theorem ok_ckd {f : Addr} {fd : FuncData} (F : Fun K "check_drive" "check_drive" sCkd f fd) (B : Bl mg) (M : DD P w K mg base C) : FnOk P w K mg base CX0 1 f fd ["drive"] (spCkd K C) := by
  refine F.ok scCkd (fun vs H Q E h => ?_) (fun cdv A outer s H vs Q E hr h => ?_)
  · obtain ⟨x, b, p, n, ini, y, rfl, _⟩ := h
    rfl
  obtain ⟨x, b, p, n, ini, y, rfl, ⟨dx, t, hx, hR⟩, k⟩ := h
  have D := M.D
  have T := M.T
  refine ⟨_, pss_one (ps_if (pt_not (pt_val (pe_callB call_isi (by rfl) B.isi bIsi (pa_cons (pv 0) (pa_cons (pe_glob (v := .ref C) rfl M.gD rfl) pa_nil))))) (pss_one ps_never) pss_nil), ?_⟩
  exact ⟨_, rfl, _, _, _, _, true, rfl, .own C, .base (.ins hx T.cl D.ha D.hn D.htk D.hm), D.own, true, rfl, iteF k⟩
end
end K6

set_option Elab.async false
set_option linter.all false
set_option maxRecDepth 100000
set_option maxHeartbeats 4000000
namespace K6
open PySem PySem.Spec PyProof.Rows L2 G1 G2 K2 G5 LamX
/-- a loop over enumerate(a list) that is run through -/
theorem for_enumL {K : PySem.W.Frag} {a : Addr} {xs : List V} {g : TG} {tb : TS} {D : Ends} {σ : L2.St} {H : Hp} (Pv : Nat → L2.St → Hp → Prop) (h0 : Pv 0 σ H) (hl : ∀ i σ H, Pv i σ H → SqL K H a xs)
    (hs : ∀ i x T σ H, xs[i]? = some x → Pv i σ H → H T = none → g (.ref T) σ (upd H T (.tup [.int (i : Nat), x])) fun σ2 H2 => tb { D with nx := Pv (i + 1), ct := Pv (i + 1), bk := D.nx } σ2 H2)
    (hd : ∀ σ H, Pv xs.length σ H → D.nx σ H) :
    ∃ W : Nat → Nat → L2.St → Hp → Prop, (∃ m, W 0 m σ H) ∧ ∀ i m σ H, W i m σ H →
      ((Ite K a).stop i H ∧ D.nx σ H) ∨ ((Ite K a).go i H ∧ ∃ N : L2.St → Hp → Prop, (∀ σ' H', N σ' H' → ∃ m', m' < m ∧ W (i + 1) m' σ' H') ∧
        ∀ x H', (Ite K a).yld i H x H' → g x σ H' fun σ2 H2 => tb { D with nx := N, ct := N, bk := D.nx } σ2 H2) := by
  refine ⟨fun i m σ H => i + m = xs.length ∧ Pv i σ H, ⟨xs.length, by omega, h0⟩, ?_⟩
  rintro i m σ H ⟨e, p⟩
  by_cases hm : m = 0
  · have e' : i = xs.length := by omega
    exact .inl ⟨⟨xs, hl _ _ _ p, Nat.le_of_eq e'.symm⟩, hd _ _ (e' ▸ p)⟩
  have hi : i < xs.length := by omega
  refine .inr ⟨⟨xs, xs[i], hl _ _ _ p, List.getElem?_eq_getElem hi⟩, Pv (i + 1), fun σ' H' q => ⟨m - 1, by omega, by omega, q⟩, ?_⟩
  rintro _ _ ⟨T, x', rfl, hT, rfl, hx⟩
  exact hs i x' T σ H (hx xs (hl _ _ _ p)) p hT
abbrev sBlo : Stmt := topS 64
abbrev NBlo : List Str := ["drive", "load", "play", "told", "block", "content", "state", "name"]
theorem scBlo : FnScope NBlo ["drive", "load"] (defScope sBlo) := ⟨rfl, rfl, rfl, by decide +kernel, rfl, by decide +kernel, by decide +kernel⟩
/-- what is told of block i -/
def bloM (s : Pl) (i : Nat) : Str × List Str := (if i ∈ s.free then "free" else if i ∈ s.clo then "closed" else "open", keptN (s.cont.getD i []))
def BlAt (H : Hp) (a : Addr) (t : Str × List Str) : Prop := ∃ q, H a = some (.tup [.str t.1, .ref q]) ∧ H q = some (.tup (t.2.map V.str))
theorem BlAt.same {H H' : Hp} {a : Addr} {t : Str × List Str} (h : BlAt H a t) (s : Same H H') : BlAt H' a t := by
  obtain ⟨q, h1, h2⟩ := h
  exact ⟨q, s _ _ h1, s _ _ h2⟩
theorem BlAt.upd {H : Hp} {a c : Addr} {t : Str × List Str} {xs : List V} {o : HO} (h : BlAt H a t) (hc : H c = some (.lst xs)) : BlAt (L2.upd H c o) a t := by
  obtain ⟨q, h1, h2⟩ := h
  exact ⟨q, by rw [upd_ne (ne_of h1 hc (by intro z; cases z))]; exact h1, by rw [upd_ne (ne_of h2 hc (by intro z; cases z))]; exact h2⟩
theorem eqV_nat (a k : Nat) : eqV (nV a) (nV k) = decide (a = k) := by
  show ((a : Int) == (k : Int)) = decide (a = k)
  by_cases e : a = k
  · rw [decide_eq_true e, e]
    exact beq_self_eq_true _
  · rw [decide_eq_false e, beq_eq_false_iff_ne]
    exact fun z => e (by omega)
theorem inV_nat : ∀ (l : List Nat) (k : Nat), inV (nV k) (l.map nV) = decide (k ∈ l)
  | [], k => rfl
  | a :: l, k => by
    have ih := inV_nat l k
    unfold inV at ih ⊢
    rw [List.map_cons, List.any_cons, ih, eqV_nat]
    by_cases e : a = k
    · subst e
      simp
    · have e2 : ¬ k = a := fun z => e z.symm
      simp [e, e2]
theorem flat_nat : ∀ l : List Nat, (l.map nV).all flatV = true
  | [] => rfl
  | _ :: l => by rw [List.map_cons, List.all_cons, flat_nat l]; rfl
def spBlo (K : PySem.W.Frag) (T : List (Addr × Str)) (CD C : Addr) : Sp := fun vs H Q _ => ∃ (dr ld : Addr) (eas : List Addr) (es : List (Str × Str)) (b p n : Nat) (ini : List RowD) (y : Str), vs = [.ref dr, .ref ld] ∧ SqT K H ld (eas.map V.ref) ∧ Paired (fun (a : Addr) (e : Str × Str) => SqT K H a [.str e.1, .str e.2]) eas es ∧ DrvAt K CD H dr b p n ini y ∧ b ≤ 10 ∧ (∀ r ∈ ini ++ [((p : Int), y)], r.2 ∈ wordsL) ∧ LoadOk p n (ini ++ [((p : Int), y)]) (newP b) es ∧ es.length ≤ 2000 ∧ Tabs T H ∧
  (∀ s', PlaysTo p (ini ++ [((p : Int), y)]) (newP b) es s' → s'.cont.length ≤ 10 ∧ ∀ c ∈ s'.cont, c.length ≤ 10) ∧
  ∀ (H' : Hp) (t : Addr) (rs : List Addr) (s' : Pl), PlaysTo p (ini ++ [((p : Int), y)]) (newP b) es s' → H' t = some (.tup (rs.map V.ref)) → Paired (BlAt H') rs ((List.range s'.cont.length).map (bloM s')) → ExtN H H' → Tabs T H' → Q (.ref t) H'
theorem state_read {K : PySem.W.Frag} {C x : Addr} {H : Hp} {s : Pl} {A : PAd} {σ : L2.St} {Q : VK} {i : Nat} (PC : PCls K C) (p : PlayAt C H x s A) (h4 : σ[4]? = some (some (nV i))) (h2 : σ[2]? = some (some (.ref x))) (h : Q (.str (bloM s i).1) H) :
    tIf (tTest (tOp (rIn K false) (tVar 4) (tFld K (tVar 2) "free"))) (tC (.str "free")) (tIf (tTest (tOp (rIn K false) (tVar 4) (tFld K (tVar 2) "closed"))) (tC (.str "closed")) (tC (.str "open"))) σ H Q := by
  refine ⟨_, h4, _, h2, x, C, A.dx, _, _, rfl, p.ins, PC.cl, PC.n4, rfl, A.af, _, rfl, .inl (SqL.of p.free), rfl, flat_nat _, _, rfl, ?_⟩
  show (if inV (nV i) (s.free.map nV) = true then _ else _)
  rw [inV_nat]
  unfold bloM at h
  by_cases e : i ∈ s.free
  · rw [decide_eq_true e]
    rw [if_pos e] at h
    exact iteT h
  · rw [decide_eq_false e]
    rw [if_neg e] at h
    refine iteF ⟨_, h4, _, h2, x, C, A.dx, _, _, rfl, p.ins, PC.cl, PC.n5, rfl, A.acl, _, rfl, .inl (SqL.of p.clo), rfl, flat_nat _, _, rfl, ?_⟩
    show (if inV (nV i) (s.clo.map nV) = true then _ else _)
    rw [inV_nat]
    by_cases e2 : i ∈ s.clo
    · rw [decide_eq_true e2]
      rw [if_pos e2] at h
      exact iteT h
    · rw [decide_eq_false e2]
      rw [if_neg e2] at h
      exact iteF h
section
variable {P : Program} {w : World} {K : PySem.W.Frag} {mg : Str → Option Value} {base : Heap} {CD C : Addr}
theorem ok_blo {f0 : Addr} {fd : FuncData} {T : List (Addr × Str)} (F : Fun K "blocks_of" "blocks_of" sBlo f0 fd) (B : Bl mg) (PC : PCls K C) (GD : FAt P w K mg base 1 "check_drive" ["drive"] (spCkd K CD)) (GL : FAt P w K mg base 7 "play_load" ["drive", "load"] (spLod K T CD C)) : FnOk P w K mg base CX0 8 f0 fd ["drive", "load"] (spBlo K T CD C) := by
  refine F.ok scBlo (fun vs H Q E h => ?_) (fun cdv A0 outer s0 H vs Q E hr h => ?_)
  · obtain ⟨dr, ld, eas, es, b, p, n, ini, y, rfl, _⟩ := h
    rfl
  obtain ⟨dr, ld, eas, es, b, p, n, ini, y, rfl, hld, hes, hd, hb, hwd, hok, hlen, hT, hsz, q⟩ := h
  obtain ⟨fD, dD, GD, kD, bD, gD⟩ := GD.ex
  obtain ⟨fL, dL, GL, kL, bL, gL⟩ := GL.ex
  refine ⟨_, pss_cons (ps_expr (pe_call GD (hr.mono (by decide)) (by rfl) gD kD bD .nil pass0 (pa_cons (pv 0) pa_nil)))
    (pss_cons (ps_set (i := 2) scBlo.nd rfl (.inl rfl) (pe_call GL hr (by rfl) gL kL bL .nil pass0 (pa_cons (pv 0) (pa_cons (pv 1) pa_nil))))
    (pss_cons (ps_set (i := 3) scBlo.nd rfl (.inl rfl) (pe_lst pa_nil))
    (pss_cons (ps_for PassesOwn.never rfl (pi_enum (by rfl) B.enm (pa_cons (pe_fld (pv 2) rfl) pa_nil)) (pg_tup rfl (pgs_cons (pg_name (i := 4) scBlo.nd rfl (.inl rfl)) (pgs_cons (pg_name (i := 5) scBlo.nd rfl (.inl rfl)) pgs_nil)))
      (pss_cons (ps_set (i := 6) scBlo.nd rfl (.inl rfl) (pe_ifExp (pt_cmpR op_in_seq (pv 4) (pe_fld (pv 2) rfl) (by rfl)) pe_str (pe_ifExp (pt_cmpR op_in_seq (pv 4) (pe_fld (pv 2) rfl) (by rfl)) pe_str pe_str)))
      (pss_one (ps_expr (pe_bm PySem.F.plainAttrs_list PySem.F.slot_list_append PySem.F.type_list_append mt_append (pv 3) (pa_cons (pe_tup (pa_cons (pv 6) (pa_cons (pe_callTy call_tuple_of (by rfl) B.tup bTup (pa_cons (pe_lc (own := [("name", 7)]) (g := gName 7) (tt := tTest (tOp (fun x y H Q => y = .non ∧ Q (.bl (!decide (x = .non))) H) (tVar 7) (tC .non))) (te := tVar 7) rfl scBlo.nd (pi_list (pv 5)) (blkOk_by (own := [("name", 7)]) (N := NBlo) (sc := defScope sBlo) (by decide +kernel))
        (fun _ _ _ _ _ => pg_name (i := 7) scBlo.nd rfl (Or.inl rfl)) (fun _ _ _ _ _ => pts_one (pt_cmpR op_notN (pv 7) pe_non (nomark _))) (fun _ _ _ _ _ => pv 7)) pa_nil)) pa_nil))) pa_nil))))))
    (pss_one (ps_ret (pe_callTy call_tuple_of (by rfl) B.tup bTup (pa_cons (pv 3) pa_nil))))))), ?_⟩
  refine ⟨_, rfl, dr, b, p, n, ini, y, rfl, hd, ?_⟩
  dsimp only
  refine seq_asg ?_
  refine call_read ?_
  refine cons_read ⟨_, rfl, cons_read ⟨_, rfl, nil_read ?_⟩⟩
  refine ⟨dr, ld, eas, es, b, p, n, ini, y, rfl, hld, hes, hd, hb, hwd, hok, hlen, hT, fun H1 x s1 A pl1 p1 hdr nx e1 t1 => ?_⟩
  obtain ⟨hcl, hc10⟩ := hsz s1 pl1
  refine seq_asg (lst_read (nil_read ⟨by show 0 ≤ sizeLine; decide, fun tl ntl => ?_⟩))
  refine seq_for fun D' hD1 hD2 => ?_
  have sA : Same H1 (L2.upd H1 tl (.lst [])) := same_lay ntl
  have pA := p1.same sA
  refine ⟨_, rfl, x, C, A.dx, _, _, rfl, pA.ins, PC.cl, PC.n2, rfl, nil_read ⟨A.ac, _, rfl, SqL.of pA.cont, ?_⟩⟩
  have hlr := Paired.length p1.inner
  refine for_enumL (K := K) (xs := A.rcs.map V.ref) (fun i σ H' => ∃ (x4 x5 x6 x7 : Option V) (rs : List Addr), σ = [some (.ref dr), some (.ref ld), some (.ref x), some (.ref tl), x4, x5, x6, x7] ∧ Same H1 H' ∧ H' tl = some (.lst (rs.map V.ref)) ∧ Paired (BlAt H') rs ((List.range i).map (bloM s1))) ⟨none, none, none, none, [], rfl, sA, upd_same, .nil⟩ (fun i σ H' z => ?_) ?_ ?_
  · obtain ⟨_, _, _, _, _, _, z, _⟩ := z
    exact SqL.of (z _ _ p1.cont)
  · rintro i v T1 σ H' hi ⟨x4, x5, x6, x7, rs, rfl, s2, htl, hrs⟩ hT1
    rw [List.getElem?_map] at hi
    obtain ⟨a, ha, rfl⟩ : ∃ a, A.rcs[i]? = some a ∧ V.ref a = v := by
      cases hq : A.rcs[i]? with
      | none => rw [hq] at hi; cases hi
      | some a => rw [hq] at hi; exact ⟨a, rfl, Option.some.inj hi⟩
    obtain ⟨c, hc, hin⟩ := K2.paired_get p1.inner ha
    have hcD : s1.cont.getD i [] = c := by rw [List.getD_eq_getElem?_getD, hc]; rfl
    have hc1 := hc10 c (List.mem_of_getElem? hc)
    have hil := (List.getElem?_eq_some_iff.mp ha).1
    have hrl := Paired.length hrs
    rw [List.length_map, List.length_range] at hrl
    have s3 : Same H' (L2.upd H' T1 (.tup [.int (i : Nat), .ref a])) := same_lay hT1
    refine ⟨T1, _, rfl, SqT.of upd_same, rfl, _, _, rfl, _, _, rfl, rfl, ?_⟩
    generalize L2.upd H' T1 (.tup [.int (i : Nat), .ref a]) = H3 at s3 ⊢
    have p3 := p1.same (s2.trans s3)
    refine seq_asg (state_read (i := i) PC p3 rfl rfl ?_)
    refine ⟨_, rfl, .inl ⟨rfl, _, SqL.of (s3 _ _ htl)⟩, cons_read (tup_read (cons_read ⟨_, rfl, cons_read (cb_read (cons_read ⟨_, rfl, a, rfl, ⟨_, SqL.of (s3 _ _ (s2 _ _ hin))⟩, fun D hD => ?_⟩))⟩))⟩
    refine lc_list (K := K) (xs := c.map oS) (fun j H4 => Same H3 H4 ∧ H4 D = some (.lst ((keptN (c.take j)).map V.str))) ⟨same_lay hD, upd_same⟩ (fun j H4 _ z => SqL.of (z.1 _ _ (s3 _ _ (s2 _ _ hin)))) ?_ ?_
    · rintro j v H4 hj ⟨sj, ej⟩
      rw [List.getElem?_map] at hj
      obtain ⟨o, ho, rfl⟩ : ∃ o, c[j]? = some o ∧ oS o = v := by
        cases hq : c[j]? with
        | none => rw [hq] at hj; cases hj
        | some o => rw [hq] at hj; exact ⟨o, rfl, Option.some.inj hj⟩
      have hjl := (List.getElem?_eq_some_iff.mp ho).1
      have htk : c.take (j + 1) = c.take j ++ [o] := by rw [List.take_add_one, ho]; rfl
      refine ⟨rfl, test_read6 (op_read ⟨_, rfl, c_read ⟨rfl, _, rfl, ?_⟩⟩)⟩
      cases o with
      | none =>
        refine iteF ⟨sj, ?_⟩
        rw [htk, kept_snoc, List.append_nil]
        exact ej
      | some z =>
        refine iteT ⟨_, rfl, _, ej, ?_, fun d u e => ?_, ?_⟩
        · have := kept_len (c.take j)
          rw [List.length_take] at this
          rw [List.length_map, sizeLine_eq]
          omega
        · rw [upd_ne (ne_of_none e hD)]
          exact sj _ _ e
        · rw [upd_same, htk, kept_snoc, List.map_append]
          rfl
    rintro H4 ⟨s4, hD4⟩
    rw [List.length_map, List.take_length] at hD4
    refine nil_read ⟨D, _, rfl, .inl ⟨SqL.of hD4, fun q1 nq1 => ?_⟩⟩
    refine nil_read ⟨by show 2 ≤ sizeLine; decide, fun u nu => nil_read ⟨tl, rs.map V.ref, _, rfl, rfl, ?_, ?_, ?_⟩⟩
    · exact (same_lay nu) _ _ ((same_lay nq1) _ _ (s4 _ _ (s3 _ _ htl)))
    · rw [List.length_map, sizeLine_eq]; omega
    have sU : Same H' (L2.upd (L2.upd H4 q1 (.tup ((keptN c).map V.str))) u (.tup [.str (bloM s1 i).1, .ref q1])) := s3.trans (s4.trans ((same_lay nq1).trans (same_lay nu)))
    have bU : BlAt (L2.upd (L2.upd H4 q1 (.tup ((keptN c).map V.str))) u (.tup [.str (bloM s1 i).1, .ref q1])) u (bloM s1 i) := ⟨q1, upd_same, by
      have e5 : (bloM s1 i).2 = keptN c := by
        show keptN (s1.cont.getD i []) = keptN c
        rw [hcD]
      rw [e5]
      exact (same_lay nu) _ _ upd_same⟩
    dsimp only
    generalize L2.upd (L2.upd H4 q1 (.tup ((keptN c).map V.str))) u (.tup [.str (bloM s1 i).1, .ref q1]) = H5 at sU bU ⊢
    refine ⟨_, _, _, _, rs ++ [u], rfl, fun d o e => ?_, ?_, ?_⟩
    · rw [upd_ne (ne_of_none e ntl)]
      exact sU _ _ (s2 _ _ e)
    · rw [upd_same, List.map_append]
      rfl
    · rw [List.range_succ, List.map_append]
      exact K2.paired_snoc (Paired.mapP hrs fun _ _ z => (z.same sU).upd (sU _ _ htl)) (bU.upd (sU _ _ htl))
  · rintro σ H' ⟨x4, x5, x6, x7, rs, rfl, s2, htl, hrs⟩
    rw [hD1]
    rw [List.length_map, hlr] at hrs
    refine ret_read (cb_read (cons_read ⟨_, rfl, nil_read ⟨tl, _, rfl, .inl ⟨SqL.of htl, fun t nt => ?_⟩⟩⟩))
    have sT : Same H' (L2.upd H' t (.tup (rs.map V.ref))) := same_lay nt
    exact q _ t rs s1 pl1 upd_same (Paired.mapP hrs fun _ _ z => z.same sT) (e1.trans (.of (s2.trans sT))) (t1.ext (s2.trans sT))
end
end K6

set_option Elab.async false
set_option linter.all false
set_option maxRecDepth 100000
set_option maxHeartbeats 4000000
namespace K6
open PySem PySem.Spec PyProof.Rows L2 G1 G2 K2 G5 LamX
abbrev sStp : Stmt := topS 63
abbrev NStp : List Str := ["drive", "load", "told"]
theorem scStp : GScope NStp ["drive", "load"] (defScope sStp) := ⟨rfl, rfl, rfl, by decide +kernel, rfl, by decide +kernel, by decide +kernel⟩
def spStp (K : PySem.W.Frag) (T : List (Addr × Str)) (CD C : Addr) : SpG := fun vs H Q _ => ∃ (dr ld : Addr) (eas : List Addr) (es : List (Str × Str)) (b p n : Nat) (ini : List RowD) (y : Str), vs = [.ref dr, .ref ld] ∧ SqT K H ld (eas.map V.ref) ∧ Paired (fun (a : Addr) (e : Str × Str) => SqT K H a [.str e.1, .str e.2]) eas es ∧ DrvAt K CD H dr b p n ini y ∧ b ≤ 10 ∧ (∀ r ∈ ini ++ [((p : Int), y)], r.2 ∈ wordsL) ∧ LoadOk p n (ini ++ [((p : Int), y)]) (newP b) es ∧ es.length ≤ 2000 ∧ Tabs T H ∧
  (∀ s', PlaysTo p (ini ++ [((p : Int), y)]) (newP b) es s' → s'.told.length ≤ 10000) ∧
  ∀ (H' : Hp) (rs : List Addr) (s' : Pl), PlaysTo p (ini ++ [((p : Int), y)]) (newP b) es s' → Paired (TldAt H') rs s'.told → ExtN H H' → Tabs T H' → Q (rs.map V.ref) H'
section
variable {P : Program} {w : World} {K : PySem.W.Frag} {mg : Str → Option Value} {base : Heap} {CD C : Addr}
theorem ok_stp {f0 : Addr} {fd : FuncData} {T : List (Addr × Str)} (F : Fun K "steps" "steps" sStp f0 fd) (B : Bl mg) (PC : PCls K C) (GD : FAt P w K mg base 1 "check_drive" ["drive"] (spCkd K CD)) (GL : FAt P w K mg base 7 "play_load" ["drive", "load"] (spLod K T CD C)) : GFn P w K mg base 8 f0 fd ["drive", "load"] (spStp K T CD C) := by
  obtain ⟨oc, od, kV, doc, pm, an, cdv, ct, osl, rfl, lk, hcd⟩ := F.ex
  refine gfn_of lk hcd scStp (fun vs H Q E h => ?_) (fun A0 outer s0 H vs Q E pn hr h => ?_)
  · obtain ⟨dr, ld, eas, es, b, p, n, ini, y, rfl, _⟩ := h
    rfl
  obtain ⟨dr, ld, eas, es, b, p, n, ini, y, rfl, hld, hes, hd, hb, hwd, hok, hlen, hT, hsz, q⟩ := h
  obtain ⟨fD, dD, GD, kD, bD, gD⟩ := GD.ex
  obtain ⟨fL, dL, GL, kL, bL, gL⟩ := GL.ex
  refine ⟨_, gss_cons (gs_ps (ps_expr (pe_call GD (hr.mono (by decide)) (by rfl) gD kD bD .nil pass0 (pa_cons (pv 0) pa_nil))))
    (gss_cons (gs_ps (ps_set (i := 2) scStp.nd rfl (.inl rfl) (pe_fld (pe_call GL hr (by rfl) gL kL bL .nil pass0 (pa_cons (pv 0) (pa_cons (pv 1) pa_nil))) rfl)))
    (gss_cons (gs_yieldFrom (yf_lst (pv 2)) hr.hd) gss_nil)), ?_⟩
  refine ⟨_, rfl, dr, b, p, n, ini, y, rfl, hd, ?_⟩
  refine ⟨_, rfl, _, rfl, dr, ld, eas, es, b, p, n, ini, y, rfl, hld, hes, hd, hb, hwd, hok, hlen, hT, fun H1 x s1 A pl1 p1 hdr nx e1 t1 => ?_⟩
  refine ⟨x, C, A.dx, _, _, rfl, p1.ins, PC.cl, PC.n8, rfl, ?_⟩
  have hl := hsz s1 pl1
  have hrl := Paired.length p1.tat
  refine ⟨_, rfl, A.ta, _, rfl, p1.told, ?_, ?_⟩
  · rw [sizeLine_eq, List.length_map]
    show 0 + _ ≤ _
    omega
  · exact q H1 A.rt s1 pl1 p1.tat e1 t1
end
end K6

set_option Elab.async false
set_option linter.all false
set_option maxRecDepth 100000
set_option maxHeartbeats 4000000
/-! is a tuple in a set of tuples -/
namespace G5
open PySem PySem.Spec PyProof.Rows L2 Builtin
section
variable {P : Program} {w : World} {A : Around} {E : Value → Shared → Prop} {s : Shared}
variable {a : Addr} {Lz : List (Addr × List Int)} {es : Array (Int × Value)} {ep : Nat} {t : SetTable}
theorem look_from (Rz : SetTR P w s.heap a Lz es ep t) {xz : Addr} {kz : List Int} (hxz : IsT P w s.heap kz xz) (hu : A.units < cLine) {K : Nat} (hKg : K < 10 * SetTable.turns t.mask)
    (hKz : way t.mask (thash P w kz) K ∉ t.place.toList) (hKc : ∀ c, c < K → way t.mask (thash P w kz) c ∈ t.place.toList) {Q : SetFound → Shared → Prop}
    (hyes : ∀ i, kz ∈ Lz.map (·.2) → Q (.there (some i)) s) (hnot : kz ∉ Lz.map (·.2) → Q (.free (way t.mask (thash P w kz) K) false) s) :
    ∀ (f c : Nat) (stand : Option SetTable.Probe), stand.getD (t.probeStart (thash P w kz)) = nth t.mask (runAt t.mask (SetTable.bits (thash P w kz) % (t.mask + 1)) (SetTable.bits (thash P w kz))) c → c ≤ K → K - c < f →
      (∀ (i : Nat) p, Lz[i]? = some p → p.2 = kz → ∃ c', c ≤ c' ∧ c' < K ∧ t.place.toList[i]? = some (way t.mask (thash P w kz) c')) →
      wpAny (model P w) A (setSearchFrom a (.ref xz) (thash P w kz) false f stand) Q E s
  | 0, c, stand, _, _, hf, _ => absurd hf (Nat.not_lt_zero _)
  | f + 1, c, stand, hstz, hc, hf, hrest => by
    obtain ⟨o, ho, hex, hd⟩ := Rz.ob
    rw [setSearchFrom_succ]
    refine wpAny_bind (wpAny_setState_of ho hd Rz.fits ?_)
    dsimp only
    refine wp_if_neg Rz.gw ?_
    ( try refine wpAny_bind (wpAny_pure ?_) )
    have hndz : (nth t.mask (runAt t.mask (SetTable.bits (thash P w kz) % (t.mask + 1)) (SetTable.bits (thash P w kz))) c).dummy = none := by
      have keyz : ∀ (n : Nat) (p : SetTable.Probe), p.dummy = none → (nth t.mask p n).dummy = none := by
        intro n
        induction n with
        | zero => intro p h; exact h
        | succ n ih =>
          intro p h
          refine ih (adv t.mask p) ?_
          unfold adv
          split <;> exact h
      exact keyz c _ rfl
    have shz : ∀ qz, nth t.mask (nth t.mask (runAt t.mask (SetTable.bits (thash P w kz) % (t.mask + 1)) (SetTable.bits (thash P w kz))) c) qz = nth t.mask (runAt t.mask (SetTable.bits (thash P w kz) % (t.mask + 1)) (SetTable.bits (thash P w kz))) (c + qz) := fun qz => (nth_add t.mask c _ qz).symm
    have ez1 : ∀ qz, (nth t.mask (nth t.mask (runAt t.mask (SetTable.bits (thash P w kz) % (t.mask + 1)) (SetTable.bits (thash P w kz))) c) qz).j = way t.mask (thash P w kz) (c + qz) := fun qz => congrArg SetTable.Probe.j (shz qz)
    have spc := go_spec t Rz.tab.ris Rz.tab.dm (fun i => (es[i]?.map (·.1)).getD 0) (thash P w kz) (10 * SetTable.turns t.mask) (K - c) _ hndz (by omega)
      (fun qz hq => by rw [ez1]; exact hKc (c + qz) (by omega)) (by rw [ez1, show c + (K - c) = K by omega]; exact hKz)
    have hashz : ∀ (i : Nat) p, Lz[i]? = some p → (fun i => (es[i]?.map (·.1)).getD 0) i = thash P w p.2 := fun i p hpz => by
      show (es[i]?.map (·.1)).getD 0 = _
      rw [Rz.entry hpz] <;> rfl
    rcases spc with ⟨qz, i, hq, hiz, hh, hnone, hprz⟩ | ⟨hnone, hprz⟩
    · -- a candidate
      have hpr' : t.probe (fun i => (es[i]?.map (·.1)).getD 0) (thash P w kz) (stand.getD (t.probeStart (thash P w kz))) = some (.candidate (way t.mask (thash P w kz) (c + qz)) i (nth t.mask (runAt t.mask (SetTable.bits (thash P w kz) % (t.mask + 1)) (SetTable.bits (thash P w kz))) (c + (qz + 1)))) := by
        rw [hstz, ← ez1, ← shz]
        exact hprz
      rw [hpr']
      dsimp only
      rw [ez1] at hiz
      -- the entry
      have hilz : i < Lz.length := by
        have h1 : i < t.place.toList.length := (List.getElem?_eq_some_iff.mp hiz).1
        have h2 := Rz.tab.sz
        rw [List.length_map] at h2
        rw [Array.length_toList] at h1
        omega
      have hpz : Lz[i]? = some Lz[i] := List.getElem?_eq_getElem hilz
      generalize hpe : Lz[i] = p at hpz
      have hmemz : p ∈ Lz := List.mem_of_getElem? hpz
      have hptz := Rz.tup p hmemz
      have restz : wpAny (model P w) A (searchRest a (.ref xz) (thash P w kz) false f es t (way t.mask (thash P w kz) (c + qz)) i (nth t.mask (runAt t.mask (SetTable.bits (thash P w kz) % (t.mask + 1)) (SetTable.bits (thash P w kz))) (c + (qz + 1)))) Q E s := by
        unfold searchRest
        rw [Rz.entry hpz]
        dsimp only
        refine wpAny_bind (wpAny_holding (wpAny_eqBool_tuple hu hptz hxz ?_))
        refine wpAny_bind (wpAny_setState_of ho hd Rz.fits ?_)
        dsimp only
        refine wp_if_neg (by simp) ?_
        ( try refine wpAny_bind (wpAny_pure ?_) )
        rw [sameMem]
        dsimp only
        have hslz : t.slot (way t.mask (thash P w kz) (c + qz)) = .live i := slot_live Rz.tab.ris hiz
        simp only [if_true, hslz, Rz.entry hpz]
        refine wpAny_bind (wpAny_isSame_ref_self (wpAny_bind (wpAny_pure ?_)))
        simp only [if_true]
        by_cases hkkz : p.2 = kz
        · refine wp_if_pos (by simp [hkkz]) ?_
          exact wpAny_pure (hyes i (List.mem_map.mpr ⟨p, hmemz, hkkz⟩))
        · refine wp_if_neg (by simp [hkkz]) ?_
          refine look_from Rz hxz hu hKg hKz hKc hyes hnot f (c + (qz + 1)) _ rfl (by omega) (by omega) fun iz0 pz0 hz0 hk0 => ?_
          obtain ⟨c', a1, a2, a3⟩ := hrest iz0 pz0 hz0 hk0
          refine ⟨c', ?_, a2, a3⟩
          -- it isn't passed
          rcases Nat.lt_or_ge c' (c + qz) with z | z
          · exfalso
            refine hnone (c' - c) iz0 (by omega) (by rw [ez1, show c + (c' - c) = c' by omega]; exact a3) ?_
            exact (hashz iz0 pz0 hz0).trans (congrArg (thash P w) hk0)
          · rcases Nat.lt_or_ge (c + qz) c' with y | y
            · omega
            · exfalso
              have ec : c' = c + qz := Nat.le_antisymm y z
              rw [ec] at a3
              have sz0 := slot_live Rz.tab.ris a3
              rw [hslz] at sz0
              injection sz0 with sz0
              rw [← sz0, hpz] at hz0
              exact hkkz ((congrArg Prod.snd (Option.some.inj hz0)).trans hk0)
      by_cases hl : t.led = true
      · refine wp_if_neg (by simp [hl]) ?_
        ( try refine wpAny_bind (wpAny_pure ?_) )
        exact restz
      · refine wp_if_pos (by simp [hl]) ?_
        refine wpAny_bind (seen_tup hxz (fun y hy => ?_) ?_)
        · obtain ⟨e, he, ee⟩ := List.mem_map.mp hy
          have he1 : e ∈ es ∧ e.1 = thash P w kz := by simpa using he
          have he2 : e ∈ es.toList := by simpa using he1.1
          rw [Rz.rows] at he2
          obtain ⟨p2, hp2, ez2⟩ := List.mem_map.mp he2
          refine ⟨p2.2, p2.1, ?_, Rz.tup p2 hp2⟩
          rw [← ee, ← ez2]
        · refine wp_if_neg (by decide) ?_
          ( try refine wpAny_bind (wpAny_pure ?_) )
          exact restz
    · -- the empty slot
      have hpr' : t.probe (fun i => (es[i]?.map (·.1)).getD 0) (thash P w kz) (stand.getD (t.probeStart (thash P w kz))) = some (.empty (way t.mask (thash P w kz) K) none) := by
        have ez2 : way t.mask (thash P w kz) K = (nth t.mask (nth t.mask (runAt t.mask (SetTable.bits (thash P w kz) % (t.mask + 1)) (SetTable.bits (thash P w kz))) c) (K - c)).j := by
          rw [ez1, show c + (K - c) = K by omega]
        rw [hstz, ez2]
        exact hprz
      rw [hpr']
      dsimp only
      refine wpAny_pure (hnot fun hm => ?_)
      obtain ⟨pz0, hz0, hk0⟩ := List.mem_map.mp hm
      obtain ⟨iz0, hi0, e0⟩ := List.getElem_of_mem hz0
      have h00 : Lz[iz0]? = some pz0 := by rw [List.getElem?_eq_getElem hi0, e0]
      obtain ⟨c', a1, a2, a3⟩ := hrest iz0 pz0 h00 hk0
      refine hnone (c' - c) iz0 (by omega) (by rw [ez1, show c + (c' - c) = c' by omega]; exact a3) ?_
      exact (hashz iz0 pz0 h00).trans (congrArg (thash P w) hk0)

theorem look_at (Rz : SetTR P w s.heap a Lz es ep t) {xz : Addr} {kz : List Int} (hxz : IsT P w s.heap kz xz) (hu : A.units < cLine) {Q : Option Nat → Shared → Prop} (hyes : ∀ i, kz ∈ Lz.map (·.2) → Q (some i) s) (hnot : kz ∉ Lz.map (·.2) → Q none s) :
    wpAny (model P w) A (setFind a (.ref xz) (thash P w kz)) Q E s := by
  obtain ⟨o, ho, hex, hd⟩ := Rz.ob
  have hroom := Rz.room
  obtain ⟨K, hKg, hKz, hKc⟩ := Rz.tab.first (by rw [List.length_map]; omega) (thash P w kz)
  have hbig : K < 100000 := by
    have z : 10 * SetTable.turns t.mask ≤ 1420 := by
      unfold SetTable.turns
      rcases Rz.tab.mok with e | e | e <;> omega
    omega
  unfold setFind
  rw [show (100000 : Nat) = 99999 + 1 from rfl]
  unfold setFindIn
  refine wpAny_bind (wpAny_setState_of ho hd Rz.fits ?_)
  dsimp only
  refine wp_if_neg (by simp [byScan, Value.scannable]) ?_
  ( try refine wpAny_bind (wpAny_pure ?_) )
  unfold setSearch
  refine wpAny_bind (look_from Rz hxz hu hKg hKz hKc (fun i hm => ?_) (fun hn => ?_) 100000 0 none rfl (Nat.zero_le _) (by omega) fun i p hp hk => ?_)
  · exact wpAny_pure (hyes i hm)
  · exact wpAny_pure (hnot hn)
  · have hi : (Lz.map fun p => thash P w p.2)[i]? = some (thash P w kz) := by rw [List.getElem?_map, hp, ← hk] <;> rfl
    have hil : i < t.place.toList.length := by
      have z1 : i < Lz.length := (List.getElem?_eq_some_iff.mp hp).1
      have z2 := Rz.tab.sz
      rw [List.length_map] at z2
      rw [Array.length_toList]
      omega
    have hj := List.getElem?_eq_getElem hil
    obtain ⟨c, hc, e⟩ := Rz.tab.before hKz hi hj
    exact ⟨c, Nat.zero_le _, hc, by rw [hj, e]⟩
/-- x in a set -/
theorem in_set (Rz : SetTR P w s.heap a Lz es ep t) {xz : Addr} {kz : List Int} (hxz : IsT P w s.heap kz xz) (hu : A.units + 64 < cLine) {Q : Value → Shared → Prop} (hQ : ∀ n c, (c = true ↔ kz ∈ Lz.map (·.2)) → Q (.bool c) { s with toks := n }) : wpAny (model P w) A (compareOp .In (.ref xz) (.ref a)) Q E s := by
  have hT : s.TypeIs (.ref a) "set" := by
    obtain ⟨o, ho, hex, hd⟩ := Rz.ob
    exact ⟨o, ho, hex.1⟩
  show wpAny _ _ (do return .bool (← contains (.ref a) (.ref xz))) Q E s
  (refine wpAny_bind ?_; unfold contains; try with_reducible refine wpAny_holding ?_)
  refine wpAny_bind (wpAny_specialOf hT F.slot_set_contains.lookup ?_)
  show wpAny _ _ (if (some (Value.builtin "set.__contains__") == some Value.none) = true then _ else _) _ E s
  rw [if_neg (by rw [beq_builtin_none]; exact Bool.false_ne_true)]
  refine wpAny_bind (wpAny_callSpecialUnlessNone?_slot (name := Str.ofString "__contains__") hT F.slot_set_contains (wpAny_call_entry F.slot_set_contains hT entry_set_contains ?_ (F.args_set_contains_2 _ _)))
  (unfold Builtin.«frozenset.__contains__» Builtin.Frozenset.oneOther; simp only [List.isEmpty_nil, bind_assoc]; unfold Builtin.Frozenset.addrOf Builtin.Frozenset.withSetAsKey setContains)
  (refine wpAny_bind (wpAny_pure ?_); try dsimp only)
  (refine wpAny_bind (wpAny_pure ?_); try dsimp only)
  (refine wpAny_bind (wpAny_tryCatch ?_); refine wpAny_holding ?_)
  refine wpAny_bind ((TK P w).pyHash (k := kz) (by show _ < _; simp; omega) hxz ?_)
  refine wpAny_bind (look_at (s := { s with toks := s.toks + (TK P w).draws kz }) Rz hxz (by simp; omega) (fun i hm => ?_) (fun hn => ?_))
  · (refine wpAny_pure ?_; show wpAny _ _ (ret (Value.bool true)) _ _ _)
    exact wpAny_pure ⟨_, rfl, wpAny_truthy_bool (wpAny_pure (hQ _ true ⟨fun _ => hm, fun _ => rfl⟩))⟩
  · (refine wpAny_pure ?_; show wpAny _ _ (ret (Value.bool false)) _ _ _)
    exact wpAny_pure ⟨_, rfl, wpAny_truthy_bool (wpAny_pure (hQ _ false ⟨fun z => (Bool.noConfusion z), fun z => absurd z hn⟩))⟩
end
section
variable {X : Cx}
def rInTs (K : PySem.W.Frag) (P : Program) (w : World) : R2 := fun x y H Q => ∃ (b a : Addr) (k : List Int) (L : List (Addr × List Int)), x = .ref b ∧ y = .ref a ∧ SqT K H b (k.map V.int) ∧ H a = some (SetTO P w a L) ∧ TupsOf K H L ∧ ∀ c : Bool, (c = true ↔ k ∈ L.map (·.2)) → Q (.bl c) H
theorem op_inTs (hu : X.A.units + 64 < cLine) : OpR X (compareOp .In) (rInTs X.K X.prog X.w) := by
  intro pins s σ H x y v u Q I rx ry h
  obtain ⟨b, a, k, L, rfl, rfl, hb, ha, hL, q⟩ := h
  cases rx
  cases ry
  obtain ⟨es, ep, t, R⟩ := set_full I ha hL
  exact in_set R (I.isT hb) hu fun n c hc => ⟨.bl c, H, I.tok n, rfl, q c hc⟩
end
end G5

set_option Elab.async false
set_option linter.all false
set_option maxRecDepth 100000
set_option maxHeartbeats 4000000
/-! one object changes: what stays -/
namespace K6
open PySem PySem.Spec PyProof.Rows L2 G1 G2 K2 G5 LamX
theorem set_ne_code {P : Program} {w : World} {a : Addr} {L : List (Addr × List Int)} {q : Str} : SetTO P w a L ≠ CodeO a q := fun e => by
  have e' := HO.ext.inj e
  let oc : Obj := { cls := .none, data := .fields #[Value.none, Value.str q default] }
  let h : Heap := { objs := Array.replicate (a + 1) oc }
  have hg : h.get? a = some oc := by
    unfold Heap.get?
    have z : h.objs[a]? = some oc := by
      show (Array.replicate (a + 1) oc)[a]? = some oc
      rw [Array.getElem?_replicate, if_pos (by omega)]
    rw [z]
  have hc : ∃ (oc : Obj) (vs : Array Value) (t : Tok), h.get? a = some oc ∧ oc.data = .fields vs ∧ vs[1]? = some (.str q t) := ⟨oc, _, default, hg, rfl, rfl⟩
  have z := congrFun e' h
  have z : SetT0 P w h a L = ∃ (oc : Obj) (vs : Array Value) (t : Tok), h.get? a = some oc ∧ oc.data = .fields vs ∧ vs[1]? = some (.str q t) := z
  rw [← z] at hc
  obtain ⟨es, ep, t, ⟨o, ho, _, hd⟩, _⟩ := SetT0.ex hc
  rw [hg] at ho
  cases ho
  cases hd
section
variable {K : PySem.W.Frag} {CD C x a : Addr} {H H' : Hp} {s : Pl} {A : PAd} {o : HO}
theorem tup_kind {c : Addr} {xs : List V} (h : SqT K H c xs) (ha : H a = some o) (h1 : ∀ xs, o ≠ .tup xs) (h2 : ∀ ob z, o ≠ .frz ob z) (k : ∀ b u, b ≠ a → H b = some u → H' b = some u) : SqT K H' c xs := by
  rcases h with (h | ⟨ob, h⟩) | h
  · exact .inl (.inl (k _ _ (ne_of h ha (Ne.symm (h1 _))) h))
  · exact .inl (.inr ⟨ob, k _ _ (ne_of h ha (Ne.symm (h2 _ _))) h⟩)
  · exact .inr h
theorem drv_kind {b p n : Nat} {ini : List RowD} {y : Str} {d : Addr} (h : DrvAt K CD H d b p n ini y) (ha : H a = some o) (h1 : ∀ xs, o ≠ .tup xs) (h2 : ∀ ob z, o ≠ .frz ob z) (h3 : ∀ C dx fs, o ≠ .ins C dx fs) (k : ∀ b u, b ≠ a → H b = some u → H' b = some u) : DrvAt K CD H' d b p n ini y := by
  obtain ⟨dx, t, e1, rs, e2, e3⟩ := h
  exact ⟨dx, t, k _ _ (ne_of e1 ha (Ne.symm (h3 _ _ _))) e1, rs, tup_kind e2 ha h1 h2 k, Paired.mapP e3 fun _ _ z => tup_kind z ha h1 h2 k⟩
theorem play_but (h : PlayAt C H x s A) (na : a ∉ A.foot x) (ha : H a = some o) (h1 : ∀ xs, o ≠ .tup xs) (k : ∀ b u, b ≠ a → H b = some u → H' b = some u) : PlayAt C H' x s A := by
  have nf : ∀ b ∈ A.foot x, b ≠ a := fun b hb z => na (z ▸ hb)
  have e : ∀ {b : Addr} {u : HO}, b ∈ A.foot x → H b = some u → H' b = some u := fun {b u} hb => k b u (nf b hb)
  have et : ∀ {b : Addr} {xs : List V}, H b = some (.tup xs) → H' b = some (.tup xs) := fun {b xs} hb => k b _ (ne_of hb ha (Ne.symm (h1 _))) hb
  have mem : ∀ b ∈ A.ls, b ∈ A.foot x := fun b hb => foot_ls hb
  refine ⟨e foot_x h.ins, e (mem _ (by unfold PAd.ls; simp)) h.cont, ?_, e (mem _ (by unfold PAd.ls; simp)) h.liv, e (mem _ (by unfold PAd.ls; simp)) h.free, e (mem _ (by unfold PAd.ls; simp)) h.clo, e (by unfold PAd.foot; simp) h.hom, e (mem _ (by unfold PAd.ls; simp)) h.told, Paired.mapP h.tat fun _ _ z => ?_, h.nd⟩
  · have key : ∀ {rs : List Addr} {cs : List (List (Option Str))}, (∀ r ∈ rs, r ∈ A.ls) → Paired (fun (a : Addr) (c : List (Option Str)) => H a = some (.lst (c.map oS))) rs cs → Paired (fun (a : Addr) (c : List (Option Str)) => H' a = some (.lst (c.map oS))) rs cs := by
      intro rs cs hr hp
      induction hp with
      | nil => exact .nil
      | cons r t ih => exact .cons (e (mem _ (hr _ (List.mem_cons_self ..))) r) (ih fun z hz => hr z (List.mem_cons_of_mem _ hz))
    exact key (fun r hr => by unfold PAd.ls; simp [hr]) h.inner
  · obtain ⟨q, z1, z2⟩ := z
    exact ⟨q, et z1, et z2⟩
theorem tabs_set {T : List (Addr × Str)} {P : Program} {w : World} {L : List (Addr × List Int)} (t : Tabs T H) (ha : H a = some (SetTO P w a L)) (k : ∀ b u, b ≠ a → H b = some u → H' b = some u) : Tabs T H' := fun p hp => by
  obtain ⟨ps, e1, e2, e3⟩ := t p hp
  refine ⟨ps, k _ _ (ne_of e1 ha (by intro z; cases z)) e1, e2, fun pos cv hc => ?_⟩
  obtain ⟨c, f1, f2⟩ := e3 pos cv hc
  refine ⟨c, f1, k _ _ (fun z => ?_) f2⟩
  subst z
  rw [ha] at f2
  exact set_ne_code (Option.some.inj f2)
theorem foot_back {T : List Addr} {b : Addr} (f : FrmN T H H') (h : H' b = none) : b ∈ T ∨ NwN H b := by
  by_cases z : b ∈ T
  · exact .inl z
  · refine .inr fun u e => ?_
    by_cases t : ∃ ps, u = .tbl ps
    · exact t
    · have := f b u e z fun ps q => t ⟨ps, q⟩
      rw [h] at this
      cases this
end
end K6

set_option Elab.async false
set_option linter.all false
set_option maxRecDepth 100000
set_option maxHeartbeats 4000000
/-! bring_name with any number of cleanings, or a write that sticks -/
namespace K6
open PySem PySem.Spec PyProof.Rows L2 G1 G2 K2 G5 LamX
inductive Cleans (p : Nat) (rows : List RowD) : List (List Int) → Pl → Pl → Nat → List Nat → Int → Prop
  | stop {seen : List (List Int)} {s : Pl} {k : Nat} : s.fil = some k → Cleans p rows seen s s k [] 0
  | step {seen : List (List Int)} {s s2 : Pl} {i j f k : Nat} {cl : List Nat} {cp : Int} : s.fil = none → s.free = [f] → s.clo[i]? = some j → cntP s ∉ seen → PickR rows (cntP s) i → Cleans p rows (cntP s :: seen) (cleanP p s i j f) s2 k cl cp → Cleans p rows seen s s2 k (j :: cl) (s.liv.getD j 0 + cp)
inductive Stuck (p : Nat) (rows : List RowD) : List (List Int) → Pl → Pl → Prop
  | here {seen : List (List Int)} {s : Pl} {f : Nat} : s.fil = none → s.free = [f] → cntP s ∈ seen → Stuck p rows seen s s
  | step {seen : List (List Int)} {s s2 : Pl} {i j f : Nat} : s.fil = none → s.free = [f] → s.clo[i]? = some j → cntP s ∉ seen → PickR rows (cntP s) i → Stuck p rows (cntP s :: seen) (cleanP p s i j f) s2 → Stuck p rows seen s s2
def OpnG (p : Nat) (rows : List RowD) (s s1 : Pl) (k : Nat) (cl : List Nat) (cp : Int) : Prop :=
  (s.fil = none ∧ 1 < s.free.length ∧ s.free[0]? = some k ∧ s1 = { s with free := s.free.eraseIdx 0, fil := some k } ∧ cl = [] ∧ cp = 0) ∨ ((s.fil = none → s.free.length ≤ 1) ∧ Cleans p rows [] s s1 k cl cp)
/-- a state at which a block may be cleaned -/
structure Ready (p : Nat) (s : Pl) (f : Nat) : Prop where
  fre : s.free = [f]
  fit : Fit2 s
  fl : f < s.cont.length
  fe : s.cont.getD f [] = []
  ne : s.clo ≠ []
  clo : ∀ k ∈ s.clo, k < s.cont.length ∧ f ≠ k ∧ s.liv.getD k 0 ≤ (p : Int) ∧ (keptN (s.cont.getD k [])).length ≤ p
  told : s.told.length ≤ 10000
structure Opened (s : Pl) (k : Nat) : Prop where
  fil : s.fil = some k
  lt : k < s.cont.length
  fit : Fit s
  told : s.told.length ≤ 10000
/-- it goes on, with so many cleanings at most, till a block is open; st: it may stick -/
def CleanOk (p : Nat) (rows : List RowD) (st : Bool) : Nat → List (List Int) → Pl → Prop
  | 0, _, s => ∃ k, Opened s k
  | m + 1, seen, s => (∃ k, Opened s k) ∨ (s.fil = none ∧ ∃ f, Ready p s f ∧ (cntP s ∈ seen → st = true) ∧ (cntP s ∉ seen → ∀ i j, PickR rows (cntP s) i → s.clo[i]? = some j → CleanOk p rows st m (cntP s :: seen) (cleanP p s i j f)))
structure BrgG (p : Nat) (rows : List RowD) (st : Bool) (s : Pl) : Prop where
  fit : Fit2 s
  fil : ∀ k, s.fil = some k → k < s.cont.length
  fre : ∀ k ∈ s.free, k < s.cont.length
  due : s.fil = none → s.free.length ≤ 1 → ∃ m, m ≤ 50 ∧ CleanOk p rows st m [] s
  told : s.told.length ≤ 10000
def spBrgG (K : PySem.W.Frag) (T : List (Addr × Str)) (st : Bool) (CD C : Addr) : Sp := fun vs H Q _ => ∃ (x : Addr) (nm : Str) (s : Pl) (A : PAd) (b p n : Nat) (ini : List RowD) (y : Str), vs = [.ref x, .str nm] ∧ PlayAt C H x s A ∧ BrgG p (ini ++ [((p : Int), y)]) st s ∧ (∀ r ∈ ini ++ [((p : Int), y)], r.2 ∈ wordsL) ∧ DrvAt K CD H A.dr b p n ini y ∧ A.dr ≠ x ∧ Tabs T H ∧
  (∀ (H' : Hp) (A' : PAd) (s1 : Pl) (k : Nat) (cl : List Nat) (cp : Int), OpnG p (ini ++ [((p : Int), y)]) s s1 k cl cp → PlayAt C H' x (putP p { s1 with told := s1.told ++ [(some k, cl, cp)] } k nm) A' → A'.dr = A.dr → FrmN (A.foot x) H H' → (∀ a ∈ A'.foot x, a ∈ A.foot x ∨ NwN H a) → Tabs T H' → Q (.bl true) H') ∧
  (st = true → ∀ (H' : Hp) (A' : PAd) (s2 : Pl), s.fil = none → s.free.length ≤ 1 → Stuck p (ini ++ [((p : Int), y)]) [] s s2 → PlayAt C H' x s2 A' → A'.dr = A.dr → FrmN (A.foot x) H H' → (∀ a ∈ A'.foot x, a ∈ A.foot x ∨ NwN H a) → Tabs T H' → Q (.bl false) H')
theorem not_in_foot {C x a : Addr} {H : Hp} {s : Pl} {A A' : PAd} (h : PlayAt C H x s A) (n : a ∉ A.foot x) (e : H a ≠ none) (g : ∀ c ∈ A'.foot x, c ∈ A.foot x ∨ Nw H c) : a ∉ A'.foot x := fun z => by
  rcases g a z with q | q
  · exact n q
  · exact e q
theorem foot_back_unused : True := trivial
theorem ext_foot {C x a : Addr} {H : Hp} {s : Pl} {A : PAd} {g : Heap → Prop} (h : PlayAt C H x s A) (e : H a = some (.ext g)) : a ∉ A.foot x := foot_out h e (by intro _ z; cases z) (by intro _ z; cases z) (by intro _ _ _ z; cases z)
/-- how the loop stands -/
structure Lop (P : Program) (w : World) (K : PySem.W.Frag) (T : List (Addr × Str)) (CD C : Addr) (p b n : Nat) (ini : List RowD) (y : Str) (rows : List RowD) (x lc se : Addr) (s : Pl) (A : PAd) (H : Hp) (seen : List (List Int)) (s' : Pl) (A' : PAd) (cl : List Nat) (cp : Int) (H' : Hp) : Prop where
  pl : PlayAt C H' x s' A'
  dr : A'.dr = A.dr
  frm : FrmN (A.foot x) H H'
  foot : ∀ a ∈ A'.foot x, a ∈ A.foot x ∨ NwN H a
  lcH : H' lc = some (.lst (cl.map nV))
  nlc : lc ∉ A'.foot x
  set : ∃ L, H' se = some (SetTO P w se L) ∧ TupsOf K H' L ∧ (∀ c, c ∈ L.map (·.2) ↔ c ∈ seen) ∧ L.length = seen.length
  drv : DrvAt K CD H' A.dr b p n ini y
  tab : Tabs T H'
  fw : ∀ s1 k cl2 cp2, Cleans p rows seen s' s1 k cl2 cp2 → Cleans p rows [] s s1 k (cl ++ cl2) (cp + cp2)
  fws : ∀ s2, Stuck p rows seen s' s2 → Stuck p rows [] s s2
section
variable {P : Program} {w : World} {K : PySem.W.Frag} {mg : Str → Option Value} {base : Heap} {CD C : Addr}
theorem ok_brgG {f0 : Addr} {fd : FuncData} {T : List (Addr × Str)} {st : Bool} (F : Fun K "bring_name" "bring_name" sBrg f0 fd) (B : Bl mg) (hset : mg "set" = none) (M : DD P w K mg base CD) (PC : PCls K C) (GP : FAt P w K mg base 3 "put_page" ["play", "name"] (spPut K CD C)) (GC : FAt P w K mg base 4 "clean_place" ["play", "place"] (spCln K CD C)) (GK : FAt P w K mg base 4 "pick" ["rows", "closed"] (spPck K T)) :
    FnOk P w K mg base CX0 5 f0 fd ["play", "name"] (spBrgG K T st CD C) := by
  refine F.ok scBrg (fun vs H Q E h => ?_) (fun cdv A0 outer s0 H vs Q E hr h => ?_)
  · obtain ⟨x, nm, s, A, b, p, n, ini, y, rfl, _⟩ := h
    rfl
  obtain ⟨x, nm, s, A, b, p, n, ini, y, rfl, hp, hok, hwd, hd, hdx, hT, q, qs⟩ := h
  obtain ⟨fP, dP, GP, kP, bP, gP⟩ := GP.ex
  obtain ⟨fC, dC, GC, kC, bC, gC⟩ := GC.ex
  obtain ⟨fK, dK, GK, kK, bK, gK⟩ := GK.ex
  obtain ⟨pp, gp, fp, P2, F2, B2⟩ := M.pr.ex
  have hu := hr.units
  refine ⟨_, pss_cons (ps_set (i := 2) scBrg.nd rfl (.inl rfl) (pe_lst pa_nil))
    (pss_cons (ps_set (i := 3) scBrg.nd rfl (.inl rfl) pe_int)
    (pss_cons (ps_set (i := 4) scBrg.nd rfl (.inl rfl) (pe_callTy0 cr_set0T (by rfl) hset bSet9))
    (pss_cons (ps_while PassesOwn.never (pt_cmpR op_isN (pe_fld (pv 0) rfl) pe_non (nomark _))
      (pss_one (ps_if (pt_cmpR op_gt (pe_callB call_len_seq (by rfl) B.len PySem.boot_len (pa_cons (pe_fld (pv 0) rfl) pa_nil)) pe_int (nomark _))
        (pss_one (ps_fld (pv 0) (pe_bm PySem.F.plainAttrs_list PySem.F.slot_list_pop PySem.F.type_list_pop mt_popAt (pe_fld (pv 0) rfl) (pa_cons pe_int pa_nil)) rfl))
        (pss_cons (ps_set (i := 5) scBrg.nd rfl (.inl rfl) (pe_callTy call_tuple_of (by rfl) B.tup bTup (pa_cons (pe_lc (own := [("block", 7)]) (g := gName 7) (tt := tYes) (te := tOp (rIxL K) (tFld K (tVar 0) "living") (tVar 7)) rfl scBrg.nd (pi_list (pe_fld (pv 0) rfl)) (blkOk_by (own := [("block", 7)]) (N := NBrg) (sc := defScope sBrg) (by decide +kernel))
            (fun _ _ _ _ _ => pg_name (i := 7) scBrg.nd rfl (Or.inl rfl)) (fun _ _ _ _ _ => pts_nil) (fun _ _ _ _ _ => pe_ix ix_list (pe_fld (pv 0) rfl) (pv 7) (fun _ _ => rfl))) pa_nil)))
        (pss_cons (ps_if (pt_cmpR (op_inTs hu) (pv 5) (pv 4) (by rfl)) (pss_one (ps_ret pe_bl)) pss_nil)
        (pss_cons (ps_expr (pe_addT hu (pv 4) (pa_cons (pv 5) pa_nil)))
        (pss_cons (ps_set (i := 6) scBrg.nd rfl (.inl rfl) (pe_call GK hr (by rfl) gK kK bK .nil pass0 (pa_cons (pe_prop (pe_fld (pv 0) rfl) M.T.cl P2 F2 (hr.mono (by decide)) B2 .nil pass0 rfl) (pa_cons (pv 5) pa_nil))))
        (pss_cons (ps_aug (i := 3) scBrg.nd rfl (.inl rfl) (pe_ix ix_tup (pv 5) (pv 6) (fun _ _ => rfl)) ip_add)
        (pss_cons (ps_expr (pe_bm PySem.F.plainAttrs_list PySem.F.slot_list_append PySem.F.type_list_append mt_append (pv 2) (pa_cons (pe_ix ix_list (pe_fld (pv 0) rfl) (pv 6) (fun _ _ => rfl)) pa_nil)))
        (pss_one (ps_expr (pe_call GC hr (by rfl) gC kC bC .nil pass0 (pa_cons (pv 0) (pa_cons (pv 6) pa_nil))))))))))))))
    (pss_cons (ps_expr (pe_bm PySem.F.plainAttrs_list PySem.F.slot_list_append PySem.F.type_list_append mt_append (pe_fld (pv 0) rfl) (pa_cons (pe_tup (pa_cons (pe_fld (pv 0) rfl) (pa_cons (pe_callTy call_tuple_of (by rfl) B.tup bTup (pa_cons (pv 2) pa_nil)) (pa_cons (pv 3) pa_nil)))) pa_nil)))
    (pss_cons (ps_expr (pe_call GP (hr.mono (by decide)) (by rfl) gP kP bP .nil pass0 (pa_cons (pv 0) (pa_cons (pv 1) pa_nil))))
    (pss_one (ps_ret pe_bl))))))), ?_⟩
  generalize erows : ini ++ [((p : Int), y)] = rows at hok hwd q qs
  refine seq_asg (lst_read (nil_read ⟨by show 0 ≤ sizeLine; decide, fun lc nlc => ?_⟩))
  refine seq_asg (c_read ?_)
  refine seq_asg (cb_read (nil_read ⟨rfl, fun se nse => ?_⟩))
  have sA : Same H (L2.upd (L2.upd H lc (.lst [])) se (SetTO P w se [])) := (same_lay nlc).trans (same_lay nse)
  have hlc : (L2.upd (L2.upd H lc (.lst [])) se (SetTO P w se [])) lc = some (.lst []) := (same_lay nse) lc _ upd_same
  have hse : (L2.upd (L2.upd H lc (.lst [])) se (SetTO P w se [])) se = some (SetTO P w se []) := upd_same
  have nse' : H se = none := by
    cases e : H se with
    | none => rfl
    | some o => rw [(same_lay nlc) se o e] at nse; cases nse
  have elc : lc ≠ se := fun z => by rw [← z, upd_same] at nse; cases nse
  show tSeq _ _ _ [some (.ref x), some (.str nm), some (.ref lc), some (.int 0), some (.ref se), none, none, none] (L2.upd (L2.upd H lc (.lst [])) se (SetTO P w se []))
  generalize L2.upd (L2.upd H lc (.lst [])) se (SetTO P w se []) = H2 at sA hlc hse ⊢
  have p1 := hp.same sA
  have d1 := hd.same sA
  have t1 := hT.ext sA
  have f1 : FrmN (A.foot x) H H2 := .of (Frm.same sA)
  refine seq_while9 ?_
  let OpS : L2.St → Hp → Prop := fun σ H' => ∃ (s1 : Pl) (A1 : PAd) (k : Nat) (cl : List Nat) (cp : Int) (x4 x5 x6 x7 : Option V), σ = [some (.ref x), some (.str nm), some (.ref lc), some (.int cp), x4, x5, x6, x7] ∧ OpnG p rows s s1 k cl cp ∧ PlayAt C H' x s1 A1 ∧ Fit s1 ∧ s1.fil = some k ∧ k < s1.cont.length ∧ A1.dr = A.dr ∧ FrmN (A.foot x) H H' ∧ (∀ a ∈ A1.foot x, a ∈ A.foot x ∨ NwN H a) ∧ H' lc = some (.lst (cl.map nV)) ∧ DrvAt K CD H' A.dr b p n ini y ∧ Tabs T H' ∧ s1.told.length ≤ 10000
  let LpS : Nat → L2.St → Hp → Prop := fun m σ H' => ∃ (seen : List (List Int)) (s' : Pl) (A' : PAd) (cl : List Nat) (cp : Int) (x5 x6 x7 : Option V), σ = [some (.ref x), some (.str nm), some (.ref lc), some (.int cp), some (.ref se), x5, x6, x7] ∧ Lop P w K T CD C p b n ini y rows x lc se s A H seen s' A' cl cp H' ∧ s'.fil = none ∧ CleanOk p rows st m seen s' ∧ seen.length + m ≤ 51 ∧ cl.length ≤ seen.length
  have toOp : ∀ (seen : List (List Int)) (s' : Pl) (A' : PAd) (cl : List Nat) (cp : Int) (x4 x5 x6 x7 : Option V) (H' : Hp) (k : Nat), (s.fil = none → s.free.length ≤ 1) → Lop P w K T CD C p b n ini y rows x lc se s A H seen s' A' cl cp H' → Opened s' k → OpS [some (.ref x), some (.str nm), some (.ref lc), some (.int cp), x4, x5, x6, x7] H' := fun seen s' A' cl cp x4 x5 x6 x7 H' k hs lp op => by
    have z := lp.fw s' k [] 0 (.stop op.fil)
    rw [List.append_nil, Int.add_zero] at z
    exact ⟨s', A', k, cl, cp, x4, x5, x6, x7, rfl, .inr ⟨hs, z⟩, lp.pl, op.fit, op.fil, op.lt, lp.dr, lp.frm, lp.foot, lp.lcH, lp.drv, lp.tab, op.told⟩
  have lp0 : Lop P w K T CD C p b n ini y rows x lc se s A H [] s A [] 0 H2 := ⟨p1, rfl, f1, fun a z => .inl z, hlc, not_foot hp nlc, ⟨[], hse, fun p hp => (nomatch hp), fun c => Iff.rfl, rfl⟩, d1, t1, fun s1 k cl2 cp2 z => by rw [Int.zero_add]; exact z, fun s2 z => z⟩
  refine ⟨fun m σ H' => (m = 0 ∧ OpS σ H') ∨ (m = 60 ∧ s.fil = none ∧ 1 < s.free.length ∧ σ = [some (.ref x), some (.str nm), some (.ref lc), some (.int 0), some (.ref se), none, none, none] ∧ H' = H2) ∨ (m ≤ 50 ∧ (s.fil = none ∧ s.free.length ≤ 1) ∧ LpS m σ H'), ?_, ?_⟩
  · cases hfil : s.fil with
    | none =>
      by_cases hlen : 1 < s.free.length
      · exact ⟨60, .inr (.inl ⟨rfl, rfl, hlen, rfl, rfl⟩)⟩
      · obtain ⟨m, hm, hco⟩ := hok.due hfil (by omega)
        exact ⟨m, .inr (.inr ⟨hm, ⟨rfl, by omega⟩, [], s, A, [], 0, _, _, _, rfl, lp0, hfil, hco, by show 0 + m ≤ 51; omega, Nat.le_refl _⟩)⟩
    | some k => exact ⟨0, .inl ⟨rfl, s, A, k, [], 0, _, _, _, _, rfl, .inr ⟨(fun z => by rw [hfil] at z; cases z), .stop hfil⟩, p1, hok.fit.fit, hfil, hok.fil k hfil, rfl, f1, fun a z => .inl z, hlc, d1, t1, hok.told⟩⟩
  rintro m σ H' (⟨rfl, s1, A1, k, cl, cp, x4, x5, x6, x7, rfl, ho, p3, fit3, hfil, hk, hdr, f3, g3, hlc3, d3, t3, htl⟩ | ⟨rfl, hfil, hlen, rfl, rfl⟩ | ⟨hm50, hs1, seen, s', A', cl, cp, x5, x6, x7, rfl, lp, hfil, hco, hsm, hcl⟩)
  · -- a block is open
    refine test_read6 (op_read ⟨_, rfl, x, C, A1.dx, _, oN s1.fil, rfl, p3.ins, PC.cl, PC.n6, rfl, c_read ⟨rfl, _, rfl, ?_⟩⟩)
    rw [hfil, oN_non]
    refine iteF ?_
    have htl1 : A1.rt.length ≤ 10000 := by rw [Paired.length p3.tat]; exact htl
    refine ⟨_, rfl, x, C, A1.dx, _, _, rfl, p3.ins, PC.cl, PC.n8, rfl, .inl ⟨rfl, _, SqL.of p3.told⟩, cons_read (tup_read (cons_read ⟨_, rfl, x, C, A1.dx, _, oN s1.fil, rfl, p3.ins, PC.cl, PC.n6, rfl, cons_read (cb_read (cons_read ⟨_, rfl, nil_read ⟨lc, _, rfl, .inl ⟨SqL.of hlc3, fun q1 nq1 => ?_⟩⟩⟩))⟩))⟩
    refine cons_read ⟨_, rfl, nil_read ⟨by show 3 ≤ sizeLine; decide, fun u nu => nil_read ⟨A1.ta, A1.rt.map V.ref, _, rfl, rfl, ?_, ?_, ?_⟩⟩⟩
    · exact (same_lay nu) _ _ ((same_lay nq1) _ _ p3.told)
    · rw [List.length_map, sizeLine_eq]; omega
    have sB : Same H' (L2.upd (L2.upd H' q1 (.tup (cl.map nV))) u (.tup [oN s1.fil, .ref q1, .int cp])) := (same_lay nq1).trans (same_lay nu)
    have p4 := p3.same sB
    have ht : TldAt (L2.upd (L2.upd H' q1 (.tup (cl.map nV))) u (.tup [oN s1.fil, .ref q1, .int cp])) u (some k, cl, cp) := ⟨q1, by rw [upd_same, hfil], (same_lay nu) _ _ upd_same⟩
    have p5 := p4.told_put ht
    have f5 := (Frm.same (F := A1.foot x) sB).upd (o := .lst (A1.rt.map V.ref ++ [.ref u])) (foot_ls (A := A1) (x := x) (a := A1.ta) (by unfold PAd.ls; simp))
    dsimp only
    generalize L2.upd (L2.upd (L2.upd H' q1 (.tup (cl.map nV))) u (.tup [oN s1.fil, .ref q1, .int cp])) A1.ta (.lst (A1.rt.map V.ref ++ [.ref u])) = H5 at p5 f5 ⊢
    have d5 : DrvAt K CD H5 A.dr b p n ini y := by
      rw [← hdr] at d3 ⊢
      exact drv_frm p3 f5 (by rw [hdr]; exact hdx) d3
    have t5 := tabs_frm p3 f5 t3
    refine ⟨_, rfl, _, rfl, x, nm, _, _, k, b, p, n, ini, y, rfl, p5, ⟨fit3.cont, fit3.hom, fit3.clo, fit3.lens⟩, hfil, hk, by show DrvAt K CD H5 A1.dr b p n ini y; rw [hdr]; exact d5, by show A1.dr ≠ x; rw [hdr]; exact hdx, fun H6 p6 f6 => ?_⟩
    have t6 := tabs_frm p5 f6 t5
    show Q (.bl true) H6
    exact q H6 _ s1 k cl cp ho p6 hdr (f3.grow (.of (f5.trans f6)) g3) g3 t6
  · -- a free block is opened
    refine test_read6 (op_read ⟨_, rfl, x, C, A.dx, _, oN s.fil, rfl, p1.ins, PC.cl, PC.n6, rfl, c_read ⟨rfl, _, rfl, ?_⟩⟩)
    rw [hfil]
    refine iteT ⟨_, fun σ' H'' z => z, one_ifE ?_⟩
    refine test_read6 (op_read (cb_read (cons_read ⟨_, rfl, x, C, A.dx, _, _, rfl, p1.ins, PC.cl, PC.n4, rfl, nil_read ⟨A.af, _, rfl, .inl (SqL.of p1.free), c_read ⟨_, _, rfl, rfl, _, rfl, ?_⟩⟩⟩)))
    rw [List.length_map]
    rw [decide_eq_true (by omega)]
    refine iteT ?_
    have hfr : s.free[0]? = some s.free[0] := List.getElem?_eq_getElem (by omega)
    refine ⟨_, rfl, x, C, A.dx, _, _, rfl, p1.ins, PC.cl, PC.n4, rfl, .inl ⟨rfl, _, SqL.of p1.free⟩, cons_read (c_read (nil_read ⟨A.af, _, ((0 : Nat) : Int), 0, nV s.free[0], rfl, rfl, p1.free, by decide, by decide, sq_ix (by rw [List.length_map]; omega), by rw [List.getElem?_map, hfr]; rfl, ?_⟩))⟩
    dsimp only
    rw [map_erase]
    have p2 := p1.free_put (s.free.eraseIdx 0)
    have f2 := (Frm.refl (A.foot x) H').upd (o := .lst ((s.free.eraseIdx 0).map nV)) (foot_ls (A := A) (x := x) (a := A.af) (by unfold PAd.ls; simp))
    generalize L2.upd H' A.af (.lst ((s.free.eraseIdx 0).map nV)) = H3 at p2 f2 ⊢
    refine ⟨_, rfl, x, C, A.dx, _, rfl, p2.ins, PC.cl, PC.n6, by show 8 < 1000; decide, ?_⟩
    have e6 : putF "filling" (nV s.free[0]) (plF A s.fil) = plF A (some s.free[0]) := put_fil A s.fil (some s.free[0])
    dsimp only
    rw [e6]
    have p3 := p2.fil_put (some s.free[0])
    have f3 := f2.upd (o := .ins C A.dx (plF A (some s.free[0]))) (foot_x (A := A) (x := x))
    generalize L2.upd H3 x (.ins C A.dx (plF A (some s.free[0]))) = H4 at p3 f3 ⊢
    have fit := hok.fit
    refine ⟨0, by decide, .inl ⟨rfl, _, A, s.free[0], [], 0, _, _, _, _, rfl, .inl ⟨hfil, hlen, hfr, rfl, rfl, rfl⟩, p3, ⟨fit.fit.cont, fit.fit.hom, fit.fit.clo, fit.fit.lens⟩, rfl, hok.fre _ (List.getElem_mem _), rfl, f1.trans (.of f3), fun a z => .inl z, f3 _ _ hlc (not_foot hp nlc), drv_frm p1 f3 hdx d1, tabs_frm p1 f3 t1, hok.told⟩⟩
  · -- one is cleaned
    have pl := lp.pl
    refine test_read6 (op_read ⟨_, rfl, x, C, A'.dx, _, oN s'.fil, rfl, pl.ins, PC.cl, PC.n6, rfl, c_read ⟨rfl, _, rfl, ?_⟩⟩)
    rw [hfil]
    cases m with
    | zero =>
      obtain ⟨k, hk⟩ := hco
      have z := hk.fil
      rw [hfil] at z
      cases z
    | succ m =>
    obtain ⟨f, hrd, hst, hgo⟩ : ∃ f, Ready p s' f ∧ (cntP s' ∈ seen → st = true) ∧ (cntP s' ∉ seen → ∀ i j, PickR rows (cntP s') i → s'.clo[i]? = some j → CleanOk p rows st m (cntP s' :: seen) (cleanP p s' i j f)) := by
      rcases hco with ⟨k, hk⟩ | ⟨_, z⟩
      · have z := hk.fil
        rw [hfil] at z
        cases z
      · exact z
    refine iteT ⟨_, fun σ' H'' z => z, one_ifE ?_⟩
    refine test_read6 (op_read (cb_read (cons_read ⟨_, rfl, x, C, A'.dx, _, _, rfl, pl.ins, PC.cl, PC.n4, rfl, nil_read ⟨A'.af, _, rfl, .inl (SqL.of pl.free), c_read ⟨_, _, rfl, rfl, _, rfl, ?_⟩⟩⟩)))
    rw [List.length_map, hrd.fre, decide_eq_false (by show ¬ (1 : Int) < ((1 : Nat) : Int); decide)]
    refine iteF ?_
    have hck := hrd.clo
    have hfit := hrd.fit
    refine seq_asg (cb_read (cons_read ⟨_, rfl, x, C, A'.dx, _, _, rfl, pl.ins, PC.cl, PC.n5, rfl, A'.acl, rfl, ⟨_, SqL.of pl.clo⟩, fun D hD => ?_⟩))
    refine lc_list (K := K) (xs := s'.clo.map nV) (fun j H3 => Same H' H3 ∧ H3 D = some (.lst (((cntP s').take j).map V.int))) ⟨same_lay hD, upd_same⟩ (fun j H3 _ z => SqL.of (z.1 _ _ pl.clo)) ?_ ?_
    · rintro j v H3 hj ⟨sj, ej⟩
      rw [List.getElem?_map] at hj
      obtain ⟨k, hk, rfl⟩ : ∃ k, s'.clo[j]? = some k ∧ nV k = v := by
        cases hq : s'.clo[j]? with
        | none => rw [hq] at hj; cases hj
        | some k => rw [hq] at hj; exact ⟨k, rfl, Option.some.inj hj⟩
      have hkl := (hck k (List.mem_of_getElem? hk)).1
      have hkv : k < s'.liv.length := by rw [hfit.lens]; exact hkl
      have hc5 := hfit.clo
      refine ⟨rfl, ?_⟩
      unfold tYes
      dsimp only
      rw [if_pos rfl]
      refine ⟨_, rfl, x, C, A'.dx, _, _, rfl, sj _ _ pl.ins, PC.cl, PC.n3, rfl, _, rfl, A'.al, _, (k : Int), .int (s'.liv.getD k 0), rfl, rfl, SqL.of (sj _ _ pl.liv), atI_nat (by rw [List.getElem?_map, List.getElem?_eq_getElem hkv, List.getD_eq_getElem?_getD, List.getElem?_eq_getElem hkv]; rfl), _, ej, ?_, fun d u e => ?_, ?_⟩
      · rw [List.length_map, List.length_take, sizeLine_eq]
        unfold cntP
        rw [List.length_map]
        omega
      · rw [upd_ne (ne_of_none e hD)]
        exact sj _ _ e
      · rw [upd_same, List.take_add_one]
        have e5 : (cntP s')[j]? = some (s'.liv.getD k 0) := by
          unfold cntP
          rw [List.getElem?_map, hk]
          rfl
        rw [e5, List.map_append]
        rfl
    rintro H3 ⟨s3, hD3⟩
    have ecl : (s'.clo.map nV).length = (cntP s').length := by unfold cntP; rw [List.length_map, List.length_map]
    rw [ecl, List.take_length] at hD3
    refine nil_read ⟨D, _, rfl, .inl ⟨SqL.of hD3, fun u nu => ?_⟩⟩
    obtain ⟨L, hL1, hL2, hL3, hL4⟩ := lp.set
    have s4 : Same H' (L2.upd H3 u (.tup ((cntP s').map V.int))) := s3.trans (same_lay nu)
    have hu4 : (L2.upd H3 u (.tup ((cntP s').map V.int))) u = some (.tup ((cntP s').map V.int)) := upd_same
    have hus : u ≠ se := Ne.symm (ne_of_none (s3 _ _ hL1) nu)
    generalize L2.upd H3 u (.tup ((cntP s').map V.int)) = H4 at s4 hu4 ⊢
    have tups4 : TupsOf K H4 L := fun p hp => K2.Same.tup s4 (hL2 p hp)
    have frm4 : FrmN (A.foot x) H H4 := lp.frm.trans (.of (Frm.same s4))
    refine seq_if6 (test_read6 (op_read ⟨_, rfl, _, rfl, u, se, cntP s', L, rfl, rfl, SqT.of hu4, s4 _ _ hL1, tups4, fun c hc => ⟨c, rfl, ?_⟩⟩))
    cases c with
    | true =>
      have hin : cntP s' ∈ seen := (hL3 _).mp (hc.mp rfl)
      refine iteT (ret_read (c_read ?_))
      exact qs (hst hin) H4 A' s' hs1.1 hs1.2 (lp.fws s' (.here hfil hrd.fre hin)) (pl.same s4) lp.dr frm4 lp.foot (lp.tab.ext s4)
    | false =>
    have hnin : cntP s' ∉ seen := fun z => by have := hc.mpr ((hL3 _).mpr z); cases this
    refine iteF ?_
    refine ⟨_, rfl, ⟨se, L, rfl, s4 _ _ hL1⟩, cons_read ⟨_, rfl, nil_read ⟨se, u, cntP s', L, rfl, rfl, SqT.of hu4, s4 _ _ hL1, tups4, by omega, fun L' _ hL' => ?_⟩⟩⟩
    have hperm := hL' (fun z => hnin ((hL3 _).mp z))
    have kp5 : ∀ b o, b ≠ se → H' b = some o → (L2.upd H4 se (SetTO P w se L')) b = some o := fun b o nb e => by
      rw [upd_ne nb]
      exact s4 _ _ e
    have hlcs : lc ≠ se := ne_of lp.lcH hL1 (by intro z; cases z)
    have hlc5 := kp5 _ _ hlcs lp.lcH
    have hu5 : (L2.upd H4 se (SetTO P w se L')) u = some (.tup ((cntP s').map V.int)) := by rw [upd_ne hus]; exact hu4
    have hse5 : (L2.upd H4 se (SetTO P w se L')) se = some (SetTO P w se L') := upd_same
    have f5 : Frm [se] H' (L2.upd H4 se (SetTO P w se L')) := fun b o e nb => kp5 b o (fun z => nb (by rw [z]; exact List.mem_cons_self ..)) e
    have nsef : se ∉ A'.foot x := ext_foot pl hL1
    have p5 : PlayAt C (L2.upd H4 se (SetTO P w se L')) x s' A' := play_but pl nsef hL1 (by intro _ z; cases z) fun b o nb e => kp5 b o nb e
    have d5 : DrvAt K CD (L2.upd H4 se (SetTO P w se L')) A.dr b p n ini y := drv_kind lp.drv hL1 (by intro _ z; cases z) (by intro _ _ z; cases z) (by intro _ _ _ z; cases z) fun b o nb e => kp5 b o nb e
    have t5 : Tabs T (L2.upd H4 se (SetTO P w se L')) := tabs_set lp.tab hL1 fun b o nb e => kp5 b o nb e
    have frm5 : FrmN (A.foot x) H (L2.upd H4 se (SetTO P w se L')) := fun b o e nb nt => by
      rw [upd_ne (ne_of_none e nse')]
      exact frm4 b o e nb nt
    have tups5 : TupsOf K (L2.upd H4 se (SetTO P w se L')) L' := fun pr hpr => by
      rcases List.mem_cons.mp (hperm.mem_iff.mp hpr) with z | z
      · subst z
        exact SqT.of hu5
      · exact tup_kind (tups4 pr z) (s4 _ _ hL1) (by intro _ z; cases z) (by intro _ _ z; cases z) fun b o nb e => by rw [upd_ne nb]; exact e
    have hL5 : (∀ c, c ∈ L'.map (·.2) ↔ c ∈ cntP s' :: seen) ∧ L'.length = (cntP s' :: seen).length := by
      refine ⟨fun c => ?_, by rw [hperm.length_eq, List.length_cons, List.length_cons, hL4]⟩
      rw [(hperm.map (·.2)).mem_iff, List.map_cons, List.mem_cons, List.mem_cons, hL3]
    dsimp only
    show tSeq (tAsg _ _) _ _ [some (.ref x), some (.str nm), some (.ref lc), some (.int cp), some (.ref se), some (.ref u), x6, x7] (L2.upd H4 se (SetTO P w se L'))
    generalize L2.upd H4 se (SetTO P w se L') = H5 at hlc5 hu5 hse5 p5 d5 t5 frm5 tups5 kp5 ⊢
    obtain ⟨dd, td, hd5, hR5⟩ := id d5
    rw [erows] at hR5
    have hc5 := hfit.clo
    refine seq_asg ?_
    refine call_read ?_
    refine cons_read ?_
    refine ⟨_, rfl, x, C, A'.dx, _, _, rfl, p5.ins, PC.cl, PC.n1, rfl, A'.dr, dd, _, rfl, by rw [lp.dr]; exact hd5, A'.dr, dd, _, .ref td, rfl, by rw [lp.dr]; exact hd5, rfl, ?_⟩
    refine cons_read ⟨_, rfl, nil_read ?_⟩
    refine ⟨td, u, p, rows, ini, y, cntP s', rfl, hR5, hwd, erows.symm, SqT.of hu5, ?_, ?_, ?_, t5, fun H6 i e6 t6 hpk => ?_⟩
    · intro z
      unfold cntP at z
      exact hrd.ne (List.map_eq_nil_iff.mp z)
    · intro c hc
      unfold cntP at hc
      obtain ⟨k, hk, rfl⟩ := List.mem_map.mp hc
      exact (hck k hk).2.2.1
    · rw [← ecl, List.length_map]
      omega
    have hil : i < s'.clo.length := by
      obtain ⟨_, _, _, _, z, _⟩ := hpk
      have := plcs_lt z
      rwa [← ecl, List.length_map] at this
    obtain ⟨k, hik⟩ : ∃ k, s'.clo[i]? = some k := ⟨_, List.getElem?_eq_getElem hil⟩
    have p6 := p5.ext e6
    have hlc6 := e6 _ _ hlc5 (by intro _ z; cases z)
    have hse6 := e6 _ _ hse5 (by intro _ z; cases z)
    obtain ⟨hkl, hfk, _, hkp⟩ := hck k (List.mem_of_getElem? hik)
    have e7 : (cntP s')[i]? = some (s'.liv.getD k 0) := by
      unfold cntP
      rw [List.getElem?_map, hik]
      rfl
    refine ⟨.int cp, rfl, _, rfl, _, rfl, u, _, (i : Int), .int (s'.liv.getD k 0), rfl, rfl, ext_tup e6 (SqT.of hu5), atI_nat (by rw [List.getElem?_map, e7]; rfl), _, _, rfl, rfl, ?_⟩
    refine ⟨_, rfl, .inl ⟨rfl, _, SqL.of hlc6⟩, cons_read ⟨_, rfl, x, C, A'.dx, _, _, rfl, p6.ins, PC.cl, PC.n5, rfl, _, rfl, A'.acl, _, (i : Int), nV k, rfl, rfl, SqL.of p6.clo, atI_nat (by rw [List.getElem?_map, hik]; rfl), nil_read ⟨lc, cl.map nV, _, rfl, rfl, hlc6, by rw [List.length_map, sizeLine_eq]; omega, ?_⟩⟩⟩
    have elst : cl.map nV ++ [nV k] = (cl ++ [k]).map nV := by rw [List.map_append]; rfl
    dsimp only
    rw [elst]
    have kp7 : ∀ b o, b ≠ lc → H6 b = some o → (L2.upd H6 lc (.lst ((cl ++ [k]).map nV))) b = some o := fun b o nb e => by rw [upd_ne nb]; exact e
    have hlc7 : (L2.upd H6 lc (.lst ((cl ++ [k]).map nV))) lc = some (.lst ((cl ++ [k]).map nV)) := upd_same
    have p7 : PlayAt C (L2.upd H6 lc (.lst ((cl ++ [k]).map nV))) x s' A' := play_but p6 lp.nlc hlc6 (by intro _ z; cases z) kp7
    have d7 : DrvAt K CD (L2.upd H6 lc (.lst ((cl ++ [k]).map nV))) A.dr b p n ini y := drv_kind (DrvAt.extN d5 e6) hlc6 (by intro _ z; cases z) (by intro _ _ z; cases z) (by intro _ _ _ z; cases z) kp7
    have t7 : Tabs T (L2.upd H6 lc (.lst ((cl ++ [k]).map nV))) := tabs_upd hlc6 t6
    have frm7 : FrmN (A.foot x) H (L2.upd H6 lc (.lst ((cl ++ [k]).map nV))) := fun b o e nb nt => by
      rw [upd_ne (ne_of_none e nlc)]
      exact e6 _ _ (frm5 b o e nb nt) nt
    have hse7 := kp7 _ _ (Ne.symm hlcs) hse6
    have tups7 : TupsOf K (L2.upd H6 lc (.lst ((cl ++ [k]).map nV))) L' := fun pr hpr => tup_kind (ext_tup e6 (tups5 pr hpr)) hlc6 (by intro _ z; cases z) (by intro _ _ z; cases z) kp7
    generalize L2.upd H6 lc (.lst ((cl ++ [k]).map nV)) = H7 at hlc7 p7 d7 t7 frm7 hse7 tups7 kp7 ⊢
    refine ⟨_, rfl, _, rfl, x, s', A', i, k, f, b, p, n, ini, y, rfl, p7, hfit, hik, by rw [hrd.fre]; rfl, hkl, hrd.fl, hfk, hrd.fe, hkp, by rw [lp.dr]; exact d7, by rw [lp.dr]; exact hdx, fun H8 A8 p8 hdr8 f8 g8 => ?_⟩
    have nse7 : se ∉ A'.foot x := ext_foot p7 hse7
    have hco' := hgo hnin i k hpk hik
    have lp8 : Lop P w K T CD C p b n ini y rows x lc se s A H (cntP s' :: seen) (cleanP p s' i k f) A8 (cl ++ [k]) (cp + s'.liv.getD k 0) H8 := by
      refine ⟨p8, hdr8.trans lp.dr, fun b o e nb nt => ?_, fun a z => ?_, f8 _ _ hlc7 lp.nlc, not_in_foot p7 lp.nlc (by rw [hlc7]; simp) g8, ⟨L', f8 _ _ hse7 nse7, fun pr hpr => tup_frm p7 f8 (tups7 pr hpr), hL5.1, hL5.2⟩, ?_, tabs_frm p7 f8 t7, fun s1 k2 cl2 cp2 z => ?_, fun s2 z => lp.fws s2 (.step hfil hrd.fre hik hnin hpk z)⟩
      · have e7 := frm7 b o e nb nt
        refine f8 b o e7 fun z => ?_
        rcases lp.foot b z with z | z
        · exact nb z
        · obtain ⟨ps, e2⟩ := z o e
          exact nt ps e2
      · rcases g8 a z with z | z
        · exact lp.foot a z
        · exact foot_back frm7 z
      · have z2 := drv_frm p7 f8 (by rw [lp.dr]; exact hdx) (by rw [lp.dr]; exact d7)
        rw [lp.dr] at z2
        exact z2
      · have e9 := lp.fw s1 k2 (k :: cl2) (s'.liv.getD k 0 + cp2) (.step hfil hrd.fre hik hnin hpk z)
        rw [List.append_assoc, Int.add_assoc]
        exact e9
    by_cases hf8 : (cleanP p s' i k f).fil = none
    · exact ⟨m, Nat.lt_succ_self m, .inr (.inr ⟨by omega, hs1, _, _, A8, _, _, _, _, _, rfl, lp8, hf8, hco', by rw [List.length_cons]; omega, by rw [List.length_append]; show cl.length + 1 ≤ seen.length + 1; omega⟩)⟩
    · obtain ⟨k8, hop⟩ : ∃ k8, Opened (cleanP p s' i k f) k8 := by
        cases m with
        | zero => exact hco'
        | succ m =>
          rcases hco' with z | ⟨z, _⟩
          · exact z
          · exact absurd z hf8
      exact ⟨0, Nat.succ_pos m, .inl ⟨rfl, toOp _ _ A8 _ _ _ _ _ _ H8 k8 (fun _ => hs1.2) lp8 hop⟩⟩
end
end K6

set_option Elab.async false
set_option linter.all false
set_option maxRecDepth 100000
set_option maxHeartbeats 4000000
namespace K6
open PySem PySem.Spec PyProof.Rows L2 G1 G2 K2 G5 LamX
/-- a let event -/
def EvtOkG (p n : Nat) (rows : List RowD) (st : Bool) (s : Pl) (wd nm : Str) : Prop := s.liv.length = s.cont.length ∧ s.told.length ≤ 10000 ∧ (wd = "write" ∨ wd = "trim") ∧
  ((valV s.hom (.inr nm) = none ∧ wd = "write" ∧ s.hom.length ≠ n ∧ BrgG p rows st s) ∨ ∃ h j, LivesAt s nm h j ∧ (wd = "write" → BrgG p rows st (dieP s h j nm)))
def EvtRG (p : Nat) (rows : List RowD) (s s' : Pl) (wd nm : Str) : Prop := ∃ s0, DeadR s s0 nm ∧
  ((wd = "trim" ∧ s' = { s0 with told := s0.told ++ [(none, [], 0)] }) ∨ (wd = "write" ∧ ∃ (s1 : Pl) (k : Nat) (cl : List Nat) (cp : Int), OpnG p rows s0 s1 k cl cp ∧ s' = putP p { s1 with told := s1.told ++ [(some k, cl, cp)] } k nm))
def EvtStuck (p : Nat) (rows : List RowD) (s s2 : Pl) (wd nm : Str) : Prop := ∃ s0, DeadR s s0 nm ∧ wd = "write" ∧ s0.fil = none ∧ s0.free.length ≤ 1 ∧ Stuck p rows [] s0 s2
def spEvtG (K : PySem.W.Frag) (T : List (Addr × Str)) (st : Bool) (CD C : Addr) : Sp := fun vs H Q _ => ∃ (x e : Addr) (wd nm : Str) (s : Pl) (A : PAd) (b p n : Nat) (ini : List RowD) (y : Str), vs = [.ref x, .ref e] ∧ SqT K H e [.str wd, .str nm] ∧ PlayAt C H x s A ∧ EvtOkG p n (ini ++ [((p : Int), y)]) st s wd nm ∧ (∀ r ∈ ini ++ [((p : Int), y)], r.2 ∈ wordsL) ∧ DrvAt K CD H A.dr b p n ini y ∧ A.dr ≠ x ∧ Tabs T H ∧
  (∀ (H' : Hp) (A' : PAd) (s' : Pl), EvtRG p (ini ++ [((p : Int), y)]) s s' wd nm → PlayAt C H' x s' A' → A'.dr = A.dr → FrmN (A.foot x) H H' → (∀ a ∈ A'.foot x, a ∈ A.foot x ∨ NwN H a) → Tabs T H' → Q (.bl true) H') ∧
  (st = true → ∀ (H' : Hp) (A' : PAd) (s2 : Pl), EvtStuck p (ini ++ [((p : Int), y)]) s s2 wd nm → PlayAt C H' x s2 A' → A'.dr = A.dr → FrmN (A.foot x) H H' → (∀ a ∈ A'.foot x, a ∈ A.foot x ∨ NwN H a) → Tabs T H' → Q (.bl false) H')
section
variable {P : Program} {w : World} {K : PySem.W.Frag} {mg : Str → Option Value} {base : Heap} {CD C : Addr}
theorem evt_tailG {D : Ends} {st : Bool} {T : List (Addr × Str)} {H1 : Hp} {x e : Addr} {wd nm : Str} {s0 : Pl} {A : PAd} {b p n : Nat} {ini : List RowD} {y : Str} (PC : PCls K C) (p1 : PlayAt C H1 x s0 A) (hbr : wd = "write" → BrgG p (ini ++ [((p : Int), y)]) st s0) (hw : wd = "write" ∨ wd = "trim") (htl : s0.told.length ≤ 10000) (d1 : DrvAt K CD H1 A.dr b p n ini y) (hdx : A.dr ≠ x) (t1 : Tabs T H1) (hwd : ∀ r ∈ ini ++ [((p : Int), y)], r.2 ∈ wordsL)
    (q : ∀ (H' : Hp) (A' : PAd) (s' : Pl), ((wd = "trim" ∧ s' = { s0 with told := s0.told ++ [(none, [], 0)] }) ∨ (wd = "write" ∧ ∃ (s1 : Pl) (k : Nat) (cl : List Nat) (cp : Int), OpnG p (ini ++ [((p : Int), y)]) s0 s1 k cl cp ∧ s' = putP p { s1 with told := s1.told ++ [(some k, cl, cp)] } k nm)) → PlayAt C H' x s' A' → A'.dr = A.dr → FrmN (A.foot x) H1 H' → (∀ a ∈ A'.foot x, a ∈ A.foot x ∨ NwN H1 a) → Tabs T H' → D.rt (.bl true) H')
    (qs : (st = true → ∀ (H' : Hp) (A' : PAd) (s2 : Pl), wd = "write" → s0.fil = none → s0.free.length ≤ 1 → Stuck p (ini ++ [((p : Int), y)]) [] s0 s2 → PlayAt C H' x s2 A' → A'.dr = A.dr → FrmN (A.foot x) H1 H' → (∀ a ∈ A'.foot x, a ∈ A.foot x ∨ NwN H1 a) → Tabs T H' → D.rt (.bl false) H')) :
    tSeq (tIfS (tTest (tOp rEq (tVar 2) (tC (V.str "trim")))) (tSeq (tDrop (tBM K "list" rAppend (tFld K (tVar 0) "told") (tCons (tTup (tCons (tC V.non) (tCons (tTup tNil) (tCons (tC (V.int 0)) tNil)))) tNil))) (tRet (tC (V.bl true)))) tNext)
      (tRet (tCall (spBrgG K T st CD C) [] E0 (tCons (tVar 0) (tCons (tVar 3) tNil)))) D [some (.ref x), some (.ref e), some (.str wd), some (.str nm)] H1 := by
  rcases hw with w | w
  · subst w
    refine seq_if6 (test_read6 (op_read ⟨_, rfl, c_read ⟨rfl, _, rfl, iteF ?_⟩⟩))
    refine ret_read (call_read (cons_read ⟨_, rfl, cons_read ⟨_, rfl, nil_read ?_⟩⟩))
    exact ⟨x, nm, s0, A, b, p, n, ini, y, rfl, p1, hbr rfl, hwd, d1, hdx, t1, fun H' A' s1 k cl cp ho p' hdr f g t => q H' A' _ (.inr ⟨rfl, s1, k, cl, cp, ho, rfl⟩) p' hdr f g t, fun e H' A' s2 z1 z2 z3 p' hdr f g t => qs e H' A' s2 rfl z1 z2 z3 p' hdr f g t⟩
  · subst w
    refine seq_if6 (test_read6 (op_read ⟨_, rfl, c_read ⟨rfl, _, rfl, iteT ?_⟩⟩))
    have htl1 : A.rt.length ≤ 10000 := by rw [Paired.length p1.tat]; exact htl
    refine ⟨_, rfl, x, C, A.dx, _, _, rfl, p1.ins, PC.cl, PC.n8, rfl, .inl ⟨rfl, _, SqL.of p1.told⟩, cons_read (tup_read (cons_read (c_read (cons_read (tup_read (nil_read ⟨by show 0 ≤ sizeLine; decide, fun q1 nq1 => ?_⟩))))))⟩
    refine cons_read (c_read (nil_read ⟨by show 3 ≤ sizeLine; decide, fun u nu => nil_read ⟨A.ta, A.rt.map V.ref, _, rfl, rfl, ?_, ?_, ?_⟩⟩))
    · exact (same_lay nu) _ _ ((same_lay nq1) _ _ p1.told)
    · rw [List.length_map, sizeLine_eq]; omega
    have sB : Same H1 (L2.upd (L2.upd H1 q1 (.tup [])) u (.tup [.non, .ref q1, .int 0])) := (same_lay nq1).trans (same_lay nu)
    have ht : TldAt (L2.upd (L2.upd H1 q1 (.tup [])) u (.tup [.non, .ref q1, .int 0])) u (none, [], 0) := ⟨q1, upd_same, (same_lay nu) _ _ upd_same⟩
    have p5 := (p1.same sB).told_put ht
    have f5 := (Frm.same (F := A.foot x) sB).upd (o := .lst (A.rt.map V.ref ++ [.ref u])) (foot_ls (A := A) (x := x) (a := A.ta) (by unfold PAd.ls; simp))
    show D.rt (.bl true) _
    exact q _ _ _ (.inl ⟨rfl, rfl⟩) p5 rfl (.of f5) (fun a z => .inl z) (tabs_frm p1 f5 t1)
theorem ok_evtG {f0 : Addr} {fd : FuncData} {T : List (Addr × Str)} {st : Bool} (F : Fun K "play_event" "play_event" sEvt f0 fd) (B : Bl mg) (gT : ∃ t, mg "TRIM" = some (.str "trim" t)) (M : DD P w K mg base CD) (PC : PCls K C) (GL : FAt P w K mg base 1 "let_name_die" ["play", "name"] (spDie C)) (GB : FAt P w K mg base 5 "bring_name" ["play", "name"] (spBrgG K T st CD C)) :
    FnOk P w K mg base CX0 6 f0 fd ["play", "event"] (spEvtG K T st CD C) := by
  refine F.ok scEvt (fun vs H Q E h => ?_) (fun cdv A0 outer s0 H vs Q E hr h => ?_)
  · obtain ⟨x, e, wd, nm, s, A, b, p, n, ini, y, rfl, _⟩ := h
    rfl
  obtain ⟨x, e, wd, nm, s, A, b, p, n, ini, y, rfl, he, hp, hok, hwd, hd, hdx, hT, q, qs⟩ := h
  obtain ⟨fL, dL, GL, kL, bL, gL⟩ := GL.ex
  obtain ⟨fB, dB, GB, kB, bB, gB⟩ := GB.ex
  obtain ⟨pp, gp, fp, P2, F2, B2⟩ := M.pn.ex
  obtain ⟨tT, cT⟩ := gT
  refine ⟨_, pss_cons (ps_asg (pv 1) (pg_tup rfl (pgs_cons (pg_name (i := 2) scEvt.nd rfl (.inl rfl)) (pgs_cons (pg_name (i := 3) scEvt.nd rfl (.inl rfl)) pgs_nil))))
    (pss_cons (ps_if (pt_cmp (pc_din (hu_of hr) (pv 3) (pe_fld (pv 0) rfl)))
        (pss_one (ps_expr (pe_call GL (hr.mono (by decide)) (by rfl) gL kL bL .nil pass0 (pa_cons (pv 0) (pa_cons (pv 3) pa_nil)))))
        (pss_one (ps_if (PW.pt (pw_or (pt_cmpR op_eq (pv 2) (pe_glob (v := .str "trim") rfl cT ⟨_, rfl⟩) (nomark _)) (pw_or1 (pt_cmpR op_eq (pe_callB call_lenD (by rfl) B.len PySem.boot_len (pa_cons (pe_fld (pv 0) rfl) pa_nil)) (pe_prop (pe_fld (pv 0) rfl) M.T.cl P2 F2 (hr.mono (by decide)) B2 .nil pass0 rfl) (nomark _))))) (pss_one (ps_ret pe_bl)) pss_nil)))
    (pss_cons (ps_if (pt_cmpR op_eq (pv 2) (pe_glob (v := .str "trim") rfl cT ⟨_, rfl⟩) (nomark _))
        (pss_cons (ps_expr (pe_bm PySem.F.plainAttrs_list PySem.F.slot_list_append PySem.F.type_list_append mt_append (pe_fld (pv 0) rfl) (pa_cons (pe_tup (pa_cons pe_non (pa_cons (pe_tup pa_nil) (pa_cons pe_int pa_nil)))) pa_nil)))
        (pss_one (ps_ret pe_bl))) pss_nil)
    (pss_one (ps_ret (pe_call GB hr (by rfl) gB kB bB .nil pass0 (pa_cons (pv 0) (pa_cons (pv 3) pa_nil))))))), ?_⟩
  obtain ⟨hlv, htl, hw, hc⟩ := hok
  refine seq_asg ⟨_, rfl, e, _, rfl, he, rfl, _, _, rfl, _, _, rfl, rfl, ?_⟩
  refine seq_ifE (b_read9 ⟨_, rfl, _, rfl, x, C, A.dx, _, _, rfl, hp.ins, PC.cl, PC.n7, rfl, A.ad, valV s.hom (.inr nm), rfl, DGet.k (k := Sum.inr nm) hp.hom, _, rfl, ?_⟩)
  rcases hc with ⟨hn, hwr, hnn, hbr⟩ | ⟨h, j, hl, hbr⟩
  · rw [hn]
    refine iteF ?_
    obtain ⟨dd, td, hd', _⟩ := id hd
    subst hwr
    refine ⟨_, rfl, rfl, _, rfl, iteF ?_⟩
    refine ⟨_, rfl, x, C, A.dx, _, _, rfl, hp.ins, PC.cl, PC.n7, rfl, nil_read ⟨A.ad, _, rfl, hp.hom, ?_⟩⟩
    refine ⟨_, rfl, x, C, A.dx, _, _, rfl, hp.ins, PC.cl, PC.n1, rfl, A.dr, dd, _, rfl, hd', A.dr, dd, _, _, rfl, hd', rfl, rfl, _, rfl, ?_⟩
    rw [eqI6, decide_eq_false (by omega)]
    refine iteF ?_
    exact evt_tailG PC hp (fun _ => hbr) hw htl hd hdx hT hwd (fun H' A' s' z p' hdr f g t => q H' A' s' ⟨s, .inl ⟨hn, rfl⟩, z⟩ p' hdr f g t) fun e H' A' s2 z0 z1 z2 z3 p' hdr f g t => qs e H' A' s2 ⟨s, .inl ⟨hn, rfl⟩, rfl, z1, z2, z3⟩ p' hdr f g t
  · rw [hl.hom]
    refine iteT ?_
    refine ⟨_, rfl, _, rfl, x, nm, s, A, h, j, rfl, hp, hlv, hl.hom, hl.blk, hl.pg, hl.fst, fun H1 p1 f1 => ?_⟩
    exact evt_tailG PC p1 hbr hw htl (drv_frm hp f1 hdx hd) hdx (tabs_frm hp f1 hT) hwd (fun H' A' s' z p' hdr f g t => q H' A' s' ⟨_, .inr ⟨h, j, hl, rfl⟩, z⟩ p' hdr ((FrmN.of f1).trans f) (fun a m => (g a m).imp id fun z => (FrmN.of f1).back (fun b hb => foot_some p1 b hb) z) t) fun e H' A' s2 z0 z1 z2 z3 p' hdr f g t => qs e H' A' s2 ⟨_, .inr ⟨h, j, hl, rfl⟩, z0, z1, z2, z3⟩ p' hdr ((FrmN.of f1).trans f) (fun a m => (g a m).imp id fun z => (FrmN.of f1).back (fun b hb => foot_some p1 b hb) z) t
end
end K6

set_option Elab.async false
set_option linter.all false
set_option maxRecDepth 100000
set_option maxHeartbeats 4000000
namespace K6
open PySem PySem.Spec PyProof.Rows L2 G1 G2 K2 G5 LamX
/-- every event is let, however the ones before it went -/
def LoadOkG (p n : Nat) (rows : List RowD) : Pl → List (Str × Str) → Prop
  | _, [] => True
  | s, e :: es => EvtOkG p n rows false s e.1 e.2 ∧ NameOk e.2 ∧ ∀ s', EvtRG p rows s s' e.1 e.2 → LoadOkG p n rows s' es
def PlaysToG (p : Nat) (rows : List RowD) : Pl → List (Str × Str) → Pl → Prop
  | s, [], s' => s' = s
  | s, e :: es, s' => ∃ s1, EvtRG p rows s s1 e.1 e.2 ∧ PlaysToG p rows s1 es s'
theorem plays_snocG {p : Nat} {rows : List RowD} : ∀ {es : List (Str × Str)} {s s1 s2 : Pl} {e : Str × Str}, PlaysToG p rows s es s1 → EvtRG p rows s1 s2 e.1 e.2 → PlaysToG p rows s (es ++ [e]) s2
  | [], s, s1, s2, e, h, h2 => by
    cases (show s1 = s from h)
    exact ⟨s2, h2, rfl⟩
  | _ :: es, s, s1, s2, e, ⟨s0, h0, h⟩, h2 => ⟨s0, h0, plays_snocG h h2⟩
def spLodG (K : PySem.W.Frag) (T : List (Addr × Str)) (CD C : Addr) : Sp := fun vs H Q _ => ∃ (dr ld : Addr) (eas : List Addr) (es : List (Str × Str)) (b p n : Nat) (ini : List RowD) (y : Str), vs = [.ref dr, .ref ld] ∧ SqT K H ld (eas.map V.ref) ∧ Paired (fun (a : Addr) (e : Str × Str) => SqT K H a [.str e.1, .str e.2]) eas es ∧ DrvAt K CD H dr b p n ini y ∧ b ≤ 10 ∧ (∀ r ∈ ini ++ [((p : Int), y)], r.2 ∈ wordsL) ∧ LoadOkG p n (ini ++ [((p : Int), y)]) (newP b) es ∧ es.length ≤ 2000 ∧ Tabs T H ∧
  ∀ (H' : Hp) (x : Addr) (s' : Pl) (A : PAd), PlaysToG p (ini ++ [((p : Int), y)]) (newP b) es s' → PlayAt C H' x s' A → A.dr = dr → H x = none → ExtN H H' → Tabs T H' → Q (.ref x) H'
section
variable {P : Program} {w : World} {K : PySem.W.Frag} {mg : Str → Option Value} {base : Heap} {CD C : Addr}
theorem ok_lodG {f0 fI : Addr} {fd fdI : FuncData} {T : List (Addr × Str)} (F : Fun K "play_load" "play_load" sLod f0 fd) (B : Bl mg) (gM : ∃ t, mg "MOST_EVENTS" = some (.int 2000 t)) (MP : Mk K C fI) (GI : FnOk P w K mg base CX0 3 fI fdI ["self", "drive"] (spPin K CD C)) (bI : Binds K fdI ["self", "drive"] []) (gP : mg "Play" = some (.ref C))
    (GE : FAt P w K mg base 2 "is_event" ["value"] (spIev K)) (GV : FAt P w K mg base 6 "play_event" ["play", "event"] (spEvtG K T false CD C)) : FnOk P w K mg base CX0 7 f0 fd ["drive", "load"] (spLodG K T CD C) := by
  refine F.ok scLod (fun vs H Q E h => ?_) (fun cdv A0 outer s0 H vs Q E hr h => ?_)
  · obtain ⟨dr, ld, eas, es, b, p, n, ini, y, rfl, _⟩ := h
    rfl
  obtain ⟨dr, ld, eas, es, b, p, n, ini, y, rfl, hld, hes, hd, hb, hwd, hok, hlen, hT, q⟩ := h
  obtain ⟨fE, dE, GE, kE, bE, gE⟩ := GE.ex
  obtain ⟨fV, dV, GV, kV, bV, gV⟩ := GV.ex
  obtain ⟨tM, cM⟩ := gM
  refine ⟨_, pss_cons (ps_if (pt_not (pt_val (pe_callB call_isi (by rfl) B.isi bIsi (pa_cons (pv 1) (pa_cons (pe_bltn (v := .ty "tuple") (by rfl) B.tup bTup rfl) pa_nil))))) (pss_one ps_never) pss_nil)
    (pss_cons (ps_set (i := 2) scLod.nd rfl (.inl rfl) (pe_make MP GI (hr.mono (by decide)) (by rfl) gP bI .nil pass0 (pa_cons (pv 0) pa_nil)))
    (pss_cons (ps_for PassesOwn.never rfl (pi_enumT (by rfl) B.enm (pa_cons (pv 1) pa_nil)) (pg_tup rfl (pgs_cons (pg_name (i := 3) scLod.nd rfl (.inl rfl)) (pgs_cons (pg_name (i := 4) scLod.nd rfl (.inl rfl)) pgs_nil)))
      (pss_one (ps_if (PW.pt (pw_or (pt_cmpR op_eq (pv 3) (pe_glob (v := .int 2000) rfl cM ⟨_, rfl⟩) (nomark _)) (pw_or (pt_not (pt_val (pe_call GE (hr.mono (by decide)) (by rfl) gE kE bE .nil pass0 (pa_cons (pv 4) pa_nil))))
        (pw_or1 (pt_not (pt_val (pe_call GV hr (by rfl) gV kV bV .nil pass0 (pa_cons (pv 2) (pa_cons (pv 4) pa_nil))))))))) (pss_one ps_never) pss_nil)))
    (pss_one (ps_ret (pv 2))))), ?_⟩
  generalize erows : ini ++ [((p : Int), y)] = rows at hwd hok q
  refine ⟨_, rfl, _, _, _, _, true, rfl, .ty _, tup_ty hld, kit_ty (by decide +kernel), true, rfl, iteF ?_⟩
  refine nx_read ?_
  dsimp only
  refine seq_asg ⟨_, rfl, fun x dx nx nd ne => ?_⟩
  have sm : Same H (L2.upd (L2.upd H dx (.own x)) x (.ins C dx [])) := fun c o e => by rw [upd_ne (ne_of_none e nx), upd_ne (ne_of_none e nd)]; exact e
  have hdrx : dr ≠ x := by
    obtain ⟨_, _, z, _⟩ := id hd
    exact ne_of_none z nx
  refine ⟨x, dx, dr, b, p, n, ini, y, rfl, upd_same, hd.same sm, hdrx, hb, fun H1 A p1 hdr g1 k1 => ⟨rfl, ?_⟩⟩
  have s1 : Same H H1 := fun c o e => k1 c o (sm c o e) (ne_of_none e nx)
  have w1 : ∀ a ∈ A.foot x, NwN H a := fun a z => by
    rcases g1 a z with e | e
    · exact .of (e ▸ nx)
    · refine .of ?_
      cases e2 : H a with
      | none => rfl
      | some o => rw [sm _ _ e2] at e; cases e
  refine seq_for fun D' hD1 hD2 => ?_
  refine ⟨_, rfl, ld, _, rfl, K2.Same.tup s1 hld, ?_⟩
  have hle : eas.length = es.length := Paired.length hes
  refine for_enumT (K := K) (xs := eas.map V.ref) (fun i σ H' => ∃ (s2 : Pl) (A2 : PAd) (x3 x4 : Option V), σ = [some (.ref dr), some (.ref ld), some (.ref x), x3, x4] ∧ PlayAt C H' x s2 A2 ∧ A2.dr = dr ∧ PlaysToG p rows (newP b) (es.take i) s2 ∧ LoadOkG p n rows s2 (es.drop i) ∧ ExtN H H' ∧ (∀ a ∈ A2.foot x, NwN H a) ∧ Tabs T H') ⟨newP b, A, none, none, rfl, p1, hdr, rfl, hok, .of s1, w1, hT.ext s1⟩ (fun i σ H' z => ?_) ?_ ?_
  · obtain ⟨_, _, _, _, _, _, _, _, _, z, _⟩ := z
    exact ext_tup z hld
  · rintro i v T1 σ H' hi ⟨s2, A2, x3, x4, rfl, p2, hdr2, pl2, ok2, e2, w2, t2⟩ hT1
    rw [List.getElem?_map] at hi
    obtain ⟨a, ha, rfl⟩ : ∃ a, eas[i]? = some a ∧ V.ref a = v := by
      cases hq : eas[i]? with
      | none => rw [hq] at hi; cases hi
      | some a => rw [hq] at hi; exact ⟨a, rfl, Option.some.inj hi⟩
    obtain ⟨ev, hev, hat⟩ := K2.paired_get hes ha
    have hil := (List.getElem?_eq_some_iff.mp hev).1
    have edr : es.drop i = ev :: es.drop (i + 1) := by
      rw [List.drop_eq_getElem_cons hil]
      rw [List.getElem?_eq_getElem hil] at hev
      rw [Option.some.inj hev]
    rw [edr] at ok2
    obtain ⟨o1, o2, o3⟩ := ok2
    have sT : Same H' (L2.upd H' T1 (.tup [.int (i : Nat), .ref a])) := same_lay hT1
    refine ⟨T1, _, rfl, SqT.of upd_same, rfl, _, _, rfl, _, _, rfl, rfl, ?_⟩
    refine ⟨_, rfl, rfl, _, rfl, ?_⟩
    rw [eqI6, decide_eq_false (by omega)]
    have eT : ExtN H (L2.upd H' T1 (.tup [.int (i : Nat), .ref a])) := e2.trans (.of sT)
    refine iteF ⟨_, rfl, a, ev.1, ev.2, rfl, ext_tup eT hat, o1.2.2.1, o2, fun H3 s3 => ⟨true, rfl, iteF ?_⟩⟩
    have e3 : ExtN H H3 := eT.trans (.of s3)
    have s23 : Same H' H3 := sT.trans s3
    refine ⟨_, rfl, _, rfl, x, a, ev.1, ev.2, s2, A2, b, p, n, ini, y, rfl, ext_tup e3 hat, p2.same s23, by rw [erows]; exact o1, by rw [erows]; exact hwd, by rw [hdr2]; exact DrvAt.extN hd e3, by rw [hdr2]; exact hdrx, t2.ext s23, (fun H4 A4 s4 r4 p4 dr4 f4 g4 t4 => ⟨true, rfl, iteF ?_⟩), fun z => by cases z⟩
    rw [erows] at r4
    refine ⟨s4, A4, _, _, rfl, p4, by rw [dr4]; exact hdr2, ?_, o3 s4 r4, fun c o e nt => ?_, fun c z => ?_, t4⟩
    · rw [List.take_add_one, hev]
      exact plays_snocG pl2 r4
    · refine f4 c o (e3 c o e nt) (fun z => ?_) nt
      obtain ⟨ps, z2⟩ := w2 c z o e
      exact nt ps z2
    · rcases g4 c z with z | z
      · exact w2 c z
      · intro o e
        by_cases nt : ∃ ps, o = .tbl ps
        · exact nt
        · exact z o (e3 c o e fun ps z => nt ⟨ps, z⟩)
  · rintro σ H' ⟨s2, A2, x3, x4, rfl, p2, hdr2, pl2, ok2, e2, w2, t2⟩
    rw [hD1]
    rw [List.length_map, hle, List.take_length] at pl2
    refine ⟨_, rfl, ?_⟩
    exact q H' x s2 A2 pl2 p2 hdr2 nx e2 t2
end
end K6

set_option Elab.async false
set_option linter.all false
set_option maxRecDepth 100000
set_option maxHeartbeats 4000000
namespace K6
open PySem PySem.Spec PyProof.Rows L2 G1 G2 K2 G5 LamX
def spBloG (K : PySem.W.Frag) (T : List (Addr × Str)) (CD C : Addr) : Sp := fun vs H Q _ => ∃ (dr ld : Addr) (eas : List Addr) (es : List (Str × Str)) (b p n : Nat) (ini : List RowD) (y : Str), vs = [.ref dr, .ref ld] ∧ SqT K H ld (eas.map V.ref) ∧ Paired (fun (a : Addr) (e : Str × Str) => SqT K H a [.str e.1, .str e.2]) eas es ∧ DrvAt K CD H dr b p n ini y ∧ b ≤ 10 ∧ (∀ r ∈ ini ++ [((p : Int), y)], r.2 ∈ wordsL) ∧ LoadOkG p n (ini ++ [((p : Int), y)]) (newP b) es ∧ es.length ≤ 2000 ∧ Tabs T H ∧
  (∀ s', PlaysToG p (ini ++ [((p : Int), y)]) (newP b) es s' → s'.cont.length ≤ 10 ∧ ∀ c ∈ s'.cont, c.length ≤ 10) ∧
  ∀ (H' : Hp) (t : Addr) (rs : List Addr) (s' : Pl), PlaysToG p (ini ++ [((p : Int), y)]) (newP b) es s' → H' t = some (.tup (rs.map V.ref)) → Paired (BlAt H') rs ((List.range s'.cont.length).map (bloM s')) → ExtN H H' → Tabs T H' → Q (.ref t) H'
section
variable {P : Program} {w : World} {K : PySem.W.Frag} {mg : Str → Option Value} {base : Heap} {CD C : Addr}
theorem ok_bloG {f0 : Addr} {fd : FuncData} {T : List (Addr × Str)} (F : Fun K "blocks_of" "blocks_of" sBlo f0 fd) (B : Bl mg) (PC : PCls K C) (GD : FAt P w K mg base 1 "check_drive" ["drive"] (spCkd K CD)) (GL : FAt P w K mg base 7 "play_load" ["drive", "load"] (spLodG K T CD C)) : FnOk P w K mg base CX0 8 f0 fd ["drive", "load"] (spBloG K T CD C) := by
  refine F.ok scBlo (fun vs H Q E h => ?_) (fun cdv A0 outer s0 H vs Q E hr h => ?_)
  · obtain ⟨dr, ld, eas, es, b, p, n, ini, y, rfl, _⟩ := h
    rfl
  obtain ⟨dr, ld, eas, es, b, p, n, ini, y, rfl, hld, hes, hd, hb, hwd, hok, hlen, hT, hsz, q⟩ := h
  obtain ⟨fD, dD, GD, kD, bD, gD⟩ := GD.ex
  obtain ⟨fL, dL, GL, kL, bL, gL⟩ := GL.ex
  refine ⟨_, pss_cons (ps_expr (pe_call GD (hr.mono (by decide)) (by rfl) gD kD bD .nil pass0 (pa_cons (pv 0) pa_nil)))
    (pss_cons (ps_set (i := 2) scBlo.nd rfl (.inl rfl) (pe_call GL hr (by rfl) gL kL bL .nil pass0 (pa_cons (pv 0) (pa_cons (pv 1) pa_nil))))
    (pss_cons (ps_set (i := 3) scBlo.nd rfl (.inl rfl) (pe_lst pa_nil))
    (pss_cons (ps_for PassesOwn.never rfl (pi_enum (by rfl) B.enm (pa_cons (pe_fld (pv 2) rfl) pa_nil)) (pg_tup rfl (pgs_cons (pg_name (i := 4) scBlo.nd rfl (.inl rfl)) (pgs_cons (pg_name (i := 5) scBlo.nd rfl (.inl rfl)) pgs_nil)))
      (pss_cons (ps_set (i := 6) scBlo.nd rfl (.inl rfl) (pe_ifExp (pt_cmpR op_in_seq (pv 4) (pe_fld (pv 2) rfl) (by rfl)) pe_str (pe_ifExp (pt_cmpR op_in_seq (pv 4) (pe_fld (pv 2) rfl) (by rfl)) pe_str pe_str)))
      (pss_one (ps_expr (pe_bm PySem.F.plainAttrs_list PySem.F.slot_list_append PySem.F.type_list_append mt_append (pv 3) (pa_cons (pe_tup (pa_cons (pv 6) (pa_cons (pe_callTy call_tuple_of (by rfl) B.tup bTup (pa_cons (pe_lc (own := [("name", 7)]) (g := gName 7) (tt := tTest (tOp (fun x y H Q => y = .non ∧ Q (.bl (!decide (x = .non))) H) (tVar 7) (tC .non))) (te := tVar 7) rfl scBlo.nd (pi_list (pv 5)) (blkOk_by (own := [("name", 7)]) (N := NBlo) (sc := defScope sBlo) (by decide +kernel))
        (fun _ _ _ _ _ => pg_name (i := 7) scBlo.nd rfl (Or.inl rfl)) (fun _ _ _ _ _ => pts_one (pt_cmpR op_notN (pv 7) pe_non (nomark _))) (fun _ _ _ _ _ => pv 7)) pa_nil)) pa_nil))) pa_nil))))))
    (pss_one (ps_ret (pe_callTy call_tuple_of (by rfl) B.tup bTup (pa_cons (pv 3) pa_nil))))))), ?_⟩
  refine ⟨_, rfl, dr, b, p, n, ini, y, rfl, hd, ?_⟩
  dsimp only
  refine seq_asg ?_
  refine call_read ?_
  refine cons_read ⟨_, rfl, cons_read ⟨_, rfl, nil_read ?_⟩⟩
  refine ⟨dr, ld, eas, es, b, p, n, ini, y, rfl, hld, hes, hd, hb, hwd, hok, hlen, hT, fun H1 x s1 A pl1 p1 hdr nx e1 t1 => ?_⟩
  obtain ⟨hcl, hc10⟩ := hsz s1 pl1
  refine seq_asg (lst_read (nil_read ⟨by show 0 ≤ sizeLine; decide, fun tl ntl => ?_⟩))
  refine seq_for fun D' hD1 hD2 => ?_
  have sA : Same H1 (L2.upd H1 tl (.lst [])) := same_lay ntl
  have pA := p1.same sA
  refine ⟨_, rfl, x, C, A.dx, _, _, rfl, pA.ins, PC.cl, PC.n2, rfl, nil_read ⟨A.ac, _, rfl, SqL.of pA.cont, ?_⟩⟩
  have hlr := Paired.length p1.inner
  refine for_enumL (K := K) (xs := A.rcs.map V.ref) (fun i σ H' => ∃ (x4 x5 x6 x7 : Option V) (rs : List Addr), σ = [some (.ref dr), some (.ref ld), some (.ref x), some (.ref tl), x4, x5, x6, x7] ∧ Same H1 H' ∧ H' tl = some (.lst (rs.map V.ref)) ∧ Paired (BlAt H') rs ((List.range i).map (bloM s1))) ⟨none, none, none, none, [], rfl, sA, upd_same, .nil⟩ (fun i σ H' z => ?_) ?_ ?_
  · obtain ⟨_, _, _, _, _, _, z, _⟩ := z
    exact SqL.of (z _ _ p1.cont)
  · rintro i v T1 σ H' hi ⟨x4, x5, x6, x7, rs, rfl, s2, htl, hrs⟩ hT1
    rw [List.getElem?_map] at hi
    obtain ⟨a, ha, rfl⟩ : ∃ a, A.rcs[i]? = some a ∧ V.ref a = v := by
      cases hq : A.rcs[i]? with
      | none => rw [hq] at hi; cases hi
      | some a => rw [hq] at hi; exact ⟨a, rfl, Option.some.inj hi⟩
    obtain ⟨c, hc, hin⟩ := K2.paired_get p1.inner ha
    have hcD : s1.cont.getD i [] = c := by rw [List.getD_eq_getElem?_getD, hc]; rfl
    have hc1 := hc10 c (List.mem_of_getElem? hc)
    have hil := (List.getElem?_eq_some_iff.mp ha).1
    have hrl := Paired.length hrs
    rw [List.length_map, List.length_range] at hrl
    have s3 : Same H' (L2.upd H' T1 (.tup [.int (i : Nat), .ref a])) := same_lay hT1
    refine ⟨T1, _, rfl, SqT.of upd_same, rfl, _, _, rfl, _, _, rfl, rfl, ?_⟩
    generalize L2.upd H' T1 (.tup [.int (i : Nat), .ref a]) = H3 at s3 ⊢
    have p3 := p1.same (s2.trans s3)
    refine seq_asg (state_read (i := i) PC p3 rfl rfl ?_)
    refine ⟨_, rfl, .inl ⟨rfl, _, SqL.of (s3 _ _ htl)⟩, cons_read (tup_read (cons_read ⟨_, rfl, cons_read (cb_read (cons_read ⟨_, rfl, a, rfl, ⟨_, SqL.of (s3 _ _ (s2 _ _ hin))⟩, fun D hD => ?_⟩))⟩))⟩
    refine lc_list (K := K) (xs := c.map oS) (fun j H4 => Same H3 H4 ∧ H4 D = some (.lst ((keptN (c.take j)).map V.str))) ⟨same_lay hD, upd_same⟩ (fun j H4 _ z => SqL.of (z.1 _ _ (s3 _ _ (s2 _ _ hin)))) ?_ ?_
    · rintro j v H4 hj ⟨sj, ej⟩
      rw [List.getElem?_map] at hj
      obtain ⟨o, ho, rfl⟩ : ∃ o, c[j]? = some o ∧ oS o = v := by
        cases hq : c[j]? with
        | none => rw [hq] at hj; cases hj
        | some o => rw [hq] at hj; exact ⟨o, rfl, Option.some.inj hj⟩
      have hjl := (List.getElem?_eq_some_iff.mp ho).1
      have htk : c.take (j + 1) = c.take j ++ [o] := by rw [List.take_add_one, ho]; rfl
      refine ⟨rfl, test_read6 (op_read ⟨_, rfl, c_read ⟨rfl, _, rfl, ?_⟩⟩)⟩
      cases o with
      | none =>
        refine iteF ⟨sj, ?_⟩
        rw [htk, kept_snoc, List.append_nil]
        exact ej
      | some z =>
        refine iteT ⟨_, rfl, _, ej, ?_, fun d u e => ?_, ?_⟩
        · have := kept_len (c.take j)
          rw [List.length_take] at this
          rw [List.length_map, sizeLine_eq]
          omega
        · rw [upd_ne (ne_of_none e hD)]
          exact sj _ _ e
        · rw [upd_same, htk, kept_snoc, List.map_append]
          rfl
    rintro H4 ⟨s4, hD4⟩
    rw [List.length_map, List.take_length] at hD4
    refine nil_read ⟨D, _, rfl, .inl ⟨SqL.of hD4, fun q1 nq1 => ?_⟩⟩
    refine nil_read ⟨by show 2 ≤ sizeLine; decide, fun u nu => nil_read ⟨tl, rs.map V.ref, _, rfl, rfl, ?_, ?_, ?_⟩⟩
    · exact (same_lay nu) _ _ ((same_lay nq1) _ _ (s4 _ _ (s3 _ _ htl)))
    · rw [List.length_map, sizeLine_eq]; omega
    have sU : Same H' (L2.upd (L2.upd H4 q1 (.tup ((keptN c).map V.str))) u (.tup [.str (bloM s1 i).1, .ref q1])) := s3.trans (s4.trans ((same_lay nq1).trans (same_lay nu)))
    have bU : BlAt (L2.upd (L2.upd H4 q1 (.tup ((keptN c).map V.str))) u (.tup [.str (bloM s1 i).1, .ref q1])) u (bloM s1 i) := ⟨q1, upd_same, by
      have e5 : (bloM s1 i).2 = keptN c := by
        show keptN (s1.cont.getD i []) = keptN c
        rw [hcD]
      rw [e5]
      exact (same_lay nu) _ _ upd_same⟩
    dsimp only
    generalize L2.upd (L2.upd H4 q1 (.tup ((keptN c).map V.str))) u (.tup [.str (bloM s1 i).1, .ref q1]) = H5 at sU bU ⊢
    refine ⟨_, _, _, _, rs ++ [u], rfl, fun d o e => ?_, ?_, ?_⟩
    · rw [upd_ne (ne_of_none e ntl)]
      exact sU _ _ (s2 _ _ e)
    · rw [upd_same, List.map_append]
      rfl
    · rw [List.range_succ, List.map_append]
      exact K2.paired_snoc (Paired.mapP hrs fun _ _ z => (z.same sU).upd (sU _ _ htl)) (bU.upd (sU _ _ htl))
  · rintro σ H' ⟨x4, x5, x6, x7, rs, rfl, s2, htl, hrs⟩
    rw [hD1]
    rw [List.length_map, hlr] at hrs
    refine ret_read (cb_read (cons_read ⟨_, rfl, nil_read ⟨tl, _, rfl, .inl ⟨SqL.of htl, fun t nt => ?_⟩⟩⟩))
    have sT : Same H' (L2.upd H' t (.tup (rs.map V.ref))) := same_lay nt
    exact q _ t rs s1 pl1 upd_same (Paired.mapP hrs fun _ _ z => z.same sT) (e1.trans (.of (s2.trans sT))) (t1.ext (s2.trans sT))
end
end K6

set_option Elab.async false
set_option linter.all false
set_option maxRecDepth 100000
set_option maxHeartbeats 4000000
namespace K6
open PySem PySem.Spec PyProof.Rows L2 G1 G2 K2 G5 LamX
def spStpG (K : PySem.W.Frag) (T : List (Addr × Str)) (CD C : Addr) : SpG := fun vs H Q _ => ∃ (dr ld : Addr) (eas : List Addr) (es : List (Str × Str)) (b p n : Nat) (ini : List RowD) (y : Str), vs = [.ref dr, .ref ld] ∧ SqT K H ld (eas.map V.ref) ∧ Paired (fun (a : Addr) (e : Str × Str) => SqT K H a [.str e.1, .str e.2]) eas es ∧ DrvAt K CD H dr b p n ini y ∧ b ≤ 10 ∧ (∀ r ∈ ini ++ [((p : Int), y)], r.2 ∈ wordsL) ∧ LoadOkG p n (ini ++ [((p : Int), y)]) (newP b) es ∧ es.length ≤ 2000 ∧ Tabs T H ∧
  (∀ s', PlaysToG p (ini ++ [((p : Int), y)]) (newP b) es s' → s'.told.length ≤ 10000) ∧
  ∀ (H' : Hp) (rs : List Addr) (s' : Pl), PlaysToG p (ini ++ [((p : Int), y)]) (newP b) es s' → Paired (TldAt H') rs s'.told → ExtN H H' → Tabs T H' → Q (rs.map V.ref) H'
section
variable {P : Program} {w : World} {K : PySem.W.Frag} {mg : Str → Option Value} {base : Heap} {CD C : Addr}
theorem ok_stpG {f0 : Addr} {fd : FuncData} {T : List (Addr × Str)} (F : Fun K "steps" "steps" sStp f0 fd) (B : Bl mg) (PC : PCls K C) (GD : FAt P w K mg base 1 "check_drive" ["drive"] (spCkd K CD)) (GL : FAt P w K mg base 7 "play_load" ["drive", "load"] (spLodG K T CD C)) : GFn P w K mg base 8 f0 fd ["drive", "load"] (spStpG K T CD C) := by
  obtain ⟨oc, od, kV, doc, pm, an, cdv, ct, osl, rfl, lk, hcd⟩ := F.ex
  refine gfn_of lk hcd scStp (fun vs H Q E h => ?_) (fun A0 outer s0 H vs Q E pn hr h => ?_)
  · obtain ⟨dr, ld, eas, es, b, p, n, ini, y, rfl, _⟩ := h
    rfl
  obtain ⟨dr, ld, eas, es, b, p, n, ini, y, rfl, hld, hes, hd, hb, hwd, hok, hlen, hT, hsz, q⟩ := h
  obtain ⟨fD, dD, GD, kD, bD, gD⟩ := GD.ex
  obtain ⟨fL, dL, GL, kL, bL, gL⟩ := GL.ex
  refine ⟨_, gss_cons (gs_ps (ps_expr (pe_call GD (hr.mono (by decide)) (by rfl) gD kD bD .nil pass0 (pa_cons (pv 0) pa_nil))))
    (gss_cons (gs_ps (ps_set (i := 2) scStp.nd rfl (.inl rfl) (pe_fld (pe_call GL hr (by rfl) gL kL bL .nil pass0 (pa_cons (pv 0) (pa_cons (pv 1) pa_nil))) rfl)))
    (gss_cons (gs_yieldFrom (yf_lst (pv 2)) hr.hd) gss_nil)), ?_⟩
  refine ⟨_, rfl, dr, b, p, n, ini, y, rfl, hd, ?_⟩
  refine ⟨_, rfl, _, rfl, dr, ld, eas, es, b, p, n, ini, y, rfl, hld, hes, hd, hb, hwd, hok, hlen, hT, fun H1 x s1 A pl1 p1 hdr nx e1 t1 => ?_⟩
  refine ⟨x, C, A.dx, _, _, rfl, p1.ins, PC.cl, PC.n8, rfl, ?_⟩
  have hl := hsz s1 pl1
  have hrl := Paired.length p1.tat
  refine ⟨_, rfl, A.ta, _, rfl, p1.told, ?_, ?_⟩
  · rw [sizeLine_eq, List.length_map]
    show 0 + _ ≤ _
    omega
  · exact q H1 A.rt s1 pl1 p1.tat e1 t1
end
end K6

set_option Elab.async false
set_option linter.all false
set_option maxRecDepth 100000
set_option maxHeartbeats 4000000
/-! loads that are let: how they go on, and blocks that are filled one by one -/
namespace K6
open PySem PySem.Spec PyProof.Rows L2 G1 G2 K2 G5 LamX
section
variable {p n : Nat} {rows : List RowD} {R R2 : Pl → Prop}
/-- a load that is let, and what holds behind it -/
def Goes (p n : Nat) (rows : List RowD) (s : Pl) (es : List (Str × Str)) (R : Pl → Prop) : Prop := LoadOk p n rows s es ∧ ∀ s', PlaysTo p rows s es s' → R s'
theorem goes_nil {s : Pl} (h : R s) : Goes p n rows s [] R := ⟨trivial, fun s' e => by have e' : s' = s := e; rw [e']; exact h⟩
theorem goes_app {es2 : List (Str × Str)} : ∀ {es : List (Str × Str)} {s : Pl}, Goes p n rows s es R → (∀ s', R s' → Goes p n rows s' es2 R2) → Goes p n rows s (es ++ es2) R2
  | [], s, h, k => k s (h.2 s rfl)
  | e :: es, s, ⟨⟨h1, h2, h3⟩, h4⟩, k => by
    have ih : ∀ s', EvtR p rows s s' e.1 e.2 → Goes p n rows s' (es ++ es2) R2 := fun s' hr => goes_app ⟨h3 s' hr, fun s2 hp => h4 s2 ⟨s', hr, hp⟩⟩ k
    exact ⟨⟨h1, h2, fun s' hr => (ih s' hr).1⟩, fun s' ⟨s1, hr, hp⟩ => (ih s1 hr).2 s' hp⟩
theorem goes_one {s : Pl} {e : Str × Str} (h1 : EvtOk p n rows s e.1 e.2) (h2 : NameOk e.2) (h3 : ∀ s', EvtR p rows s s' e.1 e.2 → R s') : Goes p n rows s [e] R :=
  ⟨⟨h1, h2, fun _ _ => trivial⟩, fun s' ⟨s1, hr, hp⟩ => by have e : s' = s1 := hp; rw [e]; exact h3 s1 hr⟩
theorem goes_imp {s : Pl} {es : List (Str × Str)} (h : Goes p n rows s es R) (k : ∀ s', R s' → R2 s') : Goes p n rows s es R2 := ⟨h.1, fun s' z => k s' (h.2 s' z)⟩
end
/-! ### blocks that are filled one by one -/
abbrev Cb := List (Option Str)
def livI (c : Cb) : Int := ((keptN c).length : Int)
def fsC (b : Nat) (done : List Cb) (cur : Cb) : List Cb := done ++ cur :: List.replicate (b - done.length - 1) []
def fsP (b : Nat) (done : List Cb) (cur : Cb) (hom : List (L2.Key × V)) (told : List Tld) : Pl :=
  ⟨fsC b done cur, (fsC b done cur).map livI, if cur.length = 0 then List.range' done.length (b - done.length) else List.range' (done.length + 1) (b - done.length - 1), List.range done.length, if cur.length = 0 then none else some done.length, hom, told⟩
/-- what is done, what is open, when a block that has all its pages is closed -/
def norm (p : Nat) (done : List Cb) (c : Cb) : List Cb × Cb := if c.length = p then (done ++ [c], []) else (done, c)
theorem fsC_set {b : Nat} {done : List Cb} {cur c : Cb} : (fsC b done cur).set done.length c = fsC b done c := by
  unfold fsC
  rw [List.set_append_right _ _ (Nat.le_refl _), Nat.sub_self]
  rfl
theorem fsC_get {b : Nat} {done : List Cb} {cur : Cb} : (fsC b done cur).getD done.length [] = cur := by
  unfold fsC
  rw [List.getD_eq_getElem?_getD, List.getElem?_append_right (Nat.le_refl _), Nat.sub_self]
  rfl
theorem fsC_len {b : Nat} {done : List Cb} {cur : Cb} (h : done.length < b) : (fsC b done cur).length = b := by
  unfold fsC
  rw [List.length_append, List.length_cons, List.length_replicate]
  omega
theorem fsC_close {b : Nat} {done : List Cb} {c : Cb} (h : done.length + 2 ≤ b) : fsC b (done ++ [c]) [] = fsC b done c := by
  unfold fsC
  rw [List.length_append, List.append_assoc]
  congr 1
  have e : b - done.length - 1 = (b - (done.length + [c].length) - 1) + 1 := by
    show b - done.length - 1 = (b - (done.length + 1) - 1) + 1
    omega
  rw [e, List.replicate_succ]
  rfl
theorem fsL_set {b : Nat} {done : List Cb} {cur c : Cb} {v : Int} (h : livI c = v) : ((fsC b done cur).map livI).set done.length v = (fsC b done c).map livI := by
  rw [← h, ← List.map_set, fsC_set]
theorem fsL_get {b : Nat} {done : List Cb} {cur : Cb} : ((fsC b done cur).map livI).getD done.length 0 = livI cur := by
  unfold fsC
  rw [List.map_append, List.getD_eq_getElem?_getD, List.getElem?_append_right (by rw [List.length_map]; exact Nat.le_refl _), List.length_map, Nat.sub_self]
  rfl
theorem livI_some (c : Cb) (x : Str) : livI (c ++ [some x]) = livI c + 1 := by
  unfold livI
  rw [kept_snoc, List.length_append]
  rfl
theorem livI_none (c : Cb) : livI (c ++ [none]) = livI c := by
  unfold livI
  rw [kept_snoc, List.append_nil]
/-- the state when the open block has the content c, whether it is closed by that or not -/
theorem norm_state {b p : Nat} {done : List Cb} {c : Cb} {hom : List (L2.Key × V)} {told : List Tld} (hb : done.length + 2 ≤ b) (hc : 1 ≤ c.length) : fsP b (norm p done c).1 (norm p done c).2 hom told =
    ⟨fsC b done c, (fsC b done c).map livI, List.range' (done.length + 1) (b - done.length - 1), if c.length = p then List.range done.length ++ [done.length] else List.range done.length, if c.length = p then none else some done.length, hom, told⟩ := by
  unfold norm
  by_cases h : c.length = p
  · rw [if_pos h, if_pos h, if_pos h]
    unfold fsP
    dsimp only
    rw [fsC_close hb, List.length_append, ← List.range_succ]
    rfl
  · rw [if_neg h, if_neg h, if_neg h]
    unfold fsP
    dsimp only
    rw [if_neg (by omega), if_neg (by omega)]
/-- sizes -/
structure Sh (b p : Nat) (done : List Cb) (cur : Cb) : Prop where
  b10 : b ≤ 10
  p10 : p ≤ 10
  blk : done.length + 2 ≤ b
  all : ∀ c ∈ done, c.length = p
  cur : cur.length < p
theorem valV_keys {hom : List (L2.Key × V)} {ns : List Str} {x : Str} (h : hom.map (·.1) = ns.map Sum.inr) (hx : x ∉ ns) : valV hom (.inr x) = none := by
  cases e : valV hom (.inr x) with
  | none => rfl
  | some v =>
    exfalso
    have z : (Sum.inr x : L2.Key) ∈ hom.map (·.1) := valV_in e
    rw [h] at z
    obtain ⟨y, hy, e2⟩ := List.mem_map.mp z
    cases e2
    exact hx hy
theorem kept_flat_len : ∀ l : List Cb, (l.flatMap keptN).length ≤ (l.map List.length).sum
  | [] => Nat.le_refl _
  | c :: l => by
    rw [List.flatMap_cons, List.length_append, List.map_cons, List.sum_cons]
    have := kept_flat_len l
    have := kept_len c
    omega
theorem sum_all {p : Nat} : ∀ l : List Cb, (∀ c ∈ l, c.length = p) → (l.map List.length).sum = p * l.length
  | [], _ => rfl
  | c :: l, h => by
    rw [List.map_cons, List.sum_cons, sum_all l (fun d hd => h d (List.mem_cons_of_mem _ hd)), h c (List.mem_cons_self ..), List.length_cons, Nat.mul_succ]
    omega
theorem names_few {b p : Nat} {done : List Cb} {cur : Cb} (sh : Sh b p done cur) : ((done ++ [cur]).flatMap keptN).length < p * (b - 1) := by
  have h1 := kept_flat_len (done ++ [cur])
  rw [List.map_append, List.sum_append, sum_all done sh.all] at h1
  have h2 : ([cur].map List.length).sum = cur.length := by simp
  rw [h2] at h1
  have h3 := sh.cur
  have h4 := sh.blk
  have h5 : p * (done.length + 1) ≤ p * (b - 1) := Nat.mul_le_mul_left _ (by omega)
  rw [Nat.mul_succ] at h5
  omega
theorem mem_fsC {b : Nat} {done : List Cb} {cur c : Cb} (h : c ∈ fsC b done cur) : c ∈ done ∨ c = cur ∨ c = [] := by
  unfold fsC at h
  rcases List.mem_append.mp h with h | h
  · exact .inl h
  · rcases List.mem_cons.mp h with h | h
    · exact .inr (.inl h)
    · exact .inr (.inr (List.mem_replicate.mp h).2)
section
variable {b p : Nat} {rows : List RowD} {done : List Cb} {cur : Cb} {hom : List (L2.Key × V)} {told : List Tld} {x : Str}
/-- what a write finds -/
theorem fill_brg (sh : Sh b p done cur) (hh : hom.length ≤ 100) (ht : told.length ≤ 10000) : BrgOk p rows (fsP b done cur hom told) := by
  have hb := sh.blk
  have hb10 := sh.b10
  have hp10 := sh.p10
  have hcl : (fsC b done cur).length = b := fsC_len (by omega)
  refine ⟨⟨fun c hc => ?_, by show hom.length ≤ 1000; omega, ?_, ?_, ?_⟩, fun k hk => ?_, fun k hk => ?_, fun h1 h2 => ?_, ht⟩
  · have h1 := sh.cur
    rcases mem_fsC hc with z | z | z
    · rw [sh.all c z]; omega
    · rw [z]; omega
    · rw [z]; exact Nat.zero_le _
  · show (List.range done.length).length ≤ 10
    rw [List.length_range]; omega
  · show (if cur.length = 0 then _ else _ : List Nat).length ≤ 10
    split <;> rw [List.length_range'] <;> omega
  · show ((fsC b done cur).map livI).length = (fsC b done cur).length
    rw [List.length_map]
  · show k < (fsC b done cur).length
    rw [hcl]
    have z : (if cur.length = 0 then none else some done.length) = some k := hk
    split at z
    · cases z
    · cases z; omega
  · show k < (fsC b done cur).length
    rw [hcl]
    have z : k ∈ (if cur.length = 0 then List.range' done.length (b - done.length) else List.range' (done.length + 1) (b - done.length - 1)) := hk
    split at z
    · have := (List.mem_range'_1.mp z); omega
    · have := (List.mem_range'_1.mp z); omega
  · exfalso
    have z1 : (if cur.length = 0 then none else some done.length) = (none : Option Nat) := h1
    have z2 : (if cur.length = 0 then List.range' done.length (b - done.length) else List.range' (done.length + 1) (b - done.length - 1)).length ≤ 1 := h2
    split at z1
    · rename_i hc
      rw [if_pos hc, List.length_range'] at z2
      omega
    · cases z1
theorem fill_write_ok (sh : Sh b p done cur) (hk : hom.map (·.1) = ((done ++ [cur]).flatMap keptN).map Sum.inr) (hx : x ∉ (done ++ [cur]).flatMap keptN) (ht : told.length ≤ 10000) : EvtOk p (p * (b - 1)) rows (fsP b done cur hom told) "write" x := by
  have hl : hom.length = ((done ++ [cur]).flatMap keptN).length := by rw [← List.length_map (f := (·.1)), hk, List.length_map]
  have hf := names_few sh
  have hb := sh.b10
  have hp := sh.p10
  have h1 : p * (b - 1) ≤ 10 * 9 := Nat.mul_le_mul hp (by omega)
  refine ⟨?_, ht, .inl rfl, .inl ⟨valV_keys hk hx, rfl, ?_, fill_brg sh (by omega) ht⟩⟩
  · show ((fsC b done cur).map livI).length = (fsC b done cur).length
    rw [List.length_map]
  · show hom.length ≠ _
    omega
theorem fill_write_to (sh : Sh b p done cur) (hk : hom.map (·.1) = ((done ++ [cur]).flatMap keptN).map Sum.inr) (hx : x ∉ (done ++ [cur]).flatMap keptN) {s' : Pl} (h : EvtR p rows (fsP b done cur hom told) s' "write" x) :
    s' = fsP b (norm p done (cur ++ [some x])).1 (norm p done (cur ++ [some x])).2 (hom ++ [(.inr x, nV done.length)]) (told ++ [(some done.length, [], 0)]) := by
  have hb := sh.blk
  have hv := valV_keys hk hx
  obtain ⟨s0, hd, hw⟩ := h
  have e0 : s0 = fsP b done cur hom told := by
    rcases hd with ⟨_, z⟩ | ⟨h, j, hl, _⟩
    · exact z
    · have z := hl.hom
      rw [show (fsP b done cur hom told).hom = hom from rfl, hv] at z
      cases z
  subst e0
  rcases hw with ⟨z, _⟩ | ⟨_, s1, k, cl, cp, ho, rfl⟩
  · exact absurd z (by decide)
  have key : s1 = ⟨fsC b done cur, (fsC b done cur).map livI, List.range' (done.length + 1) (b - done.length - 1), List.range done.length, some done.length, hom, told⟩ ∧ k = done.length ∧ cl = [] ∧ cp = 0 := by
    by_cases hc : cur.length = 0
    · have ef : (fsP b done cur hom told).fil = none := if_pos hc
      have er : (fsP b done cur hom told).free = List.range' done.length (b - done.length) := if_pos hc
      have e2 : List.range' done.length (b - done.length) = done.length :: List.range' (done.length + 1) (b - done.length - 1) := by
        rw [show b - done.length = (b - done.length - 1) + 1 by omega, List.range'_succ]
        rfl
      rcases ho with ⟨z, _⟩ | ⟨_, _, z, z2, z3, z4⟩ | ⟨_, z, _⟩
      · rw [ef] at z; cases z
      · rw [er, e2] at z
        cases z
        refine ⟨?_, rfl, z3, z4⟩
        rw [z2, er, e2]
        rfl
      · rw [er, e2] at z
        have z' := congrArg List.length z
        rw [List.length_cons, List.length_range'] at z'
        simp only [List.length_cons, List.length_nil] at z'
        omega
    · have ef : (fsP b done cur hom told).fil = some done.length := if_neg hc
      have er : (fsP b done cur hom told).free = List.range' (done.length + 1) (b - done.length - 1) := if_neg hc
      rcases ho with ⟨z, z2, z3, z4⟩ | ⟨z, _⟩ | ⟨z, _⟩
      · rw [ef] at z
        cases z
        refine ⟨?_, rfl, z3, z4⟩
        rw [z2]
        show fsP b done cur hom told = _
        unfold fsP
        rw [if_neg hc, if_neg hc]
      · rw [ef] at z; cases z
      · rw [ef] at z; cases z
  obtain ⟨rfl, rfl, rfl, rfl⟩ := key
  rw [norm_state hb (by rw [List.length_append]; show 1 ≤ _ + 1; omega)]
  have el : (cur ++ [some x]).length = cur.length + 1 := by rw [List.length_append]; rfl
  unfold putP
  dsimp only
  rw [fsC_get, fsC_set, fsL_get, fsL_set (livI_some cur x), putK_new _ hv, el]
  by_cases hc : cur.length + 1 = p
  · rw [if_pos hc, if_pos hc, if_pos hc]
  · rw [if_neg hc, if_neg hc, if_neg hc]
end
end K6

set_option Elab.async false
set_option linter.all false
set_option maxRecDepth 100000
set_option maxHeartbeats 4000000
namespace K6
open PySem PySem.Spec PyProof.Rows L2 G1 G2 K2 G5 LamX
theorem nV_inj {a b : Nat} (h : nV a = nV b) : a = b := by
  have z : V.int (a : Int) = V.int (b : Int) := h
  cases z
  rfl
theorem dropK_last {hom : List (L2.Key × V)} {ns : List Str} {x : Str} {v : V} (h : hom.map (·.1) = ns.map Sum.inr) (hx : x ∉ ns) : dropK (hom ++ [(.inr x, v)]) (.inr x) = hom := by
  unfold dropK
  rw [List.filter_append]
  have e1 : hom.filter (fun kv => decide (kv.1 ≠ (.inr x : L2.Key))) = hom := by
    refine List.filter_eq_self.mpr fun kv hkv => decide_eq_true fun z => ?_
    have hm : kv.1 ∈ hom.map (·.1) := List.mem_map.mpr ⟨kv, hkv, rfl⟩
    rw [h, z] at hm
    obtain ⟨y, hy, e2⟩ := List.mem_map.mp hm
    cases e2
    exact hx hy
  rw [e1]
  simp
theorem not_kept {cur : Cb} {x : Str} (h : x ∉ keptN cur) {m : Nat} : cur[m]? ≠ some (some x) := fun z => by
  refine h ?_
  unfold keptN
  exact List.mem_filterMap.mpr ⟨some x, List.mem_of_getElem? z, rfl⟩
section
variable {b p : Nat} {rows : List RowD} {done : List Cb} {cur : Cb} {hom : List (L2.Key × V)} {told : List Tld} {x : Str}
theorem norm_cont (hb : done.length + 2 ≤ b) {c : Cb} (hc : 1 ≤ c.length) {hom : List (L2.Key × V)} {told : List Tld} : (fsP b (norm p done c).1 (norm p done c).2 hom told).cont = fsC b done c := by rw [norm_state hb hc]
/-- where the name stands that was just written -/
theorem fill_lives (hb : done.length + 2 ≤ b) (hk : hom.map (·.1) = ((done ++ [cur]).flatMap keptN).map Sum.inr) (hx : x ∉ (done ++ [cur]).flatMap keptN) {told : List Tld} :
    LivesAt (fsP b (norm p done (cur ++ [some x])).1 (norm p done (cur ++ [some x])).2 (hom ++ [(.inr x, nV done.length)]) told) x done.length cur.length := by
  have hl : 1 ≤ (cur ++ [some x]).length := by rw [List.length_append]; show 1 ≤ _ + 1; omega
  have hxc : x ∉ keptN cur := fun z => hx (by rw [List.flatMap_append]; exact List.mem_append_right _ (by simpa using z))
  refine ⟨?_, ?_, ?_, fun m hm => ?_⟩
  · show valV (hom ++ [(.inr x, nV done.length)]) (.inr x) = _
    rw [valV_snoc _ _ _ _ (valV_keys hk hx), if_pos rfl]
  · rw [norm_cont hb hl, fsC_len (by omega)]; omega
  · rw [norm_cont hb hl, fsC_get, List.getElem?_append_right (Nat.le_refl _), Nat.sub_self]
    rfl
  · rw [norm_cont hb hl, fsC_get, List.getElem?_append_left hm]
    exact not_kept hxc
theorem fill_trim_ok (sh : Sh b p done cur) (hk : hom.map (·.1) = ((done ++ [cur]).flatMap keptN).map Sum.inr) (hx : x ∉ (done ++ [cur]).flatMap keptN) {told : List Tld} (ht : told.length ≤ 10000) :
    EvtOk p (p * (b - 1)) rows (fsP b (norm p done (cur ++ [some x])).1 (norm p done (cur ++ [some x])).2 (hom ++ [(.inr x, nV done.length)]) told) "trim" x := by
  refine ⟨?_, ht, .inr rfl, .inr ⟨done.length, cur.length, fill_lives sh.blk hk hx, fun z => absurd z (by decide)⟩⟩
  show ((fsC b _ _).map livI).length = (fsC b _ _).length
  rw [List.length_map]
theorem fill_trim_to (sh : Sh b p done cur) (hk : hom.map (·.1) = ((done ++ [cur]).flatMap keptN).map Sum.inr) (hx : x ∉ (done ++ [cur]).flatMap keptN) {told : List Tld} {s' : Pl}
    (h : EvtR p rows (fsP b (norm p done (cur ++ [some x])).1 (norm p done (cur ++ [some x])).2 (hom ++ [(.inr x, nV done.length)]) told) s' "trim" x) :
    s' = fsP b (norm p done (cur ++ [none])).1 (norm p done (cur ++ [none])).2 hom (told ++ [(none, [], 0)]) := by
  have hb := sh.blk
  have lv := fill_lives (p := p) (told := told) hb hk hx
  have hl : 1 ≤ (cur ++ [some x]).length := by rw [List.length_append]; show 1 ≤ _ + 1; omega
  have hl2 : 1 ≤ (cur ++ [(none : Option Str)]).length := by rw [List.length_append]; show 1 ≤ _ + 1; omega
  obtain ⟨s0, hd, hw⟩ := h
  have e0 : s0 = dieP (fsP b (norm p done (cur ++ [some x])).1 (norm p done (cur ++ [some x])).2 (hom ++ [(.inr x, nV done.length)]) told) done.length cur.length x := by
    rcases hd with ⟨z, _⟩ | ⟨h, j, l2, z⟩
    · rw [lv.hom] at z; cases z
    · have e1 : h = done.length := by
        have z2 := l2.hom
        rw [lv.hom] at z2
        exact (nV_inj (Option.some.inj z2)).symm
      subst e1
      have e2 : j = cur.length := by
        rcases Nat.lt_trichotomy j cur.length with z3 | z3 | z3
        · exact absurd l2.pg (lv.fst j z3)
        · exact z3
        · exact absurd lv.pg (l2.fst _ z3)
      rw [z, e2]
  subst e0
  have e9 : s' = { dieP (fsP b (norm p done (cur ++ [some x])).1 (norm p done (cur ++ [some x])).2 (hom ++ [(.inr x, nV done.length)]) told) done.length cur.length x with told := told ++ [(none, [], 0)] } := by
    rcases hw with ⟨_, z⟩ | ⟨z, _⟩
    · exact z
    · exact absurd z (by decide)
  subst e9
  rw [norm_state hb hl, norm_state hb hl2]
  unfold dieP
  dsimp only
  rw [fsC_get, fsC_set, fsL_get, dropK_last hk hx]
  have e3 : (cur ++ [some x]).set cur.length none = cur ++ [none] := by
    rw [List.set_append_right _ _ (Nat.le_refl _), Nat.sub_self]
    rfl
  have e4 : (cur ++ [some x]).length = (cur ++ [(none : Option Str)]).length := by rw [List.length_append, List.length_append]; rfl
  rw [e3, fsL_set (c := cur ++ [none]) (by rw [livI_some, livI_none]; omega), e4]
end
/-- a state of the fill -/
def FS (b p : Nat) (done : List Cb) (cur : Cb) (m : Nat) (s : Pl) : Prop := ∃ hom told, s = fsP b (norm p done cur).1 (norm p done cur).2 hom told ∧ hom.map (·.1) = ((done ++ [cur]).flatMap keptN).map Sum.inr ∧ told.length ≤ m
theorem norm_open {p : Nat} {done : List Cb} {cur : Cb} (h : cur.length < p) : norm p done cur = (done, cur) := if_neg (by omega)
section
variable {b p m : Nat} {rows : List RowD} {done : List Cb} {cur : Cb} {x : Str} {s : Pl}
theorem fill_live (sh : Sh b p done cur) (hs : FS b p done cur m s) (hm : m ≤ 9000) (hx : x ∉ (done ++ [cur]).flatMap keptN) (hn : NameOk x) : Goes p (p * (b - 1)) rows s [("write", x)] (FS b p done (cur ++ [some x]) (m + 1)) := by
  obtain ⟨hom, told, rfl, hk, ht⟩ := hs
  rw [norm_open sh.cur]
  refine goes_one (fill_write_ok sh hk hx (by omega)) hn fun s' h => ?_
  refine ⟨_, _, fill_write_to sh hk hx h, ?_, ?_⟩
  · rw [List.map_append, hk]
    rw [List.flatMap_append, List.flatMap_append, List.map_append, List.map_append, List.append_assoc]
    congr 1
    show ((keptN cur ++ []).map Sum.inr : List L2.Key) ++ [.inr x] = (keptN (cur ++ [some x]) ++ []).map Sum.inr
    rw [List.append_nil, List.append_nil, kept_snoc, List.map_append]
    rfl
  · rw [List.length_append]
    show _ + 1 ≤ _
    omega
theorem fill_dead (sh : Sh b p done cur) (hs : FS b p done cur m s) (hm : m ≤ 9000) (hx : x ∉ (done ++ [cur]).flatMap keptN) (hn : NameOk x) : Goes p (p * (b - 1)) rows s [("write", x), ("trim", x)] (FS b p done (cur ++ [none]) (m + 2)) := by
  obtain ⟨hom, told, rfl, hk, ht⟩ := hs
  rw [norm_open sh.cur]
  refine goes_app (es := [("write", x)]) (es2 := [("trim", x)]) (goes_one (fill_write_ok sh hk hx (by omega)) hn fun s' h => fill_write_to sh hk hx h) fun s1 e => ?_
  subst e
  refine goes_one (fill_trim_ok sh hk hx ?_) hn fun s' h => ?_
  · rw [List.length_append]
    show _ + 1 ≤ _
    omega
  refine ⟨_, _, fill_trim_to sh hk hx h, ?_, ?_⟩
  · rw [hk, List.flatMap_append, List.flatMap_append]
    congr 2
    show keptN cur ++ [] = keptN (cur ++ [none]) ++ []
    rw [kept_snoc, List.append_nil, List.append_nil]
  · rw [List.length_append, List.length_append]
    show _ + 1 + 1 ≤ _
    omega
/-- a full block is done -/
theorem FS.next (hs : FS b p done cur m s) (hc : cur.length = p) (hp : 0 < p) : FS b p (done ++ [cur]) [] m s := by
  obtain ⟨hom, told, rfl, hk, ht⟩ := hs
  refine ⟨hom, told, ?_, ?_, ht⟩
  · unfold norm
    rw [if_pos hc, if_neg (by show ¬ 0 = p; omega)]
  · rw [hk, List.flatMap_append (xs := done ++ [cur])]
    show _ = (_ ++ (keptN [] ++ [])).map Sum.inr
    rw [show keptN [] = [] from rfl, List.append_nil, List.append_nil]
theorem fs_new {b p : Nat} (hp : 0 < p) (hb : 0 < b) : FS b p [] [] 0 (newP b) := by
  refine ⟨[], [], ?_, rfl, Nat.le_refl _⟩
  rw [norm_open (show ([] : Cb).length < p from hp)]
  have e : List.replicate b ([] : Cb) = [] :: List.replicate (b - 1) [] := by
    rw [← List.replicate_succ, Nat.sub_add_cancel hb]
  have e1 : fsC b [] [] = List.replicate b [] := by
    rw [e]
    rfl
  show _ = Pl.mk (fsC b [] []) ((fsC b [] []).map livI) (List.range' 0 (b - 0)) [] none [] []
  rw [e1, List.map_replicate, Nat.sub_zero]
  unfold newP
  rw [List.range_eq_range']
  rfl
end
end K6

set_option Elab.async false
set_option linter.all false
set_option maxRecDepth 100000
set_option maxHeartbeats 4000000
/-! the write that cleans one block, behind a fill -/
namespace K6
open PySem PySem.Spec PyProof.Rows L2 G1 G2 K2 G5 LamX
theorem set_getD_self {l : List Cb} {k : Nat} (h : k < l.length) : l.set k (l.getD k []) = l := by
  rw [List.getD_eq_getElem?_getD, List.getElem?_eq_getElem h]
  exact List.set_getElem_self h
theorem puts_cont {p k : Nat} : ∀ {ns : List Str} {s : Pl}, k < s.cont.length → (putsP p k s ns).cont = s.cont.set k (s.cont.getD k [] ++ ns.map some)
  | [], s, h => by
    rw [List.map_nil, List.append_nil, set_getD_self h]
    rfl
  | nm :: ns, s, h => by
    show (putsP p k (putP p s k nm) ns).cont = _
    rw [puts_cont (by rw [put_cont, List.length_set]; exact h), put_cont, getD_set h, List.set_set, List.append_assoc]
    rfl
theorem kept_some (ns : List Str) : keptN (ns.map some) = ns := by
  unfold keptN
  rw [List.filterMap_map]
  show ns.filterMap (fun x => some x) = ns
  exact List.filterMap_some
theorem range_getD {l r : List Int} : (List.range l.length).map (fun k => (l ++ r).getD k 0) = l := by
  refine List.ext_getElem (by simp) fun i h1 h2 => ?_
  rw [List.getElem_map, List.getElem_range, List.getD_eq_getElem?_getD, List.getElem?_append_left h2, List.getElem?_eq_getElem h2]
  rfl
theorem flat_lt {p : Nat} : ∀ l : List Cb, (∀ c ∈ l, (keptN c).length + 1 ≤ p) → (l.flatMap keptN).length + l.length ≤ p * l.length
  | [], _ => Nat.le_refl _
  | c :: l, h => by
    have h1 := flat_lt l fun d hd => h d (List.mem_cons_of_mem _ hd)
    have h2 := h c (List.mem_cons_self ..)
    rw [List.flatMap_cons, List.length_append, List.length_cons, Nat.mul_succ]
    omega
/-- all blocks but the last one are full, each with a dead page -/
structure Full (b p : Nat) (done : List Cb) : Prop where
  b10 : b ≤ 10
  p10 : p ≤ 10
  blk : done.length + 1 = b
  ne : 0 < done.length
  all : ∀ c ∈ done, c.length = p
  lt : ∀ c ∈ done, (keptN c).length + 1 ≤ p
section
variable {b p n : Nat} {rows : List RowD} {done : List Cb} {hom : List (L2.Key × V)} {told : List Tld} {x : Str}
theorem full_cont (F : Full b p done) : fsC b done [] = done ++ [[]] := by
  unfold fsC
  have e : b - done.length - 1 = 0 := by have := F.blk; omega
  rw [e]
  rfl
theorem full_state (F : Full b p done) : fsP b done [] hom told = ⟨done ++ [[]], done.map livI ++ [0], [done.length], List.range done.length, none, hom, told⟩ := by
  unfold fsP
  rw [full_cont F, List.map_append]
  have e : b - done.length = 1 := by have := F.blk; omega
  rw [e]
  rfl
theorem full_cnt (F : Full b p done) : cntP (fsP b done [] hom told) = done.map livI := by
  rw [full_state F]
  unfold cntP
  have e := range_getD (l := done.map livI) (r := [0])
  rw [List.length_map] at e
  exact e
theorem full_ok (F : Full b p done) (hk : hom.map (·.1) = (done.flatMap keptN).map Sum.inr) (hx : x ∉ done.flatMap keptN) (ht : told.length ≤ 10000) : EvtOk p (p * (b - 1)) rows (fsP b done [] hom told) "write" x := by
  have hl : hom.length = (done.flatMap keptN).length := by rw [← List.length_map (f := (·.1)), hk, List.length_map]
  have hb := F.b10
  have hp := F.p10
  have hbl := F.blk
  have hne := F.ne
  have hf := flat_lt done F.lt
  have e1 : b - 1 = done.length := by omega
  rw [e1]
  have h1 : p * done.length ≤ 10 * 9 := Nat.mul_le_mul hp (by omega)
  have ecnt := full_cnt (hom := hom) (told := told) F
  rw [full_state F] at ecnt ⊢
  refine ⟨by show (done.map livI ++ [0]).length = (done ++ [[]]).length; simp, ht, .inl rfl, .inl ⟨valV_keys hk hx, rfl, by show hom.length ≠ _; omega, ?_⟩⟩
  refine ⟨⟨fun c hc => ?_, by show hom.length ≤ 1000; omega, by show (List.range done.length).length ≤ 10; rw [List.length_range]; omega, by show 1 ≤ 10; decide, by show (done.map livI ++ [0]).length = (done ++ [[]]).length; simp⟩, fun k hk => (nomatch hk), fun k hk => ?_, fun _ _ => ?_, ht⟩
  · rcases List.mem_append.mp hc with z | z
    · rw [F.all c z]; exact hp
    · rw [List.mem_singleton.mp z]; exact Nat.zero_le _
  · have z : k = done.length := List.mem_singleton.mp hk
    show k < (done ++ [[]]).length
    rw [z, List.length_append]
    show _ < _ + 1
    omega
  · refine ⟨done.length, rfl, ?_, ?_, fun k hk => ?_, fun i k hpk hi => ?_⟩
    · show (done ++ [[]]).getD done.length [] = []
      rw [List.getD_eq_getElem?_getD, List.getElem?_append_right (Nat.le_refl _), Nat.sub_self]
      rfl
    · show List.range done.length ≠ []
      intro z
      have := congrArg List.length z
      rw [List.length_range] at this
      simp only [List.length_nil] at this
      omega
    · have hkl : k < done.length := List.mem_range.mp hk
      refine ⟨?_, by omega, ?_⟩
      · show k < (done ++ [[]]).length
        rw [List.length_append]
        show _ < _ + 1
        omega
      · show (done.map livI ++ [0]).getD k 0 ≤ (p : Int)
        rw [List.getD_eq_getElem?_getD, List.getElem?_append_left (by rw [List.length_map]; exact hkl), List.getElem?_map, List.getElem?_eq_getElem hkl]
        show livI done[k] ≤ _
        have := F.lt _ (List.getElem_mem hkl)
        unfold livI
        omega
    · have hkl : k < done.length := List.mem_range.mp (List.mem_of_getElem? hi)
      show (keptN ((done ++ [[]]).getD k [])).length < p
      rw [List.getD_eq_getElem?_getD, List.getElem?_append_left hkl, List.getElem?_eq_getElem hkl]
      have := F.lt _ (List.getElem_mem hkl)
      exact this
/-- what stands when block i was cleaned and x was written -/
structure Last (b : Nat) (done : List Cb) (x : Str) (i : Nat) (s' : Pl) : Prop where
  told : ∃ l, s'.told = l ++ [(some (b - 1), [i], livI (done.getD i []))] ∧ l.length ≤ 9000
  len : s'.cont.length = b
  c10 : ∀ c ∈ s'.cont, c.length ≤ 10
  free : s'.free = [i]
  at_ : s'.cont.getD i [] = []
  last : keptN (s'.cont.getD (b - 1) []) = keptN (done.getD i []) ++ [x]
theorem full_to (F : Full b p done) (hk : hom.map (·.1) = (done.flatMap keptN).map Sum.inr) (hx : x ∉ done.flatMap keptN) (ht : told.length ≤ 9000) {s' : Pl} (h : EvtR p rows (fsP b done [] hom told) s' "write" x) : ∃ i, i < done.length ∧ PickR rows (done.map livI) i ∧ Last b done x i s' := by
  have hb := F.b10
  have hp := F.p10
  have hbl := F.blk
  have e1 : b - 1 = done.length := by omega
  have hv := valV_keys hk hx
  have ecnt := full_cnt (hom := hom) (told := told) F
  obtain ⟨s0, hd, hw⟩ := h
  have e0 : s0 = fsP b done [] hom told := by
    rcases hd with ⟨_, z⟩ | ⟨h, j, hl, _⟩
    · exact z
    · have z := hl.hom
      rw [show (fsP b done [] hom told).hom = hom from rfl, hv] at z
      cases z
  subst e0
  rcases hw with ⟨z, _⟩ | ⟨_, s1, k, cl, cp, ho, rfl⟩
  · exact absurd z (by decide)
  rcases ho with ⟨z, _⟩ | ⟨_, z, _⟩ | ⟨_, hfr, i, j, hi, hpk, rfl, rfl, rfl⟩
  · rw [full_state F] at z; cases z
  · rw [full_state F] at z
    exact absurd (show 1 < 1 from z) (by decide)
  rw [ecnt] at hpk
  rw [full_state F] at hfr hi ⊢
  have hk1 : k = done.length := (List.cons.inj hfr).1.symm
  have hil : i < done.length := by
    have z := (List.getElem?_eq_some_iff.mp hi).1
    rwa [List.length_range] at z
  have hji : i = j := by
    rw [show (List.range done.length)[i]? = some i from by rw [List.getElem?_range hil]] at hi
    exact Option.some.inj hi
  subst hk1 hji
  have edi : done.getD i [] = done[i] := by rw [List.getD_eq_getElem?_getD, List.getElem?_eq_getElem hil]; rfl
  have eC : (done ++ [[]] : List Cb).getD i [] = done[i] := by rw [List.getD_eq_getElem?_getD, List.getElem?_append_left hil, List.getElem?_eq_getElem hil]; rfl
  have eL : (done.map livI ++ [0]).getD i 0 = livI done[i] := by rw [List.getD_eq_getElem?_getD, List.getElem?_append_left (by rw [List.length_map]; exact hil), List.getElem?_map, List.getElem?_eq_getElem hil]; rfl
  have hne : done.length ≠ i := by omega
  -- the pages
  have hlen : done.length < ((done ++ [[]] : List Cb).set i []).length := by rw [List.length_set, List.length_append]; show _ < _ + 1; omega
  have eF : ((done ++ [[]] : List Cb).set i []).getD done.length [] = [] := by
    rw [List.getD_eq_getElem?_getD, List.getElem?_set_ne (Ne.symm hne), List.getElem?_append_right (Nat.le_refl _), Nat.sub_self]
    rfl
  let s0 : Pl := ⟨done ++ [[]], done.map livI ++ [0], [done.length], List.range done.length, none, hom, told⟩
  have c1 : (cleanP p s0 i i done.length).cont = ((done ++ [[]] : List Cb).set i []).set done.length ((keptN done[i]).map some) := by
    show (putsP p done.length (cln1 s0 i i done.length) (keptN ((done ++ [[]] : List Cb).getD i []))).cont = _
    rw [puts_cont hlen, eC]
    show ((done ++ [[]] : List Cb).set i []).set done.length (((done ++ [[]] : List Cb).set i []).getD done.length [] ++ _) = _
    rw [eF]
    rfl
  have c2 : (putP p { cleanP p s0 i i done.length with told := (cleanP p s0 i i done.length).told ++ [(some done.length, [i], (done.map livI ++ [0]).getD i 0)] } done.length x).cont = ((done ++ [[]] : List Cb).set i []).set done.length ((keptN done[i]).map some ++ [some x]) := by
    rw [put_cont]
    show (cleanP p s0 i i done.length).cont.set done.length ((cleanP p s0 i i done.length).cont.getD done.length [] ++ [some x]) = _
    rw [c1, getD_set hlen, List.set_set]
  have hlt := F.lt _ (List.getElem_mem hil)
  refine ⟨i, hil, hpk, ⟨⟨told, ?_, ht⟩, ?_, fun c hc => ?_, ?_, ?_, ?_⟩⟩
  · rw [put_told]
    show (cleanP p s0 i i done.length).told ++ [(some done.length, [i], (done.map livI ++ [0]).getD i 0)] = _
    rw [clean_told, eL, e1, edi]
  · rw [c2, List.length_set, List.length_set, List.length_append]
    show _ + 1 = _
    omega
  · rw [c2] at hc
    rcases List.mem_or_eq_of_mem_set hc with z | z
    · rcases List.mem_or_eq_of_mem_set z with z | z
      · rcases List.mem_append.mp z with z | z
        · rw [F.all c z]; exact hp
        · rw [List.mem_singleton.mp z]; exact Nat.zero_le _
      · rw [z]; exact Nat.zero_le _
    · rw [z, List.length_append, List.length_map]
      show _ + 1 ≤ _
      omega
  · rw [put_free]
    rfl
  · rw [c2, List.getD_eq_getElem?_getD, List.getElem?_set_ne hne, List.getElem?_set_self (by rw [List.length_append]; show _ < _ + 1; omega)]
    rfl
  · rw [c2, e1, getD_set hlen, kept_snoc, kept_some, edi]
end
/-! ### the block that is due -/
theorem pick_at {pre rest : List RowD} {L : Int} {t : Str} {cs : List Int} {i : Nat} (h0 : ∀ r ∈ pre, plcs r.1 cs cs.length = []) (hne : plcs L cs cs.length ≠ []) (h : PickR (pre ++ (L, t) :: rest) cs i) : i ∈ plcs L cs cs.length ∧ ChoR t cs (plcs L cs cs.length) i := by
  obtain ⟨j, r, hj, hb, hm, hc⟩ := h
  rcases Nat.lt_trichotomy j pre.length with z | z | z
  · rw [List.getElem?_append_left z] at hj
    rw [h0 r (List.mem_of_getElem? hj)] at hm
    exact nomatch hm
  · subst z
    rw [List.getElem?_append_right (Nat.le_refl _), Nat.sub_self] at hj
    have e : (L, t) = r := Option.some.inj hj
    subst e
    exact ⟨hm, hc⟩
  · refine absurd (hb pre.length (L, t) z ?_) hne
    rw [List.getElem?_append_right (Nat.le_refl _), Nat.sub_self]
    rfl
/-- of so many blocks, those with this number of pages -/
def idx (lv : List Nat) (v : Nat) : List Nat := (List.range lv.length).filter fun k => decide (lv.getD k 0 = v)
structure Two (lv : List Nat) (few more : Nat) : Prop where
  lt : few < more
  two : ∀ k, k < lv.length → lv.getD k 0 = few ∨ lv.getD k 0 = more
  one : ∃ k, k < lv.length ∧ lv.getD k 0 = few
abbrev csI (lv : List Nat) : List Int := lv.map fun (v : Nat) => (v : Int)
theorem cs_get {lv : List Nat} {k : Nat} (h : k < lv.length) : (csI lv).getD k 0 = ((lv.getD k 0 : Nat) : Int) := by
  rw [List.getD_eq_getElem?_getD, List.getElem?_map, List.getD_eq_getElem?_getD, List.getElem?_eq_getElem h]
  rfl
section
variable {lv : List Nat} {few more d i : Nat} {L : Int}
theorem plcs_low (T : Two lv few more) : plcs (few : Int) (csI lv) (csI lv).length = idx lv few := by
  unfold plcs idx
  rw [List.length_map]
  refine List.filter_congr fun k hk => ?_
  have hk' := List.mem_range.mp hk
  rw [cs_get hk']
  have h1 := T.two k hk'
  have h2 := T.lt
  by_cases e : lv.getD k 0 = few
  · rw [decide_eq_true e, decide_eq_true (by omega)]
  · rw [decide_eq_false e, decide_eq_false (by omega)]
theorem plcs_high (T : Two lv few more) : plcs (more : Int) (csI lv) (csI lv).length = List.range lv.length := by
  unfold plcs
  rw [List.length_map]
  refine List.filter_eq_self.mpr fun k hk => ?_
  have hk' := List.mem_range.mp hk
  rw [cs_get hk']
  have h1 := T.two k hk'
  have h2 := T.lt
  exact decide_eq_true (by omega)
theorem plcs_none (T : Two lv few more) (h : L < (few : Int)) : plcs L (csI lv) (csI lv).length = [] := by
  unfold plcs
  rw [List.length_map]
  refine List.filter_eq_nil_iff.mpr fun k hk => ?_
  have hk' := List.mem_range.mp hk
  rw [cs_get hk']
  have h1 := T.two k hk'
  have h2 := T.lt
  rw [decide_eq_false (by omega)]
  exact Bool.false_ne_true
theorem idx_mem {v k : Nat} : k ∈ idx lv v ↔ k < lv.length ∧ lv.getD k 0 = v := by
  unfold idx
  rw [List.mem_filter, List.mem_range, decide_eq_true_iff]
theorem idx_head {v : Nat} (h : (idx lv v)[0]? = some d) : d < lv.length ∧ lv.getD d 0 = v ∧ ∀ k, k < d → lv.getD k 0 ≠ v := by
  have hm := idx_mem.mp (List.mem_of_getElem? h)
  refine ⟨hm.1, hm.2, fun k hk e => ?_⟩
  unfold idx at h
  rw [← List.head?_eq_getElem?, List.head?_filter, List.find?_range_eq_some] at h
  have z := h.2.2 k hk
  rw [decide_eq_true e] at z
  exact absurd z (by decide)
theorem low_ne (T : Two lv few more) : idx lv few ≠ [] := fun z => by
  obtain ⟨k, hk⟩ := T.one
  have := idx_mem.mpr hk
  rw [z] at this
  exact nomatch this
def DueOk (tone : Str) (lv : List Nat) (L : Int) (d : Nat) : Prop := d < lv.length ∧ ∀ i, i ∈ plcs L (csI lv) (csI lv).length → ChoR tone (csI lv) (plcs L (csI lv) (csI lv).length) i → i = d
theorem due_old_low (T : Two lv few more) (h : (idx lv few)[0]? = some d) : DueOk "oldest" lv (few : Int) d := by
  refine ⟨(idx_head h).1, fun i _ hc => ?_⟩
  rw [plcs_low T] at hc
  exact Option.some.inj ((hc.1 rfl).symm.trans h)
theorem due_old_high (T : Two lv few more) : DueOk "oldest" lv (more : Int) 0 := by
  obtain ⟨k, hk, _⟩ := T.one
  refine ⟨by omega, fun i _ hc => ?_⟩
  rw [plcs_high T] at hc
  have z := hc.1 rfl
  rw [List.getElem?_range (by omega)] at z
  exact (Option.some.inj z).symm
theorem due_yng_low (T : Two lv few more) (h : (idx lv few).getLast? = some d) : DueOk "youngest" lv (few : Int) d := by
  refine ⟨(idx_mem.mp (List.mem_of_getLast? h)).1, fun i _ hc => ?_⟩
  rw [plcs_low T] at hc
  exact Option.some.inj ((hc.2.1 rfl).symm.trans h)
theorem due_yng_high (T : Two lv few more) : DueOk "youngest" lv (more : Int) (lv.length - 1) := by
  obtain ⟨k, hk, _⟩ := T.one
  refine ⟨by omega, fun i _ hc => ?_⟩
  rw [plcs_high T] at hc
  have z := hc.2.1 rfl
  rw [List.getLast?_eq_getElem?, List.length_range, List.getElem?_range (by omega)] at z
  exact (Option.some.inj z).symm
/-- the first of those with few pages -/
theorem due_low_first {tone : Str} (ht : tone = "least" ∨ tone = "most") (T : Two lv few more) (h : (idx lv few)[0]? = some d) : DueOk tone lv (few : Int) d := by
  refine ⟨(idx_head h).1, fun i _ hc => ?_⟩
  rw [plcs_low T] at hc
  have key : ∀ sg j, Best sg (csI lv) (idx lv few) j i → i = d := by
    rintro sg j ⟨b1, b2⟩
    by_cases e : j = 0
    · subst e
      exact Option.some.inj (b1.symm.trans h)
    · exfalso
      have hi := idx_mem.mp (List.mem_of_getElem? b1)
      have hd := idx_mem.mp (List.mem_of_getElem? h)
      have z := b2 0 d h
      rw [cs_get hi.1, cs_get hd.1, hi.2, hd.2] at z
      cases sg
      · exact absurd (z.2 (by omega)) (by omega)
      · exact absurd (z.2 (by omega)) (by omega)
  rcases ht with e | e
  · obtain ⟨j, hb⟩ := hc.2.2.1 e
    exact key _ _ hb
  · obtain ⟨j, hb⟩ := hc.2.2.2 e
    exact key _ _ hb
theorem range_at {n j i : Nat} (h : (List.range n)[j]? = some i) : i = j ∧ j < n := by
  have z := (List.getElem?_eq_some_iff.mp h).1
  rw [List.length_range] at z
  rw [List.getElem?_range z] at h
  exact ⟨(Option.some.inj h).symm, z⟩
theorem due_least_high (T : Two lv few more) (h : (idx lv few)[0]? = some d) : DueOk "least" lv (more : Int) d := by
  obtain ⟨h1, h2, h3⟩ := idx_head h
  refine ⟨h1, fun i _ hc => ?_⟩
  rw [plcs_high T] at hc
  obtain ⟨j, b1, b2⟩ := hc.2.2.1 rfl
  obtain ⟨rfl, hj⟩ := range_at b1
  have z := b2 d d (by rw [List.getElem?_range h1])
  rw [cs_get hj, cs_get h1, h2] at z
  have ht := T.two i hj
  have hl := T.lt
  rcases Nat.lt_trichotomy i d with c | c | c
  · exact absurd (show lv.getD i 0 = few by have := z.1; omega) (h3 i c)
  · exact c
  · have := z.2 c; omega
theorem due_most_high (T : Two lv few more) (h : (idx lv more ++ idx lv few)[0]? = some d) : DueOk "most" lv (more : Int) d := by
  have hl := T.lt
  by_cases hm : idx lv more = []
  · rw [hm, List.nil_append] at h
    obtain ⟨h1, h2, h3⟩ := idx_head h
    have hall : ∀ k, k < lv.length → lv.getD k 0 = few := fun k hk => (T.two k hk).resolve_right fun e => by
      have := idx_mem.mpr ⟨hk, e⟩
      rw [hm] at this
      exact nomatch this
    refine ⟨h1, fun i _ hc => ?_⟩
    rw [plcs_high T] at hc
    obtain ⟨j, b1, b2⟩ := hc.2.2.2 rfl
    obtain ⟨rfl, hj⟩ := range_at b1
    have z := b2 d d (by rw [List.getElem?_range h1])
    rw [cs_get hj, cs_get h1, h2, hall i hj] at z
    rcases Nat.lt_trichotomy i d with c | c | c
    · exact absurd (hall i hj) (h3 i c)
    · exact c
    · have := z.2 c; omega
  · have h' : (idx lv more)[0]? = some d := by
      rw [List.getElem?_append_left (List.length_pos_iff.mpr hm)] at h
      exact h
    obtain ⟨h1, h2, h3⟩ := idx_head h'
    refine ⟨h1, fun i _ hc => ?_⟩
    rw [plcs_high T] at hc
    obtain ⟨j, b1, b2⟩ := hc.2.2.2 rfl
    obtain ⟨rfl, hj⟩ := range_at b1
    have z := b2 d d (by rw [List.getElem?_range h1])
    rw [cs_get hj, cs_get h1, h2] at z
    have ht := T.two i hj
    rcases Nat.lt_trichotomy i d with c | c | c
    · exact absurd (show lv.getD i 0 = more by have := z.1; omega) (h3 i c)
    · exact c
    · have := z.2 c; omega
end
end K6

set_option Elab.async false
set_option linter.all false
set_option maxRecDepth 100000
set_option maxHeartbeats 4000000
/-! what holds of a play at all times -/
namespace K6
open PySem PySem.Spec PyProof.Rows L2 G1 G2 K2 G5 LamX
theorem swap_perm {α : Type} (A X B : List α) : ((A ++ X) ++ B).Perm ((B ++ X) ++ A) := by
  refine List.perm_append_comm.trans ?_
  rw [List.append_assoc B X A]
  exact List.Perm.append_left B List.perm_append_comm
theorem flat_set {α β : Type} (g : α → List β) (d : α) : ∀ (l : List α) (k : Nat) (c : α), k < l.length → ((l.set k c).flatMap g ++ g (l.getD k d)).Perm (l.flatMap g ++ g c)
  | a :: l, 0, c, _ => by
    show ((c :: l).flatMap g ++ g a).Perm ((a :: l).flatMap g ++ g c)
    rw [List.flatMap_cons, List.flatMap_cons]
    exact swap_perm _ _ _
  | a :: l, k + 1, c, h => by
    have h' : k < l.length := Nat.lt_of_succ_lt_succ h
    show ((a :: l.set k c).flatMap g ++ g (l.getD k d)).Perm ((a :: l).flatMap g ++ g c)
    rw [List.flatMap_cons, List.flatMap_cons, List.append_assoc, List.append_assoc]
    exact List.Perm.append_left _ (flat_set g d l k c h')
theorem kept_flat : ∀ c : Cb, keptN c = c.flatMap Option.toList
  | [] => rfl
  | none :: c => by
    have := kept_flat c
    unfold keptN at this ⊢
    rw [List.flatMap_cons, ← this]
    rfl
  | some x :: c => by
    have := kept_flat c
    unfold keptN at this ⊢
    rw [List.flatMap_cons, ← this]
    rfl
theorem kept_die {c : Cb} {j : Nat} {x : Str} (h : c[j]? = some (some x)) : (keptN (c.set j none) ++ [x]).Perm (keptN c) := by
  have hj := (List.getElem?_eq_some_iff.mp h).1
  have z := flat_set Option.toList none c j none hj
  have e : c.getD j none = some x := by rw [List.getD_eq_getElem?_getD, h]; rfl
  rw [e] at z
  rw [kept_flat, kept_flat]
  have e2 : c.flatMap Option.toList ++ (none : Option Str).toList = c.flatMap Option.toList := List.append_nil _
  rw [e2] at z
  exact z
theorem valV_drop : ∀ (l : List (L2.Key × V)) (k j : L2.Key), valV (dropK l k) j = if j = k then none else valV l j
  | [], k, j => by split <;> rfl
  | p :: r, k, j => by
    by_cases e : p.1 = k
    · rw [dropK_pos e, valV_drop r k j]
      by_cases ej : j = k
      · rw [if_pos ej, if_pos ej]
      · rw [if_neg ej, if_neg ej, valV_neg (fun z => ej (z.symm.trans e))]
    · rw [dropK_neg e]
      by_cases ep : p.1 = j
      · rw [valV_pos ep, valV_pos ep, if_neg (fun z => e (ep.trans z))]
      · rw [valV_neg ep, valV_neg ep, valV_drop r k j]
theorem putK_keys {kvs : List (L2.Key × V)} {k : L2.Key} {v w : V} (h : valV kvs k = some w) : (putK kvs k v).map (·.1) = kvs.map (·.1) := by
  unfold putK
  rw [if_pos (by rw [valV_any, h]; rfl), List.map_map]
  refine List.map_congr_left fun kv _ => ?_
  show (if kv.1 = k then (kv.1, v) else kv).1 = kv.1
  split <;> rfl
/-- the homes once all of ns live in f -/
def homs (hom : List (L2.Key × V)) (f : Nat) (ns : List Str) : List (L2.Key × V) := ns.foldl (fun h nm => putK h (.inr nm) (nV f)) hom
theorem homs_keys {f : Nat} : ∀ {ns : List Str} {hom : List (L2.Key × V)}, (∀ x ∈ ns, ∃ w, valV hom (.inr x) = some w) → (homs hom f ns).map (·.1) = hom.map (·.1)
  | [], _, _ => rfl
  | x :: ns, hom, h => by
    obtain ⟨w, hw⟩ := h x (List.mem_cons_self ..)
    show (homs (putK hom (.inr x) (nV f)) f ns).map (·.1) = _
    rw [homs_keys (ns := ns) fun y hy => ?_, putK_keys hw]
    obtain ⟨w2, hw2⟩ := h y (List.mem_cons_of_mem _ hy)
    rw [valV_put]
    split
    · exact ⟨_, rfl⟩
    · exact ⟨w2, hw2⟩
theorem homs_val {f : Nat} {y : Str} : ∀ {ns : List Str} {hom : List (L2.Key × V)}, valV (homs hom f ns) (.inr y) = if y ∈ ns then some (nV f) else valV hom (.inr y)
  | [], hom => by rw [if_neg (List.not_mem_nil)]; rfl
  | x :: ns, hom => by
    show valV (homs (putK hom (.inr x) (nV f)) f ns) (.inr y) = _
    rw [homs_val (ns := ns), valV_put]
    by_cases e1 : y ∈ ns
    · rw [if_pos e1, if_pos (List.mem_cons_of_mem _ e1)]
    · rw [if_neg e1]
      by_cases e2 : y = x
      · subst e2
        rw [if_pos rfl, if_pos (List.mem_cons_self ..)]
      · rw [if_neg (fun z => e2 (Sum.inr.inj z)), if_neg (fun z => by rcases List.mem_cons.mp z with z | z; exact e2 z; exact e1 z)]
/-! ### pages put one behind another -/
theorem puts_hom (p k : Nat) : ∀ (ns : List Str) (s : Pl), (putsP p k s ns).hom = homs s.hom k ns
  | [], s => rfl
  | x :: ns, s => by
    show (putsP p k (putP p s k x) ns).hom = homs (putK s.hom (.inr x) (nV k)) k ns
    rw [puts_hom p k ns, put_hom]
theorem puts_liv (p k : Nat) : ∀ (ns : List Str) (s : Pl), k < s.liv.length → (putsP p k s ns).liv = s.liv.set k (s.liv.getD k 0 + (ns.length : Int))
  | [], s, h => by
    show s.liv = _
    rw [show s.liv.getD k 0 + (([] : List Str).length : Int) = s.liv.getD k 0 from Int.add_zero _, List.getD_eq_getElem?_getD, List.getElem?_eq_getElem h]
    exact (List.set_getElem_self h).symm
  | x :: ns, s, h => by
    show (putsP p k (putP p s k x) ns).liv = _
    rw [puts_liv p k ns _ (by rw [put_livn, List.length_set]; exact h), put_livn, List.set_set]
    congr 1
    rw [List.getD_eq_getElem?_getD, List.getElem?_set_self h]
    show s.liv.getD k 0 + 1 + (ns.length : Int) = _
    rw [List.length_cons]
    omega
theorem puts_end (p k : Nat) : ∀ (ns : List Str) (s : Pl) (c : Nat), k < s.cont.length → (s.cont.getD k []).length = c → c < p → c + ns.length ≤ p → s.fil = some k →
    (putsP p k s ns).fil = (if c + ns.length = p then none else some k) ∧ (putsP p k s ns).clo = s.clo ++ (if c + ns.length = p then [k] else [])
  | [], s, c, hk, hc, h0, h1, hf => by
    rw [if_neg (by show ¬ c + 0 = p; omega), if_neg (by show ¬ c + 0 = p; omega), List.append_nil]
    exact ⟨hf, rfl⟩
  | x :: ns, s, c, hk, hc, h0, h1, hf => by
    rw [List.length_cons] at h1 ⊢
    show (putsP p k (putP p s k x) ns).fil = _ ∧ (putsP p k (putP p s k x) ns).clo = _
    by_cases e : c + 1 = p
    · have en : ns = [] := List.length_eq_zero_iff.mp (by omega)
      subst en
      rw [if_pos (by show c + (0 + 1) = p; omega), if_pos (by show c + (0 + 1) = p; omega)]
      show (putP p s k x).fil = none ∧ (putP p s k x).clo = s.clo ++ [k]
      unfold putP
      rw [if_pos (by omega)]
      exact ⟨rfl, rfl⟩
    · obtain ⟨e1, e2⟩ := put_filn (p := p) (k := k) (s := s) (nm := x) (by omega)
      have ih := puts_end p k ns (putP p s k x) (c + 1) (by rw [put_cont, List.length_set]; exact hk) (by rw [put_cont, getD_set hk, List.length_append, hc]; rfl) (by omega) (by omega) (by rw [e1]; exact hf)
      rw [e2] at ih
      rw [show c + (ns.length + 1) = c + 1 + ns.length by omega]
      exact ih
/-! ### the play -/
structure PInv (b p : Nat) (s : Pl) (al : List Str) : Prop where
  cl : s.cont.length = b
  ll : s.liv.length = b
  lv : ∀ k, k < b → s.liv.getD k 0 = livI (s.cont.getD k [])
  pt : (s.free ++ s.clo ++ s.fil.toList).Perm (List.range b)
  fr : ∀ k ∈ s.free, s.cont.getD k [] = []
  fc : ∀ k ∈ s.clo, (s.cont.getD k []).length = p
  fo : ∀ k, s.fil = some k → (s.cont.getD k []).length < p
  fe : s.free ≠ []
  names : (s.cont.flatMap keptN).Perm al
  nd : al.Nodup
  loc : ∀ h x, h < b → x ∈ keptN (s.cont.getD h []) → valV s.hom (.inr x) = some (nV h)
  no : ∀ x, x ∉ al → valV s.hom (.inr x) = none
  hl : s.hom.length = al.length
  hk : (s.hom.map (·.1)).Nodup
section
variable {b p : Nat} {s : Pl} {al : List Str} {x : Str}
theorem PInv.perm {al' : List Str} (I : PInv b p s al) (h : al.Perm al') : PInv b p s al' :=
  ⟨I.cl, I.ll, I.lv, I.pt, I.fr, I.fc, I.fo, I.fe, I.names.trans h, h.nodup_iff.mp I.nd, I.loc, fun x hx => I.no x fun z => hx (h.mem_iff.mp z), by rw [← h.length_eq]; exact I.hl, I.hk⟩
theorem PInv.told (I : PInv b p s al) (t : List Tld) : PInv b p { s with told := t } al := ⟨I.cl, I.ll, I.lv, I.pt, I.fr, I.fc, I.fo, I.fe, I.names, I.nd, I.loc, I.no, I.hl, I.hk⟩
theorem PInv.mem (I : PInv b p s al) {k : Nat} (h : k ∈ s.free ++ s.clo ++ s.fil.toList) : k < b := List.mem_range.mp (I.pt.mem_iff.mp h)
theorem PInv.ptn (I : PInv b p s al) : (s.free ++ s.clo ++ s.fil.toList).Nodup := I.pt.nodup_iff.mpr List.nodup_range
theorem getD_mem {l : List Cb} {k : Nat} (h : k < l.length) : l.getD k [] ∈ l := by
  rw [List.getD_eq_getElem?_getD, List.getElem?_eq_getElem h]
  exact List.getElem_mem h
/-- where a living name lives -/
theorem PInv.at_ (I : PInv b p s al) (h : x ∈ al) : ∃ (h j : Nat), h < b ∧ LivesAt s x h j := by
  have hm := I.names.mem_iff.mpr h
  obtain ⟨c, hc, hx⟩ := List.mem_flatMap.mp hm
  obtain ⟨k, hk, e⟩ := List.getElem_of_mem hc
  have ek : s.cont.getD k [] = c := by rw [List.getD_eq_getElem?_getD, List.getElem?_eq_getElem hk, e]; rfl
  have hkb : k < b := by rw [← I.cl]; exact hk
  have hl := I.loc k x hkb (by rw [ek]; exact hx)
  unfold keptN at hx
  obtain ⟨o, ho, eo⟩ := List.mem_filterMap.mp hx
  have eo' : o = some x := eo
  subst eo'
  -- the first page of it
  have hfind : ∃ j : Nat, c[j]? = some (some x) ∧ ∀ m, m < j → c[m]? ≠ some (some x) := by
    have : ∀ n : Nat, (∃ j : Nat, j < n ∧ c[j]? = some (some x)) → ∃ j : Nat, c[j]? = some (some x) ∧ ∀ m, m < j → c[m]? ≠ some (some x) := by
      intro n
      induction n with
      | zero => rintro ⟨j, hj, _⟩; omega
      | succ n ih =>
        rintro ⟨j, hj, e⟩
        by_cases q : ∃ j : Nat, j < n ∧ c[j]? = some (some x)
        · exact ih q
        · refine ⟨j, e, fun m hm em => q ⟨m, by omega, em⟩⟩
    obtain ⟨j, hj, e⟩ := List.getElem_of_mem ho
    exact this c.length ⟨j, hj, by rw [List.getElem?_eq_getElem hj, e]⟩
  obtain ⟨j, hj, hf⟩ := hfind
  exact ⟨k, j, hkb, ⟨hl, hk, by rw [ek]; exact hj, fun m hm => by rw [ek]; exact hf m hm⟩⟩
theorem set_getD_ne {l : List Cb} {k h : Nat} {c : Cb} (e : h ≠ k) : (l.set k c).getD h [] = l.getD h [] := by
  rw [List.getD_eq_getElem?_getD, List.getD_eq_getElem?_getD, List.getElem?_set_ne (Ne.symm e)]
theorem setI_ne {l : List Int} {k h : Nat} {c : Int} (e : h ≠ k) : (l.set k c).getD h 0 = l.getD h 0 := by
  rw [List.getD_eq_getElem?_getD, List.getD_eq_getElem?_getD, List.getElem?_set_ne (Ne.symm e)]
theorem setI_self {l : List Int} {k : Nat} {c : Int} (e : k < l.length) : (l.set k c).getD k 0 = c := by
  rw [List.getD_eq_getElem?_getD, List.getElem?_set_self e]
  rfl
theorem erase_perm {al : List Str} {x : Str} (h : x ∈ al) : ((al.erase x) ++ [x]).Perm al := (List.perm_append_comm (l₁ := al.erase x) (l₂ := [x])).trans (List.perm_cons_erase h).symm
/-- a name dies -/
theorem PInv.die (I : PInv b p s al) {h j : Nat} (L : LivesAt s x h j) : PInv b p (dieP s h j x) (al.erase x) := by
  have hcl := I.cl
  have hb : h < b := by rw [← hcl]; exact L.blk
  have hkd : (keptN ((s.cont.getD h []).set j none) ++ [x]).Perm (keptN (s.cont.getD h [])) := kept_die L.pg
  have hxm : x ∈ keptN (s.cont.getD h []) := hkd.mem_iff.mp (by simp)
  have hxal : x ∈ al := I.names.mem_iff.mp (List.mem_flatMap.mpr ⟨_, getD_mem L.blk, hxm⟩)
  have hklen : (keptN ((s.cont.getD h []).set j none)).length + 1 = (keptN (s.cont.getD h [])).length := by
    have := hkd.length_eq
    rw [List.length_append] at this
    exact this
  have hnames : ((s.cont.set h ((s.cont.getD h []).set j none)).flatMap keptN).Perm (al.erase x) := by
    have z := flat_set keptN [] s.cont h ((s.cont.getD h []).set j none) L.blk
    have z2 : ((s.cont.set h ((s.cont.getD h []).set j none)).flatMap keptN ++ (keptN ((s.cont.getD h []).set j none) ++ [x])).Perm (al.erase x ++ [x] ++ keptN ((s.cont.getD h []).set j none)) :=
      (List.Perm.append_left _ hkd).trans (z.trans (List.Perm.append_right _ (I.names.trans (erase_perm hxal).symm)))
    rw [← List.append_assoc] at z2
    have z3 : ((s.cont.set h ((s.cont.getD h []).set j none)).flatMap keptN ++ [x] ++ keptN ((s.cont.getD h []).set j none)).Perm (al.erase x ++ [x] ++ keptN ((s.cont.getD h []).set j none)) := by
      refine List.Perm.trans ?_ z2
      rw [List.append_assoc, List.append_assoc]
      exact List.Perm.append_left _ List.perm_append_comm
    exact (List.perm_append_right_iff _).mp ((List.perm_append_right_iff _).mp z3)
  have hlen : (((s.cont.getD h []).set j none)).length = (s.cont.getD h []).length := List.length_set
  have hD : ∀ k, ((s.cont.set h ((s.cont.getD h []).set j none)).getD k []).length = (s.cont.getD k []).length := fun k => by
    by_cases e : k = h
    · subst e
      rw [getD_set L.blk, hlen]
    · rw [set_getD_ne e]
  refine ⟨by show (s.cont.set h _).length = b; rw [List.length_set]; exact hcl, by show (s.liv.set h _).length = b; rw [List.length_set]; exact I.ll, fun k hk => ?_, I.pt, fun k hk => ?_, fun k hk => ?_, fun k hk => ?_, I.fe, hnames, I.nd.erase x, fun k y hk hy => ?_, fun y hy => ?_, ?_, nd_dropK I.hk⟩
  · show (s.liv.set h (s.liv.getD h 0 - 1)).getD k 0 = livI ((s.cont.set h ((s.cont.getD h []).set j none)).getD k [])
    by_cases e : k = h
    · subst e
      rw [setI_self (by rw [I.ll]; exact hk), getD_set L.blk, I.lv k hk]
      unfold livI
      omega
    · rw [setI_ne e, set_getD_ne e]
      exact I.lv k hk
  · have z := I.fr k hk
    have z2 := hD k
    rw [z] at z2
    exact List.length_eq_zero_iff.mp z2
  · show ((s.cont.set h _).getD k []).length = p
    rw [hD]
    exact I.fc k hk
  · show ((s.cont.set h _).getD k []).length < p
    rw [hD]
    exact I.fo k hk
  · show valV (dropK s.hom (.inr x)) (.inr y) = some (nV k)
    have hy' : y ∈ keptN ((s.cont.set h ((s.cont.getD h []).set j none)).getD k []) := hy
    have hne : y ≠ x := fun z => by
      subst z
      have hm := hnames.mem_iff.mp (List.mem_flatMap.mpr ⟨_, getD_mem (by rw [List.length_set, hcl]; exact hk), hy'⟩)
      exact (List.Nodup.mem_erase_iff I.nd).mp hm |>.1 rfl
    rw [valV_drop, if_neg (fun z => hne (Sum.inr.inj z))]
    refine I.loc k y hk ?_
    by_cases e : k = h
    · subst e
      rw [getD_set L.blk] at hy'
      exact hkd.mem_iff.mp (List.mem_append_left _ hy')
    · rw [set_getD_ne e] at hy'
      exact hy'
  · show valV (dropK s.hom (.inr x)) (.inr y) = none
    rw [valV_drop]
    split
    · rfl
    · refine I.no y fun z => hy ?_
      rename_i hne
      exact (List.mem_erase_of_ne (fun q => hne (congrArg Sum.inr q))).mpr z
  · show (dropK s.hom (.inr x)).length = (al.erase x).length
    have z := dropK_len I.hk (valV_in L.hom)
    rw [List.length_erase_of_mem hxal, ← I.hl]
    omega
/-- a free block is opened -/
theorem PInv.pop (I : PInv b p s al) (hp : 0 < p) (hf : s.fil = none) (hl : 1 < s.free.length) {k : Nat} (h0 : s.free[0]? = some k) : PInv b p { s with free := s.free.eraseIdx 0, fil := some k } al := by
  obtain ⟨r, er⟩ : ∃ r, s.free = k :: r := by
    cases e : s.free with
    | nil => rw [e] at h0; cases h0
    | cons a r => rw [e] at h0; cases h0; exact ⟨r, rfl⟩
  have hk : k ∈ s.free := by rw [er]; exact List.mem_cons_self ..
  have e1 : s.free.eraseIdx 0 = r := by rw [er]; rfl
  refine ⟨I.cl, I.ll, I.lv, ?_, fun j hj => I.fr j ?_, I.fc, fun j hj => ?_, ?_, I.names, I.nd, I.loc, I.no, I.hl, I.hk⟩
  · show (s.free.eraseIdx 0 ++ s.clo ++ [k]).Perm _
    have z := I.pt
    rw [hf, er] at z
    rw [e1]
    refine List.Perm.trans ?_ z
    show (r ++ s.clo ++ [k]).Perm ((k :: r) ++ s.clo ++ [])
    rw [List.append_nil]
    exact List.perm_append_comm
  · have hj' : j ∈ s.free.eraseIdx 0 := hj
    rw [e1] at hj'
    rw [er]
    exact List.mem_cons_of_mem _ hj'
  · have ej : some k = some j := hj
    cases ej
    rw [I.fr k hk]
    exact hp
  · show s.free.eraseIdx 0 ≠ []
    rw [e1]
    intro z
    rw [er, z] at hl
    simp at hl
end
end K6

set_option Elab.async false
set_option linter.all false
set_option maxRecDepth 100000
set_option maxHeartbeats 4000000
namespace K6
open PySem PySem.Spec PyProof.Rows L2 G1 G2 K2 G5 LamX
section
variable {b p : Nat} {s : Pl} {al : List Str} {x : Str} {rows : List RowD}
theorem disj_of {A B : List Nat} (h : (A ++ B).Nodup) {k : Nat} (ha : k ∈ A) (hb : k ∈ B) : False := (List.nodup_append.mp h).2.2 k ha k hb rfl
theorem kept_in {cont : List Cb} {k : Nat} {y : Str} (hk : k < cont.length) (hy : y ∈ keptN (cont.getD k [])) : y ∈ cont.flatMap keptN := List.mem_flatMap.mpr ⟨_, getD_mem hk, hy⟩
/-- a name is written into the open block -/
theorem PInv.put (I : PInv b p s al) {k : Nat} (hf : s.fil = some k) (hx : x ∉ al) : PInv b p (putP p s k x) (al ++ [x]) := by
  have hkb : k < b := I.mem (List.mem_append_right _ (by rw [hf]; exact List.mem_singleton.mpr rfl))
  have hkl : k < s.cont.length := by rw [I.cl]; exact hkb
  have hop := I.fo k hf
  have hpt := I.ptn
  rw [hf] at hpt
  have nfree : ∀ j ∈ s.free, j ≠ k := fun j hj e => disj_of hpt (List.mem_append_left _ (e ▸ hj)) (List.mem_singleton.mpr rfl)
  have nclo : ∀ j ∈ s.clo, j ≠ k := fun j hj e => disj_of hpt (List.mem_append_right _ (e ▸ hj)) (List.mem_singleton.mpr rfl)
  have hcont := put_cont p k s x
  have hliv := put_livn p k s x
  have hhom := put_hom p k s x
  have hfree := put_free p k s x
  have hnew := I.no x hx
  have hks : keptN (s.cont.getD k [] ++ [some x]) = keptN (s.cont.getD k []) ++ [x] := kept_snoc _ _
  have hfc : ((s.cont.getD k []).length + 1 = p ∧ (putP p s k x).fil = none ∧ (putP p s k x).clo = s.clo ++ [k]) ∨ ((s.cont.getD k []).length + 1 < p ∧ (putP p s k x).fil = some k ∧ (putP p s k x).clo = s.clo) := by
    by_cases e : (s.cont.getD k []).length + 1 = p
    · refine .inl ⟨e, ?_⟩
      unfold putP
      rw [if_pos e]
      exact ⟨rfl, rfl⟩
    · obtain ⟨e1, e2⟩ := put_filn (p := p) (k := k) (s := s) (nm := x) e
      exact .inr ⟨by omega, by rw [e1, hf], e2⟩
  refine ⟨by rw [hcont, List.length_set]; exact I.cl, by rw [hliv, List.length_set]; exact I.ll, fun j hj => ?_, ?_, fun j hj => ?_, fun j hj => ?_, fun j hj => ?_, by rw [hfree]; exact I.fe, ?_, ?_, fun j y hj hy => ?_, fun y hy => ?_, ?_, by rw [hhom]; exact nd_putK _ I.hk hnew⟩
  · rw [hcont, hliv]
    by_cases e : j = k
    · subst e
      rw [setI_self (by rw [I.ll]; exact hj), getD_set hkl, I.lv j hj, livI_some]
    · rw [setI_ne e, set_getD_ne e]
      exact I.lv j hj
  · rw [hfree]
    have z := I.pt
    rw [hf] at z
    rcases hfc with ⟨_, e1, e2⟩ | ⟨_, e1, e2⟩
    · rw [e1, e2]
      show (s.free ++ (s.clo ++ [k]) ++ []).Perm _
      rw [List.append_nil, ← List.append_assoc]
      exact z
    · rw [e1, e2]
      exact z
  · rw [hfree] at hj
    rw [hcont, set_getD_ne (nfree j hj)]
    exact I.fr j hj
  · rw [hcont]
    rcases hfc with ⟨e0, _, e2⟩ | ⟨_, _, e2⟩
    · rw [e2] at hj
      rcases List.mem_append.mp hj with z | z
      · rw [set_getD_ne (nclo j z)]
        exact I.fc j z
      · rw [List.mem_singleton.mp z, getD_set hkl, List.length_append]
        exact e0
    · rw [e2] at hj
      rw [set_getD_ne (nclo j hj)]
      exact I.fc j hj
  · rcases hfc with ⟨_, e1, _⟩ | ⟨e0, e1, _⟩
    · rw [e1] at hj
      cases hj
    · rw [e1] at hj
      cases hj
      rw [hcont, getD_set hkl, List.length_append]
      exact e0
  · rw [hcont]
    have z := flat_set keptN [] s.cont k (s.cont.getD k [] ++ [some x]) hkl
    rw [hks, ← List.append_assoc] at z
    have z2 : ((s.cont.set k (s.cont.getD k [] ++ [some x])).flatMap keptN ++ keptN (s.cont.getD k [])).Perm (s.cont.flatMap keptN ++ [x] ++ keptN (s.cont.getD k [])) := by
      refine z.trans ?_
      rw [List.append_assoc, List.append_assoc]
      exact List.Perm.append_left _ List.perm_append_comm
    exact ((List.perm_append_right_iff _).mp z2).trans (List.Perm.append_right _ I.names)
  · exact List.nodup_append.mpr ⟨I.nd, List.nodup_cons.mpr ⟨List.not_mem_nil, List.nodup_nil⟩, fun a ha c hc e => hx (by rw [List.mem_singleton.mp hc] at e; exact e ▸ ha)⟩
  · rw [hhom, valV_put]
    rw [hcont] at hy
    by_cases ey : y = x
    · subst ey
      rw [if_pos rfl]
      by_cases e : j = k
      · rw [e]
      · exfalso
        rw [set_getD_ne e] at hy
        exact hx (I.names.mem_iff.mp (kept_in (by rw [I.cl]; exact hj) hy))
    · rw [if_neg (fun z => ey (Sum.inr.inj z))]
      refine I.loc j y hj ?_
      by_cases e : j = k
      · subst e
        rw [getD_set hkl, hks] at hy
        rcases List.mem_append.mp hy with z | z
        · exact z
        · exact absurd (List.mem_singleton.mp z) ey
      · rw [set_getD_ne e] at hy
        exact hy
  · rw [hhom, valV_put, if_neg (fun z => hy (List.mem_append_right _ (List.mem_singleton.mpr (Sum.inr.inj z))))]
    exact I.no y fun z => hy (List.mem_append_left _ z)
  · rw [hhom, putK_new _ hnew, List.length_append, List.length_append, I.hl]
    rfl
theorem erase_at : ∀ {l : List Nat} {i k : Nat}, l[i]? = some k → (k :: l.eraseIdx i).Perm l
  | [], i, k, h => by simp at h
  | a :: l, 0, k, h => by
    have e : a = k := Option.some.inj h
    rw [e]
    exact List.Perm.refl _
  | a :: l, i + 1, k, h => by
    have h' : l[i]? = some k := h
    show (k :: a :: l.eraseIdx i).Perm (a :: l)
    exact (List.Perm.swap a k _).trans (List.Perm.cons a (erase_at h'))
/-- what a cleaning does -/
structure ClnTo (p : Nat) (s : Pl) (i k f : Nat) (s' : Pl) : Prop where
  cont : s'.cont = (s.cont.set k []).set f ((keptN (s.cont.getD k [])).map some)
  liv : s'.liv = (s.liv.set k 0).set f ((keptN (s.cont.getD k [])).length : Int)
  free : s'.free = [k]
  clo : s'.clo = s.clo.eraseIdx i ++ (if (keptN (s.cont.getD k [])).length = p then [f] else [])
  fil : s'.fil = if (keptN (s.cont.getD k [])).length = p then none else some f
  hom : s'.hom = homs s.hom f (keptN (s.cont.getD k []))
  told : s'.told = s.told
theorem PInv.cln (I : PInv b p s al) (hp : 0 < p) (hfr : ∃ f, s.free = [f]) {i k f : Nat} (hf : s.fil = none) (hfe : s.free = [f]) (hi : s.clo[i]? = some k) : ClnTo p s i k f (cleanP p s i k f) ∧ f ≠ k ∧ f < b ∧ k < b := by
  have hkc := List.mem_of_getElem? hi
  have hkb : k < b := I.mem (List.mem_append_left _ (List.mem_append_right _ hkc))
  have hfb : f < b := I.mem (List.mem_append_left _ (List.mem_append_left _ (by rw [hfe]; exact List.mem_singleton.mpr rfl)))
  have hpt := I.ptn
  rw [hf, hfe] at hpt
  have hfk : f ≠ k := fun e => disj_of (List.nodup_append.mp hpt).1 (List.mem_singleton.mpr rfl) (e ▸ hkc)
  have hfl : f < (s.cont.set k []).length := by rw [List.length_set, I.cl]; exact hfb
  have hcf : s.cont.getD f [] = [] := I.fr f (by rw [hfe]; exact List.mem_singleton.mpr rfl)
  have hcf' : (s.cont.set k []).getD f [] = [] := by rw [set_getD_ne hfk]; exact hcf
  have hlf : (s.liv.set k 0).getD f 0 = 0 := by
    rw [setI_ne hfk, I.lv f hfb, hcf]
    rfl
  have hlen : (keptN (s.cont.getD k [])).length ≤ p := by
    have := kept_len (s.cont.getD k [])
    rw [I.fc k hkc] at this
    exact this
  have e0 : s.free.eraseIdx 0 = [] := by rw [hfe]; rfl
  obtain ⟨e1, e2⟩ := puts_end p f (keptN (s.cont.getD k [])) (cln1 s i k f) 0 hfl (by show ((s.cont.set k []).getD f []).length = 0; rw [hcf']; rfl) hp (by rw [Nat.zero_add]; exact hlen) rfl
  rw [Nat.zero_add] at e1 e2
  refine ⟨⟨?_, ?_, ?_, e2, e1, ?_, clean_told p s i k f⟩, hfk, hfb, hkb⟩
  · show (putsP p f (cln1 s i k f) (keptN (s.cont.getD k []))).cont = _
    rw [puts_cont hfl]
    show (s.cont.set k []).set f ((s.cont.set k []).getD f [] ++ _) = _
    rw [hcf']
    rfl
  · show (putsP p f (cln1 s i k f) (keptN (s.cont.getD k []))).liv = _
    rw [puts_liv p f _ _ (by show f < (s.liv.set k 0).length; rw [List.length_set, I.ll]; exact hfb)]
    show (s.liv.set k 0).set f ((s.liv.set k 0).getD f 0 + _) = _
    rw [hlf, Int.zero_add]
  · show s.free.eraseIdx 0 ++ [k] = [k]
    rw [e0]
    rfl
  · show (putsP p f (cln1 s i k f) (keptN (s.cont.getD k []))).hom = _
    rw [puts_hom]
    rfl
theorem PInv.clean (I : PInv b p s al) (hp : 0 < p) {i k f : Nat} {s' : Pl} (hf : s.fil = none) (hfe : s.free = [f]) (hi : s.clo[i]? = some k) (hfk : f ≠ k) (hfb : f < b) (hkb : k < b) (T : ClnTo p s i k f s') : PInv b p s' al := by
  have hkc := List.mem_of_getElem? hi
  have hkl : k < s.cont.length := by rw [I.cl]; exact hkb
  have hfl : f < (s.cont.set k []).length := by rw [List.length_set, I.cl]; exact hfb
  have hcf : s.cont.getD f [] = [] := I.fr f (by rw [hfe]; exact List.mem_singleton.mpr rfl)
  have hcf' : (s.cont.set k []).getD f [] = [] := by rw [set_getD_ne hfk]; exact hcf
  have hlen : (keptN (s.cont.getD k [])).length ≤ p := by
    have := kept_len (s.cont.getD k [])
    rw [I.fc k hkc] at this
    exact this
  have hpt := I.ptn
  rw [hf, hfe] at hpt
  have hnd2 : s.clo.Nodup := (List.nodup_append.mp (List.nodup_append.mp hpt).1).2.1
  have herase := erase_at hi
  have hke : k ∉ s.clo.eraseIdx i := (List.nodup_cons.mp (herase.nodup_iff.mpr hnd2)).1
  have hin : ∀ j ∈ s.clo.eraseIdx i, j ∈ s.clo := fun j hj => herase.mem_iff.mp (List.mem_cons_of_mem _ hj)
  have nf : ∀ j ∈ s.clo.eraseIdx i, j ≠ f := fun j hj e => disj_of (List.nodup_append.mp hpt).1 (List.mem_singleton.mpr rfl) (e ▸ hin j hj)
  have getc : ∀ j, s'.cont.getD j [] = if j = f then (keptN (s.cont.getD k [])).map some else if j = k then [] else s.cont.getD j [] := fun j => by
    rw [T.cont]
    by_cases e : j = f
    · rw [if_pos e, e, getD_set hfl]
    · rw [if_neg e, set_getD_ne e]
      by_cases e2 : j = k
      · rw [if_pos e2, e2, getD_set hkl]
      · rw [if_neg e2, set_getD_ne e2]
  have hperm : (s'.cont.flatMap keptN).Perm (s.cont.flatMap keptN) := by
    rw [T.cont]
    have z1 := flat_set keptN [] s.cont k [] hkl
    have z2 := flat_set keptN [] (s.cont.set k []) f ((keptN (s.cont.getD k [])).map some) hfl
    rw [hcf', kept_some] at z2
    have e : keptN ([] : Cb) = [] := rfl
    rw [e, List.append_nil] at z1 z2
    exact z2.trans z1
  have hlocs : ∀ y ∈ keptN (s.cont.getD k []), valV s.hom (.inr y) = some (nV k) := fun y hy => I.loc k y hkb hy
  refine ⟨by rw [T.cont, List.length_set, List.length_set]; exact I.cl, by rw [T.liv, List.length_set, List.length_set]; exact I.ll, fun j hj => ?_, ?_, fun j hj => ?_, fun j hj => ?_, fun j hj => ?_, by rw [T.free]; exact List.cons_ne_nil _ _, hperm.trans I.names, I.nd, fun j y hj hy => ?_, fun y hy => ?_, ?_, ?_⟩
  · rw [T.liv, getc]
    by_cases e : j = f
    · rw [if_pos e, e, setI_self (by rw [List.length_set, I.ll]; exact hfb)]
      unfold livI
      rw [kept_some]
    · rw [if_neg e, setI_ne e]
      by_cases e2 : j = k
      · rw [if_pos e2, e2, setI_self (by rw [I.ll]; exact hkb)]
        rfl
      · rw [if_neg e2, setI_ne e2]
        exact I.lv j hj
  · have z := I.pt
    rw [hf, hfe] at z
    have z' : ([f] ++ s.clo).Perm (List.range b) := by
      have e : [f] ++ s.clo ++ (none : Option Nat).toList = [f] ++ s.clo := List.append_nil _
      rw [e] at z
      exact z
    have key : ([k] ++ (s.clo.eraseIdx i) ++ [f]).Perm (List.range b) := by
      refine List.Perm.trans ?_ z'
      refine List.perm_append_comm.trans (List.Perm.append_left _ ?_)
      exact herase
    rw [T.free, T.clo, T.fil]
    split
    · show ([k] ++ (s.clo.eraseIdx i ++ [f]) ++ []).Perm _
      rw [List.append_nil, ← List.append_assoc]
      exact key
    · show ([k] ++ (s.clo.eraseIdx i ++ []) ++ [f]).Perm _
      rw [List.append_nil]
      exact key
  · rw [T.free] at hj
    rw [getc, List.mem_singleton.mp hj, if_neg (Ne.symm hfk), if_pos rfl]
  · rw [T.clo] at hj
    rcases List.mem_append.mp hj with z | z
    · rw [getc, if_neg (nf j z), if_neg (fun (e : j = k) => hke (e ▸ z))]
      exact I.fc j (hin j z)
    · split at z
      · rename_i hfull
        rw [getc, if_pos (List.mem_singleton.mp z), List.length_map]
        exact hfull
      · cases z
  · rw [T.fil] at hj
    split at hj
    · cases hj
    · rename_i hnf
      cases hj
      rw [getc, if_pos rfl, List.length_map]
      omega
  · rw [getc] at hy
    rw [T.hom, homs_val]
    by_cases e : j = f
    · rw [if_pos e, kept_some] at hy
      rw [if_pos hy, e]
    · rw [if_neg e] at hy
      by_cases e2 : j = k
      · rw [if_pos e2] at hy
        cases hy
      · rw [if_neg e2] at hy
        have hj2 := I.loc j y hj hy
        rw [if_neg (fun z => ?_)]
        · exact hj2
        · have := hlocs y z
          rw [hj2] at this
          exact e2 (nV_inj (Option.some.inj this))
  · rw [T.hom, homs_val, if_neg (fun z => hy (I.names.mem_iff.mp (kept_in hkl z)))]
    exact I.no y hy
  · rw [T.hom, ← List.length_map (f := (·.1)), homs_keys (fun y hy => ⟨_, hlocs y hy⟩), List.length_map]
    exact I.hl
  · rw [T.hom, homs_keys (fun y hy => ⟨_, hlocs y hy⟩)]
    exact I.hk
end
end K6

set_option Elab.async false
set_option linter.all false
set_option maxRecDepth 100000
set_option maxHeartbeats 4000000
namespace K6
open PySem PySem.Spec PyProof.Rows L2 G1 G2 K2 G5 LamX
theorem perm_sum {l m : List Nat} (h : l.Perm m) : l.sum = m.sum := by
  induction h with
  | nil => rfl
  | cons x _ ih => rw [List.sum_cons, List.sum_cons, ih]
  | swap x y l => rw [List.sum_cons, List.sum_cons, List.sum_cons, List.sum_cons]; omega
  | trans _ _ h1 h2 => exact h1.trans h2
abbrev kln (c : Cb) : Nat := (keptN c).length
theorem map_kln (l : List Cb) : (l.map kln).sum = (l.flatMap keptN).length := by
  rw [List.length_flatMap]
theorem range_map (l : List Cb) : (List.range l.length).map (fun k => kln (l.getD k [])) = l.map kln := by
  refine List.ext_getElem (by simp) fun i h1 h2 => ?_
  rw [List.length_map] at h2
  rw [List.getElem_map, List.getElem_range, List.getElem_map, List.getD_eq_getElem?_getD, List.getElem?_eq_getElem h2]
  rfl
/-- the living pages of the closed blocks -/
def lvC (s : Pl) : List Nat := s.clo.map fun k => kln (s.cont.getD k [])
theorem le_sum : ∀ {l : List Nat} {v : Nat}, v ∈ l → v ≤ l.sum
  | a :: l, v, h => by
    rw [List.sum_cons]
    rcases List.mem_cons.mp h with e | e
    · omega
    · have := le_sum e
      omega
section
variable {b p : Nat} {s : Pl} {al : List Str} {x : Str} {rows : List RowD}
theorem PInv.cnt (I : PInv b p s al) : cntP s = csI (lvC s) := by
  unfold cntP lvC csI
  rw [List.map_map]
  refine List.map_congr_left fun k hk => ?_
  exact I.lv k (I.mem (List.mem_append_left _ (List.mem_append_right _ hk)))
theorem PInv.sum (I : PInv b p s al) : ((s.free ++ s.clo ++ s.fil.toList).map fun k => kln (s.cont.getD k [])).sum = al.length := by
  rw [perm_sum (I.pt.map _), ← I.cl, range_map, map_kln]
  exact I.names.length_eq
theorem PInv.lvc_sum (I : PInv b p s al) {f : Nat} (hf : s.fil = none) (hfe : s.free = [f]) : (lvC s).sum = al.length := by
  have z := I.sum
  have hcf : s.cont.getD f [] = [] := I.fr f (by rw [hfe]; exact List.mem_singleton.mpr rfl)
  rw [hf, hfe] at z
  have e : ([f] ++ s.clo ++ (none : Option Nat).toList) = f :: s.clo := List.append_nil _
  rw [e, List.map_cons, List.sum_cons, hcf] at z
  have e2 : kln ([] : Cb) = 0 := rfl
  rw [e2, Nat.zero_add] at z
  exact z
theorem PInv.lvc_le (I : PInv b p s al) : ∀ v ∈ lvC s, v ≤ p := fun v hv => by
  obtain ⟨k, hk, rfl⟩ := List.mem_map.mp hv
  have := kept_len (s.cont.getD k [])
  rw [I.fc k hk] at this
  exact this
theorem PInv.clo_len (I : PInv b p s al) {f : Nat} (hf : s.fil = none) (hfe : s.free = [f]) : s.clo.length + 1 = b := by
  have z := I.pt.length_eq
  rw [hf, hfe, List.length_range] at z
  simp only [List.length_append, List.length_cons, List.length_nil, Option.toList] at z
  omega
theorem PInv.fit2 (I : PInv b p s al) (hb : b ≤ 10) (hp : p ≤ 10) (ha : al.length ≤ 100) : Fit2 s := by
  have z := I.pt.length_eq
  rw [List.length_range, List.length_append, List.length_append] at z
  refine ⟨fun c hc => ?_, by rw [I.hl]; omega, by omega, by omega, by rw [I.ll, I.cl]⟩
  obtain ⟨k, hk, e⟩ := List.getElem_of_mem hc
  have ek : s.cont.getD k [] = c := by rw [List.getD_eq_getElem?_getD, List.getElem?_eq_getElem hk, e]; rfl
  have hkm : k ∈ s.free ++ s.clo ++ s.fil.toList := I.pt.mem_iff.mpr (List.mem_range.mpr (by rw [← I.cl]; exact hk))
  rw [← ek]
  rcases List.mem_append.mp hkm with h | h
  · rcases List.mem_append.mp h with h | h
    · rw [I.fr k h]
      exact Nat.zero_le _
    · rw [I.fc k h]
      exact hp
  · cases hfil : s.fil with
    | none => rw [hfil] at h; cases h
    | some j =>
      rw [hfil] at h
      have := I.fo k (by rw [hfil, List.mem_singleton.mp h])
      omega
/-- a rule by which no write sticks -/
def Calm (p : Nat) (rows : List RowD) : Prop := ∃ (pre rest : List RowD) (r0 : RowD), rows = pre ++ r0 :: rest ∧ (∀ r ∈ pre, r.1 < (p : Int)) ∧ (r0.1 + 1 = (p : Int) ∨ ((p : Int) ≤ r0.1 ∧ (r0.2 = "oldest" ∨ r0.2 = "least")))
theorem plcs_of {L : Int} {lv : List Nat} {k : Nat} : k ∈ plcs L (csI lv) (csI lv).length ↔ k < lv.length ∧ (lv.getD k 0 : Int) ≤ L := by
  unfold plcs
  rw [List.mem_filter, List.mem_range, decide_eq_true_iff, List.length_map]
  constructor
  · rintro ⟨h1, h2⟩
    rw [cs_get h1] at h2
    exact ⟨h1, h2⟩
  · rintro ⟨h1, h2⟩
    rw [cs_get h1]
    exact ⟨h1, h2⟩
theorem calm_pick {lv : List Nat} {i : Nat} (hc : Calm p rows) (hle : ∀ v ∈ lv, v ≤ p) (hm : ∃ m, m < lv.length ∧ lv.getD m 0 < p) (h : PickR rows (csI lv) i) : i < lv.length ∧ (lv.getD i 0 < p ∨ (i = 0 ∧ lv.getD 0 0 = p)) := by
  obtain ⟨pre, rest, r0, rfl, hpre, h0⟩ := hc
  obtain ⟨j, r, hj, hb, hi, hch⟩ := h
  obtain ⟨m, hml, hmp⟩ := hm
  obtain ⟨hil, hiL⟩ := plcs_of.mp hi
  refine ⟨hil, ?_⟩
  have at_le : ∀ k, k < lv.length → lv.getD k 0 ≤ p := fun k hk => by
    refine hle _ ?_
    rw [List.getD_eq_getElem?_getD, List.getElem?_eq_getElem hk]
    exact List.getElem_mem hk
  rcases Nat.lt_trichotomy j pre.length with z | z | z
  · rw [List.getElem?_append_left z] at hj
    have := hpre r (List.mem_of_getElem? hj)
    exact .inl (by omega)
  · subst z
    rw [List.getElem?_append_right (Nat.le_refl _), Nat.sub_self] at hj
    have e : r0 = r := Option.some.inj hj
    subst e
    rcases h0 with h0 | ⟨h0, hw | hw⟩
    · exact .inl (by omega)
    · have z := hch.1 hw
      have hpos : 0 < lv.length := by omega
      have h0m : (0 : Nat) ∈ plcs r0.1 (csI lv) (csI lv).length := plcs_of.mpr ⟨hpos, by have := at_le 0 hpos; omega⟩
      have e0 : i = 0 := by
        have hall : plcs r0.1 (csI lv) (csI lv).length = List.range lv.length := by
          unfold plcs
          rw [List.length_map]
          refine List.filter_eq_self.mpr fun k hk => ?_
          have hk' := List.mem_range.mp hk
          rw [cs_get hk']
          have := at_le k hk'
          exact decide_eq_true (by omega)
        rw [hall, List.getElem?_range hpos] at z
        exact (Option.some.inj z).symm
      subst e0
      have := at_le 0 hpos
      by_cases e : lv.getD 0 0 < p
      · exact .inl e
      · exact .inr ⟨rfl, by omega⟩
    · obtain ⟨j2, b1, b2⟩ := hch.2.2.1 hw
      have hmm : m ∈ plcs r0.1 (csI lv) (csI lv).length := plcs_of.mpr ⟨hml, by omega⟩
      obtain ⟨j3, hj3, e3⟩ := List.getElem_of_mem hmm
      have z := b2 j3 m (by rw [List.getElem?_eq_getElem hj3, e3])
      rw [cs_get hil, cs_get hml] at z
      have := z.1
      exact .inl (by omega)
  · exfalso
    have z2 := hb pre.length r0 z (by rw [List.getElem?_append_right (Nat.le_refl _), Nat.sub_self]; rfl)
    have hmm : m ∈ plcs r0.1 (csI lv) (csI lv).length := plcs_of.mpr ⟨hml, by rcases h0 with h0 | ⟨h0, _⟩ <;> omega⟩
    rw [z2] at hmm
    cases hmm
def fnf (p : Nat) (lv : List Nat) : Nat := lv.findIdx fun v => decide (v < p)
theorem fnf_rot {v : Nat} {lv : List Nat} (hv : ¬ v < p) (hm : ∃ m, m < lv.length ∧ lv.getD m 0 < p) : fnf p (v :: lv) = fnf p (lv ++ [p]) + 1 := by
  obtain ⟨m, hm1, hm2⟩ := hm
  unfold fnf
  rw [List.findIdx_cons, decide_eq_false hv]
  show lv.findIdx _ + 1 = _
  rw [List.findIdx_append, if_pos]
  refine List.findIdx_lt_length_of_exists ⟨lv[m], List.getElem_mem hm1, ?_⟩
  rw [List.getD_eq_getElem?_getD, List.getElem?_eq_getElem hm1] at hm2
  exact decide_eq_true hm2
theorem PInv.opened (I : PInv b p s al) (hb : b ≤ 10) (hp : p ≤ 10) (ha : al.length ≤ 100) (ht : s.told.length ≤ 10000) {k : Nat} (hf : s.fil = some k) : Opened s k :=
  ⟨hf, by rw [I.cl]; exact I.mem (List.mem_append_right _ (by rw [hf]; exact List.mem_singleton.mpr rfl)), (I.fit2 hb hp ha).fit, ht⟩
theorem PInv.ready (I : PInv b p s al) (hb : b ≤ 10) (hb2 : 2 ≤ b) (hp : p ≤ 10) (ha : al.length ≤ 100) (ht : s.told.length ≤ 10000) {f : Nat} (hf : s.fil = none) (hfe : s.free = [f]) : Ready p s f := by
  have hcl := I.clo_len hf hfe
  have hpt := I.ptn
  rw [hf, hfe] at hpt
  have hfm : f ∈ s.free := by rw [hfe]; exact List.mem_singleton.mpr rfl
  refine ⟨hfe, I.fit2 hb hp ha, by rw [I.cl]; exact I.mem (List.mem_append_left _ (List.mem_append_left _ hfm)), I.fr f hfm, fun z => by rw [z] at hcl; simp at hcl; omega, fun k hk => ?_, ht⟩
  have hkb := I.mem (List.mem_append_left s.fil.toList (List.mem_append_right s.free hk))
  have hkl := kept_len (s.cont.getD k [])
  rw [I.fc k hk] at hkl
  refine ⟨by rw [I.cl]; exact hkb, fun e => disj_of (List.nodup_append.mp hpt).1 (List.mem_singleton.mpr rfl) (e ▸ hk), ?_, hkl⟩
  rw [I.lv k hkb]
  unfold livI
  omega
theorem lvc_getD {i k : Nat} (h : s.clo[i]? = some k) : (lvC s).getD i 0 = kln (s.cont.getD k []) := by
  unfold lvC
  rw [List.getD_eq_getElem?_getD, List.getElem?_map, h]
  rfl
/-- a full block is cleaned: the closed ones turn -/
theorem PInv.turn (I : PInv b p s al) (hp : 0 < p) {i k f : Nat} (hf : s.fil = none) (hfe : s.free = [f]) (hi : s.clo[i]? = some k) (hfull : kln (s.cont.getD k []) = p) : lvC (cleanP p s i k f) = (lvC s).eraseIdx i ++ [p] := by
  obtain ⟨T, hfk, hfb, hkb⟩ := I.cln hp ⟨f, hfe⟩ hf hfe hi
  have hfull' : (keptN (s.cont.getD k [])).length = p := hfull
  have hpt := I.ptn
  rw [hf, hfe] at hpt
  have hnd2 : s.clo.Nodup := (List.nodup_append.mp (List.nodup_append.mp hpt).1).2.1
  have herase := erase_at hi
  have hke : k ∉ s.clo.eraseIdx i := (List.nodup_cons.mp (herase.nodup_iff.mpr hnd2)).1
  unfold lvC
  rw [T.clo, if_pos hfull', List.map_append, map_erase (fun k => kln (s.cont.getD k [])) s.clo i]
  congr 1
  · refine List.map_congr_left fun j hj => ?_
    have hjc : j ∈ s.clo := herase.mem_iff.mp (List.mem_cons_of_mem _ hj)
    rw [T.cont, set_getD_ne (fun (e : j = f) => disj_of (List.nodup_append.mp hpt).1 (List.mem_singleton.mpr rfl) (e ▸ hjc)), set_getD_ne (fun (e : j = k) => hke (e ▸ hj))]
  · show [kln ((cleanP p s i k f).cont.getD f [])] = [p]
    rw [T.cont, getD_set (by rw [List.length_set, I.cl]; exact hfb)]
    show [(keptN ((keptN (s.cont.getD k [])).map some)).length] = [p]
    rw [kept_some, hfull']
theorem cln_ok (hc : Calm p rows) (hb : b ≤ 10) (hb2 : 2 ≤ b) (hp0 : 0 < p) (hp : p ≤ 10) (ha : al.length ≤ 100) : ∀ (d : Nat) (seen : List (List Int)) (s : Pl), PInv b p s al → s.told.length ≤ 10000 → s.fil = none → (∃ f, s.free = [f]) → (∃ m, m < (lvC s).length ∧ (lvC s).getD m 0 < p) → fnf p (lvC s) = d → (∀ c ∈ seen, ∃ lv, c = csI lv ∧ d < fnf p lv) → CleanOk p rows false (d + 1) seen s := by
  intro d
  induction d with
  | zero =>
    intro seen s I ht hf ⟨f, hfe⟩ hm hd hs
    refine .inr ⟨hf, f, I.ready hb hb2 hp ha ht hf hfe, fun z => ?_, fun _ i k hpk hik => ?_⟩
    · exfalso
      obtain ⟨lv, e, hlv⟩ := hs _ z
      rw [I.cnt] at e
      have e' : lvC s = lv := List.map_inj_right (fun a c h => by exact Int.ofNat_inj.mp h) |>.mp e
      rw [← e'] at hlv
      omega
    · obtain ⟨T, hfk, hfb, hkb⟩ := I.cln hp0 ⟨f, hfe⟩ hf hfe hik
      have I' := I.clean hp0 hf hfe hik hfk hfb hkb T
      rw [I.cnt] at hpk
      obtain ⟨hil, hcase⟩ := calm_pick hc I.lvc_le hm hpk
      have hlt : kln (s.cont.getD k []) < p := by
        rw [← lvc_getD hik]
        rcases hcase with h | ⟨h0, h1⟩
        · exact h
        · exfalso
          obtain ⟨m, hm1, hm2⟩ := hm
          cases e : lvC s with
          | nil => rw [e] at hil; simp at hil
          | cons v r =>
            rw [e] at h1 hd
            have h1' : v = p := h1
            unfold fnf at hd
            rw [List.findIdx_cons, decide_eq_false (by omega)] at hd
            simp at hd
      have hfil : (cleanP p s i k f).fil = some f := by
        rw [T.fil, if_neg]
        have : kln (s.cont.getD k []) = (keptN (s.cont.getD k [])).length := rfl
        omega
      exact ⟨f, I'.opened hb hp ha (by rw [T.told]; exact ht) hfil⟩
  | succ d ih =>
    intro seen s I ht hf ⟨f, hfe⟩ hm hd hs
    refine .inr ⟨hf, f, I.ready hb hb2 hp ha ht hf hfe, fun z => ?_, fun _ i k hpk hik => ?_⟩
    · exfalso
      obtain ⟨lv, e, hlv⟩ := hs _ z
      rw [I.cnt] at e
      have e' : lvC s = lv := List.map_inj_right (fun a c h => by exact Int.ofNat_inj.mp h) |>.mp e
      rw [← e'] at hlv
      omega
    · obtain ⟨T, hfk, hfb, hkb⟩ := I.cln hp0 ⟨f, hfe⟩ hf hfe hik
      have I' := I.clean hp0 hf hfe hik hfk hfb hkb T
      have ecnt := I.cnt
      rw [ecnt] at hpk
      obtain ⟨hil, hcase⟩ := calm_pick hc I.lvc_le hm hpk
      by_cases hlt : kln (s.cont.getD k []) < p
      · have hfil : (cleanP p s i k f).fil = some f := by
          rw [T.fil, if_neg]
          have : kln (s.cont.getD k []) = (keptN (s.cont.getD k [])).length := rfl
          omega
        exact .inl ⟨f, I'.opened hb hp ha (by rw [T.told]; exact ht) hfil⟩
      · rw [← lvc_getD hik] at hlt
        have hi0 : i = 0 ∧ (lvC s).getD 0 0 = p := by
          rcases hcase with h | h
          · exact absurd h hlt
          · exact h
        obtain ⟨rfl, h0⟩ := hi0
        have hfull : kln (s.cont.getD k []) = p := by rw [← lvc_getD hik]; exact h0
        have hfil : (cleanP p s 0 k f).fil = none := by
          rw [T.fil, if_pos]
          exact hfull
        have hturn := I.turn hp0 hf hfe hik hfull
        obtain ⟨v, r, er⟩ : ∃ v r, lvC s = v :: r := by
          cases e : lvC s with
          | nil => rw [e] at hil; simp at hil
          | cons v r => exact ⟨v, r, rfl⟩
        have hv : v = p := by rw [er] at h0; exact h0
        have hm' : ∃ m, m < r.length ∧ r.getD m 0 < p := by
          obtain ⟨m, hm1, hm2⟩ := hm
          rw [er] at hm1 hm2
          cases m with
          | zero => exact absurd (show v < p from hm2) (by omega)
          | succ m => exact ⟨m, Nat.lt_of_succ_lt_succ hm1, hm2⟩
        have ht2 : lvC (cleanP p s 0 k f) = r ++ [p] := by rw [hturn, er]; rfl
        have hd2 : fnf p (r ++ [p]) = d := by
          have z := fnf_rot (p := p) (v := v) (lv := r) (by omega) hm'
          rw [← er, hd] at z
          omega
        refine ih (cntP s :: seen) _ I' (by rw [T.told]; exact ht) hfil ⟨k, T.free⟩ ?_ (by rw [ht2]; exact hd2) fun c hcm => ?_
        · obtain ⟨m, hm1, hm2⟩ := hm'
          refine ⟨m, by rw [ht2, List.length_append]; omega, ?_⟩
          rw [ht2, List.getD_eq_getElem?_getD, List.getElem?_append_left hm1, ← List.getD_eq_getElem?_getD]
          exact hm2
        · rcases List.mem_cons.mp hcm with e | e
          · exact ⟨lvC s, by rw [e, ecnt], by rw [hd]; exact Nat.lt_succ_self d⟩
          · obtain ⟨lv, e1, e2⟩ := hs c e
            exact ⟨lv, e1, by omega⟩
end
end K6

set_option Elab.async false
set_option linter.all false
set_option maxRecDepth 100000
set_option maxHeartbeats 4000000
namespace K6
open PySem PySem.Spec PyProof.Rows L2 G1 G2 K2 G5 LamX
theorem sum_ge {p : Nat} : ∀ {l : List Nat}, (∀ m, m < l.length → p ≤ l.getD m 0) → p * l.length ≤ l.sum
  | [], _ => Nat.le_refl _
  | a :: l, h => by
    have h0 : p ≤ a := h 0 (Nat.succ_pos _)
    have ih := sum_ge (p := p) (l := l) fun m hm => h (m + 1) (Nat.succ_lt_succ hm)
    rw [List.length_cons, List.sum_cons, Nat.mul_succ]
    omega
theorem sum_app (l m : List Nat) : (l ++ m).sum = l.sum + m.sum := by
  induction l with
  | nil => simp
  | cons a l ih => rw [List.cons_append, List.sum_cons, List.sum_cons, ih]; omega
theorem sum_rep (t p : Nat) : (List.replicate t p).sum = t * p := by
  induction t with
  | zero => simp
  | succ t ih => rw [List.replicate_succ, List.sum_cons, ih, Nat.succ_mul]; omega
section
variable {b p : Nat} {s : Pl} {al : List Str} {x : Str} {rows : List RowD}
theorem one_free (I : PInv b p s al) (hl : s.free.length ≤ 1) : ∃ f, s.free = [f] := by
  have hne := I.fe
  match h : s.free, hl with
  | [], _ => exact absurd h hne
  | [f], _ => exact ⟨f, rfl⟩
  | a :: c :: r, hl => simp at hl
theorem nonfull (I : PInv b p s al) {f : Nat} (hf : s.fil = none) (hfe : s.free = [f]) (ha : al.length < p * (b - 1)) : ∃ m, m < (lvC s).length ∧ (lvC s).getD m 0 < p := by
  by_cases h : ∃ m, m < (lvC s).length ∧ (lvC s).getD m 0 < p
  · exact h
  · exfalso
    have z := sum_ge (p := p) (l := lvC s) fun m hm => by
      by_cases q : (lvC s).getD m 0 < p
      · exact absurd ⟨m, hm, q⟩ h
      · omega
    rw [I.lvc_sum hf hfe] at z
    have e : (lvC s).length = b - 1 := by
      have := I.clo_len hf hfe
      unfold lvC
      rw [List.length_map]
      omega
    rw [e] at z
    omega
structure Dims (b p : Nat) : Prop where
  b2 : 2 ≤ b
  b10 : b ≤ 10
  p0 : 0 < p
  p10 : p ≤ 10
theorem brg_ok (hc : Calm p rows) (D : Dims b p) (I : PInv b p s al) (ha : al.length < p * (b - 1)) (ht : s.told.length ≤ 10000) : BrgG p rows false s := by
  have hb := D.b10
  have hp := D.p10
  have h90 : p * (b - 1) ≤ 10 * 9 := Nat.mul_le_mul hp (by omega)
  refine ⟨I.fit2 hb hp (by omega), fun k hk => ?_, fun k hk => ?_, fun hf hl => ?_, ht⟩
  · rw [I.cl]
    exact I.mem (List.mem_append_right _ (by rw [hk]; exact List.mem_singleton.mpr rfl))
  · rw [I.cl]
    exact I.mem (List.mem_append_left _ (List.mem_append_left _ hk))
  · obtain ⟨f, hfe⟩ := one_free I hl
    have hm := nonfull I hf hfe ha
    have hcl := I.clo_len hf hfe
    refine ⟨fnf p (lvC s) + 1, ?_, cln_ok hc hb D.b2 D.p0 hp (by omega) _ [] s I ht hf ⟨f, hfe⟩ hm rfl fun c z => (nomatch z)⟩
    have : fnf p (lvC s) ≤ (lvC s).length := List.findIdx_le_length
    unfold lvC at this ⊢
    rw [List.length_map] at this
    omega
theorem cleans_inv (hp : 0 < p) {seen : List (List Int)} {s1 : Pl} {k : Nat} {cl : List Nat} {cp : Int} (h : Cleans p rows seen s s1 k cl cp) : PInv b p s al → PInv b p s1 al ∧ s1.fil = some k ∧ s1.told = s.told := by
  induction h with
  | stop hf => exact fun I => ⟨I, hf, rfl⟩
  | step hf hfe hi hn hpk _ ih =>
    intro I
    obtain ⟨T, hfk, hfb, hkb⟩ := I.cln hp ⟨_, hfe⟩ hf hfe hi
    obtain ⟨h1, h2, h3⟩ := ih (I.clean hp hf hfe hi hfk hfb hkb T)
    exact ⟨h1, h2, h3.trans T.told⟩
theorem opn_inv (hp : 0 < p) (I : PInv b p s al) {s1 : Pl} {k : Nat} {cl : List Nat} {cp : Int} (h : OpnG p rows s s1 k cl cp) : PInv b p s1 al ∧ s1.fil = some k ∧ s1.told = s.told := by
  rcases h with ⟨hf, hl, h0, rfl, rfl, rfl⟩ | ⟨_, h⟩
  · exact ⟨I.pop hp hf hl h0, rfl, rfl⟩
  · exact cleans_inv hp h I
theorem cleans_some {seen : List (List Int)} {s1 : Pl} {k f : Nat} {cl : List Nat} {cp : Int} (h : Cleans p rows seen s s1 k cl cp) (hf : s.fil = some f) : cl = [] ∧ cp = 0 := by
  cases h with
  | stop _ => exact ⟨rfl, rfl⟩
  | step h2 => rw [hf] at h2; cases h2
theorem liv_kln (I : PInv b p s al) {i j : Nat} (hi : s.clo[i]? = some j) : s.liv.getD j 0 = ((lvC s).getD i 0 : Int) := by
  rw [lvc_getD hi]
  exact I.lv j (I.mem (List.mem_append_left _ (List.mem_append_right _ (List.mem_of_getElem? hi))))
/-- how much is cleaned and copied at most -/
theorem cleans_most (hc : Calm p rows) (hp : 0 < p) {seen : List (List Int)} {s1 : Pl} {k : Nat} {cl : List Nat} {cp : Int} (h : Cleans p rows seen s s1 k cl cp) : ∀ (L : List Nat) (t : Nat), PInv b p s al → s.fil = none → lvC s = L ++ List.replicate t p → (∃ m, m < L.length ∧ L.getD m 0 < p) →
    ((t * p : Nat) : Int) + cp ≤ (al.length : Int) ∧ t + cl.length ≤ b - 1 := by
  induction h with
  | stop hf => intro L t I hn; rw [hf] at hn; cases hn
  | @step seen s s2 i j f k cl cp hf hfe hi hn hpk hrest ih =>
    intro L t I _ hL hm
    obtain ⟨T, hfk, hfb, hkb⟩ := I.cln hp ⟨_, hfe⟩ hf hfe hi
    have I' := I.clean hp hf hfe hi hfk hfb hkb T
    have hsum := I.lvc_sum hf hfe
    have hcl := I.clo_len hf hfe
    have hlen : (lvC s).length = s.clo.length := by unfold lvC; rw [List.length_map]
    rw [hL, List.length_append, List.length_replicate] at hlen
    rw [hL, sum_app, sum_rep] at hsum
    have hm' : ∃ m, m < (lvC s).length ∧ (lvC s).getD m 0 < p := by
      obtain ⟨m, h1, h2⟩ := hm
      refine ⟨m, by rw [hL, List.length_append]; omega, ?_⟩
      rw [hL, List.getD_eq_getElem?_getD, List.getElem?_append_left h1, ← List.getD_eq_getElem?_getD]
      exact h2
    rw [I.cnt] at hpk
    obtain ⟨hil, hcase⟩ := calm_pick hc I.lvc_le hm' hpk
    have hLpos : 0 < L.length := by obtain ⟨m, h1, _⟩ := hm; omega
    rw [liv_kln I hi]
    by_cases hlt : (lvC s).getD i 0 < p
    · -- the last one
      have hfil : (cleanP p s i j f).fil = some f := by
        rw [T.fil, if_neg]
        have e : (keptN (s.cont.getD j [])).length = (lvC s).getD i 0 := (lvc_getD hi).symm
        omega
      obtain ⟨e1, e2⟩ := cleans_some hrest hfil
      subst e1 e2
      have hiL : i < L.length := by
        by_cases q : i < L.length
        · exact q
        · exfalso
          rw [hL, List.getD_eq_getElem?_getD, List.getElem?_append_right (by omega)] at hlt
          rw [hL, List.length_append, List.length_replicate] at hil
          rw [List.getElem?_replicate, if_pos (by omega)] at hlt
          exact absurd (show p < p from hlt) (Nat.lt_irrefl _)
      have hv : (lvC s).getD i 0 ≤ L.sum := by
        rw [hL, List.getD_eq_getElem?_getD, List.getElem?_append_left hiL, List.getElem?_eq_getElem hiL]
        exact le_sum (List.getElem_mem hiL)
      refine ⟨?_, ?_⟩
      · omega
      · show t + (0 + 1) ≤ b - 1
        omega
    · obtain ⟨rfl, h0⟩ : i = 0 ∧ (lvC s).getD 0 0 = p := by
        rcases hcase with h | h
        · exact absurd h hlt
        · exact h
      have hfull : kln (s.cont.getD j []) = p := by rw [← lvc_getD hi]; exact h0
      have hfil : (cleanP p s 0 j f).fil = none := by
        rw [T.fil, if_pos]
        exact hfull
      have hturn := I.turn hp hf hfe hi hfull
      obtain ⟨v, r, er⟩ : ∃ v r, L = v :: r := by
        cases e : L with
        | nil => rw [e] at hLpos; simp at hLpos
        | cons v r => exact ⟨v, r, rfl⟩
      subst er
      have hv : v = p := by rw [hL] at h0; exact h0
      have hm2 : ∃ m, m < r.length ∧ r.getD m 0 < p := by
        obtain ⟨m, hm1, hm2⟩ := hm
        cases m with
        | zero => exact absurd (show v < p from hm2) (by omega)
        | succ m => exact ⟨m, Nat.lt_of_succ_lt_succ hm1, hm2⟩
      have e2 : lvC (cleanP p s 0 j f) = r ++ List.replicate (t + 1) p := by
        rw [hturn, hL, List.replicate_succ']
        show r ++ List.replicate t p ++ [p] = _
        rw [List.append_assoc]
      obtain ⟨h1, h2⟩ := ih r (t + 1) I' hfil e2 hm2
      rw [h0]
      rw [Nat.succ_mul] at h1
      refine ⟨by omega, ?_⟩
      rw [List.length_cons]
      omega
/-- all told of one write -/
theorem opn_most (hc : Calm p rows) (hp : 0 < p) (I : PInv b p s al) (ha : al.length < p * (b - 1)) {s1 : Pl} {k : Nat} {cl : List Nat} {cp : Int} (h : OpnG p rows s s1 k cl cp) : cp ≤ (al.length : Int) ∧ cl.length ≤ b - 1 := by
  rcases h with ⟨hf, hl, h0, rfl, rfl, rfl⟩ | ⟨hfr, h⟩
  · exact ⟨by omega, Nat.zero_le _⟩
  · cases hf : s.fil with
    | some f =>
      obtain ⟨e1, e2⟩ := cleans_some h hf
      subst e1 e2
      exact ⟨by omega, Nat.zero_le _⟩
    | none =>
      obtain ⟨f, hfe⟩ := one_free I (hfr hf)
      obtain ⟨h1, h2⟩ := cleans_most hc hp h (lvC s) 0 I hf (by simp) (nonfull I hf hfe ha)
      exact ⟨by omega, by omega⟩
/-! ### events -/
theorem die_in (I : PInv b p s al) (hx : x ∈ al) {s0 : Pl} (h : DeadR s s0 x) : PInv b p s0 (al.erase x) ∧ s0.told = s.told := by
  rcases h with ⟨hn, _⟩ | ⟨h, j, L, rfl⟩
  · obtain ⟨h, j, _, L⟩ := I.at_ hx
    rw [L.hom] at hn
    cases hn
  · exact ⟨I.die L, rfl⟩
theorem die_out (I : PInv b p s al) (hx : x ∉ al) {s0 : Pl} (h : DeadR s s0 x) : s0 = s := by
  rcases h with ⟨_, e⟩ | ⟨h, j, L, _⟩
  · exact e
  · have z := L.hom
    rw [I.no x hx] at z
    cases z
theorem die_any (I : PInv b p s al) {s0 : Pl} (h : DeadR s s0 x) : PInv b p s0 (al.erase x) ∧ s0.told = s.told := by
  by_cases hx : x ∈ al
  · exact die_in I hx h
  · have e := die_out I hx h
    subst e
    rw [List.erase_of_not_mem hx]
    exact ⟨I, rfl⟩
def aft (al : List Str) (e : Str × Str) : List Str := if e.1 = "trim" then al.erase e.2 else al.erase e.2 ++ [e.2]
structure LetE (n : Nat) (al : List Str) (e : Str × Str) : Prop where
  nm : NameOk e.2
  ok : (e.1 = "write" ∧ (e.2 ∈ al ∨ al.length < n)) ∨ (e.1 = "trim" ∧ e.2 ∈ al)
theorem erase_len {al : List Str} {x : Str} {n : Nat} (h : x ∈ al ∨ al.length < n) (hl : al.length ≤ n) : (al.erase x).length < n := by
  by_cases hx : x ∈ al
  · rw [List.length_erase_of_mem hx]
    have := List.length_pos_of_mem hx
    omega
  · rw [List.erase_of_not_mem hx]
    rcases h with h | h
    · exact absurd h hx
    · exact h
theorem evt_ok {n : Nat} {e : Str × Str} (hc : Calm p rows) (D : Dims b p) (I : PInv b p s al) (hn : n ≤ p * (b - 1)) (hal : al.length ≤ n) (ht : s.told.length ≤ 10000) (h : LetE n al e) : EvtOkG p n rows false s e.1 e.2 := by
  refine ⟨by rw [I.ll, I.cl], ht, ?_, ?_⟩
  · rcases h.ok with h | h
    · exact .inl h.1
    · exact .inr h.1
  · by_cases hx : e.2 ∈ al
    · obtain ⟨h2, j, _, L⟩ := I.at_ hx
      have I' := I.die L
      have hl := erase_len (n := n) (.inl hx) hal
      exact .inr ⟨h2, j, L, fun _ => brg_ok hc D I' (by omega) ht⟩
    · rcases h.ok with ⟨hw, h2 | h2⟩ | ⟨_, h2⟩
      · exact absurd h2 hx
      · exact .inl ⟨I.no _ hx, hw, by rw [I.hl]; omega, brg_ok hc D I (by omega) ht⟩
      · exact absurd h2 hx
theorem evt_to {e : Str × Str} (hp : 0 < p) (I : PInv b p s al) {s' : Pl} (h : EvtRG p rows s s' e.1 e.2) : PInv b p s' (aft al e) ∧ ∃ t : Tld, s'.told = s.told ++ [t] ∧ ((e.1 = "trim" ∧ t = (none, [], 0)) ∨ (e.1 = "write" ∧ ∃ (s0 s1 : Pl) (k : Nat) (cl : List Nat) (cp : Int), PInv b p s0 (al.erase e.2) ∧ OpnG p rows s0 s1 k cl cp ∧ t = (some k, cl, cp))) := by
  obtain ⟨s0, hd, hw⟩ := h
  obtain ⟨I0, ht0⟩ := die_any I hd
  rcases hw with ⟨hw, rfl⟩ | ⟨hw, s1, k, cl, cp, ho, rfl⟩
  · refine ⟨?_, (none, [], 0), by rw [← ht0], .inl ⟨hw, rfl⟩⟩
    unfold aft
    rw [if_pos hw]
    exact I0.told _
  · obtain ⟨I1, hf1, ht1⟩ := opn_inv hp I0 ho
    have hnx : e.2 ∉ al.erase e.2 := fun z => ((List.Nodup.mem_erase_iff I.nd).mp z).1 rfl
    refine ⟨?_, (some k, cl, cp), ?_, .inr ⟨hw, s0, s1, k, cl, cp, I0, ho, rfl⟩⟩
    · unfold aft
      rw [hw, if_neg (by decide)]
      exact (I1.told (s1.told ++ [(some k, cl, cp)])).put hf1 hnx
    · rw [put_told]
      show s1.told ++ _ = _
      rw [ht1, ht0]
/-! ### loads -/
def Lets (n : Nat) : List Str → List (Str × Str) → Prop
  | _, [] => True
  | al, e :: es => LetE n al e ∧ Lets n (aft al e) es
theorem lets_app {n : Nat} {es2 : List (Str × Str)} : ∀ {es : List (Str × Str)} {al : List Str}, Lets n al es → Lets n (es.foldl aft al) es2 → Lets n al (es ++ es2)
  | [], _, _, h => h
  | e :: es, al, ⟨h1, h2⟩, h => ⟨h1, lets_app (es := es) h2 h⟩
theorem aft_len {n : Nat} {e : Str × Str} (h : LetE n al e) (hl : al.length ≤ n) : (aft al e).length ≤ n := by
  unfold aft
  rcases h.ok with ⟨hw, h2⟩ | ⟨hw, h2⟩
  · rw [hw, if_neg (by decide), List.length_append]
    exact erase_len h2 hl
  · rw [if_pos hw]
    have := List.length_erase_le (a := e.2) (l := al)
    omega
theorem load_ok {n : Nat} {Bt : Tld → Prop} (hc : Calm p rows) (D : Dims b p) (hn : n ≤ p * (b - 1)) (h0 : Bt (none, [], 0)) (hB : ∀ (s0 s1 : Pl) (al0 : List Str) (k : Nat) (cl : List Nat) (cp : Int), PInv b p s0 al0 → al0.length < n → OpnG p rows s0 s1 k cl cp → Bt (some k, cl, cp)) :
    ∀ (es : List (Str × Str)) (s : Pl) (al : List Str), PInv b p s al → al.length ≤ n → Lets n al es → s.told.length + es.length ≤ 10000 → LoadOkG p n rows s es ∧ ∀ s', PlaysToG p rows s es s' → PInv b p s' (es.foldl aft al) ∧ (es.foldl aft al).length ≤ n ∧ ∃ ts : List Tld, s'.told = s.told ++ ts ∧ ts.length = es.length ∧ ∀ t ∈ ts, Bt t
  | [], s, al, I, hal, _, _ => ⟨trivial, fun s' e => by
      have e' : s' = s := e
      subst e'
      exact ⟨I, hal, [], (List.append_nil _).symm, rfl, fun t ht => (nomatch ht)⟩⟩
  | e :: es, s, al, I, hal, ⟨h1, h2⟩, ht => by
    rw [List.length_cons] at ht
    have key : ∀ s', EvtRG p rows s s' e.1 e.2 → (LoadOkG p n rows s' es ∧ ∀ s2, PlaysToG p rows s' es s2 → PInv b p s2 (es.foldl aft (aft al e)) ∧ (es.foldl aft (aft al e)).length ≤ n ∧ ∃ ts : List Tld, s2.told = s'.told ++ ts ∧ ts.length = es.length ∧ ∀ t ∈ ts, Bt t) ∧ ∃ t : Tld, s'.told = s.told ++ [t] ∧ Bt t := by
      intro s' hr
      obtain ⟨I', t, et, hcase⟩ := evt_to D.p0 I hr
      refine ⟨load_ok hc D hn h0 hB es s' _ I' (aft_len h1 hal) h2 (by rw [et, List.length_append]; show s.told.length + 1 + es.length ≤ _; omega), t, et, ?_⟩
      rcases hcase with ⟨_, rfl⟩ | ⟨hw, s0, s1, k, cl, cp, I0, ho, rfl⟩
      · exact h0
      · refine hB s0 s1 _ k cl cp I0 ?_ ho
        rcases h1.ok with ⟨_, h3⟩ | ⟨h3, _⟩
        · exact erase_len h3 hal
        · rw [hw] at h3
          exact absurd h3 (by decide)
    refine ⟨⟨evt_ok hc D I hn hal (by omega) h1, h1.nm, fun s' hr => (key s' hr).1.1⟩, fun s2 ⟨s', hr, hp2⟩ => ?_⟩
    obtain ⟨⟨_, hk⟩, t, et, hbt⟩ := key s' hr
    obtain ⟨i1, i2, ts, e1, e2, e3⟩ := hk s2 hp2
    refine ⟨i1, i2, t :: ts, by rw [e1, et, List.append_assoc]; rfl, by rw [List.length_cons, List.length_cons, e2], fun u hu => ?_⟩
    rcases List.mem_cons.mp hu with z | z
    · rw [z]
      exact hbt
    · exact e3 u z
theorem pinv_new (hb : 0 < b) (hp : 0 < p) : PInv b p (newP b) [] := by
  have hg : ∀ k, (newP b).cont.getD k [] = [] := fun k => by
    unfold newP
    show (List.replicate b ([] : Cb)).getD k [] = []
    rw [List.getD_eq_getElem?_getD, List.getElem?_replicate]
    split <;> rfl
  refine ⟨by unfold newP; simp, by unfold newP; simp, fun k hk => ?_, ?_, fun k _ => hg k, fun k hk => ?_, fun k hk => ?_, ?_, ?_, List.nodup_nil, fun h x hh hx => ?_, fun x _ => rfl, rfl, List.nodup_nil⟩
  · rw [hg]
    show (List.replicate b (0 : Int)).getD k 0 = 0
    rw [List.getD_eq_getElem?_getD, List.getElem?_replicate]
    split <;> rfl
  · show (List.range b ++ [] ++ []).Perm (List.range b)
    simp
  · exact nomatch (show k ∈ ([] : List Nat) from hk)
  · have z : (none : Option Nat) = some k := hk
    cases z
  · show List.range b ≠ []
    intro z
    have := congrArg List.length z
    simp at this
    omega
  · show ((List.replicate b ([] : Cb)).flatMap keptN).Perm []
    have : ∀ m : Nat, (List.replicate m ([] : Cb)).flatMap keptN = [] := fun m => by
      induction m with
      | zero => rfl
      | succ m ih => rw [List.replicate_succ, List.flatMap_cons, ih]; rfl
    rw [this]
  · rw [hg] at hx
    cases hx
end
end K6

set_option Elab.async false
set_option linter.all false
set_option maxRecDepth 100000
set_option maxHeartbeats 4000000
/-! erased -/
namespace K6
open PySem PySem.Spec PyProof.Rows L2 G1 G2 K2 G5 LamX
abbrev sErs : Stmt := topS 65
abbrev NErs : List Str := ["drive", "load", "counts", "block", "cleaned", "copied", "number"]
theorem scErs : FnScope NErs ["drive", "load"] (defScope sErs) := ⟨rfl, rfl, rfl, by decide +kernel, rfl, by decide +kernel, by decide +kernel⟩
def addJ (l : List Nat) (j : Nat) : List Nat := l.set j (l.getD j 0 + 1)
def ersT (l : List Nat) (t : Tld) : List Nat := t.2.1.foldl addJ l
def ersM (b : Nat) (told : List Tld) : List Nat := told.foldl ersT (List.replicate b 0)
theorem addJ_len (l : List Nat) (j : Nat) : (addJ l j).length = l.length := List.length_set
theorem fold_len : ∀ (js : List Nat) (l : List Nat), (js.foldl addJ l).length = l.length
  | [], _ => rfl
  | j :: js, l => by
    show (js.foldl addJ (addJ l j)).length = _
    rw [fold_len js, addJ_len]
theorem ersT_len (l : List Nat) (t : Tld) : (ersT l t).length = l.length := fold_len _ _
theorem ers_len : ∀ (ts : List Tld) (l : List Nat), (ts.foldl ersT l).length = l.length
  | [], _ => rfl
  | t :: ts, l => by
    show (ts.foldl ersT (ersT l t)).length = _
    rw [ers_len ts, ersT_len]
def spErs (K : PySem.W.Frag) (T : List (Addr × Str)) (CD C : Addr) : Sp := fun vs H Q _ => ∃ (dr ld : Addr) (eas : List Addr) (es : List (Str × Str)) (b p n : Nat) (ini : List RowD) (y : Str), vs = [.ref dr, .ref ld] ∧ SqT K H ld (eas.map V.ref) ∧ Paired (fun (a : Addr) (e : Str × Str) => SqT K H a [.str e.1, .str e.2]) eas es ∧ DrvAt K CD H dr b p n ini y ∧ 1 ≤ b ∧ b ≤ 10 ∧ (∀ r ∈ ini ++ [((p : Int), y)], r.2 ∈ wordsL) ∧ LoadOkG p n (ini ++ [((p : Int), y)]) (newP b) es ∧ es.length ≤ 2000 ∧ Tabs T H ∧
  (∀ s', PlaysToG p (ini ++ [((p : Int), y)]) (newP b) es s' → ∀ t ∈ s'.told, ∀ j ∈ t.2.1, j < b) ∧
  ∀ (H' : Hp) (q : Addr) (s' : Pl), PlaysToG p (ini ++ [((p : Int), y)]) (newP b) es s' → H' q = some (.tup ((ersM b s'.told).map nV)) → ExtN H H' → Tabs T H' → Q (.ref q) H'
theorem tabs_lst {T : List (Addr × Str)} {H H' : Hp} {L : Addr} {xs : List V} (t : Tabs T H) (hL : H L = some (.lst xs)) (hk : ∀ c o, c ≠ L → H c = some o → H' c = some o) : Tabs T H' := fun p hp => by
  obtain ⟨ps, e1, e2, e3⟩ := t p hp
  refine ⟨ps, hk _ _ (ne_of e1 hL (by intro z; cases z)) e1, e2, fun pos cv hc => ?_⟩
  obtain ⟨c, f1, f2⟩ := e3 pos cv hc
  exact ⟨c, f1, hk _ _ (ne_of f2 hL (by intro z; cases z)) f2⟩
section
variable {P : Program} {w : World} {K : PySem.W.Frag} {mg : Str → Option Value} {base : Heap} {CD C : Addr}
theorem ok_ers {f0 : Addr} {fd : FuncData} {T : List (Addr × Str)} (F : Fun K "erased" "erased" sErs f0 fd) (B : Bl mg) (M : DD P w K mg base CD) (PC : PCls K C) (GD : FAt P w K mg base 1 "check_drive" ["drive"] (spCkd K CD)) (GL : FAt P w K mg base 7 "play_load" ["drive", "load"] (spLodG K T CD C)) : FnOk P w K mg base CX0 8 f0 fd ["drive", "load"] (spErs K T CD C) := by
  refine F.ok scErs (fun vs H Q E h => ?_) (fun cdv A0 outer s0 H vs Q E hr h => ?_)
  · obtain ⟨dr, ld, eas, es, b, p, n, ini, y, rfl, _⟩ := h
    rfl
  obtain ⟨dr, ld, eas, es, b, p, n, ini, y, rfl, hld, hes, hd, hb1, hb, hwd, hok, hlen, hT, hsz, q⟩ := h
  obtain ⟨fD, dD, GD, kD, bD, gD⟩ := GD.ex
  obtain ⟨fL, dL, GL, kL, bL, gL⟩ := GL.ex
  obtain ⟨pp, gp, fp, P2, F2, B2⟩ := M.pb.ex
  refine ⟨_, pss_cons (ps_expr (pe_call GD (hr.mono (by decide)) (by rfl) gD kD bD .nil pass0 (pa_cons (pv 0) pa_nil)))
    (pss_cons (ps_set (i := 2) scErs.nd rfl (.inl rfl) (pe_op op_rep (pe_lst (pa_cons pe_int pa_nil)) (pe_prop (pv 0) M.T.cl P2 F2 (hr.mono (by decide)) B2 .nil pass0 rfl)))
    (pss_cons (ps_for PassesOwn.never rfl (pi_list (pe_fld (pe_call GL hr (by rfl) gL kL bL .nil pass0 (pa_cons (pv 0) (pa_cons (pv 1) pa_nil))) rfl)) (pg_tup rfl (pgs_cons (pg_name (i := 3) scErs.nd rfl (.inl rfl)) (pgs_cons (pg_name (i := 4) scErs.nd rfl (.inl rfl)) (pgs_cons (pg_name (i := 5) scErs.nd rfl (.inl rfl)) pgs_nil))))
      (pss_one (ps_for PassesOwn.never rfl (pi_tup (pv 4)) (pg_name (i := 6) scErs.nd rfl (.inl rfl)) (pss_one (ps_augS (pv 2) (pv 6) get_list pe_int ip_add set_list)))))
    (pss_one (ps_ret (pe_callTy call_tuple_of (by rfl) B.tup bTup (pa_cons (pv 2) pa_nil)))))), ?_⟩
  obtain ⟨dd, td, hdi, _⟩ := id hd
  refine ⟨_, rfl, dr, b, p, n, ini, y, rfl, hd, ?_⟩
  dsimp only
  refine seq_asg (op_read (lst_read (cons_read (c_read (nil_read ⟨by show 1 ≤ sizeLine; decide, fun l0 nl0 => ?_⟩)))))
  have s1 : Same H (L2.upd H l0 (.lst [.int 0])) := same_lay nl0
  have e1 : (L2.upd H l0 (.lst [.int 0])) l0 = some (.lst [.int 0]) := upd_same
  generalize L2.upd H l0 (.lst [.int 0]) = H1 at s1 e1 ⊢
  refine ⟨_, rfl, dr, dd, _, rfl, s1 _ _ hdi, dr, dd, _, _, rfl, s1 _ _ hdi, rfl, l0, (b : Int), _, rfl, rfl, e1, by omega, by omega, ?_, fun L nL => ?_⟩
  · show 1 * ((b : Int)).toNat ≤ sizeLine
    rw [sizeLine_eq]
    omega
  have eL : (List.replicate ((b : Int)).toNat [V.int 0]).flatten = (List.replicate b (0 : Nat)).map nV := by
    rw [Int.toNat_natCast, List.map_replicate]
    exact List.flatten_replicate_singleton
  rw [eL]
  have s2 : Same H1 (L2.upd H1 L (.lst ((List.replicate b (0 : Nat)).map nV))) := same_lay nL
  have fL : (L2.upd H1 L (.lst ((List.replicate b (0 : Nat)).map nV))) L = some (.lst ((List.replicate b (0 : Nat)).map nV)) := upd_same
  have nL0 : H L = none := by
    cases e : H L with
    | none => rfl
    | some o => rw [s1 _ _ e] at nL; cases nL
  show tSeq (tFor _ _ _) _ _ [some (.ref dr), some (.ref ld), some (.ref L), none, none, none, none] (L2.upd H1 L (.lst ((List.replicate b (0 : Nat)).map nV)))
  generalize L2.upd H1 L (.lst ((List.replicate b (0 : Nat)).map nV)) = H2 at s2 fL ⊢
  have s12 := s1.trans s2
  refine seq_for fun D' hD1 hD2 => ?_
  refine ⟨_, rfl, _, rfl, dr, ld, eas, es, b, p, n, ini, y, rfl, K2.Same.tup s12 hld, Paired.mapP hes fun _ _ z => K2.Same.tup s12 z, hd.same s12, hb, hwd, hok, hlen, hT.ext s12, fun H3 x s3 A pl3 p3 hdr nx e3 t3 => ⟨x, C, A.dx, _, _, rfl, p3.ins, PC.cl, PC.n8, rfl, A.ta, rfl, ⟨_, SqL.of p3.told⟩, ?_⟩⟩
  have fL3 := e3 _ _ fL (by intro _ z; cases z)
  have hjs := hsz s3 pl3
  have kp : ∀ {H' : Hp} {xs : List Nat}, xs.length = b → H' L = some (.lst (xs.map nV)) → (∀ c o, c ≠ L → H3 c = some o → H' c = some o) → A.ta ≠ L := fun {H' xs} hx hL hk z => by
    have z2 := p3.told
    rw [z, fL3] at z2
    have z3 := HO.lst.inj (Option.some.inj z2)
    cases b with
    | zero => omega
    | succ b =>
      cases hrt : A.rt with
      | nil => rw [hrt] at z3; cases z3
      | cons r rs =>
        rw [hrt, List.replicate_succ, List.map_cons, List.map_cons] at z3
        have := (List.cons.inj z3).1
        cases this
  have hta : A.ta ≠ L := kp (H' := H3) (by simp) fL3 fun _ _ _ e => e
  have hrl := Paired.length p3.tat
  refine for_list (K := K) (xs := A.rt.map V.ref) (fun i σ H' => ∃ (x3 x4 x5 x6 : Option V), σ = [some (.ref dr), some (.ref ld), some (.ref L), x3, x4, x5, x6] ∧ (∀ c o, c ≠ L → H3 c = some o → H' c = some o) ∧ H' L = some (.lst (((s3.told.take i).foldl ersT (List.replicate b 0)).map nV))) ⟨none, none, none, none, rfl, fun _ _ _ e => e, fL3⟩ (fun i σ H' _ z => ?_) ?_ ?_
  · obtain ⟨_, _, _, _, _, z, _⟩ := z
    exact SqL.of (z _ _ hta p3.told)
  · rintro i v σ H' hi ⟨x3, x4, x5, x6, rfl, hk, hL⟩
    rw [List.getElem?_map] at hi
    obtain ⟨a, ha, rfl⟩ : ∃ a, A.rt[i]? = some a ∧ V.ref a = v := by
      cases hq : A.rt[i]? with
      | none => rw [hq] at hi; cases hi
      | some a => rw [hq] at hi; exact ⟨a, rfl, Option.some.inj hi⟩
    obtain ⟨t, ht, q1, hq1, hq2⟩ := K2.paired_get p3.tat ha
    have nta : ∀ {c : Addr} {xs : List V}, H3 c = some (.tup xs) → c ≠ L := fun {c xs} e => ne_of e fL3 (by intro z; cases z)
    have hq1' := hk _ _ (nta hq1) hq1
    have hq2' := hk _ _ (nta hq2) hq2
    refine ⟨a, _, rfl, SqT.of hq1', rfl, _, _, rfl, _, _, rfl, _, _, rfl, rfl, ?_⟩
    have htm := hjs t (List.mem_of_getElem? ht)
    refine ⟨_, rfl, q1, rfl, ⟨_, SqT.of hq2'⟩, ?_⟩
    refine for_tup (K := K) (xs := t.2.1.map nV) (fun m σ H'' => ∃ (x6 : Option V), σ = [some (.ref dr), some (.ref ld), some (.ref L), some (oN t.1), some (.ref q1), some (.int t.2.2), x6] ∧ (∀ c o, c ≠ L → H3 c = some o → H'' c = some o) ∧ H'' L = some (.lst (((t.2.1.take m).foldl addJ ((s3.told.take i).foldl ersT (List.replicate b 0))).map nV))) ⟨x6, rfl, hk, hL⟩ (fun m σ H'' _ z => ?_) ?_ ?_
    · obtain ⟨_, _, z, _⟩ := z
      exact SqT.of (z _ _ (nta hq2) hq2)
    · rintro m v σ H'' hm ⟨x6, rfl, hk2, hL2⟩
      rw [List.getElem?_map] at hm
      obtain ⟨j, hj, rfl⟩ : ∃ j, t.2.1[m]? = some j ∧ nV j = v := by
        cases hq : t.2.1[m]? with
        | none => rw [hq] at hm; cases hm
        | some j => rw [hq] at hm; exact ⟨j, rfl, Option.some.inj hm⟩
      have hjb := htm j (List.mem_of_getElem? hj)
      generalize hl : (t.2.1.take m).foldl addJ ((s3.told.take i).foldl ersT (List.replicate b 0)) = l at hL2
      have hll : l.length = b := by rw [← hl, fold_len, ers_len, List.length_replicate]
      have hlj : (l.map nV)[j]? = some (nV (l.getD j 0)) := by
        rw [List.getElem?_map, List.getElem?_eq_getElem (by omega), List.getD_eq_getElem?_getD, List.getElem?_eq_getElem (by omega)]
        rfl
      refine ⟨_, rfl, _, rfl, L, _, j, _, rfl, rfl, SqL.of hL2, hlj, _, _, rfl, rfl, L, _, _, j, rfl, rfl, hL2, ix_at (by rw [List.length_map]; omega), ?_⟩
      refine ⟨_, rfl, fun c o hc e => ?_, ?_⟩
      · rw [upd_ne hc]
        exact hk2 c o hc e
      · rw [upd_same, List.take_add_one, hj]
        show some (HO.lst ((l.map nV).set j (.int ((l.getD j 0 : Nat) + 1 : Int)))) = some (HO.lst ((((t.2.1.take m) ++ [j]).foldl addJ ((s3.told.take i).foldl ersT (List.replicate b 0))).map nV))
        rw [List.foldl_append, hl]
        show _ = some (HO.lst ((addJ l j).map nV))
        unfold addJ
        rw [List.map_set]
        rfl
    · rintro σ H'' ⟨x6, rfl, hk2, hL2⟩
      rw [List.length_map, List.take_length] at hL2
      refine ⟨_, _, _, _, rfl, hk2, ?_⟩
      rw [hL2, List.take_add_one, ht, List.foldl_append]
      rfl
  · rintro σ H' ⟨x3, x4, x5, x6, rfl, hk, hL⟩
    rw [hD1]
    rw [List.length_map, hrl, List.take_length] at hL
    refine ret_read (cb_read (cons_read ⟨_, rfl, nil_read ⟨L, _, rfl, .inl ⟨SqL.of hL, fun u nu => ?_⟩⟩⟩))
    have su : Same H' (L2.upd H' u (.tup ((s3.told.foldl ersT (List.replicate b 0)).map nV))) := same_lay nu
    have ex : ExtN H H' := fun c o e nt => by
      have hc : c ≠ L := ne_of_none e nL0
      exact hk c o hc (e3 _ _ (s12 _ _ e) nt)
    refine q _ u s3 pl3 upd_same (ex.trans (.of su)) ((tabs_lst t3 fL3 hk).ext su)
end
end K6

set_option Elab.async false
set_option linter.all false
set_option maxRecDepth 100000
set_option maxHeartbeats 4000000
/-! check_prices, price -/
namespace K6
open PySem PySem.Spec PyProof.Rows L2 G1 G2 K2 G5 LamX
abbrev sCkp : Stmt := topS 49
abbrev sPrc : Stmt := topS 66
abbrev NPrc : List Str := ["drive", "load", "copies", "erasures", "told", "block", "cleaned", "copied"]
theorem scCkp : FnScope ["copies", "erasures"] ["copies", "erasures"] (defScope sCkp) := ⟨rfl, rfl, rfl, by decide +kernel, rfl, by decide +kernel, by decide +kernel⟩
theorem scPrc : FnScope NPrc ["drive", "load", "copies", "erasures"] (defScope sPrc) := ⟨rfl, rfl, rfl, by decide +kernel, rfl, by decide +kernel, by decide +kernel⟩
abbrev kwP : List (Str × V) := [("copies", .int 1), ("erasures", .int 0)]
abbrev tePr (K : PySem.W.Frag) : TE := tOp K2.rAdd (tOp K2.rMul (tVar 2) (tVar 7)) (tOp K2.rMul (tVar 3) (tCB (fun xs H Q => ∃ (p : Addr) (ys : List V), xs = [.ref p] ∧ (SqL K H p ys ∨ SqT K H p ys) ∧ Q (.int (ys.length : Int)) H) (tCons (tVar 6) tNil)))
def spCkp : Sp := fun vs H Q _ => ∃ c e : Int, vs = [.int c, .int e] ∧ 0 ≤ c ∧ c ≤ 9 ∧ 0 ≤ e ∧ e ≤ 9 ∧ ¬ (c = 0 ∧ e = 0) ∧ Q .non H
/-- what the steps cost -/
def prT (c e : Int) (t : Tld) : Int := c * t.2.2 + e * (t.2.1.length : Int)
def prM (c e : Int) (told : List Tld) : Int := (told.map (prT c e)).sum
def spPrc (K : PySem.W.Frag) (T : List (Addr × Str)) (CD C : Addr) : Sp := fun vs H Q _ => ∃ (c e : Int) (dr ld : Addr) (eas : List Addr) (es : List (Str × Str)) (b p n : Nat) (ini : List RowD) (y : Str), vs = [.ref dr, .ref ld, .int c, .int e] ∧ 0 ≤ c ∧ c ≤ 9 ∧ 0 ≤ e ∧ e ≤ 9 ∧ ¬ (c = 0 ∧ e = 0) ∧ SqT K H ld (eas.map V.ref) ∧ Paired (fun (a : Addr) (e : Str × Str) => SqT K H a [.str e.1, .str e.2]) eas es ∧ DrvAt K CD H dr b p n ini y ∧ b ≤ 10 ∧ (∀ r ∈ ini ++ [((p : Int), y)], r.2 ∈ wordsL) ∧ LoadOkG p n (ini ++ [((p : Int), y)]) (newP b) es ∧ es.length ≤ 2000 ∧ Tabs T H ∧
  (∀ s', PlaysToG p (ini ++ [((p : Int), y)]) (newP b) es s' → s'.told.length ≤ 10000 ∧ ∀ t ∈ s'.told, 0 ≤ t.2.2 ∧ t.2.2 ≤ 1000 ∧ t.2.1.length ≤ 100) ∧
  ∀ (H' : Hp) (s' : Pl), PlaysToG p (ini ++ [((p : Int), y)]) (newP b) es s' → ExtN H H' → Tabs T H' → Q (.int (prM c e s'.told)) H'
section
variable {P : Program} {w : World} {K : PySem.W.Frag} {mg : Str → Option Value} {base : Heap} {CD C : Addr}
theorem ok_ckp {f : Addr} {fd : FuncData} (F : Fun K "check_prices" "check_prices" sCkp f fd) (gM : ∃ t, mg "MOST_PRICE" = some (.int 9 t)) (GW : FAt P w K mg base 2 "is_within" ["value", "least", "most"] spWit) : FnOk P w K mg base CX0 3 f fd ["copies", "erasures"] spCkp := by
  refine F.ok scCkp (fun vs H Q E h => ?_) (fun cdv A outer s H vs Q E hr h => ?_)
  · obtain ⟨c, e, rfl, _⟩ := h
    rfl
  obtain ⟨c, e, rfl, c0, c1, e0, e1, hn, k⟩ := h
  obtain ⟨fW, dW, GW, kW, bW, gW⟩ := GW.ex
  obtain ⟨tM, cM⟩ := gM
  refine ⟨_, pss_cons (ps_if (pt_not (pt_val (pe_call GW hr (by rfl) gW kW bW .nil pass0 (pa_cons (pv 0) (pa_cons pe_int (pa_cons (pe_glob (v := .int 9) rfl cM ⟨_, rfl⟩) pa_nil)))))) (pss_one ps_never) pss_nil)
    (pss_one (ps_if (PW.pt (pw_or (pt_not (pt_val (pe_call GW hr (by rfl) gW kW bW .nil pass0 (pa_cons (pv 1) (pa_cons pe_int (pa_cons (pe_glob (v := .int 9) rfl cM ⟨_, rfl⟩) pa_nil)))))) (pw_or1 (pt_chain op_eq op_eq (pv 0) (pv 1) pe_int)))) (pss_one ps_never) pss_nil)), ?_⟩
  refine ⟨_, rfl, c, 0, 9, rfl, c0, c1, true, rfl, iteF ?_⟩
  refine nx_read ?_
  dsimp only
  refine ⟨_, rfl, e, 0, 9, rfl, e0, e1, true, rfl, iteF ?_⟩
  refine ⟨_, rfl, _, rfl, rfl, _, rfl, ite2 (fun hce => ?_) (fun _ => ⟨_, rfl, iteF (nx_read k)⟩)⟩
  refine ⟨rfl, _, rfl, ?_⟩
  have hce' := of_decide_eq_true hce
  have z : c = e := by cases hce'; rfl
  have z2 : decide (V.int e = V.int 0) = false := decide_eq_false fun q => hn (by cases q; exact ⟨z, rfl⟩)
  rw [z2]
  exact iteF (nx_read k)
theorem ok_prc {f0 : Addr} {fd : FuncData} {T : List (Addr × Str)} (F : FunD K "price" "price" (defArgs sPrc) (defBody sPrc) (defScope sPrc) [] kwP f0 fd) (B : Bl mg) (PC : PCls K C) (GD : FAt P w K mg base 1 "check_drive" ["drive"] (spCkd K CD)) (GL : FAt P w K mg base 7 "play_load" ["drive", "load"] (spLodG K T CD C)) (GC : FAt P w K mg base 3 "check_prices" ["copies", "erasures"] spCkp) : FnOk P w K mg base CX0 8 f0 fd ["drive", "load", "copies", "erasures"] (spPrc K T CD C) := by
  refine F.ok (CX := CX0) scPrc (fun vs H Q E h => ?_) (fun cdv A0 outer s0 H vs Q E hr h => ?_)
  · obtain ⟨c, e, dr, ld, eas, es, b, p, n, ini, y, rfl, _⟩ := h
    rfl
  obtain ⟨c, e, dr, ld, eas, es, b, p, n, ini, y, rfl, c0, c1, e0, e1, hne, hld, hes, hd, hb, hwd, hok, hlen, hT, hsz, q⟩ := h
  obtain ⟨fD, dD, GD, kD, bD, gD⟩ := GD.ex
  obtain ⟨fL, dL, GL, kL, bL, gL⟩ := GL.ex
  obtain ⟨fC, dC, GC, kC, bC, gC⟩ := GC.ex
  refine ⟨_, pss_cons (ps_expr (pe_call GD (hr.mono (by decide)) (by rfl) gD kD bD .nil pass0 (pa_cons (pv 0) pa_nil)))
    (pss_cons (ps_set (i := 4) scPrc.nd rfl (.inl rfl) (pe_fld (pe_call GL hr (by rfl) gL kL bL .nil pass0 (pa_cons (pv 0) (pa_cons (pv 1) pa_nil))) rfl))
    (pss_cons (ps_expr (pe_call GC (hr.mono (by decide)) (by rfl) gC kC bC .nil pass0 (pa_cons (pv 2) (pa_cons (pv 3) pa_nil))))
    (pss_one (ps_ret (pe_callB (cr_sum rfl) (by rfl) B.sum bSum (pa_cons (pe_lc (own := [("block", 5), ("cleaned", 6), ("copied", 7)]) (g := gTup K 3 (gCons (gName 5) (gCons (gName 6) (gCons (gName 7) gNil)))) (tt := tYes)
        (te := tePr K) rfl scPrc.nd (pi_list (pv 4)) (blkOk_by (own := [("block", 5), ("cleaned", 6), ("copied", 7)]) (N := NPrc) (sc := defScope sPrc) (by decide +kernel))
        (fun _ _ _ _ _ => pg_tup rfl (pgs_cons (pg_name (i := 5) scPrc.nd rfl (Or.inl rfl)) (pgs_cons (pg_name (i := 6) scPrc.nd rfl (Or.inl rfl)) (pgs_cons (pg_name (i := 7) scPrc.nd rfl (Or.inl rfl)) pgs_nil)))) (fun _ _ _ _ _ => pts_nil)
        (fun _ _ _ _ _ => pe_op op_add (pe_op op_mul (pv 2) (pv 7)) (pe_op op_mul (pv 3) (pe_callB call_len_seq (by rfl) B.len PySem.boot_len (pa_cons (pv 6) pa_nil))))) pa_nil)))))), ?_⟩
  refine ⟨_, rfl, dr, b, p, n, ini, y, rfl, hd, ?_⟩
  dsimp only
  refine seq_asg ?_
  refine ⟨_, rfl, _, rfl, dr, ld, eas, es, b, p, n, ini, y, rfl, hld, hes, hd, hb, hwd, hok, hlen, hT, fun H1 x s1 A pl1 p1 hdr nx x1 t1 => ⟨x, C, A.dx, _, _, rfl, p1.ins, PC.cl, PC.n8, rfl, ?_⟩⟩
  refine ⟨_, rfl, _, rfl, c, e, rfl, c0, c1, e0, e1, hne, ?_⟩
  obtain ⟨ht1, ht2⟩ := hsz s1 pl1
  have hrl := Paired.length p1.tat
  dsimp only
  refine ret_read ?_
  refine cb_read ?_
  refine cons_read ?_
  refine ⟨_, rfl, A.ta, rfl, ⟨_, SqL.of p1.told⟩, fun D hD => ?_⟩
  refine lc_list (K := K) (xs := A.rt.map V.ref) (fun i H' => Same H1 H' ∧ H' D = some (.lst (((s1.told.take i).map (prT c e)).map V.int))) ⟨same_lay hD, upd_same⟩ (fun i H' _ z => SqL.of (z.1 _ _ p1.told)) ?_ ?_
  · rintro i v H' hi ⟨si, ei⟩
    rw [List.getElem?_map] at hi
    obtain ⟨a, ha, rfl⟩ : ∃ a, A.rt[i]? = some a ∧ V.ref a = v := by
      cases hq : A.rt[i]? with
      | none => rw [hq] at hi; cases hi
      | some a => rw [hq] at hi; exact ⟨a, rfl, Option.some.inj hi⟩
    obtain ⟨t, ht, q1, hq1, hq2⟩ := K2.paired_get p1.tat ha
    obtain ⟨b1, b2, b3⟩ := ht2 t (List.mem_of_getElem? ht)
    have hil := (List.getElem?_eq_some_iff.mp ht).1
    refine ⟨a, _, rfl, SqT.of (si _ _ hq1), rfl, _, _, rfl, _, _, rfl, _, _, rfl, rfl, rfl, ?_⟩
    unfold tYes
    dsimp only
    rw [if_pos rfl]
    refine ⟨_, rfl, _, rfl, _, _, rfl, rfl, .inl ⟨by omega, by omega⟩, _, rfl, _, rfl, q1, _, rfl, .inr (SqT.of (si _ _ hq2)), _, _, rfl, rfl, .inl ⟨by omega, by omega⟩, _, _, rfl, rfl, _, ei, ?_, fun d u z => ?_, ?_⟩
    · rw [List.length_map, List.length_map, List.length_take, sizeLine_eq]
      omega
    · rw [upd_ne (ne_of_none z hD)]
      exact si _ _ z
    · rw [upd_same, List.take_add_one, ht, List.map_append, List.map_append]
      show some (HO.lst (_ ++ [V.int (c * t.2.2 + e * ((t.2.1.map nV).length : Int))])) = _
      rw [List.length_map]
      rfl
  · rintro H' ⟨si, ei⟩
    rw [List.length_map, hrl, List.take_length] at ei
    refine nil_read ⟨D, _, rfl, SqL.of ei, ?_⟩
    exact q H' s1 pl1 (x1.trans (.of si)) (t1.ext si)
end
end K6

set_option Elab.async false
set_option linter.all false
set_option maxRecDepth 100000
set_option maxHeartbeats 4000000
/-! price by its words; stand -/
namespace K6
open PySem PySem.Spec PyProof.Rows L2 G1 G2 K2 G5 LamX
abbrev gApp6 {α : Type} (us ws : List α) : List α := us ++ ws
abbrev NP4 : List Str := ["drive", "load", "copies", "erasures"]
abbrev sSto : Stmt := topS 61
abbrev sStd : Stmt := topS 67
abbrev NSto : List Str := ["play", "closed", "block"]
theorem scSto : FnScope NSto ["play"] (defScope sSto) := ⟨rfl, rfl, rfl, by decide +kernel, rfl, by decide +kernel, by decide +kernel⟩
theorem scStd : FnScope ["drive", "load"] ["drive", "load"] (defScope sStd) := ⟨rfl, rfl, rfl, by decide +kernel, rfl, by decide +kernel, by decide +kernel⟩
/-- the numbers of the open block -/
def opnL (s : Pl) : List Int := match s.fil with
  | none => []
  | some k => [((s.cont.getD k []).length : Int), s.liv.getD k 0]
def StdAt (H : Hp) (q : Addr) (s : Pl) : Prop := ∃ a c, H q = some (.tup [.ref a, .ref c]) ∧ H a = some (.tup ((cntP s).map V.int)) ∧ H c = some (.tup ((opnL s).map V.int))
structure StdOk (s : Pl) : Prop where
  clo : s.clo.length ≤ 10
  lt : ∀ k ∈ s.clo, k < s.liv.length
  fil : ∀ k, s.fil = some k → k < s.liv.length ∧ k < s.cont.length
def spSto (C : Addr) : Sp := fun vs H Q _ => ∃ (x : Addr) (s : Pl) (A : PAd), vs = [.ref x] ∧ PlayAt C H x s A ∧ StdOk s ∧ ∀ (H' : Hp) (q : Addr), Same H H' → StdAt H' q s → Q (.ref q) H'
def spStd (K : PySem.W.Frag) (T : List (Addr × Str)) (CD C : Addr) : Sp := fun vs H Q _ => ∃ (dr ld : Addr) (eas : List Addr) (es : List (Str × Str)) (b p n : Nat) (ini : List RowD) (y : Str), vs = [.ref dr, .ref ld] ∧ SqT K H ld (eas.map V.ref) ∧ Paired (fun (a : Addr) (e : Str × Str) => SqT K H a [.str e.1, .str e.2]) eas es ∧ DrvAt K CD H dr b p n ini y ∧ b ≤ 10 ∧ (∀ r ∈ ini ++ [((p : Int), y)], r.2 ∈ wordsL) ∧ LoadOkG p n (ini ++ [((p : Int), y)]) (newP b) es ∧ es.length ≤ 2000 ∧ Tabs T H ∧
  (∀ s', PlaysToG p (ini ++ [((p : Int), y)]) (newP b) es s' → StdOk s') ∧
  ∀ (H' : Hp) (q : Addr) (s' : Pl), PlaysToG p (ini ++ [((p : Int), y)]) (newP b) es s' → StdAt H' q s' → ExtN H H' → Tabs T H' → Q (.ref q) H'
section
variable {P : Program} {w : World} {K : PySem.W.Frag} {mg : Str → Option Value} {base : Heap} {CD C : Addr}
theorem b_prc {f : Addr} {fd : FuncData} (F : FunD K "price" "price" (defArgs sPrc) (defBody sPrc) (defScope sPrc) [] kwP f fd) : ∃ ds, Vals [V.int 1, V.int 0] ds ∧ Binds K fd NP4 ds := F.binds0 (ps := NP4) 2 (by simp) rfl fun D doc pm an cdv ct us ks l1 l2 => by
  match us, l1, ks, l2 with
  | [a, b], _, [z, w], _ => exact ⟨_, _, _, _, _, _, rfl, rfl, _, _, _, _, _, _, rfl, rfl, rfl⟩
theorem k_prc {f : Addr} {fd : FuncData} (F : FunD K "price" "price" (defArgs sPrc) (defBody sPrc) (defScope sPrc) [] kwP f fd) : KBn K fd NP4 2 ["copies", "erasures"] gApp6 gApp6 := by
  obtain ⟨oc, od, dV, kV, doc, pm, an, cdv, ct, osl, rfl, lk, hcd, hD, hK⟩ := F.ex
  rcases hD with ⟨_, rfl⟩ | ⟨e, _⟩
  · refine ⟨fun s us ws X l1 l2 => BindsTo.of_eq ?_, fun r1 r2 => r1.append r2⟩
    match us, l1, ws, l2 with
    | [a, b], _, [c, d], _ => rfl
  · exact absurd rfl e
theorem ok_sto {f : Addr} {fd : FuncData} (F : Fun K "stand_of" "stand_of" sSto f fd) (B : Bl mg) (PC : PCls K C) : FnOk P w K mg base CX0 1 f fd ["play"] (spSto C) := by
  refine F.ok scSto (fun vs H Q E h => ?_) (fun cdv A0 outer s0 H vs Q E hr h => ?_)
  · obtain ⟨x, s, A, rfl, _⟩ := h
    rfl
  obtain ⟨x, s, A, rfl, hp, hok, k⟩ := h
  refine ⟨_, pss_cons (ps_set (i := 1) scSto.nd rfl (.inl rfl) (pe_callTy call_tuple_of (by rfl) B.tup bTup (pa_cons (pe_lc (own := [("block", 2)]) (g := gName 2) (tt := tYes) (te := tOp (rIxL K) (tFld K (tVar 0) "living") (tVar 2)) rfl scSto.nd (pi_list (pe_fld (pv 0) rfl)) (blkOk_by (own := [("block", 2)]) (N := NSto) (sc := defScope sSto) (by decide +kernel))
        (fun _ _ _ _ _ => pg_name (i := 2) scSto.nd rfl (Or.inl rfl)) (fun _ _ _ _ _ => pts_nil) (fun _ _ _ _ _ => pe_ix ix_list (pe_fld (pv 0) rfl) (pv 2) (fun _ _ => rfl))) pa_nil)))
    (pss_cons (ps_if (pt_cmpR op_isN (pe_fld (pv 0) rfl) pe_non (nomark _)) (pss_one (ps_ret (pe_tup (pa_cons (pv 1) (pa_cons (pe_tup pa_nil) pa_nil))))) pss_nil)
    (pss_one (ps_ret (pe_tup (pa_cons (pv 1) (pa_cons (pe_tup (pa_cons (pe_callB call_len_seq (by rfl) B.len PySem.boot_len (pa_cons (pe_ix ix_list (pe_fld (pv 0) rfl) (pe_fld (pv 0) rfl) (fun _ _ => rfl)) pa_nil)) (pa_cons (pe_ix ix_list (pe_fld (pv 0) rfl) (pe_fld (pv 0) rfl) (fun _ _ => rfl)) pa_nil))) pa_nil)))))), ?_⟩
  refine seq_asg (cb_read (cons_read ⟨_, rfl, x, C, A.dx, _, _, rfl, hp.ins, PC.cl, PC.n5, rfl, A.acl, rfl, ⟨_, SqL.of hp.clo⟩, fun D hD => ?_⟩))
  refine lc_list (K := K) (xs := s.clo.map nV) (fun j H3 => Same H H3 ∧ H3 D = some (.lst (((cntP s).take j).map V.int))) ⟨same_lay hD, upd_same⟩ (fun j H3 _ z => SqL.of (z.1 _ _ hp.clo)) ?_ ?_
  · rintro j v H3 hj ⟨sj, ej⟩
    rw [List.getElem?_map] at hj
    obtain ⟨k, hk, rfl⟩ : ∃ k, s.clo[j]? = some k ∧ nV k = v := by
      cases hq : s.clo[j]? with
      | none => rw [hq] at hj; cases hj
      | some k => rw [hq] at hj; exact ⟨k, rfl, Option.some.inj hj⟩
    have hkv := hok.lt k (List.mem_of_getElem? hk)
    have hc5 := hok.clo
    have hjl := (List.getElem?_eq_some_iff.mp hk).1
    refine ⟨rfl, ?_⟩
    unfold tYes
    dsimp only
    rw [if_pos rfl]
    refine ⟨_, rfl, x, C, A.dx, _, _, rfl, sj _ _ hp.ins, PC.cl, PC.n3, rfl, _, rfl, A.al, _, (k : Int), .int (s.liv.getD k 0), rfl, rfl, SqL.of (sj _ _ hp.liv), atI_nat (by rw [List.getElem?_map, List.getElem?_eq_getElem hkv, List.getD_eq_getElem?_getD, List.getElem?_eq_getElem hkv]; rfl), _, ej, ?_, fun d u e => ?_, ?_⟩
    · rw [List.length_map, List.length_take, sizeLine_eq]
      unfold cntP
      rw [List.length_map]
      omega
    · rw [upd_ne (ne_of_none e hD)]
      exact sj _ _ e
    · rw [upd_same, List.take_add_one]
      have e5 : (cntP s)[j]? = some (s.liv.getD k 0) := by
        unfold cntP
        rw [List.getElem?_map, hk]
        rfl
      rw [e5, List.map_append]
      rfl
  rintro H3 ⟨s3, hD3⟩
  have ecl : (s.clo.map nV).length = (cntP s).length := by unfold cntP; rw [List.length_map, List.length_map]
  rw [ecl, List.take_length] at hD3
  refine nil_read ⟨D, _, rfl, .inl ⟨SqL.of hD3, fun u nu => ?_⟩⟩
  have s4 : Same H (L2.upd H3 u (.tup ((cntP s).map V.int))) := s3.trans (same_lay nu)
  have hu4 : (L2.upd H3 u (.tup ((cntP s).map V.int))) u = some (.tup ((cntP s).map V.int)) := upd_same
  generalize L2.upd H3 u (.tup ((cntP s).map V.int)) = H4 at s4 hu4 ⊢
  have p4 := hp.same s4
  refine seq_if6 (test_read6 (op_read ⟨_, rfl, x, C, A.dx, _, oN s.fil, rfl, p4.ins, PC.cl, PC.n6, rfl, c_read ⟨rfl, _, rfl, ?_⟩⟩))
  cases hfil : s.fil with
  | none =>
    refine iteT (ret_read (tup_read (cons_read ⟨_, rfl, cons_read (tup_read (nil_read ⟨by show 0 ≤ sizeLine; decide, fun c nc => nil_read ⟨by show 2 ≤ sizeLine; decide, fun q nq => ?_⟩⟩))⟩)))
    have s5 := (same_lay (o := .tup []) nc).trans (same_lay (o := .tup [.ref u, .ref c]) nq)
    refine k _ q (s4.trans s5) ⟨u, c, upd_same, s5 _ _ hu4, ?_⟩
    unfold opnL
    rw [hfil]
    exact (same_lay nq) _ _ upd_same
  | some kk =>
    rw [oN_non]
    obtain ⟨hk1, hk2⟩ := hok.fil kk hfil
    have hlr := Paired.length hp.inner
    obtain ⟨a, ha⟩ : ∃ a, A.rcs[kk]? = some a := ⟨A.rcs[kk]'(by omega), List.getElem?_eq_getElem _⟩
    obtain ⟨c0, hc0, hin⟩ := K2.paired_get p4.inner ha
    have hcD : s.cont.getD kk [] = c0 := by rw [List.getD_eq_getElem?_getD, hc0]; rfl
    have p4i := p4.ins
    rw [hfil] at p4i
    refine iteF (ret_read (tup_read (cons_read ⟨_, rfl, cons_read (tup_read (cons_read (cb_read (cons_read (op_read ⟨_, rfl, x, C, A.dx, _, _, rfl, p4i, PC.cl, PC.n2, rfl, _, rfl, x, C, A.dx, _, oN (some kk), rfl, p4i, PC.cl, PC.n6, rfl, A.ac, _, (kk : Int), .ref a, rfl, rfl, SqL.of p4.cont, atI_nat (by rw [List.getElem?_map, ha]; rfl), nil_read ⟨a, _, rfl, .inl (SqL.of hin), ?_⟩⟩)))))⟩)))
    refine cons_read (op_read ⟨_, rfl, x, C, A.dx, _, _, rfl, p4i, PC.cl, PC.n3, rfl, _, rfl, x, C, A.dx, _, oN (some kk), rfl, p4i, PC.cl, PC.n6, rfl, A.al, _, (kk : Int), .int (s.liv.getD kk 0), rfl, rfl, SqL.of p4.liv, atI_nat (by rw [List.getElem?_map, List.getElem?_eq_getElem hk1, List.getD_eq_getElem?_getD, List.getElem?_eq_getElem hk1]; rfl), nil_read ⟨by show 2 ≤ sizeLine; decide, fun c nc => nil_read ⟨by show 2 ≤ sizeLine; decide, fun q nq => ?_⟩⟩⟩)
    have s5 := (same_lay (o := .tup [.int ((c0.map oS).length : Nat), .int (s.liv.getD kk 0)]) nc).trans (same_lay (o := .tup [.ref u, .ref c]) nq)
    refine k _ q (s4.trans s5) ⟨u, c, upd_same, s5 _ _ hu4, ?_⟩
    unfold opnL
    rw [hfil]
    have z := (same_lay (o := .tup [.ref u, .ref c]) nq) _ _ (upd_same (H := H4) (a := c) (o := .tup [.int ((c0.map oS).length : Nat), .int (s.liv.getD kk 0)]))
    rw [z]
    dsimp only
    rw [hcD, List.length_map]
    rfl
theorem ok_std {f0 : Addr} {fd : FuncData} {T : List (Addr × Str)} (F : Fun K "stand" "stand" sStd f0 fd) (GD : FAt P w K mg base 1 "check_drive" ["drive"] (spCkd K CD)) (GL : FAt P w K mg base 7 "play_load" ["drive", "load"] (spLodG K T CD C)) (GS : FAt P w K mg base 1 "stand_of" ["play"] (spSto C)) : FnOk P w K mg base CX0 8 f0 fd ["drive", "load"] (spStd K T CD C) := by
  refine F.ok scStd (fun vs H Q E h => ?_) (fun cdv A0 outer s0 H vs Q E hr h => ?_)
  · obtain ⟨dr, ld, eas, es, b, p, n, ini, y, rfl, _⟩ := h
    rfl
  obtain ⟨dr, ld, eas, es, b, p, n, ini, y, rfl, hld, hes, hd, hb, hwd, hok, hlen, hT, hsz, q⟩ := h
  obtain ⟨fD, dD, GD, kD, bD, gD⟩ := GD.ex
  obtain ⟨fL, dL, GL, kL, bL, gL⟩ := GL.ex
  obtain ⟨fS, dS, GS, kS, bS, gS⟩ := GS.ex
  refine ⟨_, pss_cons (ps_expr (pe_call GD (hr.mono (by decide)) (by rfl) gD kD bD .nil pass0 (pa_cons (pv 0) pa_nil)))
    (pss_one (ps_ret (pe_call GS (hr.mono (by decide)) (by rfl) gS kS bS .nil pass0 (pa_cons (pe_call GL hr (by rfl) gL kL bL .nil pass0 (pa_cons (pv 0) (pa_cons (pv 1) pa_nil))) pa_nil)))), ?_⟩
  refine ⟨_, rfl, dr, b, p, n, ini, y, rfl, hd, ?_⟩
  refine ⟨_, rfl, _, rfl, dr, ld, eas, es, b, p, n, ini, y, rfl, hld, hes, hd, hb, hwd, hok, hlen, hT, fun H1 x s1 A pl1 p1 hdr nx x1 t1 => ⟨x, s1, A, rfl, p1, hsz s1 pl1, fun H2 u s2 h2 => ?_⟩⟩
  exact q H2 u s1 pl1 h2 (x1.trans (.of s2)) (t1.ext s2)
end
end K6

set_option Elab.async false
set_option linter.all false
set_option maxRecDepth 100000
set_option maxHeartbeats 4000000
/-! one load has one play; what its steps are -/
namespace K6
open PySem PySem.Spec PyProof.Rows L2 G1 G2 K2 G5 LamX
theorem best_uniq {sg : Bool} {cs : List Int} {pl : List Nat} {j j' k k' : Nat} (h : Best sg cs pl j k) (h' : Best sg cs pl j' k') : k = k' := by
  have key : ∀ {j j' k k' : Nat}, Best sg cs pl j k → Best sg cs pl j' k' → ¬ j < j' := fun {j j' k k'} a c hlt => by
    have z1 := a.2 j' k' c.1
    have z2 := c.2 j k a.1
    cases sg
    · have q1 : cs.getD k' 0 ≤ cs.getD k 0 := z1.1
      have q2 := z2.2 hlt
      omega
    · have q1 : cs.getD k 0 ≤ cs.getD k' 0 := z1.1
      have q2 := z2.2 hlt
      omega
  have e : j = j' := by
    have a := key h h'
    have c := key h' h
    omega
  subst e
  exact Option.some.inj (h.1.symm.trans h'.1)
theorem cho_uniq {wd : Str} {cs : List Int} {pl : List Nat} {k k' : Nat} (hw : wd ∈ wordsL) (h : ChoR wd cs pl k) (h' : ChoR wd cs pl k') : k = k' := by
  simp only [wordsL, List.mem_cons, List.not_mem_nil, or_false] at hw
  rcases hw with e | e | e | e
  · exact Option.some.inj ((h.1 e).symm.trans (h'.1 e))
  · exact Option.some.inj ((h.2.1 e).symm.trans (h'.2.1 e))
  · obtain ⟨j, a⟩ := h.2.2.1 e
    obtain ⟨j', c⟩ := h'.2.2.1 e
    exact best_uniq a c
  · obtain ⟨j, a⟩ := h.2.2.2 e
    obtain ⟨j', c⟩ := h'.2.2.2 e
    exact best_uniq a c
theorem pick_uniq {rows : List RowD} {cs : List Int} {k k' : Nat} (hw : ∀ r ∈ rows, r.2 ∈ wordsL) (h : PickR rows cs k) (h' : PickR rows cs k') : k = k' := by
  obtain ⟨j, r, hj, hb, hm, hc⟩ := h
  obtain ⟨j', r', hj', hb', hm', hc'⟩ := h'
  have e : j = j' := by
    rcases Nat.lt_trichotomy j j' with z | z | z
    · have := hb' j r z hj
      rw [this] at hm
      cases hm
    · exact z
    · have := hb j' r' z hj'
      rw [this] at hm'
      cases hm'
  subst e
  have er : r = r' := Option.some.inj (hj.symm.trans hj')
  subst er
  exact cho_uniq (hw r (List.mem_of_getElem? hj)) hc hc'
section
variable {p : Nat} {rows : List RowD}
theorem cleans_uniq (hw : ∀ r ∈ rows, r.2 ∈ wordsL) {seen : List (List Int)} {s s1 s2 : Pl} {k k2 : Nat} {cl cl2 : List Nat} {cp cp2 : Int} (h : Cleans p rows seen s s1 k cl cp) : Cleans p rows seen s s2 k2 cl2 cp2 → s1 = s2 ∧ k = k2 ∧ cl = cl2 ∧ cp = cp2 := by
  induction h generalizing s2 k2 cl2 cp2 with
  | stop hf =>
    intro h2
    cases h2 with
    | stop hf2 => exact ⟨rfl, Option.some.inj (hf.symm.trans hf2), rfl, rfl⟩
    | step hf2 => rw [hf] at hf2; cases hf2
  | step hf hfe hi hn hpk hr ih =>
    intro h2
    cases h2 with
    | stop hf2 => rw [hf] at hf2; cases hf2
    | step hf2 hfe2 hi2 hn2 hpk2 hr2 =>
      have e1 := pick_uniq hw hpk hpk2
      subst e1
      have e2 := Option.some.inj (hi.symm.trans hi2)
      subst e2
      have e3 : [_] = [_] := hfe.symm.trans hfe2
      cases e3
      obtain ⟨a, c, d, e⟩ := ih hr2
      exact ⟨a, c, by rw [d], by rw [e]⟩
theorem opn_uniq (hw : ∀ r ∈ rows, r.2 ∈ wordsL) {s s1 s2 : Pl} {k k2 : Nat} {cl cl2 : List Nat} {cp cp2 : Int} (h : OpnG p rows s s1 k cl cp) (h2 : OpnG p rows s s2 k2 cl2 cp2) : s1 = s2 ∧ k = k2 ∧ cl = cl2 ∧ cp = cp2 := by
  rcases h with ⟨a1, a2, a3, rfl, rfl, rfl⟩ | ⟨a1, a2⟩
  · rcases h2 with ⟨c1, c2, c3, rfl, rfl, rfl⟩ | ⟨c1, _⟩
    · have e := Option.some.inj (a3.symm.trans c3)
      subst e
      exact ⟨rfl, rfl, rfl, rfl⟩
    · have := c1 a1
      omega
  · rcases h2 with ⟨c1, c2, _⟩ | ⟨_, c2⟩
    · have := a1 c1
      omega
    · exact cleans_uniq hw a2 c2
theorem lives_uniq {s : Pl} {x : Str} {h j h' j' : Nat} (a : LivesAt s x h j) (c : LivesAt s x h' j') : h = h' ∧ j = j' := by
  have e : h = h' := nV_inj (Option.some.inj (a.hom.symm.trans c.hom))
  subst e
  refine ⟨rfl, ?_⟩
  rcases Nat.lt_trichotomy j j' with z | z | z
  · exact absurd a.pg (c.fst j z)
  · exact z
  · exact absurd c.pg (a.fst j' z)
theorem dead_uniq {s s1 s2 : Pl} {x : Str} (h : DeadR s s1 x) (h2 : DeadR s s2 x) : s1 = s2 := by
  rcases h with ⟨a, rfl⟩ | ⟨h, j, L, rfl⟩
  · rcases h2 with ⟨_, e⟩ | ⟨_, _, L, _⟩
    · exact e.symm
    · rw [L.hom] at a
      cases a
  · rcases h2 with ⟨a, _⟩ | ⟨_, _, L2, rfl⟩
    · rw [L.hom] at a
      cases a
    · obtain ⟨rfl, rfl⟩ := lives_uniq L L2
      rfl
theorem evt_uniq (hw : ∀ r ∈ rows, r.2 ∈ wordsL) {s s1 s2 : Pl} {wd x : Str} (h : EvtRG p rows s s1 wd x) (h2 : EvtRG p rows s s2 wd x) : s1 = s2 := by
  obtain ⟨a, ha, h⟩ := h
  obtain ⟨c, hc, h2⟩ := h2
  have e := dead_uniq ha hc
  subst e
  rcases h with ⟨w1, rfl⟩ | ⟨w1, t1, k, cl, cp, ho, rfl⟩
  · rcases h2 with ⟨_, rfl⟩ | ⟨w2, _⟩
    · rfl
    · rw [w1] at w2
      exact absurd w2 (by decide)
  · rcases h2 with ⟨w2, _⟩ | ⟨_, t2, k2, cl2, cp2, ho2, rfl⟩
    · rw [w1] at w2
      exact absurd w2 (by decide)
    · obtain ⟨rfl, rfl, rfl, rfl⟩ := opn_uniq hw ho ho2
      rfl
theorem plays_uniq (hw : ∀ r ∈ rows, r.2 ∈ wordsL) : ∀ {es : List (Str × Str)} {s s1 s2 : Pl}, PlaysToG p rows s es s1 → PlaysToG p rows s es s2 → s1 = s2
  | [], s, s1, s2, h, h2 => by
    have e1 : s1 = s := h
    have e2 : s2 = s := h2
    rw [e1, e2]
  | e :: es, s, s1, s2, ⟨a, ha, h⟩, ⟨c, hc, h2⟩ => by
    have z := evt_uniq hw ha hc
    subst z
    exact plays_uniq hw h h2
theorem plays_app : ∀ {es es2 : List (Str × Str)} {s s2 : Pl}, PlaysToG p rows s (es ++ es2) s2 → ∃ s1, PlaysToG p rows s es s1 ∧ PlaysToG p rows s1 es2 s2
  | [], _, s, _, h => ⟨s, rfl, h⟩
  | e :: es, es2, s, s2, ⟨a, ha, h⟩ => by
    obtain ⟨s1, h1, h2⟩ := plays_app (es := es) h
    exact ⟨s1, ⟨a, ha, h1⟩, h2⟩
theorem load_take {n : Nat} : ∀ {es es2 : List (Str × Str)} {s : Pl}, LoadOkG p n rows s (es ++ es2) → LoadOkG p n rows s es
  | [], _, _, _ => trivial
  | e :: es, es2, s, ⟨h1, h2, h3⟩ => ⟨h1, h2, fun s' hs => load_take (h3 s' hs)⟩
end
/-- what a step tells -/
def StepOk (b : Nat) (e : Str × Str) (t : Tld) : Prop := (e.1 = "trim" ∧ t = (none, [], 0)) ∨ (e.1 = "write" ∧ ∃ (k : Nat) (cl : List Nat) (cp : Int), t = (some k, cl, cp) ∧ k < b ∧ (∀ j ∈ cl, j < b) ∧ 0 ≤ cp ∧ cp ≤ 100 ∧ cl.length ≤ 10 ∧ (cl = [] → cp = 0))
section
variable {b p : Nat} {s : Pl} {al : List Str} {rows : List RowD}
theorem cleans_in (hp : 0 < p) {seen : List (List Int)} {s1 : Pl} {k : Nat} {cl : List Nat} {cp : Int} (h : Cleans p rows seen s s1 k cl cp) : PInv b p s al → (∀ j ∈ cl, j < b) ∧ 0 ≤ cp ∧ (cl = [] → cp = 0) := by
  induction h with
  | stop hf => exact fun _ => ⟨fun j z => (nomatch z), Int.le_refl 0, fun _ => rfl⟩
  | step hf hfe hi hn hpk _ ih =>
    intro I
    obtain ⟨T, hfk, hfb, hkb⟩ := I.cln hp ⟨_, hfe⟩ hf hfe hi
    obtain ⟨h1, h2, _⟩ := ih (I.clean hp hf hfe hi hfk hfb hkb T)
    refine ⟨fun j hj => ?_, ?_, fun z => (nomatch z)⟩
    · rcases List.mem_cons.mp hj with e | e
      · rw [e]
        exact hkb
      · exact h1 j e
    · rw [liv_kln I hi]
      omega
theorem evt_step {n : Nat} {e : Str × Str} (hc : Calm p rows) (D : Dims b p) (hn : n ≤ p * (b - 1)) (hal : al.length ≤ n) (I : PInv b p s al) (hl : LetE n al e) {s' : Pl} (h : EvtRG p rows s s' e.1 e.2) : ∃ t : Tld, s'.told = s.told ++ [t] ∧ StepOk b e t := by
  obtain ⟨_, t, et, hcase⟩ := evt_to D.p0 I h
  refine ⟨t, et, ?_⟩
  rcases hcase with z | ⟨hw, s0, s1, k, cl, cp, I0, ho, rfl⟩
  · exact .inl z
  · refine .inr ⟨hw, k, cl, cp, rfl, ?_⟩
    have hlen : (al.erase e.2).length < n := by
      rcases hl.ok with ⟨_, h3⟩ | ⟨h3, _⟩
      · exact erase_len h3 hal
      · rw [hw] at h3
        exact absurd h3 (by decide)
    have hp := D.p10
    have hb := D.b10
    have h90 : p * (b - 1) ≤ 10 * 9 := Nat.mul_le_mul hp (by omega)
    obtain ⟨I1, hf1, _⟩ := opn_inv D.p0 I0 ho
    obtain ⟨m1, m2⟩ := opn_most hc D.p0 I0 (by omega) ho
    have hk : k < b := I1.mem (List.mem_append_right _ (by rw [hf1]; exact List.mem_singleton.mpr rfl))
    rcases ho with ⟨_, _, _, _, rfl, rfl⟩ | ⟨_, hcs⟩
    · exact ⟨hk, fun j z => (nomatch z), Int.le_refl 0, by decide, by decide, fun _ => rfl⟩
    · obtain ⟨c1, c2, c3⟩ := cleans_in D.p0 hcs I0
      exact ⟨hk, c1, c2, by omega, by omega, c3⟩
/-- the open block was written last -/
def LastW (s : Pl) : Prop := ∀ k, s.fil = some k → (s.told.filterMap fun (t : Tld) => t.1).getLast? = some k
theorem evt_last {e : Str × Str} (hL : LastW s) {s' : Pl} (h : EvtRG p rows s s' e.1 e.2) : LastW s' := by
  obtain ⟨s0, hd, hw⟩ := h
  have e0 : s0.fil = s.fil ∧ s0.told = s.told := by
    rcases hd with ⟨_, rfl⟩ | ⟨_, _, _, rfl⟩ <;> exact ⟨rfl, rfl⟩
  rcases hw with ⟨_, rfl⟩ | ⟨_, s1, k, cl, cp, ho, rfl⟩
  · intro k hk
    have hk' : s0.fil = some k := hk
    rw [e0.1] at hk'
    show ((s0.told ++ [(none, [], 0)]).filterMap fun (t : Tld) => t.1).getLast? = _
    rw [List.filterMap_append, e0.2]
    show ((s.told.filterMap fun (t : Tld) => t.1) ++ []).getLast? = _
    rw [List.append_nil]
    exact hL k hk'
  · intro k' hk'
    have hf1 : s1.fil = some k := by
      rcases ho with ⟨_, _, _, rfl, _⟩ | ⟨_, hc⟩
      · rfl
      · have : ∀ {seen : List (List Int)} {a c : Pl} {k : Nat} {cl : List Nat} {cp : Int}, Cleans p rows seen a c k cl cp → c.fil = some k := fun hc => by
          induction hc with
          | stop h => exact h
          | step _ _ _ _ _ _ ih => exact ih
        exact this hc
    have ek : k' = k := by
      unfold putP at hk'
      split at hk'
      · cases hk'
      · have z : s1.fil = some k' := hk'
        rw [hf1] at z
        exact (Option.some.inj z).symm
    rw [put_told, ek]
    show ((s1.told ++ [(some k, cl, cp)]).filterMap fun (t : Tld) => t.1).getLast? = _
    rw [List.filterMap_append]
    show ((s1.told.filterMap fun (t : Tld) => t.1) ++ [k]).getLast? = some k
    rw [List.getLast?_append]
    rfl
/-- a whole load -/
theorem load_all {n : Nat} (hc : Calm p rows) (D : Dims b p) (hn : n ≤ p * (b - 1)) : ∀ (es : List (Str × Str)) (s : Pl) (al : List Str), PInv b p s al → al.length ≤ n → Lets n al es → s.told.length + es.length ≤ 10000 → LastW s → LoadOkG p n rows s es ∧ ∀ s', PlaysToG p rows s es s' → PInv b p s' (es.foldl aft al) ∧ LastW s' ∧ ∃ ts : List Tld, s'.told = s.told ++ ts ∧ Paired (StepOk b) es ts
  | [], s, al, I, hal, _, _, hL => ⟨trivial, fun s' e => by
      have e' : s' = s := e
      subst e'
      exact ⟨I, hL, [], (List.append_nil _).symm, .nil⟩⟩
  | e :: es, s, al, I, hal, ⟨h1, h2⟩, ht, hL => by
    rw [List.length_cons] at ht
    have key : ∀ s', EvtRG p rows s s' e.1 e.2 → (LoadOkG p n rows s' es ∧ ∀ s2, PlaysToG p rows s' es s2 → PInv b p s2 (es.foldl aft (aft al e)) ∧ LastW s2 ∧ ∃ ts : List Tld, s2.told = s'.told ++ ts ∧ Paired (StepOk b) es ts) ∧ ∃ t : Tld, s'.told = s.told ++ [t] ∧ StepOk b e t := by
      intro s' hr
      obtain ⟨I', _⟩ := evt_to D.p0 I hr
      obtain ⟨t, et, hst⟩ := evt_step hc D hn hal I h1 hr
      exact ⟨load_all hc D hn es s' _ I' (aft_len h1 hal) h2 (by rw [et, List.length_append]; show s.told.length + 1 + es.length ≤ _; omega) (evt_last hL hr), t, et, hst⟩
    refine ⟨⟨evt_ok hc D I hn hal (by omega) h1, h1.nm, fun s' hr => (key s' hr).1.1⟩, fun s2 ⟨s', hr, hp2⟩ => ?_⟩
    obtain ⟨⟨_, hk⟩, t, et, hst⟩ := key s' hr
    obtain ⟨i1, i2, ts, e1, e2⟩ := hk s2 hp2
    exact ⟨i1, i2, t :: ts, by rw [e1, et, List.append_assoc]; rfl, .cons hst e2⟩
end
theorem last_new (b : Nat) : LastW (newP b) := fun k hk => by
  have z : (none : Option Nat) = some k := hk
  cases z
end K6

set_option Elab.async false
set_option linter.all false
set_option maxRecDepth 100000
set_option maxHeartbeats 4000000
/-! counts, sums, what the blocks hold -/
namespace K6
open PySem PySem.Spec PyProof.Rows L2 G1 G2 K2 G5 LamX
def gone (told : List Tld) : List Nat := told.flatMap fun t => t.2.1
theorem getN_set {l : List Nat} {j k v : Nat} (hj : j < l.length) : (l.set j v).getD k 0 = if k = j then v else l.getD k 0 := by
  by_cases e : k = j
  · subst e
    rw [if_pos rfl, List.getD_eq_getElem?_getD, List.getElem?_set_self hj]
    rfl
  · rw [if_neg e, List.getD_eq_getElem?_getD, List.getD_eq_getElem?_getD, List.getElem?_set_ne (Ne.symm e)]
theorem addJ_get : ∀ (js l : List Nat) (k : Nat), (∀ j ∈ js, j < l.length) → (js.foldl addJ l).getD k 0 = l.getD k 0 + js.count k
  | [], l, k, _ => rfl
  | j :: js, l, k, h => by
    show (js.foldl addJ (addJ l j)).getD k 0 = _
    have hj := h j (List.mem_cons_self ..)
    rw [addJ_get js (addJ l j) k (fun i hi => by rw [addJ_len]; exact h i (List.mem_cons_of_mem _ hi))]
    unfold addJ
    rw [getN_set hj, List.count_cons]
    by_cases e : k = j
    · subst e
      rw [if_pos rfl, if_pos (beq_self_eq_true k)]
      omega
    · rw [if_neg e, if_neg (by simpa using fun z => e z.symm)]
      omega
theorem ersT_get : ∀ (ts : List Tld) (l : List Nat) (k : Nat), (∀ t ∈ ts, ∀ j ∈ t.2.1, j < l.length) → (ts.foldl ersT l).getD k 0 = l.getD k 0 + (gone ts).count k
  | [], l, k, _ => rfl
  | t :: ts, l, k, h => by
    show (ts.foldl ersT (ersT l t)).getD k 0 = _
    rw [ersT_get ts (ersT l t) k (fun u hu j hj => by rw [ersT_len]; exact h u (List.mem_cons_of_mem _ hu) j hj)]
    unfold ersT
    rw [addJ_get _ _ _ (h t (List.mem_cons_self ..))]
    have e : gone (t :: ts) = t.2.1 ++ gone ts := List.flatMap_cons ..
    rw [e, List.count_append]
    omega
theorem ers_counts {b : Nat} {told : List Tld} (h : ∀ t ∈ told, ∀ j ∈ t.2.1, j < b) : ersM b told = (List.range b).map fun k => (gone told).count k := by
  have hl : (ersM b told).length = b := by
    unfold ersM
    rw [ers_len, List.length_replicate]
  refine List.ext_getElem (by rw [hl]; simp) fun i h1 h2 => ?_
  rw [hl] at h1
  rw [List.getElem_map, List.getElem_range]
  have z := ersT_get told (List.replicate b 0) i (fun t ht j hj => by rw [List.length_replicate]; exact h t ht j hj)
  have e0 : (List.replicate b 0).getD i 0 = 0 := by
    rw [List.getD_eq_getElem?_getD, List.getElem?_replicate]
    split <;> rfl
  rw [e0, Nat.zero_add] at z
  have e1 : (told.foldl ersT (List.replicate b 0)).getD i 0 = (ersM b told)[i]'(by rw [hl]; exact h1) := by
    show (ersM b told).getD i 0 = _
    rw [List.getD_eq_getElem?_getD, List.getElem?_eq_getElem]
    rfl
  rw [← e1]
  exact z
/-! ### the blocks -/
def blosM (s : Pl) : List (Str × List Str) := (List.range s.cont.length).map (bloM s)
def sideL (s : Pl) (w : Str) : List (Str × List Str) := (blosM s).filter fun t => decide (t.1 = w)
def lensL (s : Pl) (w : Str) : List Nat := (sideL s w).map fun t => t.2.length
section
variable {b p : Nat} {s : Pl} {al : List Str}
theorem side_idx (s : Pl) (w : Str) : sideL s w = ((List.range s.cont.length).filter fun i => decide ((bloM s i).1 = w)).map (bloM s) := by
  unfold sideL blosM
  rw [List.filter_map]
  rfl
theorem PInv.states (I : PInv b p s al) : (∀ i ∈ s.free, (bloM s i).1 = "free") ∧ (∀ i ∈ s.clo, (bloM s i).1 = "closed") ∧ ∀ i ∈ s.fil.toList, (bloM s i).1 = "open" := by
  have hn := I.ptn
  have h1 := (List.nodup_append.mp hn).1
  refine ⟨fun i hi => ?_, fun i hi => ?_, fun i hi => ?_⟩
  · unfold bloM
    dsimp only
    rw [if_pos hi]
  · unfold bloM
    dsimp only
    rw [if_neg (fun z => disj_of h1 z hi), if_pos hi]
  · unfold bloM
    dsimp only
    rw [if_neg (fun z => disj_of hn (List.mem_append_left _ z) hi), if_neg (fun z => disj_of hn (List.mem_append_right _ z) hi)]
theorem filter_all {l : List Nat} {f : Nat → Bool} (h : ∀ i ∈ l, f i = true) : l.filter f = l := List.filter_eq_self.mpr h
theorem filter_none {l : List Nat} {f : Nat → Bool} (h : ∀ i ∈ l, f i = false) : l.filter f = [] := List.filter_eq_nil_iff.mpr fun i hi => by rw [h i hi]; exact Bool.false_ne_true
theorem PInv.idxs (I : PInv b p s al) : (((List.range s.cont.length).filter fun i => decide ((bloM s i).1 = "free")).Perm s.free) ∧ (((List.range s.cont.length).filter fun i => decide ((bloM s i).1 = "closed")).Perm s.clo) ∧ (((List.range s.cont.length).filter fun i => decide ((bloM s i).1 = "open")).Perm s.fil.toList) := by
  obtain ⟨h1, h2, h3⟩ := I.states
  rw [I.cl]
  have key : ∀ w : Str, ((List.range b).filter fun i => decide ((bloM s i).1 = w)).Perm (((s.free ++ s.clo ++ s.fil.toList)).filter fun i => decide ((bloM s i).1 = w)) := fun w => (I.pt.filter _).symm
  refine ⟨(key _).trans ?_, (key _).trans ?_, (key _).trans ?_⟩
  · rw [List.filter_append, List.filter_append, filter_all (l := s.free) (fun i hi => decide_eq_true (h1 i hi)), filter_none (l := s.clo) (fun i hi => by rw [h2 i hi]; decide), filter_none (l := s.fil.toList) (fun i hi => by rw [h3 i hi]; decide), List.append_nil, List.append_nil]
  · rw [List.filter_append, List.filter_append, filter_none (l := s.free) (fun i hi => by rw [h1 i hi]; decide), filter_all (l := s.clo) (fun i hi => decide_eq_true (h2 i hi)), filter_none (l := s.fil.toList) (fun i hi => by rw [h3 i hi]; decide), List.append_nil, List.nil_append]
  · rw [List.filter_append, List.filter_append, filter_none (l := s.free) (fun i hi => by rw [h1 i hi]; decide), filter_none (l := s.clo) (fun i hi => by rw [h2 i hi]; decide), filter_all (l := s.fil.toList) (fun i hi => decide_eq_true (h3 i hi)), List.nil_append, List.nil_append]
theorem lens_idx (s : Pl) (w : Str) : lensL s w = ((List.range s.cont.length).filter fun i => decide ((bloM s i).1 = w)).map fun i => kln (s.cont.getD i []) := by
  unfold lensL
  rw [side_idx, List.map_map]
  rfl
theorem PInv.shut (I : PInv b p s al) : (lensL s "closed").Perm (lvC s) := by
  rw [lens_idx]
  exact I.idxs.2.1.map _
theorem perm_small {l m : List Nat} (h : l.Perm m) (hm : m.length ≤ 1) : l = m := by
  match m, hm with
  | [], _ => exact List.Perm.eq_nil h
  | [a], _ => exact List.perm_singleton.mp h
theorem PInv.half (I : PInv b p s al) : lensL s "open" = s.fil.toList.map fun i => kln (s.cont.getD i []) := by
  rw [lens_idx, perm_small I.idxs.2.2 (by cases s.fil <;> simp)]
theorem PInv.bare (I : PInv b p s al) : (sideL s "free").map (fun t => t.2) = List.replicate s.free.length [] := by
  rw [side_idx, List.map_map]
  have hl := I.idxs.1.length_eq
  refine List.eq_replicate_iff.mpr ⟨by rw [List.length_map, hl], fun x hx => ?_⟩
  obtain ⟨i, hi, rfl⟩ := List.mem_map.mp hx
  have hf := I.idxs.1.mem_iff.mp hi
  show keptN (s.cont.getD i []) = []
  rw [I.fr i hf]
  rfl
theorem PInv.sides (I : PInv b p s al) : (sideL s "free").length + (lensL s "closed").length + (lensL s "open").length = b ∧ 1 ≤ (sideL s "free").length := by
  have hl := I.pt.length_eq
  rw [List.length_range, List.length_append, List.length_append] at hl
  have h1 : (sideL s "free").length = s.free.length := by rw [side_idx, List.length_map]; exact I.idxs.1.length_eq
  have h2 : (lensL s "closed").length = s.clo.length := by rw [lens_idx, List.length_map]; exact I.idxs.2.1.length_eq
  have h3 : (lensL s "open").length = s.fil.toList.length := by rw [lens_idx, List.length_map]; exact I.idxs.2.2.length_eq
  have h4 := List.length_pos_iff.mpr I.fe
  omega
theorem PInv.stdok (I : PInv b p s al) (hb : b ≤ 10) : StdOk s := by
  have z := I.pt.length_eq
  rw [List.length_range, List.length_append, List.length_append] at z
  refine ⟨by omega, fun k hk => ?_, fun k hk => ?_⟩
  · rw [I.ll]
    exact I.mem (List.mem_append_left _ (List.mem_append_right _ hk))
  · have := I.mem (k := k) (List.mem_append_right _ (by rw [hk]; exact List.mem_singleton.mpr rfl))
    rw [I.ll, I.cl]
    exact ⟨this, this⟩
/-- the numbers of the open block, but the first -/
theorem PInv.opn (I : PInv b p s al) : (opnL s).drop 1 = (lensL s "open").map fun (k : Nat) => (k : Int) := by
  rw [I.half]
  unfold opnL
  cases h : s.fil with
  | none => rfl
  | some k =>
    have hk : k < b := I.mem (List.mem_append_right _ (by rw [h]; exact List.mem_singleton.mpr rfl))
    show [s.liv.getD k 0] = [((kln (s.cont.getD k []) : Nat) : Int)]
    rw [I.lv k hk]
    rfl
end
theorem sorted_eq {l m : List Int} (h : l.Perm m) (h1 : l.Pairwise (· ≤ ·)) (h2 : m.Pairwise (· ≤ ·)) : l = m := List.Perm.eq_of_pairwise (fun a c _ _ x y => Int.le_antisymm x y) h1 h2 h
end K6

set_option Elab.async false
set_option linter.all false
set_option maxRecDepth 100000
set_option maxHeartbeats 4000000
namespace K6
open PySem PySem.Spec PyProof.Rows L2 G1 G2 K2 G5 LamX
abbrev sWrd : Stmt := topS 72
abbrev NWrd : List Str := ["_law_pool_here", "_law_some", "_law_signs", "_law_found", "_law_k"]
theorem scWrd : FnScope NWrd ["_law_pool_here"] (defScope sWrd) := ⟨rfl, rfl, rfl, by decide +kernel, rfl, by decide +kernel, by decide +kernel⟩
def wrdL : List Str := ["write", "trim", "open", "new", "drive", "any", "oldest", "most", "free", "n0", "n1"]
abbrev sigS : Str := "abcdefghijklmnopqrstuvwxyz0123456789"
/-- a name, checked by computing -/
def nameB (nm : Str) : Bool := decide (1 ≤ nm.length) && decide (nm.length ≤ 8) && (match nm.cps.toList with | [] => false | c :: _ => decide (c ∈ letS.cps.toList)) && nm.cps.toList.all fun c => decide (c ∈ letS.cps.toList ∨ c ∈ digS.cps.toList)
theorem name_of {nm : Str} (h : nameB nm = true) : NameOk nm := by
  unfold nameB at h
  simp only [Bool.and_eq_true, decide_eq_true_iff, List.all_eq_true] at h
  obtain ⟨⟨⟨h1, h2⟩, h3⟩, h4⟩ := h
  refine ⟨h1, h2, ?_, h4⟩
  cases e : nm.cps.toList with
  | nil => rw [e] at h3; cases h3
  | cons c r => rw [e] at h3; exact ⟨c, rfl, of_decide_eq_true h3⟩
theorem wrd_ok : ∀ x ∈ wrdL, nameB x = true := by decide +kernel
theorem sig_len : sigS.cps.toList.length = 36 := by decide +kernel
theorem sig_let : ∀ c ∈ sigS.cps.toList.take 26, c ∈ letS.cps.toList := by decide +kernel
theorem sig_all : ∀ c ∈ sigS.cps.toList, c ∈ letS.cps.toList ∨ c ∈ digS.cps.toList := by decide +kernel
theorem add_cps (a : Str) (c : Nat) : (a ++ (⟨#[c]⟩ : Str)).cps.toList = a.cps.toList ++ [c] := by
  show (a.cps ++ #[c]).toList = _
  simp
structure PreN (nm : Str) (k : Nat) : Prop where
  len : nm.cps.toList.length = k
  fst : ∃ c, nm.cps.toList[0]? = some c ∧ c ∈ letS.cps.toList
  all : ∀ c ∈ nm.cps.toList, c ∈ letS.cps.toList ∨ c ∈ digS.cps.toList
theorem len_cps (nm : Str) : nm.length = nm.cps.toList.length := rfl
theorem PreN.ok {nm : Str} {k : Nat} (h : PreN nm k) (h1 : 1 ≤ k) (h2 : k ≤ 8) : NameOk nm := ⟨by rw [len_cps, h.len]; exact h1, by rw [len_cps, h.len]; exact h2, h.fst, h.all⟩
def spWrd : Sp := fun vs H Q _ => ∃ pl : Addr, vs = [.ref pl] ∧ PoolAt H pl ∧ ∀ (H' : Hp) (nm : Str), Stp pl H H' → NameOk nm → Q (.str nm) H'
theorem at_int {α : Type} {xs : List α} {r : Int} {x : α} (h0 : 0 ≤ r) (h : xs[r.toNat]? = some x) : atI xs r = some x := by
  have e : r = ((r.toNat : Nat) : Int) := by omega
  rw [e]
  exact atI_nat h
section
variable {P : Program} {w : World} {K : PySem.W.Frag} {mg : Str → Option Value} {base : Heap}
theorem ok_wrd {f : Addr} {fd : FuncData} (F : Fun K "_law_word" "_law_word" sWrd f fd) (B : Bl mg) (GD : FAt P w K mg base 1 "_law_draw" ["_law_pool_here", "_law_many"] spDraw) : FnOk P w K mg base CX0 2 f fd ["_law_pool_here"] spWrd := by
  refine F.ok scWrd (fun vs H Q E h => ?_) (fun cdv A outer s H vs Q E hr h => ?_)
  · obtain ⟨pl, rfl, _⟩ := h
    rfl
  obtain ⟨pl, rfl, hp, k⟩ := h
  obtain ⟨fD, dD, GD, kD, bD, gD⟩ := GD.ex
  refine ⟨_, pss_cons (ps_if (pt_cmpR op_eq (pe_call GD hr (by rfl) gD kD bD .nil pass0 (pa_cons (pv 0) (pa_cons pe_int pa_nil))) pe_int (nomark _)) (pss_cons (ps_set (i := 1) scWrd.nd rfl (.inl rfl) (pe_lst (pa_cons pe_str (pa_cons pe_str (pa_cons pe_str (pa_cons pe_str (pa_cons pe_str (pa_cons pe_str (pa_cons pe_str (pa_cons pe_str (pa_cons pe_str (pa_cons pe_str (pa_cons pe_str pa_nil)))))))))))))
    (pss_one (ps_ret (pe_ix ix_list (pv 1) (pe_call GD hr (by rfl) gD kD bD .nil pass0 (pa_cons (pv 0) (pa_cons pe_int pa_nil))) (fun _ _ => rfl))))) pss_nil)
    (pss_cons (ps_set (i := 2) scWrd.nd rfl (.inl rfl) pe_str)
    (pss_cons (ps_set (i := 3) scWrd.nd rfl (.inl rfl) (pe_ix ix_str (pv 2) (pe_call GD hr (by rfl) gD kD bD .nil pass0 (pa_cons (pv 0) (pa_cons pe_int pa_nil))) (fun _ _ => rfl)))
    (pss_cons (ps_for PassesOwn.never rfl (pi_range1 (by rfl) B.range (pa_cons (pe_call GD hr (by rfl) gD kD bD .nil pass0 (pa_cons (pv 0) (pa_cons pe_int pa_nil))) pa_nil)) (pg_name (i := 4) scWrd.nd rfl (.inl rfl))
      (pss_one (ps_set (i := 3) scWrd.nd rfl (.inl rfl) (pe_op op_add_str (pv 3) (pe_ix ix_str (pv 2) (pe_call GD hr (by rfl) gD kD bD .nil pass0 (pa_cons (pv 0) (pa_cons pe_int pa_nil))) (fun _ _ => rfl))))))
    (pss_one (ps_ret (pv 3)))))), ?_⟩
  refine seq_if6 (test_read6 (op_read ?_))
  refine draw_c (p := pl) rfl hp (by decide) (by decide) fun H1 r1 S1 a0 a1 => c_read ⟨rfl, _, rfl, ite2 (fun _ => ?_) (fun _ => ?_)⟩
  · refine seq_asg ⟨by show 11 ≤ sizeLine; decide, fun l nl => ?_⟩
    have s2 : Same H1 (L2.upd H1 l (.lst (wrdL.map V.str))) := same_lay nl
    have e2 : (L2.upd H1 l (.lst (wrdL.map V.str))) l = some (.lst (wrdL.map V.str)) := upd_same
    have nlp : l ≠ pl := pool_new S1.1 nl
    show tRet _ _ _ (L2.upd H1 l (.lst (wrdL.map V.str)))
    generalize L2.upd H1 l (.lst (wrdL.map V.str)) = H2 at s2 e2 ⊢
    have S2 := S1.trans (Stp.of S1.1 s2)
    refine ret_read (op_read ⟨_, rfl, ?_⟩)
    refine draw_c (p := pl) rfl S2.1 (by decide) (by decide) fun H3 r S3 c0 c1 => ?_
    have hl : r.toNat < wrdL.length := by show r.toNat < 11; omega
    refine ⟨l, _, r, .str wrdL[r.toNat], rfl, rfl, SqL.of (S3.2 _ _ nlp e2), at_int c0 (by rw [List.getElem?_map, List.getElem?_eq_getElem hl]; rfl), ?_⟩
    exact k H3 _ (S2.trans S3) (name_of (wrd_ok _ (List.getElem_mem hl)))
  · refine seq_asg (c_read ?_)
    refine seq_asg (op_read ⟨_, rfl, ?_⟩)
    refine draw_c (p := pl) rfl S1.1 (by decide) (by decide) fun H2 r2 S2 c0 c1 => ?_
    have h2 : r2.toNat < sigS.cps.toList.length := by rw [sig_len]; omega
    have ea : r2 = ((r2.toNat : Nat) : Int) := by omega
    refine ⟨sigS, r2, sigS.cps.toList[r2.toNat], rfl, rfl, by show 36 ≤ sizeLine; decide, at_int c0 (List.getElem?_eq_getElem h2), ?_⟩
    have hP : PreN (⟨#[sigS.cps.toList[r2.toNat]]⟩ : Str) 1 := by
      have hm : sigS.cps.toList[r2.toNat] ∈ letS.cps.toList := sig_let _ (by
        refine List.mem_take_iff_getElem.mpr ⟨r2.toNat, by rw [sig_len]; omega, rfl⟩)
      refine ⟨rfl, ⟨_, rfl, hm⟩, fun c hc => ?_⟩
      rw [List.mem_singleton.mp hc]
      exact .inl hm
    generalize (⟨#[sigS.cps.toList[r2.toNat]]⟩ : Str) = nm0 at hP ⊢
    have S12 := S1.trans S2
    refine seq_for fun D' hD1 hD2 => ?_
    refine draw_c (p := pl) rfl S12.1 (by decide) (by decide) fun H3 m S3 m0 m1 => ⟨m, rfl, by omega, by omega, ?_⟩
    refine for_range (lo := 0) (n := m.toNat) (fun i σ H' => ∃ (x4 : Option V) (nm : Str), σ = [some (.ref pl), none, some (.str sigS), some (.str nm), x4] ∧ Stp pl H H' ∧ PreN nm (i + 1)) ⟨none, nm0, rfl, S12.trans S3, hP⟩ ?_ ?_
    · rintro i σ H' hi ⟨x4, nm, rfl, S4, hn⟩
      refine asg_read (op_read ⟨_, rfl, op_read ⟨_, rfl, ?_⟩⟩)
      refine draw_c (p := pl) rfl S4.1 (by decide) (by decide) fun H5 r5 S5 d0 d1 => ?_
      have h5 : r5.toNat < sigS.cps.toList.length := by rw [sig_len]; omega
      have ea5 : r5 = ((r5.toNat : Nat) : Int) := by omega
      refine ⟨sigS, r5, sigS.cps.toList[r5.toNat], rfl, rfl, by show 36 ≤ sizeLine; decide, at_int d0 (List.getElem?_eq_getElem h5), ?_⟩
      have hm := sig_all _ (List.getElem_mem h5)
      have hl := hn.len
      refine ⟨nm, _, rfl, rfl, ?_, _, _, rfl, S4.trans S5, ?_, ?_, ?_⟩
      · rw [sizeLine_eq, len_cps, hl]
        show i + 1 + 1 ≤ _
        omega
      · rw [add_cps, List.length_append, hl]
        rfl
      · obtain ⟨c, hc, hc2⟩ := hn.fst
        exact ⟨c, by rw [add_cps, List.getElem?_append_left (by omega)]; exact hc, hc2⟩
      · intro c hc
        rw [add_cps] at hc
        rcases List.mem_append.mp hc with z | z
        · exact hn.all c z
        · rw [List.mem_singleton.mp z]
          exact hm
    · rintro σ H' ⟨x4, nm, rfl, S4, hn⟩
      rw [hD1]
      exact ret_read ⟨_, rfl, k H' nm S4 (hn.ok (by omega) (by omega))⟩
end
end K6

set_option Elab.async false
set_option linter.all false
set_option maxRecDepth 100000
set_option maxHeartbeats 4000000
namespace K6
open PySem PySem.Spec PyProof.Rows L2 G1 G2 K2 G5 LamX
abbrev sTgs : Stmt := topS 73
abbrev NTgs : List Str := ["_law_pool_here", "_law_many", "_law_found", "_law_spares", "_law_k", "_law_tag", "_law_x"]
theorem scTgs : FnScope NTgs ["_law_pool_here", "_law_many"] (defScope sTgs) := ⟨rfl, rfl, rfl, by decide +kernel, rfl, by decide +kernel, by decide +kernel⟩
def spareS (k : Nat) : Str := ("z" : Str) ++ ((toString (k : Int) : String) : Str)
def sparesL (m : Nat) : List Str := (List.range m).map spareS
theorem spare_ok : ∀ x ∈ sparesL 12, nameB x = true := by decide +kernel
theorem spare_size : ∀ i : Nat, i < 12 → (i : Int).natAbs.log2 < 1920 ∧ ("z" : Str).length + ((toString (i : Int) : String) : Str).length ≤ 10 := by decide +kernel
theorem spare_nd : (sparesL 12).Nodup := by decide +kernel
theorem spare_take {m : Nat} (h : m ≤ 12) : sparesL m = (sparesL 12).take m := by
  unfold sparesL
  rw [← List.map_take, List.take_range, Nat.min_eq_left h]
theorem spares_ok {m : Nat} (h : m ≤ 12) : ∀ x ∈ sparesL m, NameOk x := fun x hx => by
  rw [spare_take h] at hx
  exact name_of (spare_ok x (List.mem_of_mem_take hx))
theorem spares_nd {m : Nat} (h : m ≤ 12) : (sparesL m).Nodup := by
  rw [spare_take h]
  exact spare_nd.sublist (List.take_sublist _ _)
theorem nodup_le6 {α : Type} [DecidableEq α] : ∀ (l U : List α), l.Nodup → (∀ x ∈ l, x ∈ U) → l.length ≤ U.length
  | [], _, _, _ => Nat.zero_le _
  | x :: l, U, hn, h => by
    have hx := h x (List.mem_cons_self ..)
    rw [List.nodup_cons] at hn
    have ih := nodup_le6 l (U.erase x) hn.2 fun y hy => (List.mem_erase_of_ne (fun (e : y = x) => hn.1 (e ▸ hy))).mpr (h y (List.mem_cons_of_mem _ hy))
    rw [List.length_erase_of_mem hx] at ih
    have : 0 < U.length := List.length_pos_of_mem hx
    rw [List.length_cons]
    omega
/-- one of the spare names is none of those that were found -/
theorem spare_left {m : Nat} {tags : List Str} (h : m ≤ 12) (hl : tags.length < m) : ∃ z, (((sparesL m).filter fun x => decide (x ∉ tags)))[0]? = some z ∧ z ∉ tags ∧ NameOk z := by
  cases e : (sparesL m).filter fun x => decide (x ∉ tags) with
  | nil =>
    exfalso
    have z := nodup_le6 (sparesL m) tags (spares_nd h) fun x hx => by
      have q := List.filter_eq_nil_iff.mp e x hx
      by_cases hm : x ∈ tags
      · exact hm
      · exact absurd (decide_eq_true hm) q
    unfold sparesL at z
    rw [List.length_map, List.length_range] at z
    omega
  | cons z r =>
    have hm : z ∈ (sparesL m).filter fun x => decide (x ∉ tags) := by rw [e]; exact List.mem_cons_self ..
    rw [List.mem_filter] at hm
    exact ⟨z, rfl, of_decide_eq_true hm.2, spares_ok h z hm.1⟩
theorem eqV_str (a b : Str) : eqV (.str a) (.str b) = decide (a = b) := by
  show (a == b) = decide (a = b)
  by_cases e : a = b
  · rw [decide_eq_true e, e]
    exact beq_self_eq_true _
  · rw [decide_eq_false e, beq_eq_false_iff_ne]
    exact e
theorem inV_str : ∀ (l : List Str) (x : Str), inV (.str x) (l.map V.str) = decide (x ∈ l)
  | [], x => rfl
  | a :: l, x => by
    have ih := inV_str l x
    unfold inV at ih ⊢
    rw [List.map_cons, List.any_cons, ih, eqV_str]
    by_cases e : a = x
    · subst e
      simp
    · have e2 : ¬ x = a := fun z => e z.symm
      simp [e, e2]
theorem flat_str : ∀ l : List Str, (l.map V.str).all flatV = true
  | [] => rfl
  | _ :: l => by rw [List.map_cons, List.all_cons, flat_str l]; rfl
def spTgs : Sp := fun vs H Q _ => ∃ (pl : Addr) (m : Nat), vs = [.ref pl, .int (m : Int)] ∧ PoolAt H pl ∧ m ≤ 12 ∧ ∀ (H' : Hp) (l : Addr) (tags : List Str), Stp pl H H' → H l = none → H' l = some (.lst (tags.map V.str)) → tags.length = m → tags.Nodup → (∀ x ∈ tags, NameOk x) → Q (.ref l) H'
section
variable {P : Program} {w : World} {K : PySem.W.Frag} {mg : Str → Option Value} {base : Heap}
theorem ok_tgs {f : Addr} {fd : FuncData} (F : Fun K "_law_tags" "_law_tags" sTgs f fd) (B : Bl mg) (GW : FAt P w K mg base 2 "_law_word" ["_law_pool_here"] spWrd) : FnOk P w K mg base CX0 3 f fd ["_law_pool_here", "_law_many"] spTgs := by
  refine F.ok scTgs (fun vs H Q E h => ?_) (fun cdv A outer s H vs Q E hr h => ?_)
  · obtain ⟨pl, m, rfl, _⟩ := h
    rfl
  obtain ⟨pl, m, rfl, hp, hm, k⟩ := h
  obtain ⟨fW, dW, GW, kW, bW, gW⟩ := GW.ex
  refine ⟨_, pss_cons (ps_asg (pe_tup (pa_cons (pe_lst pa_nil) (pa_cons (pe_lc (own := [("_law_k", 4)]) (g := gName 4) (tt := tYes) (te := _) rfl scTgs.nd (pi_range1 (by rfl) B.range (pa_cons (pv 1) pa_nil)) (blkOk_by (own := [("_law_k", 4)]) (N := NTgs) (sc := defScope sTgs) (by decide +kernel))
        (fun _ _ _ _ _ => pg_name (i := 4) scTgs.nd rfl (Or.inl rfl)) (fun _ _ _ _ _ => pts_nil) (fun _ _ _ _ _ => pe_op op_add_str pe_str (pe_callTy call_str_int (by rfl) B.str bStr (pa_cons (pv 4) pa_nil)))) pa_nil)))
      (pg_tup rfl (pgs_cons (pg_name (i := 2) scTgs.nd rfl (.inr rfl)) (pgs_cons (pg_name (i := 3) scTgs.nd rfl (.inl rfl)) pgs_nil))))
    (pss_cons (ps_for PassesOwn.never rfl (pi_range1 (by rfl) B.range (pa_cons (pv 1) pa_nil)) (pg_name (i := 4) scTgs.nd rfl (.inl rfl))
      (pss_cons (ps_set (i := 5) scTgs.nd rfl (.inl rfl) (pe_call GW hr (by rfl) gW kW bW .nil pass0 (pa_cons (pv 0) pa_nil)))
      (pss_cons (ps_if (pt_cmpR op_in_seq (pv 5) (pv 2) (by rfl)) (pss_one (ps_set (i := 5) scTgs.nd rfl (.inl rfl) (pe_ix ix_list (pe_lc (own := [("_law_x", 6)]) (g := gName 6) (tt := tTest (tOp (rIn K true) (tVar 6) (tVar 2))) (te := tVar 6) rfl scTgs.nd (pi_list (pv 3)) (blkOk_by (own := [("_law_x", 6)]) (N := NTgs) (sc := defScope sTgs) (by decide +kernel))
          (fun _ _ _ _ _ => pg_name (i := 6) scTgs.nd rfl (Or.inl rfl)) (fun _ _ _ _ _ => pts_one (pt_cmpR op_notIn_seq (pv 6) (pv 2) (by rfl))) (fun _ _ _ _ _ => pv 6)) pe_int (fun _ _ => rfl)))) pss_nil)
      (pss_one (ps_expr (pe_bm PySem.F.plainAttrs_list PySem.F.slot_list_append PySem.F.type_list_append mt_append (pv 2) (pa_cons (pv 5) pa_nil)))))))
    (pss_one (ps_ret (pv 2)))), ?_⟩
  refine seq_asg (tup_read (cons_read (lst_read (nil_read ⟨by show 0 ≤ sizeLine; decide, fun fl nfl => ?_⟩))))
  have s1 : Same H (L2.upd H fl (.lst [])) := same_lay nfl
  have e1 : (L2.upd H fl (.lst [])) fl = some (.lst (([] : List Str).map V.str)) := upd_same
  generalize L2.upd H fl (.lst []) = H1 at s1 e1 ⊢
  refine cons_read ⟨_, rfl, (m : Int), rfl, by omega, by omega, fun D hD => ?_⟩
  rw [Int.toNat_natCast]
  refine lc_range (lo := 0) (n := m) (fun i H' => Same H1 H' ∧ H' D = some (.lst ((sparesL i).map V.str))) ⟨same_lay hD, upd_same⟩ ?_ ?_
  · rintro i H' hi ⟨s2, e2⟩
    refine ⟨rfl, ?_⟩
    unfold tYes
    dsimp only
    rw [if_pos rfl]
    refine op_read (c_read (cb_read (cons_read ⟨_, rfl, nil_read ⟨_, rfl, ?_, _, _, rfl, rfl, ?_, _, e2, ?_, ?_, ?_⟩⟩)))
    · rw [Int.zero_add]
      exact (spare_size i (by omega)).1
    · rw [Int.zero_add]
      exact Nat.le_trans (spare_size i (by omega)).2 (by decide)
    · rw [List.length_map, sizeLine_eq]
      unfold sparesL
      rw [List.length_map, List.length_range]
      omega
    · exact fun b u e => by rw [upd_ne (ne_of_none e hD)]; exact s2 _ _ e
    · rw [upd_same, Int.zero_add]
      unfold sparesL
      rw [List.range_succ, List.map_append, List.map_append]
      rfl
  rintro H2 ⟨s2, e2⟩
  refine nil_read ⟨by show 2 ≤ sizeLine; decide, fun u nu => ?_⟩
  have s3 : Same H2 (L2.upd H2 u (.tup [.ref fl, .ref D])) := same_lay nu
  refine ⟨u, _, rfl, SqT.of upd_same, rfl, _, _, rfl, _, _, rfl, rfl, ?_⟩
  generalize L2.upd H2 u (.tup [.ref fl, .ref D]) = H3 at s3 ⊢
  have S3 : Stp pl H H3 := Stp.of hp (s1.trans (s2.trans s3))
  have e13 := s3 _ _ (s2 _ _ e1)
  have e23 := s3 _ _ e2
  have nflp : fl ≠ pl := pool_new hp nfl
  have nDp : D ≠ pl := pool_new (Stp.of hp s1).1 hD
  have nDf : D ≠ fl := fun z => by rw [z, e1] at hD; cases hD
  refine seq_for fun D' hD1 hD2 => ?_
  refine ⟨_, rfl, (m : Int), rfl, by omega, by omega, ?_⟩
  rw [Int.toNat_natCast]
  refine for_range (lo := 0) (n := m) (fun i σ H' => ∃ (x4 x5 x6 : Option V) (tags : List Str), σ = [some (.ref pl), some (.int (m : Int)), some (.ref fl), some (.ref D), x4, x5, x6] ∧ Stp pl H H' ∧ H' fl = some (.lst (tags.map V.str)) ∧ H' D = some (.lst ((sparesL m).map V.str)) ∧ tags.length = i ∧ tags.Nodup ∧ ∀ x ∈ tags, NameOk x) ⟨_, _, _, [], rfl, S3, e13, e23, rfl, List.nodup_nil, fun x z => (nomatch z)⟩ ?_ ?_
  · rintro i σ H' hi ⟨x4, x5, x6, tags, rfl, S4, q1, q2, q3, q4, q5⟩
    refine seq_asg (call_read (cons_read ⟨_, rfl, nil_read ⟨pl, rfl, S4.1, fun H5 nm S5 hn => ?_⟩⟩))
    have q15 := S5.2 _ _ nflp q1
    have q25 := S5.2 _ _ nDp q2
    have S45 := S4.trans S5
    have fin : ∀ (H6 : Hp) (z : Str), Same H5 H6 → z ∉ tags → NameOk z → ∃ (tags' : List Str), (L2.upd H6 fl (.lst (tags.map V.str ++ [.str z]))) fl = some (.lst (tags'.map V.str)) ∧ Stp pl H (L2.upd H6 fl (.lst (tags.map V.str ++ [.str z]))) ∧ (L2.upd H6 fl (.lst (tags.map V.str ++ [.str z]))) D = some (.lst ((sparesL m).map V.str)) ∧ tags'.length = i + 1 ∧ tags'.Nodup ∧ ∀ x ∈ tags', NameOk x := by
      intro H6 z s6 hz hzn
      refine ⟨tags ++ [z], by rw [upd_same, List.map_append]; rfl, ?_, ?_, ?_, ?_, ?_⟩
      · have S6 := S45.trans (Stp.of S45.1 s6)
        obtain ⟨i1, j1, n1, z1, z2, z3⟩ := S6.1
        exact ⟨⟨i1, j1, n1, by rw [upd_ne (Ne.symm nflp)]; exact z1, z2, z3⟩, fun c o hc e => by rw [upd_ne (ne_of_none e nfl)]; exact S6.2 c o hc e⟩
      · rw [upd_ne nDf]; exact s6 _ _ q25
      · rw [List.length_append, q3]; rfl
      · refine List.nodup_append.mpr ⟨q4, List.nodup_cons.mpr ⟨by simp, List.nodup_nil⟩, fun a ha b hb => ?_⟩
        rw [List.mem_singleton.mp hb]
        exact fun e => hz (e ▸ ha)
      · intro x hx
        rcases List.mem_append.mp hx with hx | hx
        · exact q5 x hx
        · rw [List.mem_singleton.mp hx]; exact hzn
    have hsz : (tags.map V.str).length < sizeLine := by rw [List.length_map, sizeLine_eq]; omega
    refine seq_if6 (test_read6 (op_read ⟨_, rfl, _, rfl, fl, _, rfl, .inl (SqL.of q15), rfl, flat_str _, _, rfl, ?_⟩))
    show (if inV (.str nm) (tags.map V.str) = true then _ else _)
    rw [inV_str]
    by_cases hin : nm ∈ tags
    · rw [decide_eq_true hin]
      refine iteT (asg_read (op_read ⟨_, rfl, D, rfl, ⟨_, SqL.of q25⟩, fun D2 hD2 => ?_⟩))
      refine lc_list (K := K) (xs := (sparesL m).map V.str) (fun j H6 => Same H5 H6 ∧ H6 D2 = some (.lst ((((sparesL m).take j).filter fun x => decide (x ∉ tags)).map V.str))) ⟨same_lay hD2, upd_same⟩ (fun j H6 _ z => SqL.of (z.1 _ _ q25)) ?_ ?_
      · rintro j v H6 hj ⟨sj, ej⟩
        rw [List.getElem?_map] at hj
        obtain ⟨o, ho, rfl⟩ : ∃ o, (sparesL m)[j]? = some o ∧ V.str o = v := by
          cases hq : (sparesL m)[j]? with
          | none => rw [hq] at hj; cases hj
          | some o => rw [hq] at hj; exact ⟨o, rfl, Option.some.inj hj⟩
        have htk : (sparesL m).take (j + 1) = (sparesL m).take j ++ [o] := by rw [List.take_add_one, ho]; rfl
        refine ⟨rfl, test_read6 (op_read ⟨_, rfl, _, rfl, fl, _, rfl, .inl (SqL.of (sj _ _ q15)), rfl, flat_str _, _, rfl, ?_⟩)⟩
        show (if (!inV (.str o) (tags.map V.str)) = true then _ else _)
        rw [inV_str]
        by_cases ho2 : o ∈ tags
        · rw [decide_eq_true ho2]
          refine iteF ⟨sj, ?_⟩
          rw [htk, List.filter_append]
          have e5 : [o].filter (fun x => decide (x ∉ tags)) = [] := by simp [ho2]
          rw [e5, List.append_nil]
          exact ej
        · rw [decide_eq_false ho2]
          refine iteT ⟨_, rfl, _, ej, ?_, fun d u e => ?_, ?_⟩
          · have z := List.length_filter_le (fun x => decide (x ∉ tags)) ((sparesL m).take j)
            rw [List.length_take] at z
            rw [List.length_map, sizeLine_eq]
            have z2 : (sparesL m).length = m := by unfold sparesL; rw [List.length_map, List.length_range]
            omega
          · rw [upd_ne (ne_of_none e hD2)]
            exact sj _ _ e
          · rw [upd_same, htk, List.filter_append, List.map_append]
            have e5 : [o].filter (fun x => decide (x ∉ tags)) = [o] := by simp [ho2]
            rw [e5]
            rfl
      · rintro H6 ⟨s6, e6⟩
        rw [List.length_map, List.take_length] at e6
        obtain ⟨z, hz1, hz2, hz3⟩ := spare_left (tags := tags) hm (by omega)
        refine c_read ⟨D2, _, _, .str z, rfl, rfl, SqL.of e6, atI_nat (j := 0) (by rw [List.getElem?_map, hz1]; rfl), ?_⟩
        obtain ⟨tags', f1, f2, f3, f4, f5, f6⟩ := fin H6 z s6 hz2 hz3
        exact ⟨_, rfl, .inl ⟨rfl, _, SqL.of (s6 _ _ q15)⟩, cons_read ⟨_, rfl, nil_read ⟨fl, _, _, rfl, rfl, s6 _ _ q15, hsz, _, _, _, tags', rfl, f2, f1, f3, f4, f5, f6⟩⟩⟩
    · rw [decide_eq_false hin]
      refine iteF ?_
      obtain ⟨tags', f1, f2, f3, f4, f5, f6⟩ := fin H5 nm (Same.refl _) hin hn
      exact ⟨_, rfl, .inl ⟨rfl, _, SqL.of q15⟩, cons_read ⟨_, rfl, nil_read ⟨fl, _, _, rfl, rfl, q15, hsz, _, _, _, tags', rfl, f2, f1, f3, f4, f5, f6⟩⟩⟩
  · rintro σ H' ⟨x4, x5, x6, tags, rfl, S4, q1, q2, q3, q4, q5⟩
    rw [hD1]
    exact ret_read ⟨_, rfl, k H' fl tags S4 nfl q1 q3 q4 q5⟩
end
end K6

set_option Elab.async false
set_option linter.all false
set_option maxRecDepth 100000
set_option maxHeartbeats 4000000
/-! _law_load -/
namespace K6
open PySem PySem.Spec PyProof.Rows L2 G1 G2 K2 G5 LamX
abbrev sLoa : Stmt := topS 77
abbrev NLoa : List Str := ["_law_pool_here", "_law_tags_here", "_law_room", "_law_many", "_law_found", "_law_alive", "_law_k", "_law_tag", "_law_way", "_law_x"]
theorem scLoa : FnScope NLoa ["_law_pool_here", "_law_tags_here", "_law_room", "_law_many"] (defScope sLoa) := ⟨rfl, rfl, rfl, by decide +kernel, rfl, by decide +kernel, by decide +kernel⟩
abbrev EvA (H : Hp) (a : Addr) (e : Str × Str) : Prop := H a = some (.tup [.str e.1, .str e.2])
def rNeS : R2 := fun x y H Q => scal x y = true ∧ Q (.bl (!decide (x = y))) H
theorem neV_str (a c : Str) : (!decide (V.str a = V.str c)) = decide (a ≠ c) := by
  by_cases e : a = c
  · subst e
    rw [decide_eq_true rfl, decide_eq_false (fun z => z rfl)]
    rfl
  · rw [decide_eq_false (fun z => e (by cases z; rfl)), decide_eq_true e]
    rfl
theorem seq_par6 {i j : Nat} {ta : TA} {t2 : TS} {D : Ends} {σ : L2.St} {H : Hp} (h : ta σ H fun vs H1 => ∃ v w, vs = [v, w] ∧ t2 D ((σ.set i (some v)).set j (some w)) H1) : tSeq (tPar i j ta) t2 D σ H := h
theorem and_read6 {ta tb : TT} {σ : L2.St} {H : Hp} {Q : Bool → Hp → Prop} (h : ta σ H fun c H1 => if c = true then tb σ H1 Q else Q false H1) : tAnd ta tb σ H Q := h
theorem or_read6 {ta tb : TT} {σ : L2.St} {H : Hp} {Q : Bool → Hp → Prop} (h : ta σ H fun c H1 => if c = true then Q true H1 else tb σ H1 Q) : tOr ta tb σ H Q := h
section
variable {K : PySem.W.Frag} {H : Hp} {Q : VK}
/-- [x for x in alive if x != tag] -/
theorem filt_read {a : Addr} {tag : Str} {pal : List Str} {s0 s1 s2 s3 s4 s6 s8 s9 : Option V} (ha : H a = some (.lst (pal.map V.str))) (hl : pal.length ≤ 1000)
    (k : ∀ (H' : Hp) (D : Addr), Same H H' → H D = none → H' D = some (.lst ((pal.filter fun x => decide (x ≠ tag)).map V.str)) → Q (.ref D) H') :
    tLc (iList K (tVar 5)) (gName 9) (tTest (tOp rNe (tVar 9) (tVar 7))) (tVar 9) [9] [s0, s1, s2, s3, s4, some (.ref a), s6, some (.str tag), s8, s9] H Q := by
  refine ⟨_, rfl, a, rfl, ⟨_, SqL.of ha⟩, fun D hD => ?_⟩
  refine lc_list (K := K) (xs := pal.map V.str) (fun i H' => Same H H' ∧ H' D = some (.lst (((pal.take i).filter fun x => decide (x ≠ tag)).map V.str))) ⟨same_lay hD, upd_same⟩ (fun i H' _ z => SqL.of (z.1 _ _ ha)) ?_ ?_
  · rintro i v H' hi ⟨si, ei⟩
    rw [List.getElem?_map] at hi
    obtain ⟨o, ho, rfl⟩ : ∃ o, pal[i]? = some o ∧ V.str o = v := by
      cases hq : pal[i]? with
      | none => rw [hq] at hi; cases hi
      | some o => rw [hq] at hi; exact ⟨o, rfl, Option.some.inj hi⟩
    have htk : pal.take (i + 1) = pal.take i ++ [o] := by rw [List.take_add_one, ho]; rfl
    refine ⟨rfl, test_read6 (op_read ⟨_, rfl, _, rfl, rfl, _, rfl, ?_⟩)⟩
    rw [neV_str]
    by_cases e : o ≠ tag
    · rw [decide_eq_true e]
      refine iteT ⟨_, rfl, _, ei, ?_, fun d u z => ?_, ?_⟩
      · have z := List.length_filter_le (fun x => decide (x ≠ tag)) (pal.take i)
        rw [List.length_take] at z
        rw [List.length_map, sizeLine_eq]
        omega
      · rw [upd_ne (ne_of_none z hD)]
        exact si _ _ z
      · rw [upd_same, htk, List.filter_append, List.map_append]
        have e5 : [o].filter (fun x => decide (x ≠ tag)) = [o] := by simp [e]
        rw [e5]
        rfl
    · rw [decide_eq_false e]
      refine iteF ⟨si, ?_⟩
      rw [htk, List.filter_append]
      have e5 : [o].filter (fun x => decide (x ≠ tag)) = [] := by
        have : o = tag := Decidable.byContradiction e
        simp [this]
      rw [e5, List.append_nil]
      exact ei
  · rintro H' ⟨si, ei⟩
    rw [List.length_map, List.take_length] at ei
    exact k H' D si hD ei
end
theorem filt_erase {l : List Str} (h : l.Nodup) (x : Str) : (l.filter fun y => decide (y ≠ x)) = l.erase x := by
  rw [List.Nodup.erase_eq_filter h]
  refine List.filter_congr fun y _ => ?_
  by_cases e : y = x
  · subst e
    simp
  · simp [e]
theorem perm_aft {al pal : List Str} (h : al.Perm pal) (e : Str × Str) : (aft al e).Perm (aft pal e) := by
  unfold aft
  split
  · exact h.erase _
  · exact (h.erase _).append_right _
theorem again_perm {pal : List Str} {x : Str} (h : x ∈ pal) : (aft pal ("write", x)).Perm pal := by
  unfold aft
  rw [if_neg (show ¬ (("write" : Str) = "trim") from by decide)]
  exact erase_perm h
theorem LetE.perm {n : Nat} {al pal : List Str} {e : Str × Str} (h : al.Perm pal) (z : LetE n pal e) : LetE n al e := by
  refine ⟨z.nm, ?_⟩
  rcases z.ok with ⟨a, c⟩ | ⟨a, c⟩
  · refine .inl ⟨a, ?_⟩
    rcases c with c | c
    · exact .inl (h.mem_iff.mpr c)
    · exact .inr (by rw [h.length_eq]; exact c)
  · exact .inr ⟨a, h.mem_iff.mpr c⟩
/-- how the load stands -/
structure Ld (n : Nat) (tags pal : List Str) (es : List (Str × Str)) : Prop where
  lets : Lets n [] es
  perm : (es.foldl aft []).Perm pal
  nd : pal.Nodup
  few : pal.length ≤ n
  sub : ∀ x ∈ pal, x ∈ tags
  ins : ∀ e ∈ es, e.2 ∈ tags
theorem Ld.step {n : Nat} {tags pal pal' : List Str} {es : List (Str × Str)} (L : Ld n tags pal es) {e : Str × Str} (h : LetE n pal e) (hp : (aft pal e).Perm pal') (nd : pal'.Nodup) (few : pal'.length ≤ n) (sub : ∀ x ∈ pal', x ∈ tags) (hm : e.2 ∈ tags) : Ld n tags pal' (es ++ [e]) := by
  refine ⟨lets_app L.lets ⟨h.perm L.perm, trivial⟩, ?_, nd, few, sub, fun d hd => (List.mem_append.mp hd).elim (L.ins d) fun z => by rw [List.mem_singleton.mp z]; exact hm⟩
  rw [List.foldl_append]
  exact (perm_aft L.perm e).trans hp
def spLoa : Sp := fun vs H Q _ => ∃ (pl tl : Addr) (n m : Nat) (tags : List Str), vs = [.ref pl, .ref tl, .int (n : Int), .int (m : Int)] ∧ PoolAt H pl ∧ tl ≠ pl ∧ H tl = some (.lst (tags.map V.str)) ∧ tags ≠ [] ∧ tags.length ≤ 100 ∧ (∀ x ∈ tags, NameOk x) ∧ 1 ≤ n ∧ n ≤ 100 ∧ m ≤ 1000 ∧
  ∀ (H' : Hp) (t : Addr) (eas : List Addr) (es : List (Str × Str)), Stp pl H H' → H' t = some (.tup (eas.map V.ref)) → Paired (EvA H') eas es → Lets n [] es → es.length = m → (∀ e ∈ es, e.2 ∈ tags) → Q (.ref t) H'
section
variable {P : Program} {w : World} {K : PySem.W.Frag} {mg : Str → Option Value} {base : Heap}
theorem ok_loa {f : Addr} {fd : FuncData} (F : Fun K "_law_load" "_law_load" sLoa f fd) (B : Bl mg) (GD : FAt P w K mg base 1 "_law_draw" ["_law_pool_here", "_law_many"] spDraw) : FnOk P w K mg base CX0 2 f fd ["_law_pool_here", "_law_tags_here", "_law_room", "_law_many"] spLoa := by
  refine F.ok scLoa (fun vs H Q E h => ?_) (fun cdv A outer s H vs Q E hr h => ?_)
  · obtain ⟨pl, tl, n, m, tags, rfl, _⟩ := h
    rfl
  obtain ⟨pl, tl, n, m, tags, rfl, hp, ntl, htl, hte, htl100, hnm, hn1, hn100, hm, k⟩ := h
  obtain ⟨fD, dD, GD, kD, bD, gD⟩ := GD.ex
  refine ⟨_, pss_cons (ps_par (i := 4) (j := 5) (by rfl) scLoa.nd rfl rfl (by decide) rfl rfl (pa_cons (pe_lst pa_nil) (pa_cons (pe_lst pa_nil) pa_nil)) (by rfl))
    (pss_cons (ps_for PassesOwn.never rfl (pi_range1 (by rfl) B.range (pa_cons (pv 3) pa_nil)) (pg_name (i := 6) scLoa.nd rfl (.inl rfl))
      (pss_cons (ps_asg (pe_tup (pa_cons (pe_ix ix_list (pv 1) (pe_call GD hr (by rfl) gD kD bD .nil pass0 (pa_cons (pv 0) (pa_cons (pe_callB call_len_seq (by rfl) B.len PySem.boot_len (pa_cons (pv 1) pa_nil)) pa_nil))) (fun _ _ => rfl)) (pa_cons (pe_call GD hr (by rfl) gD kD bD .nil pass0 (pa_cons (pv 0) (pa_cons pe_int pa_nil))) pa_nil)))
          (pg_tup rfl (pgs_cons (pg_name (i := 7) scLoa.nd rfl (.inr rfl)) (pgs_cons (pg_name (i := 8) scLoa.nd rfl (.inl rfl)) pgs_nil))))
      (pss_one (ps_if (PW.pt (pw_and (pt_cmpR op_in_seq (pv 7) (pv 5) (by rfl)) (pw_and1 (pt_cmpR op_eq (pv 8) pe_int (nomark _)))))
        (pss_cons (ps_setLc (i := 5) (own := [("_law_x", 9)]) (g := gName 9) (tt := tTest (tOp rNe (tVar 9) (tVar 7))) (te := tVar 9) rfl scLoa.nd rfl rfl (by rfl) (pi_list (pv 5)) (blkOk_by (own := [("_law_x", 9)]) (N := NLoa) (sc := defScope sLoa) (by decide +kernel))
            (fun _ _ _ _ _ => pg_name (i := 9) scLoa.nd rfl (Or.inl rfl)) (fun _ _ _ _ _ => pts_one (pt_cmpR op_ne (pv 9) (pv 7) (nomark _))) (fun _ _ _ _ _ => pv 9))
        (pss_one (ps_expr (pe_bm PySem.F.plainAttrs_list PySem.F.slot_list_append PySem.F.type_list_append mt_append (pv 4) (pa_cons (pe_tup (pa_cons pe_str (pa_cons (pv 7) pa_nil))) pa_nil)))))
        (pss_one (ps_if (PW.pt (pw_or (pt_cmpR op_in_seq (pv 7) (pv 5) (by rfl)) (pw_or1 (pt_cmpR op_lt (pe_callB call_len_seq (by rfl) B.len PySem.boot_len (pa_cons (pv 5) pa_nil)) (pv 2) (nomark _)))))
          (pss_cons (ps_set (i := 5) scLoa.nd rfl (.inl rfl) (pe_op op_cat (pe_lc (own := [("_law_x", 9)]) (g := gName 9) (tt := tTest (tOp rNe (tVar 9) (tVar 7))) (te := tVar 9) rfl scLoa.nd (pi_list (pv 5)) (blkOk_by (own := [("_law_x", 9)]) (N := NLoa) (sc := defScope sLoa) (by decide +kernel))
            (fun _ _ _ _ _ => pg_name (i := 9) scLoa.nd rfl (Or.inl rfl)) (fun _ _ _ _ _ => pts_one (pt_cmpR op_ne (pv 9) (pv 7) (nomark _))) (fun _ _ _ _ _ => pv 9)) (pe_lst (pa_cons (pv 7) pa_nil))))
          (pss_one (ps_expr (pe_bm PySem.F.plainAttrs_list PySem.F.slot_list_append PySem.F.type_list_append mt_append (pv 4) (pa_cons (pe_tup (pa_cons pe_str (pa_cons (pv 7) pa_nil))) pa_nil)))))
          (pss_one (ps_expr (pe_bm PySem.F.plainAttrs_list PySem.F.slot_list_append PySem.F.type_list_append mt_append (pv 4) (pa_cons (pe_tup (pa_cons pe_str (pa_cons (pe_ix ix_list (pv 5) (pe_call GD hr (by rfl) gD kD bD .nil pass0 (pa_cons (pv 0) (pa_cons (pe_callB call_len_seq (by rfl) B.len PySem.boot_len (pa_cons (pv 5) pa_nil)) pa_nil))) (fun _ _ => rfl)) pa_nil))) pa_nil))))))))))
    (pss_one (ps_ret (pe_callTy call_tuple_of (by rfl) B.tup bTup (pa_cons (pv 4) pa_nil))))), ?_⟩
  refine seq_par6 (cons_read (lst_read (nil_read ⟨by show 0 ≤ sizeLine; decide, fun fl nfl => ?_⟩)))
  have s1 : Same H (L2.upd H fl (.lst [])) := same_lay nfl
  have e1 : (L2.upd H fl (.lst [])) fl = some (.lst []) := upd_same
  generalize L2.upd H fl (.lst []) = H1 at s1 e1 ⊢
  refine cons_read (lst_read (nil_read ⟨by show 0 ≤ sizeLine; decide, fun aA naA => nil_read ⟨_, _, rfl, ?_⟩⟩))
  have s2 : Same H1 (L2.upd H1 aA (.lst [])) := same_lay naA
  have e2 : (L2.upd H1 aA (.lst [])) aA = some (.lst (([] : List Str).map V.str)) := upd_same
  have nfa : fl ≠ aA := ne_of_none e1 naA
  have naA0 : H aA = none := by
    cases e : H aA with
    | none => rfl
    | some o => rw [s1 _ _ e] at naA; cases naA
  show tSeq (tFor _ _ _) _ _ [some (.ref pl), some (.ref tl), some (.int (n : Int)), some (.int (m : Int)), some (.ref fl), some (.ref aA), none, none, none, none] (L2.upd H1 aA (.lst []))
  generalize L2.upd H1 aA (.lst []) = H2 at s2 e2 ⊢
  refine seq_for fun D' hD1 hD2 => ?_
  refine ⟨_, rfl, (m : Int), rfl, by omega, by omega, ?_⟩
  rw [Int.toNat_natCast]
  refine for_range (lo := 0) (n := m) (fun i σ H' => ∃ (x6 x7 x8 : Option V) (aA : Addr) (eas : List Addr) (es : List (Str × Str)) (pal : List Str), σ = [some (.ref pl), some (.ref tl), some (.int (n : Int)), some (.int (m : Int)), some (.ref fl), some (.ref aA), x6, x7, x8, none] ∧ Stp pl H H' ∧ H' fl = some (.lst (eas.map V.ref)) ∧ H' aA = some (.lst (pal.map V.str)) ∧ aA ≠ pl ∧ fl ≠ aA ∧ Paired (EvA H') eas es ∧ Ld n tags pal es ∧ es.length = i)
    ⟨none, none, none, aA, [], [], [], rfl, Stp.of hp (s1.trans s2), s2 _ _ e1, e2, pool_new hp naA0, nfa, .nil, ⟨trivial, List.Perm.refl _, List.nodup_nil, Nat.zero_le _, fun x z => (nomatch z), fun x z => (nomatch z)⟩, rfl⟩ ?_ ?_
  · rintro i σ H3 hi ⟨x6, x7, x8, aA, eas, es, pal, rfl, S3, hfl, hal, nap, nfa, hes, hL, hlen⟩
    have nfp : fl ≠ pl := pool_new hp nfl
    have hel := Paired.length hes
    have hpal : pal.length ≤ 100 := Nat.le_trans hL.few hn100
    refine seq_asg (tup_read (cons_read (op_read ⟨_, rfl, ?_⟩)))
    refine draw_t (p := pl) (m := (tags.length : Int)) rfl (fun R z => cb_read (cons_read ⟨_, rfl, nil_read ⟨tl, _, rfl, .inl (SqL.of (S3.2 _ _ ntl htl)), by rw [List.length_map]; exact z⟩⟩)) S3.1 ?_ (by omega) fun H4 r S4 r0 r1 => ?_
    · have := List.length_pos_iff.mpr hte
      omega
    have hrl : r.toNat < tags.length := by omega
    obtain ⟨tag, htag⟩ : ∃ t, tags[r.toNat]? = some t := ⟨_, List.getElem?_eq_getElem hrl⟩
    have S34 := S3.trans S4
    refine ⟨tl, _, r, .str tag, rfl, rfl, SqL.of (S34.2 _ _ ntl htl), at_int r0 (by rw [List.getElem?_map, htag]; rfl), ?_⟩
    refine cons_read (draw_c (p := pl) rfl S34.1 (by decide) (by decide) fun H5 w S5 w0 w1 => nil_read ⟨by show 2 ≤ sizeLine; decide, fun u nu => ?_⟩)
    have su : Same H5 (L2.upd H5 u (.tup [.str tag, .int w])) := same_lay nu
    refine ⟨u, _, rfl, SqT.of upd_same, rfl, _, _, rfl, _, _, rfl, rfl, ?_⟩
    have S6 : Stp pl H3 (L2.upd H5 u (.tup [.str tag, .int w])) := (S4.trans S5).trans (Stp.of S5.1 su)
    generalize L2.upd H5 u (.tup [.str tag, .int w]) = H6 at S6 ⊢
    have S06 := S3.trans S6
    have hfl6 := S6.2 _ _ nfp hfl
    have hal6 := S6.2 _ _ nap hal
    have hes6 : Paired (EvA H6) eas es := Paired.mapP hes fun a e z => S6.2 _ _ (pool_ne S3.1 z) z
    have htm := List.mem_of_getElem? htag
    have hntag := hnm tag htm
    clear S4 S5 S34 su nu
    -- how a branch ends: found grows by one, alive stands at aA2
    have fin : ∀ (H7 : Hp) (aA2 : Addr) (pal2 : List Str) (wd x : Str) (x6 x7 x8 : Option V), Same H6 H7 → H7 aA2 = some (.lst (pal2.map V.str)) → aA2 ≠ pl → fl ≠ aA2 → Ld n tags pal2 (es ++ [((wd, x) : Str × Str)]) → ∀ (a : Addr), H7 a = none → ∃ (x6' x7' x8' : Option V) (aA' : Addr) (eas' : List Addr) (es' : List (Str × Str)) (pal' : List Str), [some (.ref pl), some (.ref tl), some (.int (n : Int)), some (.int (m : Int)), some (.ref fl), some (.ref aA2), x6, x7, x8, none] = [some (.ref pl), some (.ref tl), some (.int (n : Int)), some (.int (m : Int)), some (.ref fl), some (.ref aA'), x6', x7', x8', none] ∧ Stp pl H (L2.upd (L2.upd H7 a (.tup [.str wd, .str x])) fl (.lst (eas.map V.ref ++ [.ref a]))) ∧ (L2.upd (L2.upd H7 a (.tup [.str wd, .str x])) fl (.lst (eas.map V.ref ++ [.ref a]))) fl = some (.lst (eas'.map V.ref)) ∧ (L2.upd (L2.upd H7 a (.tup [.str wd, .str x])) fl (.lst (eas.map V.ref ++ [.ref a]))) aA' = some (.lst (pal'.map V.str)) ∧ aA' ≠ pl ∧ fl ≠ aA' ∧ Paired (EvA (L2.upd (L2.upd H7 a (.tup [.str wd, .str x])) fl (.lst (eas.map V.ref ++ [.ref a])))) eas' es' ∧ Ld n tags pal' es' ∧ es'.length = i + 1 := by
      intro H7 aA2 pal2 wd x x6 x7 x8 s7 ha2 n1 n2 L2' a na
      have naf : a ≠ fl := fun z => by rw [z, s7 _ _ hfl6] at na; cases na
      have sa : Same H7 (L2.upd H7 a (.tup [.str wd, .str x])) := same_lay na
      have S7 : Stp pl H (L2.upd H7 a (.tup [.str wd, .str x])) := S06.trans (Stp.of S06.1 (s7.trans sa))
      refine ⟨x6, x7, x8, aA2, eas ++ [a], es ++ [(wd, x)], pal2, rfl, ?_, by rw [upd_same, List.map_append]; rfl, by rw [upd_ne (Ne.symm n2)]; exact sa _ _ ha2, n1, n2, ?_, L2', by rw [List.length_append, hlen]; rfl⟩
      · obtain ⟨i1, j1, m1, z1, z2, z3⟩ := S7.1
        exact ⟨⟨i1, j1, m1, by rw [upd_ne (Ne.symm nfp)]; exact z1, z2, z3⟩, fun c o hc e => by rw [upd_ne (ne_of_none e nfl)]; exact S7.2 c o hc e⟩
      · refine K2.paired_snoc (Paired.mapP hes6 fun c e z => ?_) (by show L2.upd _ fl _ a = _; rw [upd_ne naf]; exact upd_same)
        show L2.upd _ fl _ c = _
        rw [upd_ne (ne_of z hfl6 (by intro z; cases z))]
        exact sa _ _ (s7 _ _ z)
    have hsz : (eas.map V.ref).length < sizeLine := by rw [List.length_map, sizeLine_eq]; omega
    refine one_ifE (and_read6 (test_read6 (op_read ⟨_, rfl, _, rfl, aA, _, rfl, .inl (SqL.of hal6), rfl, flat_str _, _, rfl, ?_⟩)))
    show (if inV (.str tag) (pal.map V.str) = true then _ else _)
    rw [inV_str]
    by_cases hin : tag ∈ pal
    · rw [decide_eq_true hin]
      refine iteT (test_read6 (op_read ⟨_, rfl, c_read ⟨rfl, _, rfl, ite2 (fun _ => ?_) (fun _ => ?_)⟩⟩))
      · -- a trim
        refine seq_asg (filt_read hal6 (by omega) fun H7 D s7 nD hD7 => ?_)
        rw [filt_erase hL.nd] at hD7
        refine ⟨_, rfl, .inl ⟨rfl, _, SqL.of (s7 _ _ hfl6)⟩, cons_read (tup_read (cons_read (c_read (cons_read ⟨_, rfl, nil_read ⟨by show 2 ≤ sizeLine; decide, fun a na => nil_read ⟨fl, _, _, rfl, rfl, same_lay na _ _ (s7 _ _ hfl6), hsz, ?_⟩⟩⟩))))⟩
        refine fin H7 D (pal.erase tag) "trim" tag _ _ _ s7 hD7 (pool_new S06.1 nD) (ne_of_none hfl6 nD) (hL.step ⟨hntag, .inr ⟨rfl, hin⟩⟩ ?_ (hL.nd.erase _) (Nat.le_trans List.length_erase_le hL.few) (fun x hx => hL.sub x (List.mem_of_mem_erase hx)) htm) a na
        unfold aft
        rw [if_pos rfl]
      · -- written again
        refine one_ifE (or_read6 (test_read6 (op_read ⟨_, rfl, _, rfl, aA, _, rfl, .inl (SqL.of hal6), rfl, flat_str _, _, rfl, ?_⟩)))
        show (if inV (.str tag) (pal.map V.str) = true then _ else _)
        rw [inV_str, decide_eq_true hin]
        refine iteT ?_
        refine iteT ?_
        refine seq_asg (op_read (filt_read hal6 (by omega) fun H7 D s7 nD hD7 => lst_read (cons_read ⟨_, rfl, nil_read ⟨by show 1 ≤ sizeLine; decide, fun l1 nl1 => ?_⟩⟩)))
        rw [filt_erase hL.nd] at hD7
        have s8 : Same H7 (L2.upd H7 l1 (.lst [.str tag])) := same_lay nl1
        have e8 : (L2.upd H7 l1 (.lst [.str tag])) l1 = some (.lst [.str tag]) := upd_same
        generalize L2.upd H7 l1 (.lst [.str tag]) = H8 at s8 e8 ⊢
        refine ⟨D, l1, _, _, rfl, rfl, s8 _ _ hD7, e8, ?_, fun q nq => ?_⟩
        · have := List.length_erase_le (a := tag) (l := pal)
          rw [List.length_map, sizeLine_eq]
          show (pal.erase tag).length + 1 ≤ _
          omega
        have s9 : Same H6 (L2.upd H8 q (.lst ((pal.erase tag).map V.str ++ [.str tag]))) := s7.trans (s8.trans (same_lay nq))
        have e9 : (L2.upd H8 q (.lst ((pal.erase tag).map V.str ++ [.str tag]))) q = some (.lst ((pal.erase tag ++ [tag]).map V.str)) := by rw [upd_same, List.map_append]; rfl
        have nq6 : H6 q = none := by
          cases e : H6 q with
          | none => rfl
          | some o => rw [(s7.trans s8) _ _ e] at nq; cases nq
        show (tDrop _) _ [some (.ref pl), some (.ref tl), some (.int (n : Int)), some (.int (m : Int)), some (.ref fl), some (.ref q), some (.int (0 + (i : Int))), some (.str tag), some (.int w), none] (L2.upd H8 q (.lst ((pal.erase tag).map V.str ++ [.str tag])))
        generalize L2.upd H8 q (.lst ((pal.erase tag).map V.str ++ [.str tag])) = H9 at s9 e9 ⊢
        refine ⟨_, rfl, .inl ⟨rfl, _, SqL.of (s9 _ _ hfl6)⟩, cons_read (tup_read (cons_read (c_read (cons_read ⟨_, rfl, nil_read ⟨by show 2 ≤ sizeLine; decide, fun a na => nil_read ⟨fl, _, _, rfl, rfl, same_lay na _ _ (s9 _ _ hfl6), hsz, ?_⟩⟩⟩))))⟩
        have hok : LetE n pal ((("write" : Str), tag) : Str × Str) := ⟨hntag, .inl ⟨rfl, .inl hin⟩⟩
        refine fin H9 q (pal.erase tag ++ [tag]) "write" tag _ _ _ s9 e9 (pool_new S06.1 nq6) (ne_of_none hfl6 nq6) (hL.step hok ?_ ?_ ?_ (fun x hx => ?_) htm) a na
        · unfold aft
          rw [if_neg (show ¬ (("write" : Str) = "trim") from by decide)]
        · refine List.nodup_append.mpr ⟨hL.nd.erase _, List.nodup_cons.mpr ⟨List.not_mem_nil, List.nodup_nil⟩, fun a ha c hc e => ?_⟩
          rw [List.mem_singleton.mp hc] at e
          rw [e] at ha
          exact ((List.Nodup.mem_erase_iff hL.nd).mp ha).1 rfl
        · have z := aft_len hok hL.few
          unfold aft at z
          rw [if_neg (show ¬ (("write" : Str) = "trim") from by decide)] at z
          exact z
        · rcases List.mem_append.mp hx with h | h
          · exact hL.sub x (List.mem_of_mem_erase h)
          · rw [List.mem_singleton.mp h]
            exact htm
    · rw [decide_eq_false hin]
      refine iteF (iteF ?_)
      refine one_ifE (or_read6 (test_read6 (op_read ⟨_, rfl, _, rfl, aA, _, rfl, .inl (SqL.of hal6), rfl, flat_str _, _, rfl, ?_⟩)))
      show (if inV (.str tag) (pal.map V.str) = true then _ else _)
      rw [inV_str, decide_eq_false hin]
      refine iteF (test_read6 (op_read (cb_read (cons_read ⟨_, rfl, nil_read ⟨aA, _, rfl, .inl (SqL.of hal6), _, rfl, _, _, rfl, rfl, _, rfl, ?_⟩⟩))))
      rw [List.length_map]
      by_cases hroom : pal.length < n
      · rw [decide_eq_true (by omega)]
        refine iteT ?_
        refine seq_asg (op_read (filt_read hal6 (by omega) fun H7 D s7 nD hD7 => lst_read (cons_read ⟨_, rfl, nil_read ⟨by show 1 ≤ sizeLine; decide, fun l1 nl1 => ?_⟩⟩)))
        rw [filt_erase hL.nd] at hD7
        have s8 : Same H7 (L2.upd H7 l1 (.lst [.str tag])) := same_lay nl1
        have e8 : (L2.upd H7 l1 (.lst [.str tag])) l1 = some (.lst [.str tag]) := upd_same
        generalize L2.upd H7 l1 (.lst [.str tag]) = H8 at s8 e8 ⊢
        refine ⟨D, l1, _, _, rfl, rfl, s8 _ _ hD7, e8, ?_, fun q nq => ?_⟩
        · have := List.length_erase_le (a := tag) (l := pal)
          rw [List.length_map, sizeLine_eq]
          show (pal.erase tag).length + 1 ≤ _
          omega
        have s9 : Same H6 (L2.upd H8 q (.lst ((pal.erase tag).map V.str ++ [.str tag]))) := s7.trans (s8.trans (same_lay nq))
        have e9 : (L2.upd H8 q (.lst ((pal.erase tag).map V.str ++ [.str tag]))) q = some (.lst ((pal.erase tag ++ [tag]).map V.str)) := by rw [upd_same, List.map_append]; rfl
        have nq6 : H6 q = none := by
          cases e : H6 q with
          | none => rfl
          | some o => rw [(s7.trans s8) _ _ e] at nq; cases nq
        show (tDrop _) _ [some (.ref pl), some (.ref tl), some (.int (n : Int)), some (.int (m : Int)), some (.ref fl), some (.ref q), some (.int (0 + (i : Int))), some (.str tag), some (.int w), none] (L2.upd H8 q (.lst ((pal.erase tag).map V.str ++ [.str tag])))
        generalize L2.upd H8 q (.lst ((pal.erase tag).map V.str ++ [.str tag])) = H9 at s9 e9 ⊢
        refine ⟨_, rfl, .inl ⟨rfl, _, SqL.of (s9 _ _ hfl6)⟩, cons_read (tup_read (cons_read (c_read (cons_read ⟨_, rfl, nil_read ⟨by show 2 ≤ sizeLine; decide, fun a na => nil_read ⟨fl, _, _, rfl, rfl, same_lay na _ _ (s9 _ _ hfl6), hsz, ?_⟩⟩⟩))))⟩
        have hok : LetE n pal ((("write" : Str), tag) : Str × Str) := ⟨hntag, .inl ⟨rfl, .inr hroom⟩⟩
        refine fin H9 q (pal.erase tag ++ [tag]) "write" tag _ _ _ s9 e9 (pool_new S06.1 nq6) (ne_of_none hfl6 nq6) (hL.step hok ?_ ?_ ?_ (fun x hx => ?_) htm) a na
        · unfold aft
          rw [if_neg (show ¬ (("write" : Str) = "trim") from by decide)]
        · refine List.nodup_append.mpr ⟨hL.nd.erase _, List.nodup_cons.mpr ⟨List.not_mem_nil, List.nodup_nil⟩, fun a ha c hc e => ?_⟩
          rw [List.mem_singleton.mp hc] at e
          rw [e] at ha
          exact ((List.Nodup.mem_erase_iff hL.nd).mp ha).1 rfl
        · have z := aft_len hok hL.few
          unfold aft at z
          rw [if_neg (show ¬ (("write" : Str) = "trim") from by decide)] at z
          exact z
        · rcases List.mem_append.mp hx with h | h
          · exact hL.sub x (List.mem_of_mem_erase h)
          · rw [List.mem_singleton.mp h]
            exact htm
      · rw [decide_eq_false (by omega)]
        refine iteF ?_
        have hpos : 0 < pal.length := by omega
        refine ⟨_, rfl, .inl ⟨rfl, _, SqL.of hfl6⟩, cons_read (tup_read (cons_read (c_read (cons_read (op_read ⟨_, rfl, ?_⟩)))))⟩
        refine draw_t (p := pl) (m := (pal.length : Int)) rfl (fun R z => cb_read (cons_read ⟨_, rfl, nil_read ⟨aA, _, rfl, .inl (SqL.of hal6), by rw [List.length_map]; exact z⟩⟩)) S06.1 (by omega) (by omega) fun H7 r2 S7 r20 r21 => ?_
        have hrl2 : r2.toNat < pal.length := by omega
        obtain ⟨x, hx⟩ : ∃ t, pal[r2.toNat]? = some t := ⟨_, List.getElem?_eq_getElem hrl2⟩
        have hxm := List.mem_of_getElem? hx
        have hfl7 := S7.2 _ _ nfp hfl6
        have hal7 := S7.2 _ _ nap hal6
        refine ⟨aA, _, r2, .str x, rfl, rfl, SqL.of hal7, at_int r20 (by rw [List.getElem?_map, hx]; rfl), nil_read ⟨by show 2 ≤ sizeLine; decide, fun a na => nil_read ⟨fl, _, _, rfl, rfl, same_lay na _ _ hfl7, hsz, ?_⟩⟩⟩
        have naf : a ≠ fl := fun z => by rw [z, hfl7] at na; cases na
        have sa : Same H7 (L2.upd H7 a (.tup [.str "write", .str x])) := same_lay na
        have S8 : Stp pl H (L2.upd H7 a (.tup [.str "write", .str x])) := (S06.trans S7).trans (Stp.of S7.1 sa)
        have hok : LetE n pal ((("write" : Str), x) : Str × Str) := ⟨hnm x (hL.sub x hxm), .inl ⟨rfl, .inl hxm⟩⟩
        refine ⟨_, _, _, aA, eas ++ [a], es ++ [((("write" : Str), x) : Str × Str)], pal, rfl, ?_, by rw [upd_same, List.map_append]; rfl, by rw [upd_ne (Ne.symm nfa)]; exact sa _ _ hal7, nap, nfa, ?_, hL.step hok (again_perm hxm) hL.nd hL.few hL.sub (hL.sub x hxm), by rw [List.length_append, hlen]; rfl⟩
        · obtain ⟨i1, j1, m1, z1, z2, z3⟩ := S8.1
          exact ⟨⟨i1, j1, m1, by rw [upd_ne (Ne.symm nfp)]; exact z1, z2, z3⟩, fun c o hc e => by rw [upd_ne (ne_of_none e nfl)]; exact S8.2 c o hc e⟩
        · refine K2.paired_snoc (Paired.mapP hes6 fun c e z => ?_) (by show L2.upd _ fl _ a = _; rw [upd_ne naf]; exact upd_same)
          show L2.upd _ fl _ c = _
          rw [upd_ne (ne_of z hfl6 (by intro z; cases z))]
          exact sa _ _ (S7.2 _ _ (pool_ne S06.1 z) z)
  · rintro σ H' ⟨x6, x7, x8, aA, eas, es, pal, rfl, S3, hfl, hal, nap, nfa, hes, hL, hlen⟩
    rw [hD1]
    refine ret_read (cb_read (cons_read ⟨_, rfl, nil_read ⟨fl, _, rfl, .inl ⟨SqL.of hfl, fun t nt => ?_⟩⟩⟩))
    have st : Same H' (L2.upd H' t (.tup (eas.map V.ref))) := same_lay nt
    exact k _ t eas es (S3.trans (Stp.of S3.1 st)) upd_same (Paired.mapP hes fun c e z => st _ _ z) hL.lets hlen hL.ins
end
end K6

set_option Elab.async false
set_option linter.all false
set_option maxRecDepth 100000
set_option maxHeartbeats 4000000
/-! data made of whole numbers: fit to be shown and compared -/
namespace K6
open PySem PySem.Spec PyProof.Rows L2 G1 G2 K2 G5 LamX
theorem lay_map {α : Type} (f : α → PyData) : ∀ l : List α, (∀ x ∈ l, (f x).canLay0 = true) → PyData.canLayAll0 (l.map f) = true
  | [], _ => rfl
  | x :: l, h => by
    rw [List.map_cons]
    unfold PyData.canLayAll0
    rw [h x (List.mem_cons_self ..), lay_map f l (fun y hy => h y (List.mem_cons_of_mem _ hy))]
    rfl
theorem show_map {α : Type} (f : α → PyData) : ∀ l : List α, (∀ x ∈ l, (f x).showable = true) → PyData.showableAll (l.map f) = true
  | [], _ => rfl
  | x :: l, h => by
    rw [List.map_cons]
    unfold PyData.showableAll
    rw [h x (List.mem_cons_self ..), show_map f l (fun y hy => h y (List.mem_cons_of_mem _ hy))]
    rfl
theorem short_map {α : Type} (B : Nat) (f : α → PyData) : ∀ l : List α, (∀ x ∈ l, (f x).leavesShort B = true) → PyData.leavesShortAll B (l.map f) = true
  | [], _ => rfl
  | x :: l, h => by
    rw [List.map_cons]
    unfold PyData.leavesShortAll
    rw [h x (List.mem_cons_self ..), short_map B f l (fun y hy => h y (List.mem_cons_of_mem _ hy))]
    rfl
theorem deep_map {α : Type} (k : Nat) (f : α → PyData) : ∀ l : List α, (∀ x ∈ l, (f x).depth ≤ k) → PyData.depthAll (l.map f) ≤ k
  | [], _ => by simp [PyData.depthAll]
  | x :: l, h => by
    have h1 := h x (List.mem_cons_self ..)
    have h2 := deep_map k f l (fun y hy => h y (List.mem_cons_of_mem _ hy))
    rw [List.map_cons]
    simp only [PyData.depthAll]
    omega
theorem bulk_map {α : Type} (k : Nat) (f : α → PyData) : ∀ l : List α, (∀ x ∈ l, (f x).bulk ≤ k) → PyData.bulkAll (l.map f) ≤ (k + 1) * l.length
  | [], _ => by simp [PyData.bulkAll]
  | x :: l, h => by
    have h1 := h x (List.mem_cons_self ..)
    have h2 := bulk_map k f l (fun y hy => h y (List.mem_cons_of_mem _ hy))
    rw [List.map_cons, List.length_cons, Nat.mul_succ]
    simp only [PyData.bulkAll]
    omega
/-- data that may be shown and compared -/
structure DFit (d : PyData) (k m : Nat) : Prop where
  lay : d.canLay0 = true
  sho : d.showable = true
  sht : d.leavesShort 8 = true
  dep : d.depth ≤ k
  blk : d.bulk ≤ m
theorem small_int {i : Int} (h : i.natAbs < 10 ^ 7) : DFit (.int i) 0 0 := by
  refine ⟨rfl, ?_, ?_, by simp [PyData.depth], by simp [PyData.bulk]⟩
  · unfold PyData.showable
    refine decide_eq_true ?_
    by_cases e : i.natAbs = 0
    · rw [e]
      decide
    · refine (Nat.log2_lt e).mpr (Nat.lt_of_lt_of_le (Nat.lt_trans h (show 10 ^ 7 < 2 ^ 24 by decide)) (Nat.pow_le_pow_right (by decide) (show 24 ≤ 1920 by decide)))
  · unfold PyData.leavesShort
    refine decide_eq_true ?_
    have z := int_text_length_le10 (k := 7) (by decide) h
    show (Str.ofString (toString i)).length ≤ 8
    rw [PySem.ofString_length]
    exact z
theorem non_fit : DFit .none 0 0 := ⟨rfl, rfl, rfl, by simp [PyData.depth], by simp [PyData.bulk]⟩
theorem DFit.up {d : PyData} {k m k' m' : Nat} (h : DFit d k m) (hk : k ≤ k') (hm : m ≤ m') : DFit d k' m' := ⟨h.lay, h.sho, h.sht, Nat.le_trans h.dep hk, Nat.le_trans h.blk hm⟩
theorem tup_fit {α : Type} {f : α → PyData} {l : List α} {k m n : Nat} (h : ∀ x ∈ l, DFit (f x) k m) (hl : l.length ≤ n) : DFit (.tuple (l.map f)) (k + 1) ((m + 1) * n) := by
  refine ⟨?_, ?_, ?_, ?_, ?_⟩
  · unfold PyData.canLay0
    exact lay_map f l fun x hx => (h x hx).lay
  · unfold PyData.showable
    exact show_map f l fun x hx => (h x hx).sho
  · unfold PyData.leavesShort
    exact short_map 8 f l fun x hx => (h x hx).sht
  · simp only [PyData.depth]
    exact Nat.succ_le_succ (deep_map k f l fun x hx => (h x hx).dep)
  · simp only [PyData.bulk]
    exact Nat.le_trans (bulk_map m f l fun x hx => (h x hx).blk) (Nat.mul_le_mul_left _ hl)
theorem lst_fit {α : Type} {f : α → PyData} {l : List α} {k m n : Nat} (h : ∀ x ∈ l, DFit (f x) k m) (hl : l.length ≤ n) : DFit (.list (l.map f)) (k + 1) ((m + 1) * n) := by
  have z := tup_fit h hl
  refine ⟨?_, ?_, ?_, ?_, ?_⟩
  · have := z.lay
    unfold PyData.canLay0 at this ⊢
    exact this
  · have := z.sho
    unfold PyData.showable at this ⊢
    exact this
  · have := z.sht
    unfold PyData.leavesShort at this ⊢
    exact this
  · have := z.dep
    simp only [PyData.depth] at this ⊢
    exact this
  · have := z.blk
    simp only [PyData.bulk] at this ⊢
    exact this
theorem DFit.shaped {d : PyData} {k m : Nat} (h : DFit d k m) (hk : k ≤ 60) : SeqAt.shaped d = true := by
  unfold SeqAt.shaped
  rw [h.lay, Bool.true_and]
  exact decide_eq_true (by have := h.dep; omega)
theorem DFit.refl {d : PyData} {k m : Nat} (h : DFit d k m) : PyData.eqv d d = true := SeqAt.eqv_refl _ h.lay
theorem DFit.gd {d : PyData} {k m : Nat} (h : DFit d k m) (hk : k ≤ 60) (hm : m ≤ 100000) : Gd d := by
  refine ⟨h.sho, ?_, Nat.le_trans h.dep hk⟩
  have z := PyData.shown_le_bulk 8 (Nat.le_refl _) d h.sht
  have := h.blk
  rw [sizeLine_eq]
  omega
theorem DFit.tg {K : PySem.W.Frag} {H : Hp} {v : V} {d : PyData} {k m : Nat} (h : DFit d k m) (hk : k ≤ 60) (hd : Dp K H v d) : Tg K H v d := .dp hd (h.shaped hk) h.refl (PyData.hasDict_of_canLay d h.lay)
/-! ### numbers in a row; steps -/
abbrev iD (l : List Int) : List PyData := l.map PyData.int
theorem ints_fit {l : List Int} {n : Nat} (h : ∀ i ∈ l, i.natAbs < 10 ^ 7) (hl : l.length ≤ n) : DFit (.tuple (iD l)) 1 n := by
  have z := tup_fit (f := PyData.int) (fun i hi => small_int (h i hi)) hl
  rwa [Nat.one_mul] at z
theorem ints_fitL {l : List Int} {n : Nat} (h : ∀ i ∈ l, i.natAbs < 10 ^ 7) (hl : l.length ≤ n) : DFit (.list (iD l)) 1 n := by
  have z := lst_fit (f := PyData.int) (fun i hi => small_int (h i hi)) hl
  rwa [Nat.one_mul] at z
theorem dp_ints {K : PySem.W.Frag} {H : Hp} : ∀ l : List Int, DpAll K H (l.map V.int) (iD l)
  | [] => .nil
  | i :: l => .cons (.int i) (dp_ints l)
theorem dp_nats {K : PySem.W.Frag} {H : Hp} : ∀ l : List Nat, DpAll K H (l.map nV) (iD (csI l))
  | [] => .nil
  | i :: l => .cons (.int (i : Int)) (dp_nats l)
def optD : Option Nat → PyData
  | none => .none
  | some k => .int (k : Int)
def tldD (t : Tld) : PyData := .tuple [optD t.1, .tuple (iD (csI t.2.1)), .int t.2.2]
theorem tld_dp {K : PySem.W.Frag} {H : Hp} {a : Addr} {t : Tld} (h : TldAt H a t) : Dp K H (.ref a) (tldD t) := by
  obtain ⟨q, h1, h2⟩ := h
  refine .tup (SqT.of h1) (.cons ?_ (.cons (.tup (SqT.of h2) (dp_nats _)) (.cons (.int _) .nil)))
  cases t.1 with
  | none => exact .non
  | some k => exact .int _
theorem tlds_dp {K : PySem.W.Frag} {H : Hp} : ∀ {rs : List Addr} {ts : List Tld}, Paired (TldAt H) rs ts → DpAll K H (rs.map V.ref) (ts.map tldD)
  | _, _, .nil => .nil
  | _, _, .cons r t => .cons (tld_dp r) (tlds_dp t)
/-- a step with small numbers -/
structure TSm (t : Tld) : Prop where
  k : ∀ j, t.1 = some j → j < 100
  cl : ∀ j ∈ t.2.1, j < 100
  len : t.2.1.length ≤ 10
  cp : t.2.2.natAbs < 10 ^ 7
theorem step_small {b : Nat} {e : Str × Str} {t : Tld} (hb : b ≤ 10) (h : StepOk b e t) : TSm t := by
  rcases h with ⟨_, rfl⟩ | ⟨_, k, cl, cp, rfl, hk, hj, h0, h1, hl, _⟩
  · exact ⟨fun j z => (nomatch z), fun j z => (nomatch z), by decide, by decide⟩
  · refine ⟨fun j z => ?_, fun j z => ?_, hl, ?_⟩
    · have := Option.some.inj z
      omega
    · have := hj j z
      omega
    · show cp.natAbs < 10 ^ 7
      omega
theorem opt_fit {o : Option Nat} (h : ∀ j, o = some j → j < 100) : DFit (optD o) 0 0 := by
  cases o with
  | none => exact non_fit
  | some j => exact small_int (by have := h j rfl; omega)
theorem tld_fit {t : Tld} (h : TSm t) : DFit (tldD t) 2 36 := by
  have h1 := (opt_fit h.k).up (k' := 1) (m' := 10) (by decide) (by decide)
  have h2 := ints_fit (l := csI t.2.1) (n := 10) (fun i hi => by
    obtain ⟨j, hj, rfl⟩ := List.mem_map.mp hi
    have := h.cl j hj
    show ((j : Nat) : Int).natAbs < _
    omega) (by rw [List.length_map]; exact h.len)
  have h3 := (small_int h.cp).up (k' := 1) (m' := 10) (by decide) (by decide)
  have z := tup_fit (f := fun (x : PyData) => x) (l := [optD t.1, .tuple (iD (csI t.2.1)), .int t.2.2]) (k := 1) (m := 10) (n := 3) (fun x hx => by
    simp only [List.mem_cons, List.not_mem_nil, or_false] at hx
    rcases hx with rfl | rfl | rfl
    · exact h1
    · exact h2
    · exact h3) (Nat.le_refl _)
  rw [List.map_id'] at z
  exact z.up (Nat.le_refl _) (by decide)
theorem tlds_fit {ts : List Tld} (h : ∀ t ∈ ts, TSm t) (hl : ts.length ≤ 1000) : DFit (.list (ts.map tldD)) 3 37000 := (lst_fit (fun t ht => tld_fit (h t ht)) hl).up (Nat.le_refl _) (by decide)
end K6

set_option Elab.async false
set_option linter.all false
set_option maxRecDepth 100000
set_option maxHeartbeats 4000000
namespace K3
open PySem PySem.Spec PyProof.Rows L2 G1 G2 K2
theorem lst_ty {K : PySem.W.Frag} {H : Hp} {a : Addr} {xs : List V} (h : SqL K H a xs) : TyX K H (.ref a) (.type "list") := by
  rcases h with (h | ⟨o, h⟩) | ⟨o, its, n, hk, hc, _⟩
  · exact .base (.lst h)
  · exact .base (.frz h)
  · exact .kList hk hc
/-- a value of some kind that is no tuple -/
inductive NonT (K : PySem.W.Frag) (H : Hp) : V → Prop
  | non : NonT K H .non
  | bl (b : Bool) : NonT K H (.bl b)
  | int (i : Int) : NonT K H (.int i)
  | str (x : Str) : NonT K H (.str x)
  | lst {a : Addr} {xs : List V} : SqL K H a xs → NonT K H (.ref a)
  | dct {a : Addr} {kvs : List (Key × V)} : H a = some (.dK kvs) → NonT K H (.ref a)
/-- a value of some kind -/
inductive Kd (K : PySem.W.Frag) (H : Hp) : V → Prop
  | nt {v : V} : NonT K H v → Kd K H v
  | tup {a : Addr} {xs : List V} : SqT K H a xs → Kd K H (.ref a)
def witB (v : V) (lo hi : Int) : Bool := match v with
  | .int i => decide (lo ≤ i) && decide (i ≤ hi)
  | _ => false
def intB : V → Bool
  | .int _ => true
  | _ => false
def strB : V → Bool
  | .str _ => true
  | _ => false
theorem NonT.ty {K : PySem.W.Frag} {H : Hp} {v : V} (h : NonT K H v) : ∃ t, TyX K H v t ∧ PySem.W.kitOne K t (.type "tuple") = some false := by
  cases h with
  | non => exact ⟨_, .base .non, kit_ty (by decide +kernel)⟩
  | bl b => exact ⟨_, .base (.bl b), kit_ty (by decide +kernel)⟩
  | int i => exact ⟨_, .base (.int i), kit_ty (by decide +kernel)⟩
  | str x => exact ⟨_, .base (.str x), kit_ty (by decide +kernel)⟩
  | lst h => exact ⟨_, lst_ty h, kit_ty (by decide +kernel)⟩
  | dct h => exact ⟨_, .base (.dK h), kit_ty (by decide +kernel)⟩
theorem Kd.isStr {K : PySem.W.Frag} {H : Hp} {v : V} (h : Kd K H v) : ∃ t, TyX K H v t ∧ PySem.W.kitOne K t (.type "str") = some (strB v) := by
  cases h with
  | nt h =>
    cases h with
    | non => exact ⟨_, .base .non, kit_ty (show _ = some _ from by first | exact (show _ = some false from by decide +kernel) | exact (show _ = some true from by decide +kernel))⟩
    | bl b => exact ⟨_, .base (.bl b), kit_ty (show _ = some _ from by first | exact (show _ = some false from by decide +kernel) | exact (show _ = some true from by decide +kernel))⟩
    | int i => exact ⟨_, .base (.int i), kit_ty (show _ = some _ from by first | exact (show _ = some false from by decide +kernel) | exact (show _ = some true from by decide +kernel))⟩
    | str x => exact ⟨_, .base (.str x), kit_ty (show _ = some _ from by first | exact (show _ = some false from by decide +kernel) | exact (show _ = some true from by decide +kernel))⟩
    | lst h => exact ⟨_, lst_ty h, kit_ty (show _ = some _ from by first | exact (show _ = some false from by decide +kernel) | exact (show _ = some true from by decide +kernel))⟩
    | dct h => exact ⟨_, .base (.dK h), kit_ty (show _ = some _ from by first | exact (show _ = some false from by decide +kernel) | exact (show _ = some true from by decide +kernel))⟩
  | tup h => exact ⟨_, tup_ty h, kit_ty (show _ = some _ from by first | exact (show _ = some false from by decide +kernel) | exact (show _ = some true from by decide +kernel))⟩
/-- isinstance(v, int) and not isinstance(v, bool) -/
theorem Kd.isInt {K : PySem.W.Frag} {H : Hp} {v : V} (h : Kd K H v) : ∃ t, TyX K H v t ∧ ((∃ b, v = .bl b ∧ PySem.W.kitOne K t (.type "int") = some true ∧ PySem.W.kitOne K t (.type "bool") = some true) ∨ (∃ i, v = .int i ∧ PySem.W.kitOne K t (.type "int") = some true ∧ PySem.W.kitOne K t (.type "bool") = some false) ∨
    (intB v = false ∧ PySem.W.kitOne K t (.type "int") = some false)) := by
  cases h with
  | nt h =>
    cases h with
    | non => exact ⟨_, .base .non, .inr (.inr ⟨rfl, kit_ty (by decide +kernel)⟩)⟩
    | bl b => exact ⟨_, .base (.bl b), .inl ⟨b, rfl, kit_ty (by decide +kernel), kit_ty (by decide +kernel)⟩⟩
    | int i => exact ⟨_, .base (.int i), .inr (.inl ⟨i, rfl, kit_ty (by decide +kernel), kit_ty (by decide +kernel)⟩)⟩
    | str x => exact ⟨_, .base (.str x), .inr (.inr ⟨rfl, kit_ty (by decide +kernel)⟩)⟩
    | lst h => exact ⟨_, lst_ty h, .inr (.inr ⟨rfl, kit_ty (by decide +kernel)⟩)⟩
    | dct h => exact ⟨_, .base (.dK h), .inr (.inr ⟨rfl, kit_ty (by decide +kernel)⟩)⟩
  | tup h => exact ⟨_, tup_ty h, .inr (.inr ⟨rfl, kit_ty (by decide +kernel)⟩)⟩
theorem wit_not {v : V} (h : intB v = false) (lo hi : Int) : witB v lo hi = false := by
  cases v <;> first | rfl | cases h
/-! ### stays -/
theorem NonT.same {K : PySem.W.Frag} {H H' : Hp} {v : V} (h : NonT K H v) (s : Same H H') : NonT K H' v := by
  cases h with
  | non => exact .non
  | bl b => exact .bl b
  | int i => exact .int i
  | str x => exact .str x
  | lst h => exact .lst (s.seq h)
  | dct h => exact .dct (s _ _ h)
theorem Kd.same {K : PySem.W.Frag} {H H' : Hp} {v : V} (h : Kd K H v) (s : Same H H') : Kd K H' v := by
  cases h with
  | nt h => exact .nt (h.same s)
  | tup h => exact .tup (K2.Same.tup s h)
def spIsA (K : PySem.W.Frag) : Sp := fun vs H Q _ => ∃ v, vs = [v] ∧ Kd K H v ∧ Q (.bl (intB v)) H
def spWtA (K : PySem.W.Frag) : Sp := fun vs H Q _ => ∃ (v : V) (lo hi : Int), vs = [v, .int lo, .int hi] ∧ Kd K H v ∧ Q (.bl (witB v lo hi)) H
section
variable {P : Program} {w : World} {K : PySem.W.Frag} {mg : Str → Option Value} {base : Heap}
theorem chain_read {v lo hi : Int} {H : Hp} {Q : VK} (k : Q (.bl (decide (lo ≤ v) && decide (v ≤ hi))) H) : if decide (lo ≤ v) = true then Q (.bl (decide (v ≤ hi))) H else Q (.bl false) H := by
  cases c : decide (lo ≤ v) with
  | true => rw [c, Bool.true_and] at k; exact iteT k
  | false => rw [c, Bool.false_and] at k; exact iteF k
theorem ok_isA {f : Addr} {fd : FuncData} (F : Fun K "is_integer" "is_integer" sIsI f fd) (B : Bl mg) : FnOk P w K mg base CX0 1 f fd ["value"] (spIsA K) := by
  refine F.ok scIsI (fun vs H Q E h => ?_) (fun cdv A outer s H vs Q E hr h => ?_)
  · obtain ⟨i, rfl, _⟩ := h
    rfl
  obtain ⟨v, rfl, kd, k⟩ := h
  refine ⟨_, pss_one (ps_ret (pe_and (pe_callB call_isi (by rfl) B.isi bIsi (pa_cons (pv 0) (pa_cons (pe_bltn (v := .ty "int") (by rfl) B.int bInt rfl) pa_nil)))
    (pe_one (pe_not (pe_callB call_isi (by rfl) B.isi bIsi (pa_cons (pv 0) (pa_cons (pe_bltn (v := .ty "bool") (by rfl) B.boo bBool rfl) pa_nil))))))), ?_⟩
  obtain ⟨t, ty, ⟨b, rfl, k1, k2⟩ | ⟨i, rfl, k1, k2⟩ | ⟨e, k1⟩⟩ := kd.isInt
  · exact ⟨_, rfl, _, _, _, _, true, rfl, .ty _, ty, k1, true, rfl, iteT ⟨_, rfl, _, _, _, _, true, rfl, .ty _, ty, k2, true, rfl, k⟩⟩
  · exact ⟨_, rfl, _, _, _, _, true, rfl, .ty _, ty, k1, true, rfl, iteT ⟨_, rfl, _, _, _, _, false, rfl, .ty _, ty, k2, false, rfl, k⟩⟩
  · rw [e] at k
    exact ⟨_, rfl, _, _, _, _, false, rfl, .ty _, ty, k1, false, rfl, iteF k⟩
theorem ok_wtA {f fI : Addr} {fd fdI : FuncData} (F : Fun K "is_within" "is_within" sWit f fd) (GI : FnOk P w K mg base CX0 1 fI fdI ["value"] (spIsA K)) (kI : PySem.W.keepIn K (.ref fI) = true) (bI : Binds K fdI ["value"] []) (gI : mg "is_integer" = some (.ref fI)) :
    FnOk P w K mg base CX0 2 f fd ["value", "least", "most"] (spWtA K) := by
  refine F.ok scWit (fun vs H Q E h => ?_) (fun cdv A outer s H vs Q E hr h => ?_)
  · obtain ⟨v, lo, hi, rfl, _⟩ := h
    rfl
  obtain ⟨v, lo, hi, rfl, kd, k⟩ := h
  refine ⟨_, pss_one (ps_ret (pe_and (pe_call GI hr (by rfl) gI kI bI .nil pass0 (pa_cons (pv 0) pa_nil)) (pe_one (pe_chain op_le op_le (pv 1) (pv 0) (pv 2))))), ?_⟩
  refine ⟨_, rfl, v, rfl, kd, intB v, rfl, ?_⟩
  cases e : intB v with
  | false =>
    rw [wit_not e] at k
    exact iteF k
  | true =>
    cases v with
    | int i =>
      refine iteT ⟨_, rfl, _, rfl, _, _, rfl, rfl, _, rfl, ?_⟩
      refine ite2 (fun c => ⟨_, rfl, _, _, rfl, rfl, ?_⟩) (fun c => ?_)
      · have z : witB (.int i) lo hi = decide (i ≤ hi) := by
          show (decide (lo ≤ i) && decide (i ≤ hi)) = _
          rw [show decide (lo ≤ i) = true from c, Bool.true_and]
        rw [z] at k
        exact k
      · have z : witB (.int i) lo hi = false := by
          show (decide (lo ≤ i) && decide (i ≤ hi)) = _
          rw [show decide (lo ≤ i) = false from by simpa using c, Bool.false_and]
        rw [z] at k
        have z2 : decide (lo ≤ i) = false := by simpa using c
        first
          | exact k
          | (show Q (.bl (decide (lo ≤ i))) H; rw [z2]; exact k)
    | _ => cases e
end
end K3

set_option Elab.async false
set_option linter.all false
set_option maxRecDepth 100000
set_option maxHeartbeats 4000000
/-! try with several clauses «except C as e», all with one name. -/
namespace G3
open PySem PySem.Spec PyProof.Rows L2
/-- behind a suite the name is gone -/
def offE (i : Nat) (D : Ends) : Ends := { nx := fun τ G => D.nx (τ.set i none) G, rt := D.rt, bk := fun τ G => D.bk (τ.set i none) G, ct := fun τ G => D.ct (τ.set i none) G }
abbrev SuT := Addr → Value → Option Addr → TS
def wManyA (K : PySem.W.Frag) (i : Nat) (Wo : WX) (D : Ends) : List (Value × SuT) → WX
  | [] => Wo
  | (c, ts) :: r => fun cls d τ G => ∃ b, PySem.W.exmOne K cls c = some b ∧ (b = true → ∀ ea, G ea = none → ts ea cls d (offE i D) (τ.set i (some (.ref ea))) G) ∧ (b = false → wManyA K i Wo D r cls d τ G)
inductive HdsA (Y : Cx) (nm : Str) : List ExceptHandler → List (Value × SuT) → Prop
  | nil : HdsA Y nm [] []
  | cons {x : Str} {c : Value} {ts : SuT} {b₀ : Stmt} {su : List Stmt} {np hp : Pos} {hds : List ExceptHandler} {l : List (Value × SuT)} (hc : Names Y x c)
      (hsu : ∀ (ea : Addr) (eo : Obj) (cls : Value) (d : Option Addr) (pn : List (Addr × Obj)), Zc cls d eo → (∃ vs, eo.data = .fields vs) → PSs (Y.suite ea ((ea, eo) :: pn)) (b₀ :: su) (ts ea cls d)) (r : HdsA Y nm hds l) :
      HdsA Y nm (.ExceptHandler (some (.Name x np)) (some nm) (b₀ :: su) hp :: hds) ((c, ts) :: l)
section
variable {Y : Cx} {body : List Stmt} {h₀ : ExceptHandler} {hds : List ExceptHandler} {l : List (Value × SuT)} {pos : Pos} {tb : WX → TS} {Wo : WX} {i : Nat} {nm : Str}
theorem ps_try_manyA (hs : Y.stack = Y.env :: Y.outer) (hf : Y.env.frame = some Y.env.locals) (hN : Y.N.Nodup) (hi : Y.N[i]? = some nm) (hln : Y.env.kindOf nm = some .local) (tk : Takes Y Wo)
    (hb : ∀ (W : WX) (pn : List (Addr × Obj)) (xe : Value → Shared → Prop), Takes (Y.tr pn xe) W → PassesOwn (model Y.prog Y.w) Y.A Y.env xe → PSs (Y.tr pn xe) body (tb W))
    (hh : HdsA Y nm (h₀ :: hds) l) : PS Y (.Try body (h₀ :: hds) [] [] pos) (fun D τ G => tb (wManyA Y.K i Wo D l) D τ G) := by
  refine ⟨fun pins s τ G D J0 hgo => ?_⟩
  have okY := J0.ok
  have frY : Y.A.frames = some (Y.env :: Y.outer) := by rw [okY.frames, hs]
  have locY : Loc Y.env.scope nm := .inl hln
  refine wpAny_Try_except ?_
  refine wpAny_mono ((hb (wManyA Y.K i Wo D l) (Y.pn ++ pins) (fun ex s₁ => wpAny (model Y.prog Y.w) Y.A (noteFrame ex Y.env) (fun _ s₂ => wpAny (model Y.prog Y.w) Y.A (setFlight ex none) (fun _ s₃ =>
    wpAny (model Y.prog Y.w) Y.A (handleBy ex Y.env (h₀ :: hds)) (SP Y pins D) Y.xe s₃) Y.xe s₂) Y.xe s₁) (fun u s' flown => ?_) PassesOwn.looking).run [] s τ G D (J0.toTry _) hgo) (fun fl s1 hsp => ?_) (fun ex s1 he => he)
  · obtain ⟨ea, B, sI, pins', τ', G', cls, d, rfl, J', nb, upw, sky, na, os, ag, wish⟩ := flown
    have J : Inv Y pins τ' G' sI := J'.ofTry okY
    have skyY : Sky B (Y.env :: Y.outer) ea (Zc cls d) Y.env.locals s'.heap := by rw [← hs]; exact sky
    show wpAny (model Y.prog Y.w) Y.A (noteFrame (.ref ea) Y.env) _ _ _
    refine Sky.land Zc.steady frY hf skyY fun h3 ld3 up3 => ?_
    have J3 : Inv Y pins τ' G' { s' with heap := h3 } := J.landed nb ld3.1 (upw.trans up3) os ag
    obtain ⟨eo3, vs3, he3, hz3, hd3⟩ := ld3.there
    have offFr : ea ∉ frs (Y.env :: Y.outer) := fun hm => by
      obtain ⟨_, o', e', hnf⟩ := ld3.2.2.1.mem hm
      rw [he3] at e'; cases e'
      exact hnf _ hd3
    have nL : ea ≠ Y.env.locals := fun z => offFr (List.mem_filterMap.mpr ⟨Y.env, List.mem_cons_self, by rw [hf, z]⟩)
    have nF : ea ∉ Y.fs := fun hm => by
      obtain ⟨ev, hev, q⟩ := List.mem_filterMap.mp hm
      exact offFr (List.mem_filterMap.mpr ⟨ev, List.mem_cons_of_mem _ hev, q⟩)
    have sS3 := J3.suite he3 hd3 na nL nF
    have go : ∀ {hds' : List ExceptHandler} {l' : List (Value × SuT)}, HdsA Y nm hds' l' → wManyA Y.K i Wo D l' cls d τ' G' →
        wpAny (model Y.prog Y.w) Y.A (handleBy (.ref ea) Y.env hds') (SP Y pins D) Y.xe { s' with heap := h3 } := by
      intro hds' l' hk
      induction hk with
      | nil =>
        intro wish
        refine wpAny_handleBy_nil ?_
        obtain ⟨q1, q2, q3, xo, xs, xt, xT, xts, xe0, xz, xd, x1, xr⟩ := id ld3
        unfold PySem.passOn
        refine wpAny_bind (wpAny_field xe0 xd x1 ?_)
        rw [if_neg (show ¬ ((Value.ref xt == Value.none) = true) from by simp)]
        have outE : wpAny (model Y.prog Y.w) Y.A (setFlight (.ref ea) Y.env.frame) (fun _ s4 => wpAny (model Y.prog Y.w) Y.A (throw (.ref ea) : Sem Flow) (SP Y pins D) Y.xe s4) Y.xe { s' with heap := h3 } := by
          rw [hf]
          refine HandSPX.setFlight_upZ ld3 fun h4 hh4 up4 => wpAny_throw (tk _ _ ?_)
          exact ⟨ea, B, sI, pins, τ', G', cls, d, rfl, J, nb, (upw.trans up3).trans up4, .inr (.inr (by rw [hs]; exact hh4)), na, os, ag, wish⟩
        first
          | exact wpAny_bind (wpAny_pure (wpAny_bind outE))
          | exact wpAny_bind outE
      | @cons x c ts b₀ su np hp hds2 l2 hc hsu r ih =>
        intro wish
        obtain ⟨b, hb1, hyes, hno⟩ := wish
        refine wpAny_handleBy_cons (codeAny_handlers_test ?_) (by intro qq; cases qq)
        have tyE : PySem.W.Looks (model Y.prog Y.w) h3 (typeOf (.ref ea)) cls := fun A Q E s k q => wpAny_typeOf_ref (k _ _ he3) (by rw [hz3.1]; exact q)
        have isE := PySem.W.exm_one (M := model Y.prog Y.w) (J3.kIn) tyE hb1
        have nameE : ∀ {Q : Value → Shared → Prop} {E : Value → Shared → Prop}, Q c { s' with heap := h3 } → wpAny (model Y.prog Y.w) (Y.A.mark (some (.ref ea))) (eval (.Name x np) Y.env) Q E { s' with heap := h3 } := fun {Q E} q => by
          obtain ⟨hg, hdb, hm | ⟨hm, hv, hnn⟩⟩ := hc
          · exact ld_glob (X := Y.suite ea ((ea, eo3) :: (Y.pn ++ pins))) sS3 hg hm q hdb
          · exact ld_blt (X := Y.suite ea ((ea, eo3) :: (Y.pn ++ pins))) sS3 hg hm hv q hnn hdb
        refine nameE (isE.here ?_)
        cases b with
        | true =>
          refine codeAny_handlers_suite_as (?_)
          refine HandSPX.lands_againZ ld3 fun h4 ld4 up4 => ?_
          have J4 : Inv Y pins τ' G' { s' with heap := h4 } := J.landed nb ld4.1 ((upw.trans up3).trans up4) os ag
          obtain ⟨eo4, vs4, he4, hz4, hd4⟩ := ld4.there
          have sS4 := J4.suite he4 hd4 na nL nF
          refine store_ok (X := Y.suite ea ((ea, eo4) :: (Y.pn ++ pins))) (v := .ref ea) sS4 hN hi locY rfl (fun s5 S5 => ?_) (.inr hln)
          refine wpAny_mono ((hsu ea eo4 cls d (Y.pn ++ pins) hz4 ⟨_, hd4⟩).run [] s5 _ G' _ S5 (hyes rfl ea na)) (fun fl s6 hsp => ?_) (fun _ _ z => False.elim z)
          have bye : ∀ {τ6 : L2.St} {G6 : Hp} {Q : Shared → Prop}, Inv (Y.suite ea ((ea, eo4) :: (Y.pn ++ pins))) [] τ6 G6 s6 → (∀ s7, Inv Y pins (τ6.set i none) G6 s7 → Q s7) →
              wpAny (model Y.prog Y.w) Y.A (do bindName Y.env nm .none; unbindBehindTheSuite Y.env nm hp) (fun _ s7 => Q s7) Y.xe s6 := fun {τ6 G6 Q} S6 hq => gone_ok (S6.unsuite okY) hN hi hln hq
          cases fl with
          | next =>
            obtain ⟨τ6, G6, S6, q6⟩ := hsp
            exact bye S6 fun s7 J7 => ⟨_, _, J7, q6⟩
          | brk =>
            obtain ⟨τ6, G6, S6, q6⟩ := hsp
            exact bye S6 fun s7 J7 => ⟨_, _, J7, q6⟩
          | cont =>
            obtain ⟨τ6, G6, S6, q6⟩ := hsp
            exact bye S6 fun s7 J7 => ⟨_, _, J7, q6⟩
          | ret u =>
            obtain ⟨v6, τ6, G6, S6, r6, q6⟩ := hsp
            exact bye S6 fun s7 J7 => ⟨_, _, _, J7, r6, q6⟩
        | false =>
          show wpAny _ Y.A (handleBy (.ref ea) Y.env hds2) _ _ _
          exact ih (hno rfl)
    exact go hh wish
  · cases fl with
    | next =>
      obtain ⟨τ', G', J', q⟩ := hsp
      exact wpAny_execs_nil ⟨τ', G', J'.ofTry okY, q⟩
    | brk =>
      obtain ⟨τ', G', J', q⟩ := hsp
      exact ⟨τ', G', J'.ofTry okY, q⟩
    | cont =>
      obtain ⟨τ', G', J', q⟩ := hsp
      exact ⟨τ', G', J'.ofTry okY, q⟩
    | ret u =>
      obtain ⟨v, τ', G', J', r, q⟩ := hsp
      exact ⟨v, τ', G', J'.ofTry okY, r, q⟩
end
end G3

set_option Elab.async false
set_option linter.all false
set_option maxRecDepth 100000
set_option maxHeartbeats 4000000
/-! a lambda handed through two calls. -/
namespace G3
open PySem PySem.Spec PyProof.Rows L2
/-- two calls, one in the other: the inner caller's frame L is new -/
theorem un_deep {fs : List Addr} {L : Addr} {H H1 H2 : Hp} {h h1 h2 : Heap} (a : Un fs [] H H1 h h1) (b : Un (L :: fs) [] H1 H2 h1 h2) (hL : h.get? L = none) : Un fs [] H H2 h h2 := by
  have ne : ∀ {c : Addr} {o : Obj}, h.get? c = some o → c ≠ L := fun {c o} q z => by
    rw [z, hL] at q
    cases q
  have nx : ∀ c : Addr, c ∉ ([] : List Addr) := fun c z => nomatch z
  refine ⟨fun c o q n hc _ => ?_, fun c o q n hc _ => ?_, fun c o q n _ => ?_, fun c o q _ => ?_, fun c xs q => b.tups c xs (a.tups c xs q), fun c o u q => b.frzs c o u (a.frzs c o u q), fun c ps q => ?_⟩
  · exact b.keep c o (a.keep c o q n hc (nx c)) (a.free c o q n (nx c)) (fun z => (List.mem_cons.mp z).elim (ne q) hc) (nx c)
  · obtain ⟨sl, e1⟩ := a.slot c o q n hc (nx c)
    obtain ⟨sl2, e2⟩ := b.slot c _ e1 (a.free c o q n (nx c)) (List.mem_cons_of_mem _ hc) (nx c)
    exact ⟨sl2, e2⟩
  · obtain ⟨sl, e1⟩ := a.any q n (nx c)
    exact b.free c _ e1 (a.free c o q n (nx c)) (nx c)
  · obtain ⟨o1, e1⟩ := a.there c o q (nx c)
    exact b.there c o1 e1 (nx c)
  · obtain ⟨m1, e1⟩ := a.tbls c ps q
    obtain ⟨m2, e2⟩ := b.tbls c _ e1
    exact ⟨m1 ++ m2, by rw [e2, Array.append_assoc]⟩
end G3

set_option Elab.async false
set_option linter.all false
set_option maxRecDepth 100000
set_option maxHeartbeats 4000000
namespace G3
open PySem PySem.Spec PyProof.Rows L2 LamX
section
variable {X : Cx} {pins : List (Addr × Obj)} {σ : L2.St} {H H1 : Hp} {s s1 : Shared}
theorem no_size (h : Heap) : h.get? h.objs.size = none := by
  cases e : h.get? h.objs.size with
  | none => rfl
  | some o => exact absurd (Heap.lt_size e) (Nat.lt_irrefl _)
/-- act() in a def that was called by a def that got the lambda -/
theorem act2 {CX2 : CXT} {E2 : XK} {N2 : List Str} {q1 q2 : Str} {sg1 sg2 : Scope} {g1 g2 f c' : Addr} {cd1 cd2 pm ctv : Value} {params : Arguments} {body : Expr} {scope : Scope} {k i : Nat} {nm : Str} {pn : List (Addr × Obj)} {xe : Value → Shared → Prop} {W : WX} {E : XK} {tb : TE} {p1 p2 : Pos}
    (I : Inv X pins σ H s) (L : LamS X.env.scope scope) (hf : s.heap.get? f = some (PySem.W.kla_obj "<lambda>" (X.env.qual ++ "<lambda>") params body scope (cloFrom X.env.cells scope.names []) pm c' ctv)) (hfn : H f = none) (hfr : f ∉ frs X.stack)
    (hbind : bindArgs (PySem.W.kla_fn "<lambda>" (X.env.qual ++ "<lambda>") params body scope (cloFrom X.env.cells scope.names []) pm (.ref c') ctv) ⟨[], []⟩ = pure [])
    (un1 : Un (frs X.stack) [] H H1 s.heap s1.heap)
    (tk : Takes ((cxOf CX2 X.prog X.w X.K X.mg X.base N2 q2 sg2 g2 cd2 (X.A.deeper (envOfC q1 sg1 s.heap.objs.size g1 cd1)) (envOfC q1 sg1 s.heap.objs.size g1 cd1 :: X.stack) s1 H1 E2).tr pn xe) W) (hW : ∀ cls d τ G, E cls d G → W cls d τ G)
    (hr : Room (k + 1) ((X.A.deeper (envOfC q1 sg1 s.heap.objs.size g1 cd1)).deeper (envOfC q2 sg2 s1.heap.objs.size g2 cd2)))
    (hbody : ∀ (A : Around) (outer : List Env) (s : Shared) (H : Hp), Room k (A.deeper (lamEnv X scope s.heap.objs.size f c')) → PE (lamCx X A outer s H E scope f c') body tb)
    (hN : N2[i]? = some nm) (hv : Vis sg2 nm) (hd : (nm == ("__debug__" : Str)) = false := by decide) (hcd : (nm == ("__classdict__" : Str)) = false := by decide) :
    PE ((cxOf CX2 X.prog X.w X.K X.mg X.base N2 q2 sg2 g2 cd2 (X.A.deeper (envOfC q1 sg1 s.heap.objs.size g1 cd1)) (envOfC q1 sg1 s.heap.objs.size g1 cd1 :: X.stack) s1 H1 E2).tr pn xe) (.Call (.Name nm p1) [] [] p2)
      (fun τ G Q => τ[i]? = some (some (.ref f)) ∧ G c' = some (CodeO c' (X.env.qual ++ "<lambda>")) ∧ tb σ G Q) := by
  refine ⟨fun pinsZ sZ τ G Q JZ want => ?_⟩
  obtain ⟨hs, hc, ht⟩ := want
  refine wpAny_Call_Name_kw (thn ((pe_var (pos := p1) (i := i) hN hv hd hcd).run pinsZ sZ τ G (fun v G1 => v = .ref f ∧ G1 = G) JZ ⟨.ref f, hs, rfl, rfl⟩) fun u s2 ⟨v, G1, J1, r1, qv⟩ => ?_)
  obtain ⟨ev, eG⟩ := qv
  subst ev
  rw [eG] at J1
  obtain rfl : u = Value.ref f := r1
  have ltf := Heap.lt_size hf
  have b2 : Un (s.heap.objs.size :: frs X.stack) [] H1 G s1.heap s2.heap := J1.base
  have un : Un (frs X.stack) [] H G s.heap s2.heap := un_deep un1 b2 (no_size s.heap)
  have of2 : s2.heap.get? f = some (PySem.W.kla_obj "<lambda>" (X.env.qual ++ "<lambda>") params body scope (cloFrom X.env.cells scope.names []) pm c' ctv) := un.keep f _ hf hfn hfr (fun z => nomatch z)
  refine PySem.W.callWith_F0 ⟨_, _, _, _, of2⟩ ?_
  obtain ⟨⟨oc, vs, t, hoc, hdc, hvc⟩, _, _⟩ := J1.hok c' _ hc
  have rc : codeAny (model X.prog X.w) ((X.A.deeper (envOfC q1 sg1 s.heap.objs.size g1 cd1)).deeper (envOfC q2 sg2 s1.heap.objs.size g2 cd2)) (.call (.ref f) ⟨[], []⟩)
      (CR (L2.CX X.prog X.w) (envOfC q2 sg2 s1.heap.objs.size g2 cd2 :: envOfC q1 sg1 s.heap.objs.size g1 cd1 :: X.stack) X.prog X.w G s2 Q E) s2 := by
    refine PySem.W.kla_callFunE hr.depth of2 rfl L.co L.gen rfl ⟨c', oc, vs, t, rfl, hoc, hdc, hvc⟩ ?_
    rw [hbind]
    refine wpAny_pure (wpAny_newFunctionEnv (fun y hy => (L.own y hy).2) (fun y hy => absurd hy (by simp)) (fun h₁ hns hsb => ⟨J1.nolimit.fresh _ hsb, ?_⟩) L.kind)
    show codeAny _ _ (.expr body (lamEnv X scope s2.heap.objs.size f c')) _ _
    have kp : ∀ b o, s2.heap.get? b = some o → h₁.get? b = some o := fun b o e => hsb.extBut b o (Nat.ne_of_lt (Heap.lt_size e)) (Heap.get?_push_of_some _ e)
    have JL : Inv (lamCx X ((X.A.deeper (envOfC q1 sg1 s.heap.objs.size g1 cd1)).deeper (envOfC q2 sg2 s1.heap.objs.size g2 cd2)) (envOfC q2 sg2 s1.heap.objs.size g2 cd2 :: envOfC q1 sg1 s.heap.objs.size g1 cd1 :: X.stack) s2 G E scope f c') [] σ G
        { s2 with heap := h₁, toks := s2.toks + ([] : List (Str × Value)).length } := lam_start2 I L J1.env0 hr.hd un hns kp
    refine PySem.W.kla_codeExpr (wpAny_mono ((hbody _ _ s2 G (hr.deeper _)).run [] _ _ G Q JL ht) (fun v s' hq => ?_) fun e s' hq => hq)
    obtain ⟨w', G', J', rv, q⟩ := hq
    exact ⟨w', G', J'.os, J'.bare, J'.base, J'.hok, rv, q⟩
  have hx := passes_call (E := E) tk hW
  refine wpAny_call (codeAny_mono rc fun r s' hq => ?_)
  cases r with
  | error e => exact hx pinsZ τ G s2 e s' J1 hq
  | ok fl =>
    cases fl with
    | ret u => exact J1.after hq
    | next => exact False.elim hq
    | brk => exact False.elim hq
    | cont => exact False.elim hq
end
end G3

set_option Elab.async false
set_option linter.all false
set_option maxRecDepth 100000
set_option maxHeartbeats 4000000
/-! a lambda handed on: x1(lambda: .., y) whose def says x2(a1); x1(lambda: ..) whose def says a1(). -/
namespace G3
open PySem PySem.Spec PyProof.Rows L2 LamX
section
variable {X : Cx} {pins : List (Addr × Obj)} {σ : L2.St} {H H1 : Hp} {s s1 : Shared}
/-- act() in a def that was called by a def that got the lambda -/
theorem act2W {CX2 : CXT} {E2 : XK} {N2 : List Str} {q1 q2 : Str} {sg1 sg2 : Scope} {g1 g2 f c' : Addr} {cd1 cd2 pm ctv : Value} {params : Arguments} {body : Expr} {scope : Scope} {k i : Nat} {nm : Str} {pn : List (Addr × Obj)} {xe : Value → Shared → Prop} {W : WX} {t : XK → TE} {p1 p2 : Pos}
    (I : Inv X pins σ H s) (L : LamS X.env.scope scope) (hf : s.heap.get? f = some (PySem.W.kla_obj "<lambda>" (X.env.qual ++ "<lambda>") params body scope (cloFrom X.env.cells scope.names []) pm c' ctv)) (hfn : H f = none) (hfr : f ∉ frs X.stack)
    (hbind : bindArgs (PySem.W.kla_fn "<lambda>" (X.env.qual ++ "<lambda>") params body scope (cloFrom X.env.cells scope.names []) pm (.ref c') ctv) ⟨[], []⟩ = pure [])
    (un1 : Un (frs X.stack) [] H H1 s.heap s1.heap)
    (tk : Takes ((cxOf CX2 X.prog X.w X.K X.mg X.base N2 q2 sg2 g2 cd2 (X.A.deeper (envOfC q1 sg1 s.heap.objs.size g1 cd1)) (envOfC q1 sg1 s.heap.objs.size g1 cd1 :: X.stack) s1 H1 E2).tr pn xe) W)
    (hr : Room (k + 1) ((X.A.deeper (envOfC q1 sg1 s.heap.objs.size g1 cd1)).deeper (envOfC q2 sg2 s1.heap.objs.size g2 cd2)))
    (hbody : ∀ (A : Around) (outer : List Env) (s : Shared) (H : Hp) (E : XK), Room k (A.deeper (lamEnv X scope s.heap.objs.size f c')) → PE (lamCx X A outer s H E scope f c') body (t E))
    (hN : N2[i]? = some nm) (hv : Vis sg2 nm) (hd : (nm == ("__debug__" : Str)) = false := by decide) (hcd : (nm == ("__classdict__" : Str)) = false := by decide) :
    PE ((cxOf CX2 X.prog X.w X.K X.mg X.base N2 q2 sg2 g2 cd2 (X.A.deeper (envOfC q1 sg1 s.heap.objs.size g1 cd1)) (envOfC q1 sg1 s.heap.objs.size g1 cd1 :: X.stack) s1 H1 E2).tr pn xe) (.Call (.Name nm p1) [] [] p2)
      (fun τ G Q => τ[i]? = some (some (.ref f)) ∧ G c' = some (CodeO c' (X.env.qual ++ "<lambda>")) ∧ t (WE W τ) σ G Q) := by
  refine ⟨fun pinsZ sZ τ G Q JZ want => ?_⟩
  obtain ⟨hs, hc, ht⟩ := want
  refine wpAny_Call_Name_kw (thn ((pe_var (pos := p1) (i := i) hN hv hd hcd).run pinsZ sZ τ G (fun v G1 => v = .ref f ∧ G1 = G) JZ ⟨.ref f, hs, rfl, rfl⟩) fun u s2 ⟨v, G1, J1, r1, qv⟩ => ?_)
  obtain ⟨ev, eG⟩ := qv
  subst ev
  rw [eG] at J1
  obtain rfl : u = Value.ref f := r1
  have ltf := Heap.lt_size hf
  have b2 : Un (s.heap.objs.size :: frs X.stack) [] H1 G s1.heap s2.heap := J1.base
  have un : Un (frs X.stack) [] H G s.heap s2.heap := un_deep un1 b2 (no_size s.heap)
  have of2 : s2.heap.get? f = some (PySem.W.kla_obj "<lambda>" (X.env.qual ++ "<lambda>") params body scope (cloFrom X.env.cells scope.names []) pm c' ctv) := un.keep f _ hf hfn hfr (fun z => nomatch z)
  refine PySem.W.callWith_F0 ⟨_, _, _, _, of2⟩ ?_
  obtain ⟨⟨oc, vs, t, hoc, hdc, hvc⟩, _, _⟩ := J1.hok c' _ hc
  have rc : codeAny (model X.prog X.w) ((X.A.deeper (envOfC q1 sg1 s.heap.objs.size g1 cd1)).deeper (envOfC q2 sg2 s1.heap.objs.size g2 cd2)) (.call (.ref f) ⟨[], []⟩)
      (CR (L2.CX X.prog X.w) (envOfC q2 sg2 s1.heap.objs.size g2 cd2 :: envOfC q1 sg1 s.heap.objs.size g1 cd1 :: X.stack) X.prog X.w G s2 Q (WE W τ)) s2 := by
    refine PySem.W.kla_callFunE hr.depth of2 rfl L.co L.gen rfl ⟨c', oc, vs, t, rfl, hoc, hdc, hvc⟩ ?_
    rw [hbind]
    refine wpAny_pure (wpAny_newFunctionEnv (fun y hy => (L.own y hy).2) (fun y hy => absurd hy (by simp)) (fun h₁ hns hsb => ⟨J1.nolimit.fresh _ hsb, ?_⟩) L.kind)
    show codeAny _ _ (.expr body (lamEnv X scope s2.heap.objs.size f c')) _ _
    have kp : ∀ b o, s2.heap.get? b = some o → h₁.get? b = some o := fun b o e => hsb.extBut b o (Nat.ne_of_lt (Heap.lt_size e)) (Heap.get?_push_of_some _ e)
    have JL : Inv (lamCx X ((X.A.deeper (envOfC q1 sg1 s.heap.objs.size g1 cd1)).deeper (envOfC q2 sg2 s1.heap.objs.size g2 cd2)) (envOfC q2 sg2 s1.heap.objs.size g2 cd2 :: envOfC q1 sg1 s.heap.objs.size g1 cd1 :: X.stack) s2 G (WE W τ) scope f c') [] σ G
        { s2 with heap := h₁, toks := s2.toks + ([] : List (Str × Value)).length } := lam_start2 I L J1.env0 hr.hd un hns kp
    refine PySem.W.kla_codeExpr (wpAny_mono ((hbody _ _ s2 G (WE W τ) (hr.deeper _)).run [] _ _ G Q JL ht) (fun v s' hq => ?_) fun e s' hq => hq)
    obtain ⟨w', G', J', rv, q⟩ := hq
    exact ⟨w', G', J'.os, J'.bare, J'.base, J'.hok, rv, q⟩
  have hx := passAt tk τ
  refine wpAny_call (codeAny_mono rc fun r s' hq => ?_)
  cases r with
  | error e => exact hx pinsZ G s2 e s' J1 hq
  | ok fl =>
    cases fl with
    | ret u => exact J1.after hq
    | next => exact False.elim hq
    | brk => exact False.elim hq
    | cont => exact False.elim hq
/-- act() in the def that got the lambda -/
theorem act1W {CX2 : CXT} {E2 : XK} {N2 : List Str} {q2 : Str} {sg2 : Scope} {g2 f c' : Addr} {cd2 pm ctv : Value} {params : Arguments} {body : Expr} {scope : Scope} {k i : Nat} {nm : Str} {pn : List (Addr × Obj)} {xe : Value → Shared → Prop} {W : WX} {t : XK → TE} {p1 p2 : Pos}
    (I : Inv X pins σ H s) (L : LamS X.env.scope scope) (hf : s.heap.get? f = some (PySem.W.kla_obj "<lambda>" (X.env.qual ++ "<lambda>") params body scope (cloFrom X.env.cells scope.names []) pm c' ctv)) (hfn : H f = none) (hfr : f ∉ frs X.stack)
    (hbind : bindArgs (PySem.W.kla_fn "<lambda>" (X.env.qual ++ "<lambda>") params body scope (cloFrom X.env.cells scope.names []) pm (.ref c') ctv) ⟨[], []⟩ = pure [])
    (tk : Takes ((cxOf CX2 X.prog X.w X.K X.mg X.base N2 q2 sg2 g2 cd2 X.A X.stack s H E2).tr pn xe) W)
    (hr : Room (k + 1) (X.A.deeper (envOfC q2 sg2 s.heap.objs.size g2 cd2)))
    (hbody : ∀ (A : Around) (outer : List Env) (s : Shared) (H : Hp) (E : XK), Room k (A.deeper (lamEnv X scope s.heap.objs.size f c')) → PE (lamCx X A outer s H E scope f c') body (t E))
    (hN : N2[i]? = some nm) (hv : Vis sg2 nm) (hd : (nm == ("__debug__" : Str)) = false := by decide) (hcd : (nm == ("__classdict__" : Str)) = false := by decide) :
    PE ((cxOf CX2 X.prog X.w X.K X.mg X.base N2 q2 sg2 g2 cd2 X.A X.stack s H E2).tr pn xe) (.Call (.Name nm p1) [] [] p2)
      (fun τ G Q => τ[i]? = some (some (.ref f)) ∧ G c' = some (CodeO c' (X.env.qual ++ "<lambda>")) ∧ t (WE W τ) σ G Q) := by
  refine ⟨fun pinsZ sZ τ G Q JZ want => ?_⟩
  obtain ⟨hs, hc, ht⟩ := want
  refine wpAny_Call_Name_kw (thn ((pe_var (pos := p1) (i := i) hN hv hd hcd).run pinsZ sZ τ G (fun v G1 => v = .ref f ∧ G1 = G) JZ ⟨.ref f, hs, rfl, rfl⟩) fun u s2 ⟨v, G1, J1, r1, qv⟩ => ?_)
  obtain ⟨ev, eG⟩ := qv
  subst ev
  rw [eG] at J1
  obtain rfl : u = Value.ref f := r1
  have ltf := Heap.lt_size hf
  have un : Un (frs X.stack) [] H G s.heap s2.heap := J1.base
  have of2 : s2.heap.get? f = some (PySem.W.kla_obj "<lambda>" (X.env.qual ++ "<lambda>") params body scope (cloFrom X.env.cells scope.names []) pm c' ctv) := un.keep f _ hf hfn hfr (fun z => nomatch z)
  refine PySem.W.callWith_F0 ⟨_, _, _, _, of2⟩ ?_
  obtain ⟨⟨oc, vs, t, hoc, hdc, hvc⟩, _, _⟩ := J1.hok c' _ hc
  have rc : codeAny (model X.prog X.w) (X.A.deeper (envOfC q2 sg2 s.heap.objs.size g2 cd2)) (.call (.ref f) ⟨[], []⟩)
      (CR (L2.CX X.prog X.w) (envOfC q2 sg2 s.heap.objs.size g2 cd2 :: X.stack) X.prog X.w G s2 Q (WE W τ)) s2 := by
    refine PySem.W.kla_callFunE hr.depth of2 rfl L.co L.gen rfl ⟨c', oc, vs, t, rfl, hoc, hdc, hvc⟩ ?_
    rw [hbind]
    refine wpAny_pure (wpAny_newFunctionEnv (fun y hy => (L.own y hy).2) (fun y hy => absurd hy (by simp)) (fun h₁ hns hsb => ⟨J1.nolimit.fresh _ hsb, ?_⟩) L.kind)
    show codeAny _ _ (.expr body (lamEnv X scope s2.heap.objs.size f c')) _ _
    have kp : ∀ b o, s2.heap.get? b = some o → h₁.get? b = some o := fun b o e => hsb.extBut b o (Nat.ne_of_lt (Heap.lt_size e)) (Heap.get?_push_of_some _ e)
    have JL : Inv (lamCx X (X.A.deeper (envOfC q2 sg2 s.heap.objs.size g2 cd2)) (envOfC q2 sg2 s.heap.objs.size g2 cd2 :: X.stack) s2 G (WE W τ) scope f c') [] σ G
        { s2 with heap := h₁, toks := s2.toks + ([] : List (Str × Value)).length } := lam_start2 I L J1.env0 hr.hd un hns kp
    refine PySem.W.kla_codeExpr (wpAny_mono ((hbody _ _ s2 G (WE W τ) (hr.deeper _)).run [] _ _ G Q JL ht) (fun v s' hq => ?_) fun e s' hq => hq)
    obtain ⟨w', G', J', rv, q⟩ := hq
    exact ⟨w', G', J'.os, J'.bare, J'.base, J'.hok, rv, q⟩
  have hx := passAt tk τ
  refine wpAny_call (codeAny_mono rc fun r s' hq => ?_)
  cases r with
  | error e => exact hx pinsZ G s2 e s' J1 hq
  | ok fl =>
    cases fl with
    | ret u => exact J1.after hq
    | next => exact False.elim hq
    | brk => exact False.elim hq
    | cont => exact False.elim hq
end
/-- the def that calls what it got, the errors' wish told at the very slots; TT: what it makes of the lambda's reading -/
def GivesW (X : Cx) (Ng : List Str) (x : Str) (sg : Scope) (g : Addr) (cdg : Value) (bg : List Stmt) (a : Str) (q : Str) (TT : (XK → Hp → VK → Prop) → Hp → VK → Prop) : Prop :=
  ∀ (f c' : Addr) (s : Shared) (H : Hp) (Q : VK) (tl : XK → Hp → VK → Prop),
    (∀ (W : WX) (pn : List (Addr × Obj)) (xe : Value → Shared → Prop) (p1 p2 : Pos), Takes ((cxOf C8.CX0 X.prog X.w X.K X.mg X.base Ng x sg g cdg X.A X.stack s H C8.E0).tr pn xe) W →
      PE ((cxOf C8.CX0 X.prog X.w X.K X.mg X.base Ng x sg g cdg X.A X.stack s H C8.E0).tr pn xe) (.Call (.Name a p1) [] [] p2) (fun τ G Q => τ[0]? = some (some (.ref f)) ∧ G c' = some (CodeO c' q) ∧ tl (WE W τ) G Q)) →
    H c' = some (CodeO c' q) → TT tl H Q →
    ∃ t, PSs (cxOf C8.CX0 X.prog X.w X.K X.mg X.base Ng x sg g cdg X.A X.stack s H C8.E0).nox bg t ∧ t { nx := fun _ H' => Q .non H', rt := Q } (L2.start Ng [.ref f]) H
section
variable {X : Cx} {pins : List (Addr × Obj)} {σ : L2.St} {H : Hp} {s : Shared}
/-- a slot is read, the state stays -/
theorem var_at {i : Nat} {y : Str} {py : Pos} {v : V} {Q : Value → Shared → Prop} {E : Value → Shared → Prop} (I : Inv X pins σ H s) (hN : X.N[i]? = some y) (hv : Vis X.env.scope y) (hs : σ[i]? = some (some v)) (q : ∀ u, RelV v u → Q u s)
    (hd : (y == ("__debug__" : Str)) = false := by decide) (hcd : (y == ("__classdict__" : Str)) = false := by decide) : wpAny (model X.prog X.w) X.A (eval (.Name y py) X.env) Q E s := by
  obtain ⟨m, hn, hl⟩ := I.loc
  obtain ⟨u, r, l⟩ := hl i y v hN hs hv
  have z := q u r
  rcases l with ⟨hk, hm⟩ | ⟨hk | hk, c, hc, hcell⟩
  · exact wpAny_Name (wpAny_loadName_local I.ok.kind hk hn hm z) hd
  · exact wpAny_Name (wpAny_loadName_cell I.ok.kind hk hc hcell z) hd
  · exact wpAny_Name (wpAny_loadName_free I.ok.kind hk hc hcell z hcd) hd
theorem pass_on {TC : (XK → Hp → VK → Prop) → Hp → VK → Prop} {q1 x2 a1 a2 : Str} {sg1 sg2 : Scope} {g1 g2 f c' : Addr} {cd1 cd2 pm ctv : Value} {N1 N2 : List Str} {params : Arguments} {body : Expr} {scope : Scope} {k : Nat} {pg : Arguments} {bg : List Stmt} {dV kV doc pm2 ct oc : Value} {an od : Option Addr} {osl : Array (Option Value)}
    {t : XK → TE} {p p1 p2 : Pos}
    (I : Inv X pins σ H s) (L : LamS X.env.scope scope) (hf : s.heap.get? f = some (PySem.W.kla_obj "<lambda>" (X.env.qual ++ "<lambda>") params body scope (cloFrom X.env.cells scope.names []) pm c' ctv)) (hfn : H f = none) (hfr : f ∉ frs X.stack)
    (hbind : bindArgs (PySem.W.kla_fn "<lambda>" (X.env.qual ++ "<lambda>") params body scope (cloFrom X.env.cells scope.names []) pm (.ref c') ctv) ⟨[], []⟩ = pure [])
    (hN1 : N1[0]? = some a1) (hv1 : Vis sg1 a1) (hg : Gl (cxOf C8.CX0 X.prog X.w X.K X.mg X.base N1 q1 sg1 g1 cd1 X.A X.stack s H C8.E0).nox x2) (hm : X.mg x2 = some (.ref g2)) (hk : PySem.W.keepIn X.K (.ref g2) = true)
    (lk : X.K.lookup g2 = some ⟨oc, od, .func (PySem.W.fnOf x2 x2 pg bg sg2 dV kV doc pm2 an cd2 ct), osl⟩) (hcg : PySem.W.codeIn X.K cd2 x2 = true) (hb : L2.Binds X.K (PySem.W.fnOf x2 x2 pg bg sg2 dV kV doc pm2 an cd2 ct) [a2] []) (Sg : FnScope N2 [a2] sg2) (hN2 : N2[0]? = some a2) (hv2 : Vis sg2 a2)
    (hG : GivesW (cxOf C8.CX0 X.prog X.w X.K X.mg X.base N1 q1 sg1 g1 cd1 X.A X.stack s H C8.E0).nox N2 x2 sg2 g2 cd2 bg a2 (X.env.qual ++ "<lambda>") TC)
    (hr : Room (k + 2) (X.A.deeper (envOfC q1 sg1 s.heap.objs.size g1 cd1)))
    (hbody : ∀ (A : Around) (outer : List Env) (s : Shared) (H : Hp) (E : XK), Room k (A.deeper (lamEnv X scope s.heap.objs.size f c')) → PE (lamCx X A outer s H E scope f c') body (t E))
    (hdb : (x2 == ("__debug__" : Str)) = false := by decide) (hd1 : (a1 == ("__debug__" : Str)) = false := by decide) (hcd1 : (a1 == ("__classdict__" : Str)) = false := by decide) (hd2 : (a2 == ("__debug__" : Str)) = false := by decide) (hcd2 : (a2 == ("__classdict__" : Str)) = false := by decide) :
    PE (cxOf C8.CX0 X.prog X.w X.K X.mg X.base N1 q1 sg1 g1 cd1 X.A X.stack s H C8.E0).nox (.Call (.Name x2 p) [.Name a1 p1] [] p2)
      (fun τ G Q => τ[0]? = some (some (.ref f)) ∧ G c' = some (CodeO c' (X.env.qual ++ "<lambda>")) ∧ TC (fun E G' Q' => t E σ G' Q') G Q) := by
  refine ⟨fun pinsZ sZ τ G Q JZ want => ?_⟩
  obtain ⟨h0, hc, ht⟩ := want
  refine wpAny_Call_Name_kw (ld_glob JZ hg hm ?_ hdb)
  refine PySem.W.callWith_K (h₀ := X.base) I.ok.mod.kin hk ?_ (by rfl) (by rfl)
  refine Calls.spliced_cons (var_at (i := 0) JZ hN1 hv1 h0 (fun u ru => ?_) hd1 hcd1)
  obtain rfl : u = Value.ref f := ru
  refine Calls.spliced_nil ⟨JZ.kIn, ?_⟩
  have rc : codeAny (model X.prog X.w) (X.A.deeper (envOfC q1 sg1 s.heap.objs.size g1 cd1)) (.call (.ref g2) ⟨[.ref f], []⟩) (CR C8.CX0 (envOfC q1 sg1 s.heap.objs.size g1 cd1 :: X.stack) X.prog X.w G sZ Q C8.E0) sZ := by
    refine run_ofS (N := N2) (ps := [a2]) (us := [.ref f]) (vs := [.ref f]) lk hcg Sg hr JZ.env0 (hb sZ [.ref f] JZ.kIn rfl) (.cons rfl .nil) rfl fun hr' => ?_
    obtain ⟨tt, h1, h2⟩ := hG f c' sZ G Q (fun E G' Q' => t E σ G' Q') (fun W pn xe r1 r2 tk => act2W (i := 0) I L hf hfn hfr hbind JZ.base tk hr' (fun A outer s H E hr2 => hbody A outer s H E hr2) hN2 hv2 hd2 hcd2) hc ht
    exact ⟨tt, h1.nox, h2⟩
  refine wpAny_call (codeAny_mono rc fun r sE hq => ?_)
  match r, hq with
  | .error e, hq => exact (show False from hq).elim
  | .ok (.ret u), hq => exact JZ.after hq
  | .ok .next, hq => exact (show False from hq).elim
  | .ok .brk, hq => exact (show False from hq).elim
  | .ok .cont, hq => exact (show False from hq).elim
/-- the def x1 that hands what it got (a1) on to x2; TC: what x2 makes of the lambda's reading, TT: what x1 makes of that -/
def GivesOn (X : Cx) (N1 : List Str) (x1 : Str) (sg1 : Scope) (g1 : Addr) (cd1 : Value) (b1 : List Stmt) (a1 x2 q : Str) (TC : (XK → Hp → VK → Prop) → Hp → VK → Prop) (TT : (XK → Hp → VK → Prop) → V → Hp → VK → Prop) : Prop :=
  ∀ (f c' : Addr) (v : V) (s : Shared) (H : Hp) (Q : VK) (tl : XK → Hp → VK → Prop),
    (∀ p p1 p2 : Pos, PE (cxOf C8.CX0 X.prog X.w X.K X.mg X.base N1 x1 sg1 g1 cd1 X.A X.stack s H C8.E0).nox (.Call (.Name x2 p) [.Name a1 p1] [] p2) (fun τ G Q => τ[0]? = some (some (.ref f)) ∧ G c' = some (CodeO c' q) ∧ TC tl G Q)) →
    H c' = some (CodeO c' q) → TT tl v H Q →
    ∃ t, PSs (cxOf C8.CX0 X.prog X.w X.K X.mg X.base N1 x1 sg1 g1 cd1 X.A X.stack s H C8.E0).nox b1 t ∧ t { nx := fun _ H' => Q .non H', rt := Q } (L2.start N1 [.ref f, v]) H
/-- x1(lambda: body, y), y in slot i -/
def tLam2 (T : List (Addr × Str)) (TT : (XK → Hp → VK → Prop) → V → Hp → VK → Prop) (t : XK → TE) (i : Nat) : TE := fun σ H Q => Tabs T H ∧ ∃ v, σ[i]? = some (some v) ∧ ∀ H1, ExtN H H1 → Tabs T H1 → TT (fun E H' Q' => t E σ H' Q') v H1 Q
end
section
variable {X : Cx}
theorem pe_lam2 {T : List (Addr × Str)} {TC : (XK → Hp → VK → Prop) → Hp → VK → Prop} {TT : (XK → Hp → VK → Prop) → V → Hp → VK → Prop} {x1 x2 a1 b1 a2 y : Str} {g1 g2 c P : Addr} {k i : Nat} {pg1 pg2 : Arguments} {bg1 bg2 : List Stmt} {sg1 sg2 : Scope}
    {dV1 kV1 doc1 pm1 cd1 ct1 oc1 dV2 kV2 doc2 pm2 cd2 ct2 oc2 : Value} {an1 od1 an2 od2 : Option Addr} {sl1 sl2 : Array (Option Value)} {N1 N2 : List Str} {params : Arguments} {body : Expr} {scope : Scope} {t : XK → TE} {p lpos py pos : Pos}
    (hg : Gl X x1) (hm : X.mg x1 = some (.ref g1)) (hk : PySem.W.keepIn X.K (.ref g1) = true)
    (lk1 : X.K.lookup g1 = some ⟨oc1, od1, .func (PySem.W.fnOf x1 x1 pg1 bg1 sg1 dV1 kV1 doc1 pm1 an1 cd1 ct1), sl1⟩) (hc1 : PySem.W.codeIn X.K cd1 x1 = true) (hb1 : L2.Binds X.K (PySem.W.fnOf x1 x1 pg1 bg1 sg1 dV1 kV1 doc1 pm1 an1 cd1 ct1) [a1, b1] []) (S1 : FnScope N1 [a1, b1] sg1) (hN1 : N1[0]? = some a1) (hv1 : Vis sg1 a1)
    (hg2 : sg1.names.lookup x2 = some .globalImplicit) (hm2 : X.mg x2 = some (.ref g2)) (hk2 : PySem.W.keepIn X.K (.ref g2) = true)
    (lk2 : X.K.lookup g2 = some ⟨oc2, od2, .func (PySem.W.fnOf x2 x2 pg2 bg2 sg2 dV2 kV2 doc2 pm2 an2 cd2 ct2), sl2⟩) (hc2 : PySem.W.codeIn X.K cd2 x2 = true) (hb2 : L2.Binds X.K (PySem.W.fnOf x2 x2 pg2 bg2 sg2 dV2 kV2 doc2 pm2 an2 cd2 ct2) [a2] []) (S2 : FnScope N2 [a2] sg2) (hN2 : N2[0]? = some a2) (hv2 : Vis sg2 a2)
    (hG2 : ∀ (s : Shared) (H : Hp), GivesW (cxOf C8.CX0 X.prog X.w X.K X.mg X.base N1 x1 sg1 g1 cd1 X.A X.stack s H C8.E0).nox N2 x2 sg2 g2 cd2 bg2 a2 (X.env.qual ++ "<lambda>") TC)
    (hG1 : GivesOn X N1 x1 sg1 g1 cd1 bg1 a1 x2 (X.env.qual ++ "<lambda>") TC TT)
    (TB : TabB X.base X.mg c P) (hcode : X.env.code = .ref c) (hmT : (P, X.env.qual ++ "<lambda>") ∈ T) (hu : ∀ z ∈ T, z.1 = P → z.2 = X.env.qual ++ "<lambda>") (hr : Room (k + 3) X.A) (L : LamS X.env.scope scope) (hdef : defaultsOf params X.env = ([], []))
    (hbind : ∀ (q : Str) (cl : List (Str × Addr)) (pm cv ctv : Value), bindArgs (PySem.W.kla_fn "<lambda>" q params body scope cl pm cv ctv) ⟨[], []⟩ = pure [])
    (hbody : ∀ (A : Around) (outer : List Env) (s : Shared) (H : Hp) (E : XK) (f c' : Addr), Room k (A.deeper (lamEnv X scope s.heap.objs.size f c')) → PE (lamCx X A outer s H E scope f c') body (t E))
    (hNy : X.N[i]? = some y) (hvy : Vis X.env.scope y)
    (hd1 : (x1 == ("__debug__" : Str)) = false := by decide) (hdy : (y == ("__debug__" : Str)) = false := by decide) (hcy : (y == ("__classdict__" : Str)) = false := by decide)
    (hd2 : (x2 == ("__debug__" : Str)) = false := by decide) (hd3 : (a1 == ("__debug__" : Str)) = false := by decide) (hcd3 : (a1 == ("__classdict__" : Str)) = false := by decide) (hd4 : (a2 == ("__debug__" : Str)) = false := by decide) (hcd4 : (a2 == ("__classdict__" : Str)) = false := by decide) :
    PE X (.Call (.Name x1 p) [.Lambda params body scope lpos, .Name y py] [] pos) (tLam2 T TT t i) := by
  refine ⟨fun pins s σ H Q I h => ?_⟩
  obtain ⟨hT, v, hsv, h⟩ := h
  refine wpAny_Call_Name_kw (ld_glob I hg hm ?_ hd1)
  refine PySem.W.callWith_K (h₀ := X.base) I.ok.mod.kin hk ?_ (by rfl) (by rfl)
  refine Calls.spliced_cons (lam_make2 I TB hcode hmT hu hT hdef (L.has I.ok) fun f c' pm' ctv H1 sM IM eN TM hf hfn hfr hco => ?_)
  refine Calls.spliced_cons (var_at (i := i) IM hNy hvy hsv (fun u ru => ?_) hdy hcy)
  refine Calls.spliced_nil ⟨IM.kIn, ?_⟩
  have rc : codeAny (model X.prog X.w) X.A (.call (.ref g1) ⟨[.ref f, u], []⟩) (CR C8.CX0 X.stack X.prog X.w H1 sM Q C8.E0) sM := by
    refine run_ofS (k := k + 2) (N := N1) (ps := [a1, b1]) (us := [.ref f, u]) (vs := [.ref f, v]) lk1 hc1 S1 hr IM.env0 (hb1 sM [.ref f, u] IM.kIn rfl) (.cons rfl (.cons ru .nil)) rfl fun hr' => ?_
    obtain ⟨tt, h1, h2⟩ := hG1 f c' v sM H1 Q (fun E G' Q' => t E σ G' Q') (fun r0 r1 r2 => pass_on IM L hf hfn hfr (hbind _ _ _ _ _) hN1 hv1 hg2 hm2 hk2 lk2 hc2 hb2 S2 hN2 hv2 (hG2 sM H1) hr' (fun A outer s H E hr2 => hbody A outer s H E f c' hr2) hd2 hd3 hcd3 hd4 hcd4) hco (h H1 eN TM)
    exact ⟨tt, h1.nox, h2⟩
  refine wpAny_call (codeAny_mono rc fun r sE hq => ?_)
  match r, hq with
  | .error e, hq => exact (show False from hq).elim
  | .ok (.ret u), hq => exact IM.after hq
  | .ok .next, hq => exact (show False from hq).elim
  | .ok .brk, hq => exact (show False from hq).elim
  | .ok .cont, hq => exact (show False from hq).elim
theorem pe_lam1 {T : List (Addr × Str)} {TT : (XK → Hp → VK → Prop) → Hp → VK → Prop} {x1 a1 : Str} {g1 c P : Addr} {k : Nat} {pg1 : Arguments} {bg1 : List Stmt} {sg1 : Scope} {dV1 kV1 doc1 pm1 cd1 ct1 oc1 : Value} {an1 od1 : Option Addr} {sl1 : Array (Option Value)} {N1 : List Str}
    {params : Arguments} {body : Expr} {scope : Scope} {t : XK → TE} {p lpos pos : Pos}
    (hg : Gl X x1) (hm : X.mg x1 = some (.ref g1)) (hk : PySem.W.keepIn X.K (.ref g1) = true)
    (lk1 : X.K.lookup g1 = some ⟨oc1, od1, .func (PySem.W.fnOf x1 x1 pg1 bg1 sg1 dV1 kV1 doc1 pm1 an1 cd1 ct1), sl1⟩) (hc1 : PySem.W.codeIn X.K cd1 x1 = true) (hb1 : L2.Binds X.K (PySem.W.fnOf x1 x1 pg1 bg1 sg1 dV1 kV1 doc1 pm1 an1 cd1 ct1) [a1] []) (S1 : FnScope N1 [a1] sg1) (hN1 : N1[0]? = some a1) (hv1 : Vis sg1 a1)
    (hG : GivesW X N1 x1 sg1 g1 cd1 bg1 a1 (X.env.qual ++ "<lambda>") TT)
    (TB : TabB X.base X.mg c P) (hcode : X.env.code = .ref c) (hmT : (P, X.env.qual ++ "<lambda>") ∈ T) (hu : ∀ z ∈ T, z.1 = P → z.2 = X.env.qual ++ "<lambda>") (hr : Room (k + 2) X.A) (L : LamS X.env.scope scope) (hdef : defaultsOf params X.env = ([], []))
    (hbind : ∀ (q : Str) (cl : List (Str × Addr)) (pm cv ctv : Value), bindArgs (PySem.W.kla_fn "<lambda>" q params body scope cl pm cv ctv) ⟨[], []⟩ = pure [])
    (hbody : ∀ (A : Around) (outer : List Env) (s : Shared) (H : Hp) (E : XK) (f c' : Addr), Room k (A.deeper (lamEnv X scope s.heap.objs.size f c')) → PE (lamCx X A outer s H E scope f c') body (t E))
    (hd1 : (x1 == ("__debug__" : Str)) = false := by decide) (hd3 : (a1 == ("__debug__" : Str)) = false := by decide) (hcd3 : (a1 == ("__classdict__" : Str)) = false := by decide) :
    PE X (.Call (.Name x1 p) [.Lambda params body scope lpos] [] pos) (tLam T TT t) := by
  refine ⟨fun pins s σ H Q I h => ?_⟩
  obtain ⟨hT, h⟩ := h
  refine wpAny_Call_Name_kw (ld_glob I hg hm ?_ hd1)
  refine PySem.W.callWith_K (h₀ := X.base) I.ok.mod.kin hk ?_ (by rfl) (by rfl)
  refine Calls.spliced_cons (lam_make2 I TB hcode hmT hu hT hdef (L.has I.ok) fun f c' pm' ctv H1 sM IM eN TM hf hfn hfr hco => ?_)
  refine Calls.spliced_nil ⟨IM.kIn, ?_⟩
  have rc : codeAny (model X.prog X.w) X.A (.call (.ref g1) ⟨[.ref f], []⟩) (CR C8.CX0 X.stack X.prog X.w H1 sM Q C8.E0) sM := by
    refine run_ofS (k := k + 1) (N := N1) (ps := [a1]) (us := [.ref f]) (vs := [.ref f]) lk1 hc1 S1 hr IM.env0 (hb1 sM [.ref f] IM.kIn rfl) (.cons rfl .nil) rfl fun hr' => ?_
    obtain ⟨tt, h1, h2⟩ := hG f c' sM H1 Q (fun E G' Q' => t E σ G' Q') (fun W pn xe r1 r2 tk => act1W (i := 0) IM L hf hfn hfr (hbind _ _ _ _ _) tk hr' (fun A outer s H E hr2 => hbody A outer s H E f c' hr2) hN1 hv1 hd3 hcd3) hco (h H1 eN TM)
    exact ⟨tt, h1.nox, h2⟩
  refine wpAny_call (codeAny_mono rc fun r sE hq => ?_)
  match r, hq with
  | .error e, hq => exact (show False from hq).elim
  | .ok (.ret u), hq => exact IM.after hq
  | .ok .next, hq => exact (show False from hq).elim
  | .ok .brk, hq => exact (show False from hq).elim
  | .ok .cont, hq => exact (show False from hq).elim
end
end G3

set_option Elab.async false
set_option linter.all false
set_option maxRecDepth 100000
set_option maxHeartbeats 4000000
/-! own exceptions with one field; promises put together; values that are no events -/
namespace K3
open PySem PySem.Spec PyProof.Rows L2 G1 G2 K2
def spXi (C : Addr) (fld : Str) : Sp := fun vs H Q _ => ∃ (a : Addr) (v : V), vs = [.ref a, v] ∧ H a = some (exo a C none) ∧ ∀ dx, H dx = none → dx ≠ a → Q .non (upd (upd H dx (exd dx [(fld, v)])) a (exo a C (some dx)))
structure XCls (P : Program) (w : World) (K : PySem.W.Frag) (mg : Str → Option Value) (base : Heap) (x fld : Str) (C : Addr) : Prop where
  T : OexC K C
  xf : XfC K C
  no : PySem.W.findIn K (.ref C) fld = some none
  g : mg x = some (.ref C)
  ini : ∃ (fI : Addr) (fd : FuncData), PySem.W.findIn K (.ref C) "__init__" = some (some (.ref fI)) ∧ PySem.W.typeIn K (.ref fI) = some (.type "function") ∧ FnOk P w K mg base CX0 1 fI fd ["self", fld] (spXi C fld) ∧ Binds K fd ["self", fld] []
/-- what is wanted of a raised one -/
def Rsd (C : Addr) (fld : Str) (v : V) (H : Hp) (E : XK) : Prop := ∀ (d : Addr) (H' : Hp), Same H H' → H' d = some (.xd [(fld, v)]) → E (.ref C) (some d) H'
theorem Rsd.same {C : Addr} {fld : Str} {v : V} {H H1 : Hp} {E : XK} (k : Rsd C fld v H E) (s : Same H H1) : Rsd C fld v H1 E := fun d H' s1 e => k d H' (s.trans s1) e
theorem mk_read {C : Addr} {fld : Str} {v : V} {H : Hp} {E : XK} {E2 : XK} (k : Rsd C fld v H E) : [v].length ≤ 1000 ∧ ∀ a, H a = none → spXi C fld (.ref a :: ([v] ++ [])) (upd H a (exo a C none))
    (fun u H2 => u = .non ∧ ∃ (d : Addr) (fs : List (Str × V)), H2 a = some (exo a C (some d)) ∧ H2 d = some (exd d fs) ∧ H d = none ∧ E (.ref C) (some d) (upd (del H2 a) d (.xd fs))) E2 := by
  refine ⟨(by show 1 ≤ 1000; decide), fun a na => ⟨a, v, rfl, upd_same, fun dx nd ne => ⟨rfl, dx, [(fld, v)], upd_same, ?_, ?_, ?_⟩⟩⟩
  · rw [upd_ne ne, upd_same]
  · rw [upd_ne ne] at nd
    exact nd
  · rw [upd_ne ne] at nd
    refine k dx _ (fun b o e => ?_) upd_same
    have n1 : b ≠ dx := ne_of_none e nd
    have n2 : b ≠ a := ne_of_none e na
    rw [upd_ne n1, del_ne n2, upd_ne n2, upd_ne n1, upd_ne n2]
    exact e
abbrev sILd : Stmt := inClass (topS 13) 0
theorem scILd : FnScope ["self", "index"] ["self", "index"] (defScope sILd) := ⟨rfl, rfl, rfl, by decide +kernel, rfl, by decide +kernel, by decide +kernel⟩
section
variable {P : Program} {w : World} {K : PySem.W.Frag} {mg : Str → Option Value} {base : Heap} {C f : Addr} {fd : FuncData}
theorem ok_xLd (F : Fun K "__init__" "InvalidLoad.__init__" sILd f fd) (T : OexC K C) (no : PySem.W.findIn K (.ref C) "index" = some none) : FnOk P w K mg base CX0 1 f fd ["self", "index"] (spXi C "index") := by
  refine F.ok scILd (fun vs H Q E h => ?_) (fun cdv A outer s H vs Q E hr h => ?_)
  · obtain ⟨a, v, rfl, _⟩ := h
    rfl
  obtain ⟨a, v, rfl, ha, k⟩ := h
  exact ⟨_, pss_one (ps_ost (pv 0) (pv 1)), _, rfl, _, rfl, a, C, rfl, T, no, .inl ⟨ha, k⟩⟩
/-- two promises of one def -/
theorem or_ok {CX : CXT} {k : Nat} {ps : List Str} {s1 s2 : Sp} (h1 : FnOk P w K mg base CX k f fd ps s1) (h2 : FnOk P w K mg base CX k f fd ps s2) : FnOk P w K mg base CX k f fd ps (fun vs H Q E => s1 vs H Q E ∨ s2 vs H Q E) :=
  ⟨fun vs H Q E h => h.elim (h1.len vs H Q E) (h2.len vs H Q E), fun A outer s H args us vs Q E hr e0 hb r h => h.elim (h1.run A outer s H args us vs Q E hr e0 hb r) (h2.run A outer s H args us vs Q E hr e0 hb r)⟩
end
end K3
namespace K6
open PySem PySem.Spec PyProof.Rows L2 G1 G2 K2 G5 LamX K3
/-- a value in the place of an event that is none -/
inductive BadEv (K : PySem.W.Frag) (H : Hp) : V → Prop
  | oth {v : V} : NonT K H v → BadEv K H v
  | len {a : Addr} {xs : List V} : SqT K H a xs → xs.length ≠ 2 → BadEv K H (.ref a)
theorem BadEv.same {K : PySem.W.Frag} {H H' : Hp} {v : V} (h : BadEv K H v) (s : Same H H') : BadEv K H' v := by
  cases h with
  | oth h => exact .oth (h.same s)
  | len h n => exact .len (K2.Same.tup s h) n
theorem non_ext {K : PySem.W.Frag} {H H' : Hp} {v : V} (h : NonT K H v) (s : ExtN H H') : NonT K H' v := by
  cases h with
  | non => exact .non
  | bl b => exact .bl b
  | int i => exact .int i
  | str x => exact .str x
  | lst h =>
    rcases h with (h | ⟨o, h⟩) | h
    · exact .lst (.inl (.inl (s _ _ h (fun ps z => by cases z))))
    · exact .lst (.inl (.inr ⟨o, s _ _ h (fun ps z => by cases z)⟩))
    · exact .lst (.inr h)
  | dct h => exact .dct (s _ _ h (fun ps z => by cases z))
theorem kd_ext {K : PySem.W.Frag} {H H' : Hp} {v : V} (h : Kd K H v) (s : ExtN H H') : Kd K H' v := by
  cases h with
  | nt h => exact .nt (non_ext h s)
  | tup h => exact .tup (ext_tup s h)
theorem BadEv.ext {K : PySem.W.Frag} {H H' : Hp} {v : V} (h : BadEv K H v) (s : ExtN H H') : BadEv K H' v := by
  cases h with
  | oth h => exact .oth (non_ext h s)
  | len h n => exact .len (ext_tup s h) n
def spIevX (K : PySem.W.Frag) : Sp := fun vs H Q _ => ∃ v, vs = [v] ∧ BadEv K H v ∧ Q (.bl false) H
def spIevB (K : PySem.W.Frag) : Sp := fun vs H Q E => spIev K vs H Q E ∨ spIevX K vs H Q E
section
variable {P : Program} {w : World} {K : PySem.W.Frag} {mg : Str → Option Value} {base : Heap} {CD C : Addr}
theorem ok_ievX {f0 : Addr} {fd : FuncData} (F : Fun K "is_event" "is_event" sIev f0 fd) (B : Bl mg) (gW : ∃ t, mg "WRITE" = some (.str "write" t)) (gT : ∃ t, mg "TRIM" = some (.str "trim" t)) (GN : FAt P w K mg base 1 "is_name" ["value"] spNam) : FnOk P w K mg base CX0 2 f0 fd ["value"] (spIevX K) := by
  refine F.ok scIev (fun vs H Q E h => ?_) (fun cdv A0 outer s0 H vs Q E hr h => ?_)
  · obtain ⟨v, rfl, _⟩ := h
    rfl
  obtain ⟨v, rfl, hv, q⟩ := h
  obtain ⟨tW, cW⟩ := gW
  obtain ⟨tT, cT⟩ := gT
  obtain ⟨fN, dN, GN, kN, bN, gN⟩ := GN.ex
  refine ⟨_, pss_cons (ps_if (PW.pt (pw_or (pt_not (pt_val (pe_callB call_isi (by rfl) B.isi bIsi (pa_cons (pv 0) (pa_cons (pe_bltn (v := .ty "tuple") (by rfl) B.tup bTup rfl) pa_nil)))))
      (pw_or1 (pt_cmpR op_ne (pe_callB call_len_seq (by rfl) B.len PySem.boot_len (pa_cons (pv 0) pa_nil)) pe_int (nomark _))))) (pss_one (ps_ret pe_bl)) pss_nil)
    (pss_cons (ps_asg (pv 0) (pg_tup rfl (pgs_cons (pg_name (i := 1) scIev.nd rfl (.inl rfl)) (pgs_cons (pg_name (i := 2) scIev.nd rfl (.inl rfl)) pgs_nil))))
    (pss_one (ps_ret (pe_and (pe_callB call_isi (by rfl) B.isi bIsi (pa_cons (pv 1) (pa_cons (pe_bltn (v := .ty "str") (by rfl) B.str bStr rfl) pa_nil)))
      (pe_and (pe_cmpR op_in_seq (pv 1) (pe_tup (pa_cons (pe_glob (v := .str "write") rfl cW ⟨_, rfl⟩) (pa_cons (pe_glob (v := .str "trim") rfl cT ⟨_, rfl⟩) pa_nil))) (by rfl))
      (pe_one (pe_call GN hr (by rfl) gN kN bN .nil pass0 (pa_cons (pv 2) pa_nil)))))))), ?_⟩
  cases hv with
  | oth hn =>
    obtain ⟨t, ty, kf⟩ := hn.ty
    exact ⟨_, rfl, _, _, _, _, false, rfl, .ty _, ty, kf, false, rfl, iteT q⟩
  | @len a xs hT hl =>
    refine ⟨_, rfl, _, _, _, _, true, rfl, .ty _, tup_ty hT, kit_ty (by decide +kernel), true, rfl, iteF ?_⟩
    refine ⟨_, rfl, a, _, rfl, .inr hT, rfl, _, rfl, ?_⟩
    have z : (!decide (V.int (xs.length : Int) = V.int 2)) = true := by
      rw [decide_eq_false (fun z => by injection z with z; omega)]
      rfl
    show (if (!decide (V.int (xs.length : Int) = V.int 2)) = true then _ else _)
    rw [z]
    exact iteT q
end
end K6

set_option Elab.async false
set_option linter.all false
set_option maxRecDepth 100000
set_option maxHeartbeats 4000000
/-! play_load, with its ways out -/
namespace K6
open PySem PySem.Spec PyProof.Rows L2 G1 G2 K2 G5 LamX K3
/-- every event is let, however the ones before it went; st: a write may stick -/
def LoadOkS (p n : Nat) (rows : List RowD) (st : Bool) : Pl → List (Str × Str) → Prop
  | _, [] => True
  | s, e :: es => EvtOkG p n rows st s e.1 e.2 ∧ NameOk e.2 ∧ ∀ s', EvtRG p rows s s' e.1 e.2 → LoadOkS p n rows st s' es
theorem LoadOkS.of {p n : Nat} {rows : List RowD} : ∀ {es : List (Str × Str)} {s : Pl}, LoadOkG p n rows s es → LoadOkS p n rows false s es
  | [], _, _ => trivial
  | _ :: _, _, ⟨h1, h2, h3⟩ => ⟨h1, h2, fun s' z => LoadOkS.of (h3 s' z)⟩
structure LodX (K : PySem.W.Frag) (T : List (Addr × Str)) (st : Bool) (CD C CL : Addr) (H : Hp) (dr ld : Addr) (eas : List Addr) (es : List (Str × Str)) (bad : List V) (b p n : Nat) (rows : List RowD) (Q : VK) (E : XK) : Prop where
  ld : SqT K H ld (eas.map V.ref ++ bad)
  ev : Paired (fun (a : Addr) (e : Str × Str) => SqT K H a [.str e.1, .str e.2]) eas es
  bd : ∀ v r, bad = v :: r → BadEv K H v
  b10 : b ≤ 10
  wd : ∀ r ∈ rows, r.2 ∈ wordsL
  ok : LoadOkS p n rows st (newP b) es
  few : es.length + bad.length ≤ 2000
  tb : Tabs T H
  q : bad = [] → ∀ (H' : Hp) (x : Addr) (s' : Pl) (A : PAd), PlaysToG p rows (newP b) es s' → PlayAt C H' x s' A → A.dr = dr → H x = none → ExtN H H' → Tabs T H' → Q (.ref x) H'
  qb : bad ≠ [] → ∀ (H' : Hp) (s' : Pl), PlaysToG p rows (newP b) es s' → ExtN H H' → Tabs T H' → Rsd CL "index" (.int (es.length : Int)) H' E
  qs : st = true → ∀ (H' : Hp) (i : Nat) (e : Str × Str) (s1 s2 : Pl), es[i]? = some e → PlaysToG p rows (newP b) (es.take i) s1 → EvtStuck p rows s1 s2 e.1 e.2 → ExtN H H' → Tabs T H' → Rsd CL "index" (.int (i : Int)) H' E
def spLodX (K : PySem.W.Frag) (T : List (Addr × Str)) (st : Bool) (CD C CL : Addr) : Sp := fun vs H Q E => ∃ (dr ld : Addr) (eas : List Addr) (es : List (Str × Str)) (bad : List V) (b p n : Nat) (ini : List RowD) (y : Str), vs = [.ref dr, .ref ld] ∧ DrvAt K CD H dr b p n ini y ∧ LodX K T st CD C CL H dr ld eas es bad b p n (ini ++ [((p : Int), y)]) Q E
section
variable {P : Program} {w : World} {K : PySem.W.Frag} {mg : Str → Option Value} {base : Heap} {CD C CL : Addr}
theorem ok_lodX {f0 fI : Addr} {fd fdI : FuncData} {T : List (Addr × Str)} {st : Bool} (F : Fun K "play_load" "play_load" sLod f0 fd) (B : Bl mg) (gM : ∃ t, mg "MOST_EVENTS" = some (.int 2000 t)) (MP : Mk K C fI) (GI : FnOk P w K mg base CX0 3 fI fdI ["self", "drive"] (spPin K CD C)) (bI : Binds K fdI ["self", "drive"] []) (gP : mg "Play" = some (.ref C))
    (R : XCls P w K mg base "InvalidLoad" "index" CL) (GE : FAt P w K mg base 2 "is_event" ["value"] (spIevB K)) (GV : FAt P w K mg base 6 "play_event" ["play", "event"] (spEvtG K T st CD C)) : FnOk P w K mg base (L2.CX P w) 7 f0 fd ["drive", "load"] (spLodX K T st CD C CL) := by
  refine F.okX scLod (fun vs H Q E h => ?_) (fun cdv A0 outer s0 H vs Q E hr h => ?_)
  · obtain ⟨dr, ld, eas, es, bad, b, p, n, ini, y, rfl, _⟩ := h
    rfl
  obtain ⟨dr, ld, eas, es, bad, b, p, n, ini, y, rfl, hd, hX⟩ := h
  obtain ⟨hld, hes, hbd, hb, hwd, hok, hlen, hT, q, qb, qs⟩ := hX
  obtain ⟨fE, dE, GE, kE, bE, gE⟩ := GE.ex
  obtain ⟨fV, dV, GV, kV, bV, gV⟩ := GV.ex
  obtain ⟨fX, fdX, iX, tX, GX, bX⟩ := R.ini
  obtain ⟨tM, cM⟩ := gM
  have hr2 : Room 2 _ := hr.mono (by decide)
  refine ⟨_, pss_cons (ps_if (pt_not (pt_val (pe_callB call_isi (by rfl) B.isi bIsi (pa_cons (pv 1) (pa_cons (pe_bltn (v := .ty "tuple") (by rfl) B.tup bTup rfl) pa_nil))))) (pss_one ps_never) pss_nil)
    (pss_cons (ps_set (i := 2) scLod.nd rfl (.inl rfl) (pe_make MP GI (hr.mono (by decide)) (by rfl) gP bI .nil pass0 (pa_cons (pv 0) pa_nil)))
    (pss_cons (ps_for (passes_of rfl) rfl (pi_enumT (by rfl) B.enm (pa_cons (pv 1) pa_nil)) (pg_tup rfl (pgs_cons (pg_name (i := 3) scLod.nd rfl (.inl rfl)) (pgs_cons (pg_name (i := 4) scLod.nd rfl (.inl rfl)) pgs_nil)))
      (pss_one (ps_if (PW.pt (pw_or (pt_cmpR op_eq (pv 3) (pe_glob (v := .int 2000) rfl cM ⟨_, rfl⟩) (nomark _)) (pw_or (pt_not (pt_val (pe_call GE (hr.mono (by decide)) (by rfl) gE kE bE .nil pass0 (pa_cons (pv 4) pa_nil))))
        (pw_or1 (pt_not (pt_val (pe_call GV hr (by rfl) gV kV bV .nil pass0 (pa_cons (pv 2) (pa_cons (pv 4) pa_nil))))))))) (pss_one (ps_raise (W := fun cls d _ H => E cls d H) rfl (takes_of rfl rfl rfl rfl) (pmk_oex R.T iX tX GX hr2 bX .nil pass0 (by rfl) R.g (pa_cons (pv 3) pa_nil)))) pss_nil)))
    (pss_one (ps_ret (pv 2))))), ?_⟩
  generalize erows : ini ++ [((p : Int), y)] = rows at hwd hok q qb qs
  refine ⟨_, rfl, _, _, _, _, true, rfl, .ty _, tup_ty hld, kit_ty (by decide +kernel), true, rfl, iteF ?_⟩
  refine nx_read ?_
  dsimp only
  refine seq_asg ⟨_, rfl, fun x dx nx nd ne => ?_⟩
  have sm : Same H (L2.upd (L2.upd H dx (.own x)) x (.ins C dx [])) := fun c o e => by rw [upd_ne (ne_of_none e nx), upd_ne (ne_of_none e nd)]; exact e
  have hdrx : dr ≠ x := by
    obtain ⟨_, _, z, _⟩ := id hd
    exact ne_of_none z nx
  refine ⟨x, dx, dr, b, p, n, ini, y, rfl, upd_same, hd.same sm, hdrx, hb, fun H1 A p1 hdr g1 k1 => ⟨rfl, ?_⟩⟩
  have s1 : Same H H1 := fun c o e => k1 c o (sm c o e) (ne_of_none e nx)
  have w1 : ∀ a ∈ A.foot x, NwN H a := fun a z => by
    rcases g1 a z with e | e
    · exact .of (e ▸ nx)
    · refine .of ?_
      cases e2 : H a with
      | none => rfl
      | some o => rw [sm _ _ e2] at e; cases e
  refine seq_for fun D' hD1 hD2 => ?_
  refine ⟨_, rfl, ld, _, rfl, K2.Same.tup s1 hld, ?_⟩
  have hle : eas.length = es.length := Paired.length hes
  refine for_enumT (K := K) (xs := eas.map V.ref ++ bad) (fun i σ H' => i ≤ es.length ∧ ∃ (s2 : Pl) (A2 : PAd) (x3 x4 : Option V), σ = [some (.ref dr), some (.ref ld), some (.ref x), x3, x4] ∧ PlayAt C H' x s2 A2 ∧ A2.dr = dr ∧ PlaysToG p rows (newP b) (es.take i) s2 ∧ LoadOkS p n rows st s2 (es.drop i) ∧ ExtN H H' ∧ (∀ a ∈ A2.foot x, NwN H a) ∧ Tabs T H') ⟨Nat.zero_le _, newP b, A, none, none, rfl, p1, hdr, rfl, hok, .of s1, w1, hT.ext s1⟩ (fun i σ H' z => ?_) ?_ ?_
  · obtain ⟨_, _, _, _, _, _, _, _, _, _, z, _⟩ := z
    exact ext_tup z hld
  · rintro i v T1 σ H' hi ⟨hil0, s2, A2, x3, x4, rfl, p2, hdr2, pl2, ok2, e2, w2, t2⟩ hT1
    have sT : Same H' (L2.upd H' T1 (.tup [.int (i : Nat), v])) := same_lay hT1
    have eT : ExtN H (L2.upd H' T1 (.tup [.int (i : Nat), v])) := e2.trans (.of sT)
    refine ⟨T1, _, rfl, SqT.of upd_same, rfl, _, _, rfl, _, _, rfl, rfl, ?_⟩
    refine ⟨_, rfl, rfl, _, rfl, ?_⟩
    by_cases hil : i < es.length
    · have hil2 : i < (eas.map V.ref).length := by rw [List.length_map, hle]; exact hil
      rw [List.getElem?_append_left hil2, List.getElem?_map] at hi
      obtain ⟨a, ha, rfl⟩ : ∃ a, eas[i]? = some a ∧ V.ref a = v := by
        cases hq : eas[i]? with
        | none => rw [hq] at hi; cases hi
        | some a => rw [hq] at hi; exact ⟨a, rfl, Option.some.inj hi⟩
      obtain ⟨ev, hev, hat⟩ := K2.paired_get hes ha
      have edr : es.drop i = ev :: es.drop (i + 1) := by
        rw [List.drop_eq_getElem_cons hil]
        rw [List.getElem?_eq_getElem hil] at hev
        rw [Option.some.inj hev]
      rw [edr] at ok2
      obtain ⟨o1, o2, o3⟩ := ok2
      rw [eqI6, decide_eq_false (by omega)]
      refine iteF ⟨_, rfl, .inl ⟨a, ev.1, ev.2, rfl, ext_tup eT hat, o1.2.2.1, o2, fun H3 s3 => ⟨true, rfl, iteF ?_⟩⟩⟩
      have e3 : ExtN H H3 := eT.trans (.of s3)
      have s23 : Same H' H3 := sT.trans s3
      refine ⟨_, rfl, _, rfl, x, a, ev.1, ev.2, s2, A2, b, p, n, ini, y, rfl, ext_tup e3 hat, p2.same s23, by rw [erows]; exact o1, by rw [erows]; exact hwd, by rw [hdr2]; exact DrvAt.extN hd e3, by rw [hdr2]; exact hdrx, t2.ext s23, (fun H4 A4 s4 r4 p4 dr4 f4 g4 t4 => ⟨true, rfl, iteF ?_⟩), fun z H4 A4 s4 r4 p4 dr4 f4 g4 t4 => ⟨false, rfl, iteT ?_⟩⟩
      · rw [erows] at r4
        refine ⟨by omega, s4, A4, _, _, rfl, p4, by rw [dr4]; exact hdr2, ?_, o3 s4 r4, fun c o e nt => ?_, fun c z => ?_, t4⟩
        · rw [List.take_add_one, hev]
          exact plays_snocG pl2 r4
        · refine f4 c o (e3 c o e nt) (fun z => ?_) nt
          obtain ⟨ps, z2⟩ := w2 c z o e
          exact nt ps z2
        · rcases g4 c z with z | z
          · exact w2 c z
          · intro o e
            by_cases nt : ∃ ps, o = .tbl ps
            · exact nt
            · exact z o (e3 c o e fun ps z => nt ⟨ps, z⟩)
      · rw [erows] at r4
        refine ⟨_, rfl, mk_read (qs z H4 i ev s2 s4 hev pl2 r4 (fun c o e nt => ?_) t4)⟩
        refine f4 c o (e3 c o e nt) (fun z => ?_) nt
        obtain ⟨ps, z2⟩ := w2 c z o e
        exact nt ps z2
    · have hie : i = es.length := by omega
      have hb0 : bad ≠ [] := fun z => by
        have := (List.getElem?_eq_some_iff.mp hi).1
        rw [z, List.append_nil, List.length_map] at this
        omega
      have hv : BadEv K H v := by
        cases hbq : bad with
        | nil => exact absurd hbq hb0
        | cons v0 r0 =>
          have hil2 : (eas.map V.ref).length ≤ i := by rw [List.length_map, hle]; omega
          rw [List.getElem?_append_right hil2, List.length_map, hle, hie, Nat.sub_self, hbq] at hi
          rw [← Option.some.inj hi]
          exact hbd v0 r0 hbq
      have hbl : 0 < bad.length := List.length_pos_iff.mpr hb0
      rw [eqI6, decide_eq_false (by omega)]
      refine iteF ⟨_, rfl, .inr ⟨v, rfl, hv.ext eT, ⟨false, rfl, iteT ?_⟩⟩⟩
      rw [hie, List.take_length] at pl2
      refine ⟨_, rfl, mk_read ?_⟩
      rw [hie] at eT sT ⊢
      exact qb hb0 _ s2 pl2 eT (t2.ext sT)
  · rintro σ H' ⟨hil0, s2, A2, x3, x4, rfl, p2, hdr2, pl2, ok2, e2, w2, t2⟩
    rw [hD1]
    have hbe : bad = [] := by
      rw [List.length_append, List.length_map, hle] at hil0
      exact List.length_eq_zero_iff.mp (by omega)
    rw [List.length_append, List.length_map, hle, hbe] at pl2
    rw [show es.length + ([] : List V).length = es.length from rfl, List.take_length] at pl2
    refine ⟨_, rfl, ?_⟩
    exact q hbe H' x s2 A2 pl2 p2 hdr2 nx e2 t2
end
end K6

set_option Elab.async false
set_option linter.all false
set_option maxRecDepth 100000
set_option maxHeartbeats 4000000
/-! any rule: cleaning ends, or the numbers come again -/
namespace K6
open PySem PySem.Spec PyProof.Rows L2 G1 G2 K2 G5 LamX
theorem nodup_lt : ∀ (n : Nat) (l : List Nat), l.Nodup → (∀ x ∈ l, x < n) → l.length ≤ n
  | 0, [], _, _ => Nat.le_refl 0
  | 0, a :: r, _, h => absurd (h a (List.mem_cons_self ..)) (Nat.not_lt_zero _)
  | n + 1, l, hn, h => by
    by_cases hm : n ∈ l
    · have z := nodup_lt n (l.erase n) (hn.erase n) (fun x hx => by
        have h1 := (List.Nodup.mem_erase_iff hn).mp hx
        have h2 := h x h1.2
        have h3 := h1.1
        omega)
      rw [List.length_erase_of_mem hm] at z
      omega
    · have z := nodup_lt n l hn (fun x hx => by
        have h2 := h x hx
        have h3 : x ≠ n := fun e => hm (e ▸ hx)
        omega)
      omega
/-- which of them are full -/
def pat (p : Nat) : List Nat → Nat
  | [] => 0
  | v :: r => (if v < p then 0 else 1) + 2 * pat p r
theorem pat_lt (p : Nat) : ∀ l : List Nat, pat p l < 2 ^ l.length
  | [] => by show 0 < 2 ^ 0; decide
  | v :: r => by
    have := pat_lt p r
    unfold pat
    rw [List.length_cons, Nat.pow_succ]
    split <;> omega
abbrev low (p : Nat) (l : List Nat) : List Nat := l.filter fun v => decide (v < p)
theorem pat_inj (p : Nat) : ∀ {l m : List Nat}, l.length = m.length → (∀ v ∈ l, v ≤ p) → (∀ v ∈ m, v ≤ p) → low p l = low p m → pat p l = pat p m → l = m
  | [], [], _, _, _, _, _ => rfl
  | [], _ :: _, h, _, _, _, _ => by simp at h
  | _ :: _, [], h, _, _, _, _ => by simp at h
  | v :: r, w :: t, h, h1, h2, h3, h4 => by
    have hv := h1 v (List.mem_cons_self ..)
    have hw := h2 w (List.mem_cons_self ..)
    have hr := fun x hx => h1 x (List.mem_cons_of_mem v hx)
    have ht := fun x hx => h2 x (List.mem_cons_of_mem w hx)
    have hl : r.length = t.length := by simpa using h
    unfold pat at h4
    unfold low at h3
    by_cases a : v < p
    · by_cases c : w < p
      · rw [if_pos a, if_pos c] at h4
        rw [List.filter_cons_of_pos (by simpa using a), List.filter_cons_of_pos (by simpa using c)] at h3
        injection h3 with e1 e2
        rw [e1, pat_inj p hl hr ht e2 (by omega)]
      · rw [if_pos a, if_neg c] at h4
        omega
    · by_cases c : w < p
      · rw [if_neg a, if_pos c] at h4
        omega
      · rw [if_neg a, if_neg c] at h4
        rw [List.filter_cons_of_neg (by simpa using a), List.filter_cons_of_neg (by simpa using c)] at h3
        rw [show v = w by omega, pat_inj p hl hr ht h3 (by omega)]
structure Rot (p L : Nat) (fl lv : List Nat) : Prop where
  len : lv.length = L
  le : ∀ v ∈ lv, v ≤ p
  low : low p lv = fl
theorem seen_few {p L : Nat} {fl : List Nat} {lvs : List (List Nat)} (hn : lvs.Nodup) (h : ∀ lv ∈ lvs, Rot p L fl lv) : lvs.length ≤ 2 ^ L := by
  have z := nodup_lt (2 ^ L) (lvs.map (pat p)) ?_ ?_
  · rwa [List.length_map] at z
  · unfold List.Nodup
    rw [List.pairwise_map]
    exact List.Pairwise.imp_of_mem (fun {a c} ha hc hne e => hne (pat_inj p (by rw [(h a ha).len, (h c hc).len]) (h a ha).le (h c hc).le (by rw [(h a ha).low, (h c hc).low]) e)) hn
  · intro x hx
    obtain ⟨lv, hlv, rfl⟩ := List.mem_map.mp hx
    rw [← (h lv hlv).len]
    exact pat_lt p lv
theorem low_erase {p : Nat} : ∀ {l : List Nat} {i : Nat}, i < l.length → l.getD i 0 = p → low p (l.eraseIdx i) = low p l
  | v :: r, 0, _, h => by
    have e : v = p := h
    show low p r = _
    unfold low
    rw [List.filter_cons_of_neg (by simp [e])]
  | v :: r, i + 1, hi, h => by
    have ih := low_erase (p := p) (l := r) (i := i) (Nat.lt_of_succ_lt_succ hi) h
    show low p (v :: r.eraseIdx i) = _
    unfold low at ih ⊢
    by_cases a : v < p
    · rw [List.filter_cons_of_pos (by simpa using a), List.filter_cons_of_pos (by simpa using a), ih]
    · rw [List.filter_cons_of_neg (by simpa using a), List.filter_cons_of_neg (by simpa using a), ih]
theorem Rot.turn {p L : Nat} {fl lv : List Nat} (h : Rot p L fl lv) {i : Nat} (hi : i < lv.length) (hp : lv.getD i 0 = p) : Rot p L fl (lv.eraseIdx i ++ [p]) := by
  refine ⟨?_, fun v hv => ?_, ?_⟩
  · rw [List.length_append, List.length_eraseIdx_of_lt hi, ← h.len]
    show lv.length - 1 + 1 = _
    omega
  · rcases List.mem_append.mp hv with z | z
    · exact h.le v (List.mem_of_mem_eraseIdx z)
    · rw [List.mem_singleton.mp z]
      exact Nat.le_refl _
  · show List.filter _ _ = fl
    rw [List.filter_append]
    have e : ([p] : List Nat).filter (fun v => decide (v < p)) = [] := by simp
    rw [e, List.append_nil]
    exact (low_erase hi hp).trans h.low
section
variable {b p : Nat} {al : List Str} {rows : List RowD}
theorem csI_inj {l m : List Nat} (h : csI l = csI m) : l = m := (List.map_inj_right (fun a c h => by exact Int.ofNat_inj.mp h)).mp h
theorem csI_mem {l : List Nat} {ls : List (List Nat)} : csI l ∈ ls.map csI ↔ l ∈ ls := by
  constructor
  · intro h
    obtain ⟨m, hm, e⟩ := List.mem_map.mp h
    rw [← csI_inj e]
    exact hm
  · exact fun h => List.mem_map_of_mem h
theorem clo_lt {s : Pl} {i k : Nat} (h : s.clo[i]? = some k) : i < (lvC s).length := by
  unfold lvC
  rw [List.length_map]
  exact (List.getElem?_eq_some_iff.mp h).1
theorem cln_okS (hb : b ≤ 10) (hb2 : 2 ≤ b) (hp0 : 0 < p) (hp : p ≤ 10) (ha : al.length ≤ 100) {L : Nat} {fl : List Nat} : ∀ (d : Nat) (lvs : List (List Nat)) (s : Pl), PInv b p s al → s.told.length ≤ 10000 → s.fil = none → (∃ f, s.free = [f]) → lvs.Nodup → (∀ lv ∈ lvs, Rot p L fl lv) → Rot p L fl (lvC s) → 2 ^ L ≤ lvs.length + d → CleanOk p rows true (d + 1) (lvs.map csI) s := by
  intro d
  induction d with
  | zero =>
    intro lvs s I ht hf ⟨f, hfe⟩ hn hr h0 hd
    refine .inr ⟨hf, f, I.ready hb hb2 hp ha ht hf hfe, fun _ => rfl, fun hne i k hpk hik => ?_⟩
    exfalso
    rw [I.cnt] at hne
    have z := seen_few (p := p) (L := L) (fl := fl) (lvs := lvC s :: lvs) (List.nodup_cons.mpr ⟨fun q => hne (csI_mem.mpr q), hn⟩) (fun lv hlv => by
      rcases List.mem_cons.mp hlv with e | e
      · rw [e]; exact h0
      · exact hr lv e)
    rw [List.length_cons] at z
    omega
  | succ d ih =>
    intro lvs s I ht hf ⟨f, hfe⟩ hn hr h0 hd
    refine .inr ⟨hf, f, I.ready hb hb2 hp ha ht hf hfe, fun _ => rfl, fun hne i k hpk hik => ?_⟩
    obtain ⟨T, hfk, hfb, hkb⟩ := I.cln hp0 ⟨f, hfe⟩ hf hfe hik
    have I' := I.clean hp0 hf hfe hik hfk hfb hkb T
    have ht' : (cleanP p s i k f).told.length ≤ 10000 := by rw [T.told]; exact ht
    by_cases hfull : kln (s.cont.getD k []) = p
    · have hfil : (cleanP p s i k f).fil = none := by rw [T.fil, if_pos hfull]
      have hturn := I.turn hp0 hf hfe hik hfull
      have e : cntP s = csI (lvC s) := I.cnt
      rw [e] at hne ⊢
      have z := ih (lvC s :: lvs) (cleanP p s i k f) I' ht' hfil ⟨k, T.free⟩ (List.nodup_cons.mpr ⟨fun q => hne (csI_mem.mpr q), hn⟩) (fun lv hlv => by
        rcases List.mem_cons.mp hlv with e | e
        · rw [e]; exact h0
        · exact hr lv e) (by rw [hturn]; exact h0.turn (clo_lt hik) ((lvc_getD hik).trans hfull)) (by rw [List.length_cons]; omega)
      exact z
    · have hfil : (cleanP p s i k f).fil = some f := by rw [T.fil, if_neg hfull]
      exact .inl ⟨f, I'.opened hb hp ha ht' hfil⟩
theorem pow_le {n : Nat} (h : n ≤ 5) : 2 ^ n ≤ 32 := by
  have z : ∀ n : Nat, n < 6 → 2 ^ n ≤ 32 := by decide
  exact z n (by omega)
theorem rot0 {s : Pl} (I : PInv b p s al) {f : Nat} (hf : s.fil = none) (hfe : s.free = [f]) : Rot p (b - 1) (low p (lvC s)) (lvC s) := by
  refine ⟨?_, I.lvc_le, rfl⟩
  have := I.clo_len hf hfe
  unfold lvC
  rw [List.length_map]
  omega
theorem brg_okS {s : Pl} (D : Dims b p) (hb6 : b ≤ 6) (I : PInv b p s al) (ha : al.length ≤ 100) (ht : s.told.length ≤ 10000) : BrgG p rows true s := by
  have hb := D.b10
  have hp := D.p10
  refine ⟨I.fit2 hb hp ha, fun k hk => ?_, fun k hk => ?_, fun hf hl => ?_, ht⟩
  · rw [I.cl]
    exact I.mem (List.mem_append_right _ (by rw [hk]; exact List.mem_singleton.mpr rfl))
  · rw [I.cl]
    exact I.mem (List.mem_append_left _ (List.mem_append_left _ hk))
  · obtain ⟨f, hfe⟩ := one_free I hl
    have h32 := pow_le (n := b - 1) (by omega)
    exact ⟨2 ^ (b - 1) + 1, by omega, cln_okS hb D.b2 D.p0 hp ha (2 ^ (b - 1)) [] s I ht hf ⟨f, hfe⟩ List.nodup_nil (fun lv z => nomatch z) (rot0 I hf hfe) (by show 2 ^ (b - 1) ≤ 0 + 2 ^ (b - 1); omega)⟩
/-- how much a write cleans and copies at most -/
theorem cleans_lenS (hp0 : 0 < p) {L : Nat} {fl : List Nat} {seen : List (List Int)} {s s1 : Pl} {k : Nat} {cl : List Nat} {cp : Int} (h : Cleans p rows seen s s1 k cl cp) : ∀ (lvs : List (List Nat)), seen = lvs.map csI → lvs.Nodup → (∀ lv ∈ lvs, Rot p L fl lv) → PInv b p s al → (s.fil = none → Rot p L fl (lvC s)) →
    (cl = [] ∨ cl.length + lvs.length ≤ 2 ^ L) ∧ cp ≤ (p : Int) * (cl.length : Int) := by
  induction h with
  | stop hf => exact fun lvs _ _ _ _ _ => ⟨.inl rfl, by simp⟩
  | @step seen s s2 i j f k cl cp hf hfe hi hn hpk hrest ih =>
    intro lvs hs hnd hr I h0
    have h0 := h0 hf
    obtain ⟨T, hfk, hfb, hkb⟩ := I.cln hp0 ⟨_, hfe⟩ hf hfe hi
    have I' := I.clean hp0 hf hfe hi hfk hfb hkb T
    rw [I.cnt, hs] at hn
    have hnd2 : (lvC s :: lvs).Nodup := List.nodup_cons.mpr ⟨fun q => hn (csI_mem.mpr q), hnd⟩
    have hr2 : ∀ lv ∈ lvC s :: lvs, Rot p L fl lv := fun lv hlv => by
      rcases List.mem_cons.mp hlv with e | e
      · rw [e]; exact h0
      · exact hr lv e
    have hfew := seen_few hnd2 hr2
    rw [List.length_cons] at hfew
    have hl : s.liv.getD j 0 ≤ (p : Int) := by
      rw [liv_kln I hi, lvc_getD hi]
      have := kept_len (s.cont.getD j [])
      rw [I.fc j (List.mem_of_getElem? hi)] at this
      exact Int.ofNat_le.mpr this
    obtain ⟨a, c⟩ := ih (lvC s :: lvs) (by rw [List.map_cons, ← I.cnt, hs]) hnd2 hr2 I' (fun hfn => by
      have hfull : kln (s.cont.getD j []) = p := by
        have z := T.fil
        rw [hfn] at z
        by_cases q : kln (s.cont.getD j []) = p
        · exact q
        · rw [if_neg q] at z
          cases z
      rw [I.turn hp0 hf hfe hi hfull]
      exact h0.turn (clo_lt hi) ((lvc_getD hi).trans hfull))
    rw [List.length_cons] at a ⊢
    refine ⟨.inr ?_, ?_⟩
    · rcases a with a | a
      · rw [a]
        show 0 + 1 + lvs.length ≤ _
        omega
      · omega
    · have e : (p : Int) * ((cl.length + 1 : Nat) : Int) = (p : Int) * (cl.length : Int) + (p : Int) := by
        rw [Int.natCast_add, Int.mul_add]
        show _ + (p : Int) * 1 = _
        rw [Int.mul_one]
      rw [e]
      omega
/-- what a step tells -/
structure StepS (b : Nat) (t : Tld) : Prop where
  k : ∀ j, t.1 = some j → j < b
  cl : ∀ j ∈ t.2.1, j < b
  c0 : 0 ≤ t.2.2
  c1 : t.2.2 ≤ 400
  len : t.2.1.length ≤ 32
theorem stepS_trim : StepS b (none, [], 0) := ⟨fun j z => (nomatch z), fun j z => (nomatch z), Int.le_refl 0, (by show (0 : Int) ≤ 400; decide), Nat.zero_le _⟩
theorem opn_stepS {s s1 : Pl} {k : Nat} {cl : List Nat} {cp : Int} (D : Dims b p) (hb6 : b ≤ 6) (I : PInv b p s al) (h : OpnG p rows s s1 k cl cp) : StepS b (some k, cl, cp) := by
  obtain ⟨I1, hf1, _⟩ := opn_inv D.p0 I h
  have hk : k < b := I1.mem (List.mem_append_right _ (by rw [hf1]; exact List.mem_singleton.mpr rfl))
  have hkk : ∀ j, some k = some j → j < b := fun j e => by cases e; exact hk
  rcases h with ⟨_, _, _, _, rfl, rfl⟩ | ⟨hfr, hcs⟩
  · exact ⟨hkk, fun j z => (nomatch z), Int.le_refl 0, (by show (0 : Int) ≤ 400; decide), Nat.zero_le _⟩
  · obtain ⟨c1, c2, c3⟩ := cleans_in D.p0 hcs I
    cases hf : s.fil with
    | some f =>
      obtain ⟨e1, e2⟩ := cleans_some hcs hf
      subst e1 e2
      exact ⟨hkk, c1, Int.le_refl 0, (by show (0 : Int) ≤ 400; decide), Nat.zero_le _⟩
    | none =>
      obtain ⟨f, hfe⟩ := one_free I (hfr hf)
      obtain ⟨a, c⟩ := cleans_lenS D.p0 hcs [] rfl List.nodup_nil (fun lv z => nomatch z) I (fun _ => rot0 I hf hfe)
      have h32 := pow_le (n := b - 1) (by omega)
      have hlen : cl.length ≤ 32 := by
        rcases a with a | a
        · rw [a]; exact Nat.zero_le _
        · have : cl.length + 0 ≤ 2 ^ (b - 1) := a
          omega
      have hp := D.p10
      have : (p : Int) * (cl.length : Int) ≤ 10 * 32 := Int.mul_le_mul (by omega) (by omega) (by omega) (by decide)
      exact ⟨hkk, c1, c2, (by show cp ≤ 400; omega), hlen⟩
theorem evt_okS {s : Pl} {n : Nat} {e : Str × Str} (D : Dims b p) (hb6 : b ≤ 6) (I : PInv b p s al) (hn : n ≤ p * (b - 1)) (hal : al.length ≤ n) (ht : s.told.length ≤ 10000) (h : LetE n al e) : EvtOkG p n rows true s e.1 e.2 := by
  have hb := D.b10
  have hp := D.p10
  have h90 : p * (b - 1) ≤ 10 * 9 := Nat.mul_le_mul hp (by omega)
  refine ⟨by rw [I.ll, I.cl], ht, ?_, ?_⟩
  · rcases h.ok with h | h
    · exact .inl h.1
    · exact .inr h.1
  · by_cases hx : e.2 ∈ al
    · obtain ⟨h2, j, _, L⟩ := I.at_ hx
      have I' := I.die L
      have hl := List.length_erase_le (a := e.2) (l := al)
      exact .inr ⟨h2, j, L, fun _ => brg_okS D hb6 I' (by omega) ht⟩
    · rcases h.ok with ⟨hw, h2 | h2⟩ | ⟨_, h2⟩
      · exact absurd h2 hx
      · exact .inl ⟨I.no _ hx, hw, by rw [I.hl]; omega, brg_okS D hb6 I (by omega) ht⟩
      · exact absurd h2 hx
theorem load_allS {n : Nat} (D : Dims b p) (hb6 : b ≤ 6) (hn : n ≤ p * (b - 1)) : ∀ (es : List (Str × Str)) (s : Pl) (al : List Str), PInv b p s al → al.length ≤ n → Lets n al es → s.told.length + es.length ≤ 10000 →
    LoadOkS p n rows true s es ∧ ∀ s', PlaysToG p rows s es s' → PInv b p s' (es.foldl aft al) ∧ ∃ ts : List Tld, s'.told = s.told ++ ts ∧ ts.length = es.length ∧ ∀ t ∈ ts, StepS b t
  | [], s, al, I, hal, _, _ => ⟨trivial, fun s' e => by
      have e' : s' = s := e
      subst e'
      exact ⟨I, [], (List.append_nil _).symm, rfl, fun t ht => (nomatch ht)⟩⟩
  | e :: es, s, al, I, hal, ⟨h1, h2⟩, ht => by
    rw [List.length_cons] at ht
    have key : ∀ s', EvtRG p rows s s' e.1 e.2 → (LoadOkS p n rows true s' es ∧ ∀ s2, PlaysToG p rows s' es s2 → PInv b p s2 (es.foldl aft (aft al e)) ∧ ∃ ts : List Tld, s2.told = s'.told ++ ts ∧ ts.length = es.length ∧ ∀ t ∈ ts, StepS b t) ∧ ∃ t : Tld, s'.told = s.told ++ [t] ∧ StepS b t := by
      intro s' hr
      obtain ⟨I', t, et, hcase⟩ := evt_to D.p0 I hr
      refine ⟨load_allS D hb6 hn es s' _ I' (aft_len h1 hal) h2 (by rw [et, List.length_append]; show s.told.length + 1 + es.length ≤ _; omega), t, et, ?_⟩
      rcases hcase with ⟨_, rfl⟩ | ⟨hw, s0, s1, k, cl, cp, I0, ho, rfl⟩
      · exact stepS_trim
      · exact opn_stepS D hb6 I0 ho
    refine ⟨⟨evt_okS D hb6 I hn hal (by omega) h1, h1.nm, fun s' hr => (key s' hr).1.1⟩, fun s2 ⟨s', hr, hp2⟩ => ?_⟩
    obtain ⟨⟨_, hk⟩, t, et, hbt⟩ := key s' hr
    obtain ⟨i1, ts, e1, e2, e3⟩ := hk s2 hp2
    refine ⟨i1, t :: ts, by rw [e1, et, List.append_assoc]; rfl, by rw [List.length_cons, List.length_cons, e2], fun u hu => ?_⟩
    rcases List.mem_cons.mp hu with z | z
    · rw [z]
      exact hbt
    · exact e3 u z
/-! ### a load that was played does not stick -/
theorem clean_noS (hw : ∀ r ∈ rows, r.2 ∈ wordsL) : ∀ (m : Nat) {seen : List (List Int)} {s s1 : Pl} {k : Nat} {cl : List Nat} {cp : Int}, CleanOk p rows true m seen s → Cleans p rows seen s s1 k cl cp → CleanOk p rows false m seen s
  | 0, _, _, _, _, _, _, h, _ => h
  | m + 1, seen, s, s1, k, cl, cp, h, hc => by
    rcases h with h | ⟨hf, f, R, _, hstep⟩
    · exact .inl h
    · cases hc with
      | stop hf2 => rw [hf] at hf2; cases hf2
      | @step _ _ _ i j f2 _ _ _ hf2 hfe hi hn hpk hrest =>
        have e0 : [f] = [f2] := R.fre.symm.trans hfe
        cases e0
        refine .inr ⟨hf, f, R, fun z => absurd z hn, fun _ i2 j2 hpk2 hi2 => ?_⟩
        have e1 := pick_uniq hw hpk2 hpk
        subst e1
        have e2 := Option.some.inj (hi.symm.trans hi2)
        subst e2
        exact clean_noS hw m (hstep hn _ _ hpk hi) hrest
theorem brg_noS (hw : ∀ r ∈ rows, r.2 ∈ wordsL) {s s1 : Pl} {k : Nat} {cl : List Nat} {cp : Int} (h : BrgG p rows true s) (ho : OpnG p rows s s1 k cl cp) : BrgG p rows false s := by
  refine ⟨h.fit, h.fil, h.fre, fun hf hl => ?_, h.told⟩
  obtain ⟨m, hm, hc⟩ := h.due hf hl
  rcases ho with ⟨_, hl2, _⟩ | ⟨_, hcs⟩
  · omega
  · exact ⟨m, hm, clean_noS hw m hc hcs⟩
theorem evt_noS (hw : ∀ r ∈ rows, r.2 ∈ wordsL) {n : Nat} {s s' : Pl} {wd nm : Str} (h : EvtOkG p n rows true s wd nm) (hr : EvtRG p rows s s' wd nm) : EvtOkG p n rows false s wd nm := by
  obtain ⟨h1, h2, h3, hc⟩ := h
  refine ⟨h1, h2, h3, ?_⟩
  obtain ⟨s0, hd, hcase⟩ := hr
  rcases hc with ⟨hn, hwr, hne, hb⟩ | ⟨h, j, L, hb⟩
  · refine .inl ⟨hn, hwr, hne, ?_⟩
    have e0 : s0 = s := dead_uniq hd (.inl ⟨hn, rfl⟩)
    subst e0
    rcases hcase with ⟨hw2, _⟩ | ⟨_, s1, k, cl, cp, ho, _⟩
    · rw [hwr] at hw2
      exact absurd hw2 (by decide)
    · exact brg_noS hw hb ho
  · refine .inr ⟨h, j, L, fun hwr => ?_⟩
    have e0 : s0 = dieP s h j nm := dead_uniq hd (.inr ⟨h, j, L, rfl⟩)
    subst e0
    rcases hcase with ⟨hw2, _⟩ | ⟨_, s1, k, cl, cp, ho, _⟩
    · rw [hwr] at hw2
      exact absurd hw2 (by decide)
    · exact brg_noS hw (hb hwr) ho
theorem load_noS (hw : ∀ r ∈ rows, r.2 ∈ wordsL) {n : Nat} : ∀ {es : List (Str × Str)} {s s' : Pl}, LoadOkS p n rows true s es → PlaysToG p rows s es s' → LoadOkG p n rows s es
  | [], _, _, _, _ => trivial
  | e :: es, s, s', ⟨h1, h2, h3⟩, ⟨s1, hr, hp⟩ => ⟨evt_noS hw h1 hr, h2, fun s2 hr2 => by
      have e1 := evt_uniq hw hr2 hr
      subst e1
      exact load_noS hw (h3 _ hr2) hp⟩
end
end K6

set_option Elab.async false
set_option linter.all false
set_option maxRecDepth 100000
set_option maxHeartbeats 4000000
/-! two plays that differ in names -/
namespace K6
open PySem PySem.Spec PyProof.Rows L2 G1 G2 K2 G5 LamX
section
variable {b p : Nat} {al al' : List Str} {rows : List RowD} {π : Str → Str} {U : List Str} {c : Bool}
/-- where a name lives -/
theorem PInv.kept_iff {s : Pl} (I : PInv b p s al) {k : Nat} (hk : k < b) {x : Str} : x ∈ keptN (s.cont.getD k []) ↔ valV s.hom (.inr x) = some (nV k) := by
  constructor
  · exact fun h => I.loc k x hk h
  · intro h
    have hx : x ∈ al := by
      by_cases q : x ∈ al
      · exact q
      · rw [I.no x q] at h
        cases h
    obtain ⟨h2, j, hb, L⟩ := I.at_ hx
    have e : h2 = k := nV_inj (Option.some.inj (L.hom.symm.trans h))
    subst e
    exact List.mem_filterMap.mpr ⟨some x, List.mem_of_getElem? L.pg, rfl⟩
theorem kept_map (f : Str → Str) : ∀ c : Cb, keptN (c.map (Option.map f)) = (keptN c).map f
  | [] => rfl
  | none :: c => kept_map f c
  | some x :: c => by
    show f x :: keptN (c.map (Option.map f)) = f x :: (keptN c).map f
    rw [kept_map f c]
theorem getD_mapc (f : Str → Str) (l : List Cb) (k : Nat) : (l.map (List.map (Option.map f))).getD k [] = (l.getD k []).map (Option.map f) := by
  rw [List.getD_eq_getElem?_getD, List.getD_eq_getElem?_getD, List.getElem?_map]
  cases l[k]? <;> rfl
/-- the names are others, the rest is the same; c: the pages too -/
structure Sim (π : Str → Str) (U : List Str) (c : Bool) (s s' : Pl) : Prop where
  free : s'.free = s.free
  clo : s'.clo = s.clo
  fil : s'.fil = s.fil
  liv : s'.liv = s.liv
  told : s'.told = s.told
  len : ∀ k, (s'.cont.getD k []).length = (s.cont.getD k []).length
  hom : ∀ x ∈ U, valV s'.hom (.inr (π x)) = valV s.hom (.inr x)
  cm : c = true → s'.cont = s.cont.map (List.map (Option.map π))
theorem Sim.cnt {s s' : Pl} (S : Sim π U c s s') : cntP s' = cntP s := by
  unfold cntP
  rw [S.clo, S.liv]
theorem Sim.toldD {s s' : Pl} (S : Sim π U c s s') (t : List Tld) : Sim π U c { s with told := t } { s' with told := t } := ⟨S.free, S.clo, S.fil, S.liv, rfl, S.len, S.hom, S.cm⟩
theorem Sim.die {s s' s0 s0' : Pl} {x : Str} (hinj : ∀ a ∈ U, ∀ d ∈ U, π a = π d → a = d) (hx : x ∈ U) (hal : ∀ a ∈ al, a ∈ U) (I : PInv b p s al) (S : Sim π U c s s') (h : DeadR s s0 x) (h' : DeadR s' s0' (π x)) : Sim π U c s0 s0' := by
  rcases h with ⟨hn, rfl⟩ | ⟨h, j, L, rfl⟩
  · rcases h' with ⟨_, rfl⟩ | ⟨h', j', L', rfl⟩
    · exact S
    · have z := L'.hom
      rw [S.hom x hx, hn] at z
      cases z
  · rcases h' with ⟨hn', _⟩ | ⟨h', j', L', rfl⟩
    · rw [S.hom x hx, L.hom] at hn'
      cases hn'
    · have e : h' = h := by
        have z := L'.hom
        rw [S.hom x hx, L.hom] at z
        exact (nV_inj (Option.some.inj z)).symm
      subst e
      refine ⟨S.free, S.clo, S.fil, ?_, S.told, fun k => ?_, fun y hy => ?_, fun hc => ?_⟩
      · show s'.liv.set h' (s'.liv.getD h' 0 - 1) = s.liv.set h' (s.liv.getD h' 0 - 1)
        rw [S.liv]
      · show ((s'.cont.set h' _).getD k []).length = ((s.cont.set h' _).getD k []).length
        by_cases e : k = h'
        · subst e
          rw [getD_set L.blk, getD_set L'.blk, List.length_set, List.length_set]
          exact S.len k
        · rw [set_getD_ne e, set_getD_ne e]
          exact S.len k
      · show valV (dropK s'.hom (.inr (π x))) (.inr (π y)) = valV (dropK s.hom (.inr x)) (.inr y)
        rw [valV_drop, valV_drop]
        by_cases e : y = x
        · subst e
          rw [if_pos rfl, if_pos rfl]
        · rw [if_neg (fun z => e (hinj y hy x hx (Sum.inr.inj z))), if_neg (fun z => e (Sum.inr.inj z))]
          exact S.hom y hy
      · have hcm := S.cm hc
        have hcD : s'.cont.getD h' [] = (s.cont.getD h' []).map (Option.map π) := by rw [hcm, getD_mapc]
        have hb : h' < b := by rw [← I.cl]; exact L.blk
        have ej : j' = j := by
          refine (lives_uniq L' ⟨by rw [S.hom x hx]; exact L.hom, by rw [hcm, List.length_map]; exact L.blk, by rw [hcD, List.getElem?_map, L.pg]; rfl, fun m hm z => ?_⟩).2
          rw [hcD, List.getElem?_map] at z
          cases hq : (s.cont.getD h' [])[m]? with
          | none => rw [hq] at z; cases z
          | some o =>
            rw [hq] at z
            cases o with
            | none => cases z
            | some y =>
              have e1 : π y = π x := by injection z with z; injection z
              have hyk : y ∈ keptN (s.cont.getD h' []) := List.mem_filterMap.mpr ⟨some y, List.mem_of_getElem? hq, rfl⟩
              have hyU : y ∈ U := hal y (I.names.mem_iff.mp (kept_in L.blk hyk))
              have e2 := hinj y hyU x hx e1
              subst e2
              exact L.fst m hm hq
        subst ej
        show s'.cont.set h' ((s'.cont.getD h' []).set j' none) = (s.cont.set h' ((s.cont.getD h' []).set j' none)).map _
        rw [hcD, List.map_set, List.map_set, hcm]
        rfl
theorem Sim.clean {s s' : Pl} {i k f : Nat} (hp : 0 < p) (I : PInv b p s al) (I' : PInv b p s' al') (S : Sim π U c s s') (hf : s.fil = none) (hfe : s.free = [f]) (hi : s.clo[i]? = some k) : Sim π U c (cleanP p s i k f) (cleanP p s' i k f) := by
  obtain ⟨T, hfk, hfb, hkb⟩ := I.cln hp ⟨f, hfe⟩ hf hfe hi
  obtain ⟨T', _, _, _⟩ := I'.cln hp ⟨f, by rw [S.free]; exact hfe⟩ (by rw [S.fil]; exact hf) (by rw [S.free]; exact hfe) (by rw [S.clo]; exact hi)
  have hkl : (keptN (s'.cont.getD k [])).length = (keptN (s.cont.getD k [])).length := by
    have z := I.lv k hkb
    have z' := I'.lv k hkb
    rw [S.liv] at z'
    rw [z] at z'
    unfold livI at z'
    omega
  have fl : f < (s.cont.set k []).length := by rw [List.length_set, I.cl]; exact hfb
  have fl' : f < (s'.cont.set k []).length := by rw [List.length_set, I'.cl]; exact hfb
  refine ⟨by rw [T.free, T'.free], by rw [T.clo, T'.clo, hkl, S.clo], by rw [T.fil, T'.fil, hkl], by rw [T.liv, T'.liv, hkl, S.liv], by rw [T.told, T'.told, S.told], fun m => ?_, fun y hy => ?_, fun hc => ?_⟩
  · rw [T.cont, T'.cont]
    by_cases e : m = f
    · subst e
      rw [getD_set fl, getD_set fl', List.length_map, List.length_map, hkl]
    · rw [set_getD_ne e, set_getD_ne e]
      by_cases e2 : m = k
      · subst e2
        rw [getD_set (by rw [I'.cl]; exact hkb), getD_set (by rw [I.cl]; exact hkb)]
      · rw [set_getD_ne e2, set_getD_ne e2]
        exact S.len m
  · rw [T.hom, T'.hom, homs_val, homs_val]
    have hh := S.hom y hy
    have e1 := I.kept_iff hkb (x := y)
    have e2 := I'.kept_iff hkb (x := π y)
    rw [hh] at e2
    by_cases q : y ∈ keptN (s.cont.getD k [])
    · rw [if_pos q, if_pos (e2.mpr (e1.mp q))]
    · rw [if_neg q, if_neg (fun z => q (e1.mpr (e2.mp z)))]
      exact hh
  · have hcm := S.cm hc
    rw [T.cont, T'.cont, List.map_set, List.map_set, hcm, getD_mapc, kept_map, List.map_map, List.map_map]
    rfl
theorem Sim.put {s s' : Pl} {k : Nat} {x : Str} (hinj : ∀ a ∈ U, ∀ d ∈ U, π a = π d → a = d) (hx : x ∈ U) (I : PInv b p s al) (I' : PInv b p s' al') (S : Sim π U c s s') (hk : k < b) : Sim π U c (putP p s k x) (putP p s' k (π x)) := by
  have kl : k < s.cont.length := by rw [I.cl]; exact hk
  have kl' : k < s'.cont.length := by rw [I'.cl]; exact hk
  have hl := S.len k
  have hfc : (putP p s' k (π x)).fil = (putP p s k x).fil ∧ (putP p s' k (π x)).clo = (putP p s k x).clo := by
    unfold putP
    rw [hl]
    split
    · exact ⟨rfl, by show s'.clo ++ [k] = s.clo ++ [k]; rw [S.clo]⟩
    · exact ⟨S.fil, S.clo⟩
  refine ⟨by rw [put_free, put_free, S.free], hfc.2, hfc.1, by rw [put_livn, put_livn, S.liv], by rw [put_told, put_told, S.told], fun m => ?_, fun y hy => ?_, fun hc => ?_⟩
  · rw [put_cont, put_cont]
    by_cases e : m = k
    · subst e
      rw [getD_set kl, getD_set kl', List.length_append, List.length_append, hl]
      rfl
    · rw [set_getD_ne e, set_getD_ne e]
      exact S.len m
  · rw [put_hom, put_hom, valV_put, valV_put]
    by_cases e : y = x
    · subst e
      rw [if_pos rfl, if_pos rfl]
    · rw [if_neg (fun z => e (hinj y hy x hx (Sum.inr.inj z))), if_neg (fun z => e (Sum.inr.inj z))]
      exact S.hom y hy
  · have hcm := S.cm hc
    rw [put_cont, put_cont, List.map_set, hcm, getD_mapc, List.map_append]
    rfl
theorem Sim.pop {s s' : Pl} {k : Nat} (S : Sim π U c s s') : Sim π U c { s with free := s.free.eraseIdx 0, fil := some k } { s' with free := s'.free.eraseIdx 0, fil := some k } :=
  ⟨by show s'.free.eraseIdx 0 = s.free.eraseIdx 0; rw [S.free], S.clo, rfl, S.liv, S.told, S.len, S.hom, S.cm⟩
theorem Sim.cleans (hw : ∀ r ∈ rows, r.2 ∈ wordsL) (hp : 0 < p) {seen : List (List Int)} {s s1 : Pl} {k : Nat} {cl : List Nat} {cp : Int} (h : Cleans p rows seen s s1 k cl cp) : ∀ {s' s1' : Pl} {k' : Nat} {cl' : List Nat} {cp' : Int}, PInv b p s al → PInv b p s' al' → Sim π U c s s' → Cleans p rows seen s' s1' k' cl' cp' →
    Sim π U c s1 s1' ∧ k = k' ∧ cl = cl' ∧ cp = cp' := by
  induction h with
  | stop hf =>
    intro s' s1' k' cl' cp' I I' S h'
    cases h' with
    | stop hf' => rw [S.fil, hf] at hf'; exact ⟨S, Option.some.inj hf', rfl, rfl⟩
    | step hf' => rw [S.fil, hf] at hf'; cases hf'
  | @step seen s s2 i j f k cl cp hf hfe hi hn hpk hrest ih =>
    intro s' s1' k' cl' cp' I I' S h'
    cases h' with
    | stop hf' => rw [S.fil, hf] at hf'; cases hf'
    | @step _ _ _ i' j' f' _ _ _ hf' hfe' hi' hn' hpk' hrest' =>
      rw [S.cnt] at hpk' hrest'
      rw [S.clo] at hi'
      rw [S.free] at hfe'
      have e1 := pick_uniq hw hpk hpk'
      subst e1
      have e2 := Option.some.inj (hi.symm.trans hi')
      subst e2
      have e3 : [f] = [f'] := hfe.symm.trans hfe'
      cases e3
      obtain ⟨T, hfk, hfb, hkb⟩ := I.cln hp ⟨f, hfe⟩ hf hfe hi
      obtain ⟨T', _, _, _⟩ := I'.cln hp ⟨f, by rw [S.free]; exact hfe⟩ hf' (by rw [S.free]; exact hfe) (by rw [S.clo]; exact hi)
      obtain ⟨a, e4, e5, e6⟩ := ih (I.clean hp hf hfe hi hfk hfb hkb T) (I'.clean hp hf' (by rw [S.free]; exact hfe) (by rw [S.clo]; exact hi) hfk hfb hkb T') (S.clean hp I I' hf hfe hi) hrest'
      exact ⟨a, e4, by rw [e5], by rw [e6, S.liv]⟩
/-- the one goes on, so the other does not stick -/
theorem Sim.noStuck (hw : ∀ r ∈ rows, r.2 ∈ wordsL) (hp : 0 < p) {seen : List (List Int)} {s s1 : Pl} {k : Nat} {cl : List Nat} {cp : Int} (h : Cleans p rows seen s s1 k cl cp) : ∀ {s' s2' : Pl}, PInv b p s al → PInv b p s' al' → Sim π U c s s' → Stuck p rows seen s' s2' → False := by
  induction h with
  | stop hf =>
    intro s' s2' I I' S h'
    cases h' with
    | here hf' => rw [S.fil, hf] at hf'; cases hf'
    | step hf' => rw [S.fil, hf] at hf'; cases hf'
  | @step seen s s2 i j f k cl cp hf hfe hi hn hpk hrest ih =>
    intro s' s2' I I' S h'
    cases h' with
    | here hf' hfe' hm => rw [S.cnt] at hm; exact hn hm
    | @step _ _ _ i' j' f' hf' hfe' hi' hn' hpk' hrest' =>
      rw [S.cnt] at hpk' hrest'
      rw [S.clo] at hi'
      rw [S.free] at hfe'
      have e1 := pick_uniq hw hpk hpk'
      subst e1
      have e2 := Option.some.inj (hi.symm.trans hi')
      subst e2
      have e3 : [f] = [f'] := hfe.symm.trans hfe'
      cases e3
      obtain ⟨T, hfk, hfb, hkb⟩ := I.cln hp ⟨f, hfe⟩ hf hfe hi
      obtain ⟨T', _, _, _⟩ := I'.cln hp ⟨f, by rw [S.free]; exact hfe⟩ hf' (by rw [S.free]; exact hfe) (by rw [S.clo]; exact hi)
      exact ih (I.clean hp hf hfe hi hfk hfb hkb T) (I'.clean hp hf' (by rw [S.free]; exact hfe) (by rw [S.clo]; exact hi) hfk hfb hkb T') (S.clean hp I I' hf hfe hi) hrest'
theorem Sim.noStuck2 (hw : ∀ r ∈ rows, r.2 ∈ wordsL) (hp : 0 < p) {seen : List (List Int)} {s s2 : Pl} (h : Stuck p rows seen s s2) : ∀ {s' s1' : Pl} {k : Nat} {cl : List Nat} {cp : Int}, PInv b p s al → PInv b p s' al' → Sim π U c s s' → Cleans p rows seen s' s1' k cl cp → False := by
  induction h with
  | here hf hfe hm =>
    intro s' s1' k cl cp I I' S h'
    cases h' with
    | stop hf' => rw [S.fil, hf] at hf'; cases hf'
    | step hf' hfe' hi' hn' => rw [S.cnt] at hn'; exact hn' hm
  | @step seen s s2 i j f hf hfe hi hn hpk hrest ih =>
    intro s' s1' k cl cp I I' S h'
    cases h' with
    | stop hf' => rw [S.fil, hf] at hf'; cases hf'
    | @step _ _ _ i' j' f' _ _ _ hf' hfe' hi' hn' hpk' hrest' =>
      rw [S.cnt] at hpk' hrest'
      rw [S.clo] at hi'
      rw [S.free] at hfe'
      have e1 := pick_uniq hw hpk hpk'
      subst e1
      have e2 := Option.some.inj (hi.symm.trans hi')
      subst e2
      have e3 : [f] = [f'] := hfe.symm.trans hfe'
      cases e3
      obtain ⟨T, hfk, hfb, hkb⟩ := I.cln hp ⟨f, hfe⟩ hf hfe hi
      obtain ⟨T', _, _, _⟩ := I'.cln hp ⟨f, by rw [S.free]; exact hfe⟩ hf' (by rw [S.free]; exact hfe) (by rw [S.clo]; exact hi)
      exact ih (I.clean hp hf hfe hi hfk hfb hkb T) (I'.clean hp hf' (by rw [S.free]; exact hfe) (by rw [S.clo]; exact hi) hfk hfb hkb T') (S.clean hp I I' hf hfe hi) hrest'
theorem Sim.opn (hw : ∀ r ∈ rows, r.2 ∈ wordsL) (hp : 0 < p) {s s1 s' s1' : Pl} {k k' : Nat} {cl cl' : List Nat} {cp cp' : Int} (I : PInv b p s al) (I' : PInv b p s' al') (S : Sim π U c s s') (h : OpnG p rows s s1 k cl cp) (h' : OpnG p rows s' s1' k' cl' cp') : Sim π U c s1 s1' ∧ k = k' ∧ cl = cl' ∧ cp = cp' := by
  rcases h with ⟨hf, hl, h0, rfl, rfl, rfl⟩ | ⟨hfr, hcs⟩
  · rcases h' with ⟨_, _, h0', rfl, rfl, rfl⟩ | ⟨hfr', _⟩
    · rw [S.free] at h0'
      have e := Option.some.inj (h0.symm.trans h0')
      subst e
      exact ⟨S.pop, rfl, rfl, rfl⟩
    · have z := hfr' (by rw [S.fil]; exact hf)
      rw [S.free] at z
      omega
  · rcases h' with ⟨hf', hl', _⟩ | ⟨_, hcs'⟩
    · rw [S.fil] at hf'
      have z := hfr hf'
      rw [S.free] at hl'
      omega
    · exact Sim.cleans hw hp hcs I I' S hcs'
/-- an event of other names -/
def ren (π : Str → Str) (e : Str × Str) : Str × Str := (e.1, π e.2)
theorem Sim.evt (hw : ∀ r ∈ rows, r.2 ∈ wordsL) (hp : 0 < p) (hinj : ∀ a ∈ U, ∀ d ∈ U, π a = π d → a = d) (hal : ∀ a ∈ al, a ∈ U) {s s1 s' s1' : Pl} {e : Str × Str} (hx : e.2 ∈ U) (I : PInv b p s al) (I' : PInv b p s' al') (S : Sim π U c s s') (h : EvtRG p rows s s1 e.1 e.2) (h' : EvtRG p rows s' s1' (ren π e).1 (ren π e).2) : Sim π U c s1 s1' := by
  obtain ⟨s0, hd, hcase⟩ := h
  obtain ⟨s0', hd', hcase'⟩ := h'
  have S0 := S.die hinj hx hal I hd hd'
  obtain ⟨I0, _⟩ := die_any I hd
  obtain ⟨I0', _⟩ := die_any I' hd'
  rcases hcase with ⟨hw1, rfl⟩ | ⟨hw1, s2, k, cl, cp, ho, rfl⟩
  · rcases hcase' with ⟨_, rfl⟩ | ⟨hw2, _⟩
    · have e1 : s0'.told = s0.told := S0.told
      rw [e1]
      exact S0.toldD _
    · have hw2' : e.1 = "write" := hw2
      rw [hw1] at hw2'
      exact absurd hw2' (by decide)
  · rcases hcase' with ⟨hw2, _⟩ | ⟨_, s2', k', cl', cp', ho', rfl⟩
    · have hw2' : e.1 = "trim" := hw2
      rw [hw1] at hw2'
      exact absurd hw2' (by decide)
    · obtain ⟨S2, e1, e2, e3⟩ := S0.opn hw hp I0 I0' ho ho'
      subst e1 e2 e3
      obtain ⟨I2, hf2, _⟩ := opn_inv hp I0 ho
      obtain ⟨I2', _, _⟩ := opn_inv hp I0' ho'
      have hk : k < b := I2.mem (List.mem_append_right _ (by rw [hf2]; exact List.mem_singleton.mpr rfl))
      rw [S2.told]
      exact (S2.toldD _).put hinj hx (I2.told _) (I2'.told _) hk
theorem Sim.evtS (hw : ∀ r ∈ rows, r.2 ∈ wordsL) (hp : 0 < p) (hinj : ∀ a ∈ U, ∀ d ∈ U, π a = π d → a = d) (hal : ∀ a ∈ al, a ∈ U) {s s1 s' s1' : Pl} {e : Str × Str} (hx : e.2 ∈ U) (I : PInv b p s al) (I' : PInv b p s' al') (S : Sim π U c s s') (h : EvtRG p rows s s1 e.1 e.2) (h' : EvtStuck p rows s' s1' (ren π e).1 (ren π e).2) : False := by
  obtain ⟨s0, hd, hcase⟩ := h
  obtain ⟨s0', hd', hw2, hf', hl', hst⟩ := h'
  have S0 := S.die hinj hx hal I hd hd'
  obtain ⟨I0, _⟩ := die_any I hd
  obtain ⟨I0', _⟩ := die_any I' hd'
  rcases hcase with ⟨hw1, rfl⟩ | ⟨hw1, s2, k, cl, cp, ho, rfl⟩
  · have hw2' : e.1 = "write" := hw2
    rw [hw1] at hw2'
    exact absurd hw2' (by decide)
  · rcases ho with ⟨_, hl, _⟩ | ⟨_, hcs⟩
    · rw [S0.free] at hl'
      omega
    · exact Sim.noStuck hw hp hcs I0 I0' S0 hst
theorem Sim.evtS2 (hw : ∀ r ∈ rows, r.2 ∈ wordsL) (hp : 0 < p) (hinj : ∀ a ∈ U, ∀ d ∈ U, π a = π d → a = d) (hal : ∀ a ∈ al, a ∈ U) {s s1 s' s1' : Pl} {e : Str × Str} (hx : e.2 ∈ U) (I : PInv b p s al) (I' : PInv b p s' al') (S : Sim π U c s s') (h : EvtStuck p rows s s1 e.1 e.2) (h' : EvtRG p rows s' s1' (ren π e).1 (ren π e).2) : False := by
  obtain ⟨s0, hd, hw2, hf, hl, hst⟩ := h
  obtain ⟨s0', hd', hcase'⟩ := h'
  have S0 := S.die hinj hx hal I hd hd'
  obtain ⟨I0, _⟩ := die_any I hd
  obtain ⟨I0', _⟩ := die_any I' hd'
  rcases hcase' with ⟨hw1, rfl⟩ | ⟨hw1, s2, k, cl, cp, ho, rfl⟩
  · have hw1' : e.1 = "trim" := hw1
    rw [hw2] at hw1'
    exact absurd hw1' (by decide)
  · rcases ho with ⟨_, hl', _⟩ | ⟨_, hcs⟩
    · rw [S0.free] at hl'
      omega
    · exact Sim.noStuck2 hw hp hst I0 I0' S0 hcs
theorem aft_sub {e : Str × Str} (hal : ∀ a ∈ al, a ∈ U) (hx : e.2 ∈ U) : ∀ a ∈ aft al e, a ∈ U := fun a ha => by
  unfold aft at ha
  split at ha
  · exact hal a (List.mem_of_mem_erase ha)
  · rcases List.mem_append.mp ha with z | z
    · exact hal a (List.mem_of_mem_erase z)
    · rw [List.mem_singleton.mp z]
      exact hx
theorem Sim.plays (hw : ∀ r ∈ rows, r.2 ∈ wordsL) (hp : 0 < p) (hinj : ∀ a ∈ U, ∀ d ∈ U, π a = π d → a = d) : ∀ {es : List (Str × Str)} {al al' : List Str} {s s' s1 s1' : Pl}, (∀ a ∈ al, a ∈ U) → (∀ e ∈ es, e.2 ∈ U) → PInv b p s al → PInv b p s' al' → Sim π U c s s' → PlaysToG p rows s es s1 → PlaysToG p rows s' (es.map (ren π)) s1' →
    Sim π U c s1 s1' ∧ (∃ a, PInv b p s1 a ∧ ∀ x ∈ a, x ∈ U) ∧ ∃ a, PInv b p s1' a
  | [], al, al', s, s', s1, s1', hal, _, I, I', S, h, h' => by
    have e1 : s1 = s := h
    have e2 : s1' = s' := h'
    rw [e1, e2]
    exact ⟨S, ⟨al, I, hal⟩, al', I'⟩
  | e :: es, al, al', s, s', s1, s1', hal, hes, I, I', S, ⟨s2, hr, hp1⟩, ⟨s2', hr', hp1'⟩ => by
    have hx := hes e (List.mem_cons_self ..)
    have S2 := S.evt hw hp hinj hal hx I I' hr hr'
    obtain ⟨I2, _⟩ := evt_to hp I hr
    obtain ⟨I2', _⟩ := evt_to (e := ren π e) hp I' hr'
    exact Sim.plays hw hp hinj (es := es) (aft_sub hal hx) (fun d hd => hes d (List.mem_cons_of_mem _ hd)) I2 I2' S2 hp1 hp1'
theorem Sim.cleans_ex (hp : 0 < p) {seen : List (List Int)} {s s1 : Pl} {k : Nat} {cl : List Nat} {cp : Int} (h : Cleans p rows seen s s1 k cl cp) : ∀ {s' : Pl}, PInv b p s al → PInv b p s' al' → Sim π U c s s' → ∃ s1', Cleans p rows seen s' s1' k cl cp := by
  induction h with
  | stop hf => exact fun {s'} I I' S => ⟨s', .stop (by rw [S.fil]; exact hf)⟩
  | @step seen s s2 i j f k cl cp hf hfe hi hn hpk hrest ih =>
    intro s' I I' S
    have hf' : s'.fil = none := by rw [S.fil]; exact hf
    have hfe' : s'.free = [f] := by rw [S.free]; exact hfe
    have hi' : s'.clo[i]? = some j := by rw [S.clo]; exact hi
    obtain ⟨T, hfk, hfb, hkb⟩ := I.cln hp ⟨f, hfe⟩ hf hfe hi
    obtain ⟨T', _, _, _⟩ := I'.cln hp ⟨f, hfe'⟩ hf' hfe' hi'
    obtain ⟨s1', h1⟩ := ih (I.clean hp hf hfe hi hfk hfb hkb T) (I'.clean hp hf' hfe' hi' hfk hfb hkb T') (S.clean hp I I' hf hfe hi)
    refine ⟨s1', ?_⟩
    have z := Cleans.step (p := p) (rows := rows) (seen := seen) hf' hfe' hi' (by rw [S.cnt]; exact hn) (by rw [S.cnt]; exact hpk) (by rw [S.cnt]; exact h1)
    rw [S.liv] at z
    exact z
theorem dead_ex {s : Pl} (I : PInv b p s al) (x : Str) : ∃ s0, DeadR s s0 x := by
  by_cases hx : x ∈ al
  · obtain ⟨h, j, _, L⟩ := I.at_ hx
    exact ⟨_, .inr ⟨h, j, L, rfl⟩⟩
  · exact ⟨s, .inl ⟨I.no x hx, rfl⟩⟩
theorem Sim.evt_ex (hp : 0 < p) (hinj : ∀ a ∈ U, ∀ d ∈ U, π a = π d → a = d) (hal : ∀ a ∈ al, a ∈ U) {s s1 s' : Pl} {e : Str × Str} (hx : e.2 ∈ U) (I : PInv b p s al) (I' : PInv b p s' al') (S : Sim π U c s s') (h : EvtRG p rows s s1 e.1 e.2) : ∃ s1', EvtRG p rows s' s1' (ren π e).1 (ren π e).2 := by
  obtain ⟨s0, hd, hcase⟩ := h
  obtain ⟨s0', hd'⟩ := dead_ex I' (π e.2)
  have S0 := S.die hinj hx hal I hd hd'
  obtain ⟨I0, _⟩ := die_any I hd
  obtain ⟨I0', _⟩ := die_any I' hd'
  rcases hcase with ⟨hw1, rfl⟩ | ⟨hw1, s2, k, cl, cp, ho, rfl⟩
  · exact ⟨_, s0', hd', .inl ⟨hw1, rfl⟩⟩
  · rcases ho with ⟨hf, hl, h0, rfl, rfl, rfl⟩ | ⟨hfr, hcs⟩
    · exact ⟨_, s0', hd', .inr ⟨hw1, _, k, [], 0, .inl ⟨by rw [S0.fil]; exact hf, by rw [S0.free]; exact hl, by rw [S0.free]; exact h0, rfl, rfl, rfl⟩, rfl⟩⟩
    · obtain ⟨s2', h2⟩ := Sim.cleans_ex hp hcs I0 I0' S0
      exact ⟨_, s0', hd', .inr ⟨hw1, s2', k, cl, cp, .inr ⟨fun z => by rw [S0.free]; exact hfr (by rw [← S0.fil]; exact z), h2⟩, rfl⟩⟩
theorem Sim.plays_ex (hw : ∀ r ∈ rows, r.2 ∈ wordsL) (hp : 0 < p) (hinj : ∀ a ∈ U, ∀ d ∈ U, π a = π d → a = d) : ∀ {es : List (Str × Str)} {al al' : List Str} {s s' s1 : Pl}, (∀ a ∈ al, a ∈ U) → (∀ e ∈ es, e.2 ∈ U) → PInv b p s al → PInv b p s' al' → Sim π U c s s' → PlaysToG p rows s es s1 → ∃ s1', PlaysToG p rows s' (es.map (ren π)) s1'
  | [], al, al', s, s', s1, hal, _, I, I', S, h => ⟨s', rfl⟩
  | e :: es, al, al', s, s', s1, hal, hes, I, I', S, ⟨s2, hr, hp1⟩ => by
    have hx := hes e (List.mem_cons_self ..)
    obtain ⟨s2', hr'⟩ := S.evt_ex hp hinj hal hx I I' hr
    have S2 := S.evt hw hp hinj hal hx I I' hr hr'
    obtain ⟨I2, _⟩ := evt_to hp I hr
    obtain ⟨I2', _⟩ := evt_to (e := ren π e) hp I' hr'
    obtain ⟨s3', h3⟩ := Sim.plays_ex hw hp hinj (es := es) (aft_sub hal hx) (fun d hd => hes d (List.mem_cons_of_mem _ hd)) I2 I2' S2 hp1
    exact ⟨s3', s2', hr', h3⟩
end
end K6

set_option Elab.async false
set_option linter.all false
set_option maxRecDepth 100000
set_option maxHeartbeats 4000000
/-! loads that differ in names -/
namespace K6
open PySem PySem.Spec PyProof.Rows L2 G1 G2 K2 G5 LamX
section
variable {b p n : Nat} {rows : List RowD} {π : Str → Str} {U : List Str}
theorem erase_map (hinj : ∀ a ∈ U, ∀ d ∈ U, π a = π d → a = d) {x : Str} (hx : x ∈ U) : ∀ {al : List Str}, (∀ a ∈ al, a ∈ U) → (al.map π).erase (π x) = (al.erase x).map π
  | [], _ => rfl
  | a :: al, h => by
    have ha := h a (List.mem_cons_self ..)
    have ih := erase_map hinj hx (al := al) fun d hd => h d (List.mem_cons_of_mem _ hd)
    rw [List.map_cons, List.erase_cons, List.erase_cons]
    by_cases e : a = x
    · subst e
      rw [if_pos (beq_self_eq_true _), if_pos (beq_self_eq_true _)]
    · rw [if_neg (by simpa using fun z => e (hinj a ha x hx z)), if_neg (by simpa using e), ih]
      rfl
theorem aft_map (hinj : ∀ a ∈ U, ∀ d ∈ U, π a = π d → a = d) {al : List Str} {e : Str × Str} (hal : ∀ a ∈ al, a ∈ U) (hx : e.2 ∈ U) : aft (al.map π) (ren π e) = (aft al e).map π := by
  unfold aft ren
  split
  · exact erase_map hinj hx hal
  · rw [List.map_append]
    show (al.map π).erase (π e.2) ++ _ = _
    rw [erase_map hinj hx hal]
    rfl
theorem lets_map (hinj : ∀ a ∈ U, ∀ d ∈ U, π a = π d → a = d) (hnm : ∀ x ∈ U, NameOk (π x)) : ∀ {es : List (Str × Str)} {al : List Str}, (∀ a ∈ al, a ∈ U) → (∀ e ∈ es, e.2 ∈ U) → Lets n al es → Lets n (al.map π) (es.map (ren π))
  | [], _, _, _, _ => trivial
  | e :: es, al, hal, hes, ⟨h1, h2⟩ => by
    have hx := hes e (List.mem_cons_self ..)
    refine ⟨⟨hnm _ hx, ?_⟩, ?_⟩
    · rcases h1.ok with ⟨hw, z | z⟩ | ⟨hw, z⟩
      · exact .inl ⟨hw, .inl (List.mem_map_of_mem z)⟩
      · exact .inl ⟨hw, .inr (by rw [List.length_map]; exact z)⟩
      · exact .inr ⟨hw, List.mem_map_of_mem z⟩
    · show Lets n (aft (al.map π) (ren π e)) (es.map (ren π))
      rw [aft_map hinj hal hx]
      exact lets_map hinj hnm (aft_sub hal hx) (fun d hd => hes d (List.mem_cons_of_mem _ hd)) h2
theorem lets_perm : ∀ {es : List (Str × Str)} {al al' : List Str}, al.Perm al' → Lets n al es → Lets n al' es
  | [], _, _, _, _ => trivial
  | e :: es, al, al', h, ⟨h1, h2⟩ => ⟨h1.perm h.symm, lets_perm (perm_aft h e) h2⟩
theorem lets_cutS : ∀ {es es2 : List (Str × Str)} {al : List Str}, Lets n al (es ++ es2) → Lets n al es ∧ Lets n (es.foldl aft al) es2
  | [], _, _, h => ⟨trivial, h⟩
  | e :: es, _, _, ⟨h1, h2⟩ => ⟨⟨h1, (lets_cutS (es := es) h2).1⟩, (lets_cutS (es := es) h2).2⟩
/-- what is known of a drive and a load that may stick -/
structure PureS (b p n : Nat) (rows : List RowD) (es : List (Str × Str)) : Prop where
  D : Dims b p
  b6 : b ≤ 6
  wd : ∀ r ∈ rows, r.2 ∈ wordsL
  hn : n ≤ p * (b - 1)
  lets : Lets n [] es
  few : es.length ≤ 100
theorem PureS.all {es : List (Str × Str)} (h : PureS b p n rows es) : LoadOkS p n rows true (newP b) es ∧ ∀ s', PlaysToG p rows (newP b) es s' → PInv b p s' (es.foldl aft []) ∧ s'.told.length = es.length ∧ ∀ t ∈ s'.told, StepS b t := by
  have z := load_allS (rows := rows) h.D h.b6 h.hn es (newP b) [] (pinv_new (by have := h.D.b2; omega) h.D.p0) (Nat.zero_le _) h.lets (by have := h.few; show 0 + es.length ≤ 10000; omega)
  refine ⟨z.1, fun s' hs => ?_⟩
  obtain ⟨a, ts, e1, e2, e3⟩ := z.2 s' hs
  have e4 : s'.told = ts := by rw [e1]; rfl
  rw [e4]
  exact ⟨a, e2, e3⟩
theorem PureS.ok {es : List (Str × Str)} (h : PureS b p n rows es) {s' : Pl} (hs : PlaysToG p rows (newP b) es s') : LoadOkG p n rows (newP b) es := load_noS h.wd h.all.1 hs
theorem PureS.take {es : List (Str × Str)} (h : PureS b p n rows es) (m : Nat) : PureS b p n rows (es.take m) := by
  refine ⟨h.D, h.b6, h.wd, h.hn, ?_, ?_⟩
  · have z := h.lets
    rw [← List.take_append_drop m es] at z
    exact (lets_cutS z).1
  · have := h.few
    rw [List.length_take]
    omega
theorem al_lenS {n : Nat} : ∀ (es : List (Str × Str)) (al : List Str), al.length ≤ n → Lets n al es → (es.foldl aft al).length ≤ n
  | [], al, h, _ => h
  | e :: es, al, h, ⟨h1, h2⟩ => al_lenS es (aft al e) (aft_len h1 h) h2
theorem PureS.fit {es : List (Str × Str)} (h : PureS b p n rows es) {s' : Pl} (hs : PlaysToG p rows (newP b) es s') : s'.cont.length ≤ 10 ∧ ∀ c ∈ s'.cont, c.length ≤ 10 := by
  obtain ⟨I, _⟩ := h.all.2 s' hs
  have hl := al_lenS (n := n) es [] (Nat.zero_le _) h.lets
  have h90 : p * (b - 1) ≤ 10 * 9 := Nat.mul_le_mul h.D.p10 (by have := h.D.b10; omega)
  have hn := h.hn
  have F := I.fit2 h.D.b10 h.D.p10 (by omega)
  exact ⟨by rw [I.cl]; exact h.D.b10, F.cont⟩
theorem plays_take {es : List (Str × Str)} {s s' : Pl} (h : PlaysToG p rows s es s') (m : Nat) : ∃ s1, PlaysToG p rows s (es.take m) s1 ∧ PlaysToG p rows s1 (es.drop m) s' := by
  rw [← List.take_append_drop m es] at h
  exact plays_app h
/-- one event more -/
theorem plays_one {es : List (Str × Str)} {s s' : Pl} {i : Nat} {e : Str × Str} (he : es[i]? = some e) (h : PlaysToG p rows s (es.take (i + 1)) s') : ∃ s1, PlaysToG p rows s (es.take i) s1 ∧ EvtRG p rows s1 s' e.1 e.2 := by
  rw [List.take_add_one, he] at h
  obtain ⟨s1, h1, s2, h2, h3⟩ := plays_app h
  have e3 : s' = s2 := h3
  rw [e3]
  exact ⟨s1, h1, h2⟩
/-- two loads that are played alike but for names -/
structure Twin (b p : Nat) (rows : List RowD) (es es' : List (Str × Str)) : Prop where
  len : es'.length = es.length
  sim : ∀ (i : Nat) (s s' : Pl), PlaysToG p rows (newP b) (es.take i) s → PlaysToG p rows (newP b) (es'.take i) s' → s'.told = s.told ∧ cntP s' = cntP s ∧ opnL s' = opnL s
  ns : ∀ (i : Nat) (e e' : Str × Str) (s s' s1 s1' : Pl), es[i]? = some e → es'[i]? = some e' → PlaysToG p rows (newP b) (es.take i) s → PlaysToG p rows (newP b) (es'.take i) s' → EvtRG p rows s s1 e.1 e.2 → EvtStuck p rows s' s1' e'.1 e'.2 → False
  ns2 : ∀ (i : Nat) (e e' : Str × Str) (s s' s1 s1' : Pl), es[i]? = some e → es'[i]? = some e' → PlaysToG p rows (newP b) (es.take i) s → PlaysToG p rows (newP b) (es'.take i) s' → EvtStuck p rows s s1 e.1 e.2 → EvtRG p rows s' s1' e'.1 e'.2 → False
theorem plays_join : ∀ {es es2 : List (Str × Str)} {s s1 s2 : Pl}, PlaysToG p rows s es s1 → PlaysToG p rows s1 es2 s2 → PlaysToG p rows s (es ++ es2) s2
  | [], _, s, s1, s2, h, h2 => by
    have e : s1 = s := h
    rw [e] at h2
    exact h2
  | e :: es, es2, s, s1, s2, ⟨a, ha, h⟩, h2 => ⟨a, ha, plays_join (es := es) h h2⟩
theorem Sim.opnl {c : Bool} {s s' : Pl} (S : Sim π U c s s') : opnL s' = opnL s := by
  unfold opnL
  rw [S.fil]
  cases s.fil with
  | none => rfl
  | some k =>
    dsimp only
    rw [S.len k, S.liv]
/-- both are played, or both stick at one place -/
theorem Twin.stuck {es es' : List (Str × Str)} (T : Twin b p rows es es') (hw : ∀ r ∈ rows, r.2 ∈ wordsL) {i i' : Nat} {e e' : Str × Str} {s s1 s' s1' : Pl} (he : es[i]? = some e) (h : PlaysToG p rows (newP b) (es.take i) s) (hst : EvtStuck p rows s s1 e.1 e.2) (he' : es'[i']? = some e') (h' : PlaysToG p rows (newP b) (es'.take i') s') (hst' : EvtStuck p rows s' s1' e'.1 e'.2) : i = i' := by
  have hlt := (List.getElem?_eq_some_iff.mp he).1
  have hlt' := (List.getElem?_eq_some_iff.mp he').1
  rcases Nat.lt_trichotomy i i' with z | z | z
  · exfalso
    have hd : i < es'.length := by omega
    obtain ⟨s2, h2, _⟩ := plays_take h' (i + 1)
    rw [List.take_take, Nat.min_eq_left (by omega)] at h2
    obtain ⟨s3, h3, hr⟩ := plays_one (List.getElem?_eq_getElem hd) h2
    exact T.ns2 i e _ s s3 s1 s2 he (List.getElem?_eq_getElem hd) h h3 hst hr
  · exact z
  · exfalso
    have hd : i' < es.length := by rw [← T.len]; exact hlt'
    obtain ⟨s2, h2, _⟩ := plays_take h (i' + 1)
    rw [List.take_take, Nat.min_eq_left (by omega)] at h2
    obtain ⟨s3, h3, hr⟩ := plays_one (List.getElem?_eq_getElem hd) h2
    exact T.ns i' _ e' s3 s' s2 s1' (List.getElem?_eq_getElem hd) he' h3 h' hr hst'
theorem Twin.okStuck {es es' : List (Str × Str)} (T : Twin b p rows es es') {i' : Nat} {e' : Str × Str} {s s' s1' : Pl} (h : PlaysToG p rows (newP b) es s) (he' : es'[i']? = some e') (h' : PlaysToG p rows (newP b) (es'.take i') s') (hst' : EvtStuck p rows s' s1' e'.1 e'.2) : False := by
  have hlt' := (List.getElem?_eq_some_iff.mp he').1
  have hd : i' < es.length := by rw [← T.len]; exact hlt'
  obtain ⟨s2, h2, _⟩ := plays_take h (i' + 1)
  obtain ⟨s3, h3, hr⟩ := plays_one (List.getElem?_eq_getElem hd) h2
  exact T.ns i' _ e' s3 s' s2 s1' (List.getElem?_eq_getElem hd) he' h3 h' hr hst'
theorem Twin.stuckOk {es es' : List (Str × Str)} (T : Twin b p rows es es') {i : Nat} {e : Str × Str} {s s1 s' : Pl} (he : es[i]? = some e) (h : PlaysToG p rows (newP b) (es.take i) s) (hst : EvtStuck p rows s s1 e.1 e.2) (h' : PlaysToG p rows (newP b) es' s') : False := by
  have hlt := (List.getElem?_eq_some_iff.mp he).1
  have hd : i < es'.length := by rw [T.len]; exact hlt
  obtain ⟨s2, h2, _⟩ := plays_take h' (i + 1)
  obtain ⟨s3, h3, hr⟩ := plays_one (List.getElem?_eq_getElem hd) h2
  exact T.ns2 i e _ s s3 s1 s2 he (List.getElem?_eq_getElem hd) h h3 hst hr
theorem Twin.end_ {es es' : List (Str × Str)} (T : Twin b p rows es es') {s s' : Pl} (h : PlaysToG p rows (newP b) es s) (h' : PlaysToG p rows (newP b) es' s') : s'.told = s.told ∧ cntP s' = cntP s ∧ opnL s' = opnL s := by
  refine T.sim es.length s s' ?_ ?_
  · rw [List.take_length]; exact h
  · rw [← T.len, List.take_length]; exact h'
/-! ### other names -/
theorem sim_new (π : Str → Str) (U : List Str) (b : Nat) : Sim π U true (newP b) (newP b) := by
  refine ⟨rfl, rfl, rfl, rfl, rfl, fun _ => rfl, fun _ _ => rfl, fun _ => ?_⟩
  show List.replicate b ([] : Cb) = (List.replicate b ([] : Cb)).map _
  rw [List.map_replicate]
  rfl
theorem take_map {α β : Type} (f : α → β) (l : List α) (i : Nat) : (l.map f).take i = (l.take i).map f := by rw [List.map_take]
theorem sim_ren (hw : ∀ r ∈ rows, r.2 ∈ wordsL) (D : Dims b p) (hinj : ∀ a ∈ U, ∀ d ∈ U, π a = π d → a = d) {es : List (Str × Str)} (hes : ∀ e ∈ es, e.2 ∈ U) {s s' : Pl} (h : PlaysToG p rows (newP b) es s) (h' : PlaysToG p rows (newP b) (es.map (ren π)) s') : Sim π U true s s' ∧ (∃ a, PInv b p s a ∧ ∀ x ∈ a, x ∈ U) ∧ ∃ a, PInv b p s' a := by
  have I := pinv_new (b := b) (p := p) (by have := D.b2; omega) D.p0
  exact Sim.plays (al := []) (al' := []) hw D.p0 hinj (fun a z => nomatch z) hes I I (sim_new π U b) h h'
theorem twin_ren (hw : ∀ r ∈ rows, r.2 ∈ wordsL) (D : Dims b p) (hinj : ∀ a ∈ U, ∀ d ∈ U, π a = π d → a = d) {es : List (Str × Str)} (hes : ∀ e ∈ es, e.2 ∈ U) : Twin b p rows es (es.map (ren π)) := by
  have ht : ∀ i, ∀ e ∈ es.take i, e.2 ∈ U := fun i e he => hes e (List.mem_of_mem_take he)
  refine ⟨List.length_map .., fun i s s' h h' => ?_, fun i e e' s s' s1 s1' he he' h h' hr hs => ?_, fun i e e' s s' s1 s1' he he' h h' hs hr => ?_⟩
  · rw [take_map] at h'
    obtain ⟨S, _, _⟩ := sim_ren hw D hinj (ht i) h h'
    exact ⟨S.told, S.cnt, S.opnl⟩
  · rw [take_map] at h'
    obtain ⟨S, ⟨a, I, ha⟩, a', I'⟩ := sim_ren hw D hinj (ht i) h h'
    rw [List.getElem?_map, he] at he'
    cases he'
    exact S.evtS hw D.p0 hinj ha (hes e (List.mem_of_getElem? he)) I I' hr hs
  · rw [take_map] at h'
    obtain ⟨S, ⟨a, I, ha⟩, a', I'⟩ := sim_ren hw D hinj (ht i) h h'
    rw [List.getElem?_map, he] at he'
    cases he'
    exact S.evtS2 hw D.p0 hinj ha (hes e (List.mem_of_getElem? he)) I I' hs hr
theorem PureS.ren {es : List (Str × Str)} (h : PureS b p n rows es) (hinj : ∀ a ∈ U, ∀ d ∈ U, π a = π d → a = d) (hnm : ∀ x ∈ U, NameOk (π x)) (hes : ∀ e ∈ es, e.2 ∈ U) : PureS b p n rows (es.map (K6.ren π)) :=
  ⟨h.D, h.b6, h.wd, h.hn, lets_map (al := []) hinj hnm (fun a z => nomatch z) hes h.lets, by rw [List.length_map]; exact h.few⟩
/-- the blocks with other names -/
theorem Sim.blocks {s s' : Pl} (S : Sim π U true s s') (i : Nat) : bloM s' i = ((bloM s i).1, (bloM s i).2.map π) := by
  unfold bloM
  rw [S.free, S.clo, S.cm rfl, getD_mapc, kept_map]
/-! ### two names exchanged -/
def swp (x y : Str) (t : Str) : Str := if t = x ∨ t = y then (if t = y then x else y) else t
theorem swp_swp (x y t : Str) : swp x y (swp x y t) = t := by
  unfold swp
  by_cases e1 : t = x
  · by_cases e2 : t = y
    · subst e1
      simp [e2]
    · subst e1
      simp [e2]
  · by_cases e2 : t = y
    · subst e2
      simp [e1]
    · simp [e1, e2]
theorem swp_inj (x y : Str) {a d : Str} (h : swp x y a = swp x y d) : a = d := by
  have z := congrArg (swp x y) h
  rw [swp_swp, swp_swp] at z
  exact z
theorem swp_mem {x y : Str} {al : List Str} (hx : x ∈ al) (hy : y ∈ al) {t : Str} (h : t ∈ al) : swp x y t ∈ al := by
  unfold swp
  split
  · split
    · exact hx
    · exact hy
  · exact h
theorem swp_perm {x y : Str} {al : List Str} (hx : x ∈ al) (hy : y ∈ al) (hn : al.Nodup) : (al.map (swp x y)).Perm al := by
  refine (List.perm_ext_iff_of_nodup ?_ hn).mpr fun a => ?_
  · unfold List.Nodup
    rw [List.pairwise_map]
    exact List.Pairwise.imp (fun hne e => hne (swp_inj x y e)) hn
  · constructor
    · intro h
      obtain ⟨t, ht, rfl⟩ := List.mem_map.mp h
      exact swp_mem hx hy ht
    · intro h
      exact List.mem_map.mpr ⟨swp x y a, swp_mem hx hy h, swp_swp x y a⟩
/-- the load with the two exchanged from a place on -/
def swL (x y : Str) (m : Nat) (es : List (Str × Str)) : List (Str × Str) := es.take m ++ (es.drop m).map (K6.ren (swp x y))
theorem swL_len (x y : Str) (m : Nat) (es : List (Str × Str)) : (swL x y m es).length = es.length := by
  unfold swL
  rw [List.length_append, List.length_map, ← List.length_append, List.take_append_drop]
theorem swL_take {x y : Str} {m i : Nat} {es : List (Str × Str)} (hm : m ≤ es.length) (h : i ≤ m) : (swL x y m es).take i = es.take i := by
  unfold swL
  rw [List.take_append_of_le_length (by rw [List.length_take]; omega), List.take_take, Nat.min_eq_left h]
theorem swL_get {x y : Str} {m i : Nat} {es : List (Str × Str)} (hm : m ≤ es.length) (h : i < m) : (swL x y m es)[i]? = es[i]? := by
  unfold swL
  rw [List.getElem?_append_left (by rw [List.length_take]; omega), List.getElem?_take_of_lt h]
theorem swL_take2 {x y : Str} {m i : Nat} {es : List (Str × Str)} (hm : m ≤ es.length) (h : m ≤ i) : (swL x y m es).take i = es.take m ++ ((es.take i).drop m).map (K6.ren (swp x y)) := by
  unfold swL
  have e : (es.take m).length = m := by rw [List.length_take]; omega
  rw [List.take_append, List.take_of_length_le (by omega), e, ← List.map_take, List.drop_take]
theorem swL_get2 {x y : Str} {m i : Nat} {es : List (Str × Str)} (hm : m ≤ es.length) (h : m ≤ i) : (swL x y m es)[i]? = (es[i]?).map (K6.ren (swp x y)) := by
  unfold swL
  have e : (es.take m).length = m := by rw [List.length_take]; omega
  rw [List.getElem?_append_right (by omega), e, List.getElem?_map, List.getElem?_drop, show m + (i - m) = i by omega]
theorem PureS.swL {es : List (Str × Str)} (h : PureS b p n rows es) {m : Nat} {x y : Str} {s : Pl} (hs : PlaysToG p rows (newP b) (es.take m) s) {k : Nat} (hk : k < b) (hx : x ∈ keptN (s.cont.getD k [])) (hy : y ∈ keptN (s.cont.getD k [])) (hnm : ∀ e ∈ es, NameOk e.2) (hnx : NameOk x) (hny : NameOk y) : PureS b p n rows (K6.swL x y m es) := by
  obtain ⟨I, _⟩ := (h.take m).all.2 s hs
  have kl : k < s.cont.length := by rw [I.cl]; exact hk
  have hxa := I.names.mem_iff.mp (kept_in kl hx)
  have hya := I.names.mem_iff.mp (kept_in kl hy)
  refine ⟨h.D, h.b6, h.wd, h.hn, ?_, by rw [swL_len]; exact h.few⟩
  have z := h.lets
  rw [← List.take_append_drop m es] at z
  obtain ⟨z1, z2⟩ := lets_cutS z
  refine lets_app z1 ?_
  refine lets_perm (swp_perm hxa hya I.nd) ?_
  refine lets_map (U := (es.take m).foldl aft [] ++ (es.drop m).map (·.2)) (fun a _ d _ e => swp_inj x y e) (fun t ht => ?_) (fun a ha => List.mem_append_left _ ha) (fun e he => List.mem_append_right _ (List.mem_map_of_mem he)) z2
  unfold swp
  split
  · split
    · exact hnx
    · exact hny
  · rcases List.mem_append.mp ht with q | q
    · have : ∀ (es : List (Str × Str)) (al : List Str), (∀ a ∈ al, NameOk a) → (∀ e ∈ es, NameOk e.2) → ∀ a ∈ es.foldl aft al, NameOk a := by
        intro es
        induction es with
        | nil => exact fun al h _ => h
        | cons e es ih =>
          intro al h he
          refine ih _ (fun a ha => ?_) fun d hd => he d (List.mem_cons_of_mem _ hd)
          unfold aft at ha
          split at ha
          · exact h a (List.mem_of_mem_erase ha)
          · rcases List.mem_append.mp ha with z | z
            · exact h a (List.mem_of_mem_erase z)
            · rw [List.mem_singleton.mp z]
              exact he e (List.mem_cons_self ..)
      exact this _ [] (fun a z => nomatch z) (fun e he => hnm e (List.mem_of_mem_take he)) t q
    · obtain ⟨e, he, rfl⟩ := List.mem_map.mp q
      exact hnm e (List.mem_of_mem_drop he)
theorem sim_id (s : Pl) : Sim id [] false s s := ⟨rfl, rfl, rfl, rfl, rfl, fun _ => rfl, fun _ z => (nomatch z), fun z => (nomatch z)⟩
theorem no_both (hw : ∀ r ∈ rows, r.2 ∈ wordsL) (hp : 0 < p) {al : List Str} {s s1 s1' : Pl} {e : Str × Str} (I : PInv b p s al) (h : EvtRG p rows s s1 e.1 e.2) (h' : EvtStuck p rows s s1' e.1 e.2) : False := by
  have S : Sim id (e.2 :: al) false s s := ⟨rfl, rfl, rfl, rfl, rfl, fun _ => rfl, fun _ _ => rfl, fun z => (nomatch z)⟩
  exact S.evtS hw hp (fun a _ d _ z => z) (fun a ha => List.mem_cons_of_mem _ ha) (List.mem_cons_self ..) I I h h'
theorem sim_swp {al : List Str} {s : Pl} (I : PInv b p s al) {k : Nat} (hk : k < b) {x y : Str} (hx : x ∈ keptN (s.cont.getD k [])) (hy : y ∈ keptN (s.cont.getD k [])) (U : List Str) : Sim (swp x y) U false s s := by
  refine ⟨rfl, rfl, rfl, rfl, rfl, fun _ => rfl, fun t _ => ?_, fun z => (nomatch z)⟩
  have h1 := (I.kept_iff hk).mp hx
  have h2 := (I.kept_iff hk).mp hy
  unfold swp
  by_cases e1 : t = y
  · rw [if_pos (.inr e1), if_pos e1, e1, h1, h2]
  · by_cases e2 : t = x
    · rw [if_pos (.inl e2), if_neg e1, e2, h1, h2]
    · rw [if_neg (fun z => z.elim e2 e1)]
theorem twin_swp {es : List (Str × Str)} (h : PureS b p n rows es) {m : Nat} (hm : m ≤ es.length) {x y : Str} {s0 : Pl} (hs : PlaysToG p rows (newP b) (es.take m) s0) {k : Nat} (hk : k < b) (hx : x ∈ keptN (s0.cont.getD k [])) (hy : y ∈ keptN (s0.cont.getD k [])) : Twin b p rows es (swL x y m es) := by
  have hw := h.wd
  have hp := h.D.p0
  obtain ⟨I0, _⟩ := (h.take m).all.2 s0 hs
  -- behind the place
  have key : ∀ (i : Nat), m ≤ i → ∀ (s s' : Pl), PlaysToG p rows (newP b) (es.take i) s → PlaysToG p rows (newP b) ((swL x y m es).take i) s' → ∀ U : List Str, (∀ a ∈ (es.take m).foldl aft [], a ∈ U) → (∀ e ∈ es, e.2 ∈ U) → Sim (swp x y) U false s s' ∧ (∃ a, PInv b p s a ∧ ∀ t ∈ a, t ∈ U) ∧ ∃ a, PInv b p s' a := by
    intro i hi s s' h1 h2 U hU1 hU2
    rw [swL_take2 hm hi] at h2
    obtain ⟨s2, a1, a2⟩ := plays_app h2
    have e1 := plays_uniq hw a1 hs
    subst e1
    obtain ⟨s3, c1, c2⟩ := plays_take h1 m
    rw [List.take_take, Nat.min_eq_left hi] at c1
    have e2 := plays_uniq hw c1 hs
    subst e2
    exact Sim.plays hw hp (fun a _ d _ e => swp_inj x y e) hU1 (fun e he => hU2 e (List.mem_of_mem_take (List.mem_of_mem_drop he))) I0 I0 (sim_swp I0 hk hx hy U) c2 a2
  refine ⟨swL_len .., fun i s s' h1 h2 => ?_, fun i e e' s s' s1 s1' he he' h1 h2 hr hst => ?_, fun i e e' s s' s1 s1' he he' h1 h2 hst hr => ?_⟩
  · by_cases hi : i ≤ m
    · rw [swL_take hm hi] at h2
      have e := plays_uniq hw h1 h2
      subst e
      exact ⟨rfl, rfl, rfl⟩
    · obtain ⟨S, _, _⟩ := key i (by omega) s s' h1 h2 ((es.take m).foldl aft [] ++ es.map (·.2)) (fun a ha => List.mem_append_left _ ha) (fun e he => List.mem_append_right _ (List.mem_map_of_mem he))
      exact ⟨S.told, S.cnt, S.opnl⟩
  · by_cases hi : i < m
    · rw [swL_take hm (by omega)] at h2
      have e1 := plays_uniq hw h1 h2
      subst e1
      rw [swL_get hm hi, he] at he'
      cases he'
      obtain ⟨I, _⟩ := (h.take i).all.2 s h1
      exact no_both hw hp I hr hst
    · obtain ⟨S, ⟨a, I, ha⟩, a', I'⟩ := key i (by omega) s s' h1 h2 ((es.take m).foldl aft [] ++ es.map (·.2)) (fun a ha => List.mem_append_left _ ha) (fun e he => List.mem_append_right _ (List.mem_map_of_mem he))
      rw [swL_get2 hm (by omega), he] at he'
      cases he'
      exact S.evtS hw hp (fun a _ d _ e => swp_inj x y e) ha (List.mem_append_right _ (List.mem_map_of_mem (List.mem_of_getElem? he))) I I' hr hst
  · by_cases hi : i < m
    · rw [swL_take hm (by omega)] at h2
      have e1 := plays_uniq hw h1 h2
      subst e1
      rw [swL_get hm hi, he] at he'
      cases he'
      obtain ⟨I, _⟩ := (h.take i).all.2 s h1
      exact no_both hw hp I hr hst
    · obtain ⟨S, ⟨a, I, ha⟩, a', I'⟩ := key i (by omega) s s' h1 h2 ((es.take m).foldl aft [] ++ es.map (·.2)) (fun a ha => List.mem_append_left _ ha) (fun e he => List.mem_append_right _ (List.mem_map_of_mem he))
      rw [swL_get2 hm (by omega), he] at he'
      cases he'
      exact S.evtS2 hw hp (fun a _ d _ e => swp_inj x y e) ha (List.mem_append_right _ (List.mem_map_of_mem (List.mem_of_getElem? he))) I I' hst hr
theorem ren_ex (hw : ∀ r ∈ rows, r.2 ∈ wordsL) (D : Dims b p) (hinj : ∀ a ∈ U, ∀ d ∈ U, π a = π d → a = d) {es : List (Str × Str)} (hes : ∀ e ∈ es, e.2 ∈ U) {s : Pl} (h : PlaysToG p rows (newP b) es s) : ∃ s', PlaysToG p rows (newP b) (es.map (ren π)) s' := by
  have I := pinv_new (b := b) (p := p) (by have := D.b2; omega) D.p0
  exact Sim.plays_ex (al := []) (al' := []) hw D.p0 hinj (fun a z => nomatch z) hes I I (sim_new π U b) h
theorem swp_ex {es : List (Str × Str)} (h : PureS b p n rows es) {m : Nat} {x y : Str} {s0 : Pl} (hs : PlaysToG p rows (newP b) (es.take m) s0) {k : Nat} (hk : k < b) (hx : x ∈ keptN (s0.cont.getD k [])) (hy : y ∈ keptN (s0.cont.getD k [])) {s : Pl} (hp : PlaysToG p rows (newP b) es s) : ∃ s', PlaysToG p rows (newP b) (swL x y m es) s' := by
  obtain ⟨I0, _⟩ := (h.take m).all.2 s0 hs
  obtain ⟨s3, c1, c2⟩ := plays_take hp m
  have e2 := plays_uniq h.wd c1 hs
  subst e2
  obtain ⟨s', h'⟩ := Sim.plays_ex (U := (es.take m).foldl aft [] ++ es.map (·.2)) h.wd h.D.p0 (fun a _ d _ e => swp_inj x y e) (fun a ha => List.mem_append_left _ ha) (fun e he => List.mem_append_right _ (List.mem_map_of_mem (List.mem_of_mem_drop he))) I0 I0 (sim_swp I0 hk hx hy _) c2
  exact ⟨s', plays_join hs h'⟩
/-- a twin cut off -/
theorem Twin.take {es es' : List (Str × Str)} (T : Twin b p rows es es') (m : Nat) : Twin b p rows (es.take m) (es'.take m) := by
  have tt : ∀ (l : List (Str × Str)) (i : Nat), (l.take m).take i = l.take (min i m) := fun l i => by rw [List.take_take]
  have gg : ∀ {l : List (Str × Str)} {i : Nat} {e : Str × Str}, (l.take m)[i]? = some e → i < m ∧ l[i]? = some e := fun {l i e} h => by
    by_cases q : i < m
    · rw [List.getElem?_take_of_lt q] at h
      exact ⟨q, h⟩
    · rw [List.getElem?_take_eq_none (by omega)] at h
      cases h
  refine ⟨by rw [List.length_take, List.length_take, T.len], fun i s s' h h' => ?_, fun i e e' s s' s1 s1' he he' h h' => ?_, fun i e e' s s' s1 s1' he he' h h' => ?_⟩
  · rw [tt] at h h'
    exact T.sim _ s s' h h'
  · obtain ⟨q, he⟩ := gg he
    obtain ⟨_, he'⟩ := gg he'
    rw [tt, Nat.min_eq_left (by omega)] at h h'
    exact T.ns i e e' s s' s1 s1' he he' h h'
  · obtain ⟨q, he⟩ := gg he
    obtain ⟨_, he'⟩ := gg he'
    rw [tt, Nat.min_eq_left (by omega)] at h h'
    exact T.ns2 i e e' s s' s1 s1' he he' h h'
end
end K6

set_option Elab.async false
set_option linter.all false
set_option maxRecDepth 100000
set_option maxHeartbeats 4000000
/-! steps and stand, where a write may stick -/
namespace K6
open PySem PySem.Spec PyProof.Rows L2 G1 G2 K2 G5 LamX K3
/-- a call with a load whose writes may stick -/
structure CalX (K : PySem.W.Frag) (T : List (Addr × Str)) (CL : Addr) (H : Hp) (ld : Addr) (eas : List Addr) (es : List (Str × Str)) (b p n : Nat) (rows : List RowD) (E : XK) : Prop where
  ld : SqT K H ld (eas.map V.ref)
  ev : Paired (fun (a : Addr) (e : Str × Str) => SqT K H a [.str e.1, .str e.2]) eas es
  b10 : b ≤ 10
  wd : ∀ r ∈ rows, r.2 ∈ wordsL
  ok : LoadOkS p n rows true (newP b) es
  few : es.length ≤ 2000
  tb : Tabs T H
  qs : ∀ (H' : Hp) (i : Nat) (e : Str × Str) (s1 s2 : Pl), es[i]? = some e → PlaysToG p rows (newP b) (es.take i) s1 → EvtStuck p rows s1 s2 e.1 e.2 → ExtN H H' → Tabs T H' → Rsd CL "index" (.int (i : Int)) H' E
def spStpX (K : PySem.W.Frag) (T : List (Addr × Str)) (CD C CL : Addr) : SpG := fun vs H Q E => ∃ (dr ld : Addr) (eas : List Addr) (es : List (Str × Str)) (b p n : Nat) (ini : List RowD) (y : Str), vs = [.ref dr, .ref ld] ∧ DrvAt K CD H dr b p n ini y ∧ CalX K T CL H ld eas es b p n (ini ++ [((p : Int), y)]) E ∧
  (∀ s', PlaysToG p (ini ++ [((p : Int), y)]) (newP b) es s' → s'.told.length ≤ 10000) ∧
  ∀ (H' : Hp) (rs : List Addr) (s' : Pl), PlaysToG p (ini ++ [((p : Int), y)]) (newP b) es s' → Paired (TldAt H') rs s'.told → ExtN H H' → Tabs T H' → Q (rs.map V.ref) H'
def spStdX (K : PySem.W.Frag) (T : List (Addr × Str)) (CD C CL : Addr) : Sp := fun vs H Q E => ∃ (dr ld : Addr) (eas : List Addr) (es : List (Str × Str)) (b p n : Nat) (ini : List RowD) (y : Str), vs = [.ref dr, .ref ld] ∧ DrvAt K CD H dr b p n ini y ∧ CalX K T CL H ld eas es b p n (ini ++ [((p : Int), y)]) E ∧
  (∀ s', PlaysToG p (ini ++ [((p : Int), y)]) (newP b) es s' → StdOk s') ∧
  ∀ (H' : Hp) (q : Addr) (s' : Pl), PlaysToG p (ini ++ [((p : Int), y)]) (newP b) es s' → StdAt H' q s' → ExtN H H' → Tabs T H' → Q (.ref q) H'
section
variable {P : Program} {w : World} {K : PySem.W.Frag} {mg : Str → Option Value} {base : Heap} {CD C CL : Addr}
theorem CalX.lod {T : List (Addr × Str)} {H : Hp} {dr ld : Addr} {eas : List Addr} {es : List (Str × Str)} {b p n : Nat} {rows : List RowD} {E : XK} {Q : VK} (h : CalX K T CL H ld eas es b p n rows E) (q : ∀ (H' : Hp) (x : Addr) (s' : Pl) (A : PAd), PlaysToG p rows (newP b) es s' → PlayAt C H' x s' A → A.dr = dr → H x = none → ExtN H H' → Tabs T H' → Q (.ref x) H') :
    LodX K T true CD C CL H dr ld eas es [] b p n rows Q E :=
  ⟨by rw [List.append_nil]; exact h.ld, h.ev, fun v r z => (by cases z), h.b10, h.wd, h.ok, by have := h.few; show es.length + 0 ≤ 2000; omega, h.tb, fun _ => q, fun z => absurd rfl z, fun _ => h.qs⟩
theorem ok_stpX {f0 fL : Addr} {fd dL : FuncData} {T : List (Addr × Str)} (F : Fun K "steps" "steps" sStp f0 fd) (B : Bl mg) (PC : PCls K C) (GD : FAt P w K mg base 1 "check_drive" ["drive"] (spCkd K CD))
    (GL : FnOk P w K mg base (L2.CX P w) 7 fL dL ["drive", "load"] (spLodX K T true CD C CL)) (kL : PySem.W.keepIn K (.ref fL) = true) (bL : Binds K dL ["drive", "load"] []) (gL : mg "play_load" = some (.ref fL)) : GFn P w K mg base 8 f0 fd ["drive", "load"] (spStpX K T CD C CL) := by
  obtain ⟨oc, od, kV, doc, pm, an, cdv, ct, osl, rfl, lk, hcd⟩ := F.ex
  refine gfn_of lk hcd scStp (fun vs H Q E h => ?_) (fun A0 outer s0 H vs Q E pn hr h => ?_)
  · obtain ⟨dr, ld, eas, es, b, p, n, ini, y, rfl, _⟩ := h
    rfl
  obtain ⟨dr, ld, eas, es, b, p, n, ini, y, rfl, hd, X, hsz, q⟩ := h
  obtain ⟨fD, dD, GD, kD, bD, gD⟩ := GD.ex
  refine ⟨_, gss_cons (gs_ps (ps_expr (pe_call GD (hr.mono (by decide)) (by rfl) gD kD bD .nil pass0 (pa_cons (pv 0) pa_nil))))
    (gss_cons (gs_ps (ps_set (i := 2) scStp.nd rfl (.inl rfl) (pe_fld (pe_call (E := E) GL hr (by rfl) gL kL bL .nil (passes_call takes_gcx (fun _ _ _ _ z => z)) (pa_cons (pv 0) (pa_cons (pv 1) pa_nil))) rfl)))
    (gss_cons (gs_yieldFrom (yf_lst (pv 2)) hr.hd) gss_nil)), ?_⟩
  refine ⟨_, rfl, dr, b, p, n, ini, y, rfl, hd, ?_⟩
  refine ⟨_, rfl, _, rfl, dr, ld, eas, es, [], b, p, n, ini, y, rfl, hd, X.lod fun H1 x s1 A pl1 p1 hdr nx e1 t1 => ?_⟩
  refine ⟨x, C, A.dx, _, _, rfl, p1.ins, PC.cl, PC.n8, rfl, ?_⟩
  have hl := hsz s1 pl1
  have hrl := Paired.length p1.tat
  refine ⟨_, rfl, A.ta, _, rfl, p1.told, ?_, ?_⟩
  · rw [sizeLine_eq, List.length_map]
    show 0 + _ ≤ _
    omega
  · exact q H1 A.rt s1 pl1 p1.tat e1 t1
theorem ok_stdX {f0 fL : Addr} {fd dL : FuncData} {T : List (Addr × Str)} (F : Fun K "stand" "stand" sStd f0 fd) (GD : FAt P w K mg base 1 "check_drive" ["drive"] (spCkd K CD))
    (GL : FnOk P w K mg base (L2.CX P w) 7 fL dL ["drive", "load"] (spLodX K T true CD C CL)) (kL : PySem.W.keepIn K (.ref fL) = true) (bL : Binds K dL ["drive", "load"] []) (gL : mg "play_load" = some (.ref fL)) (GS : FAt P w K mg base 1 "stand_of" ["play"] (spSto C)) : FnOk P w K mg base (L2.CX P w) 8 f0 fd ["drive", "load"] (spStdX K T CD C CL) := by
  refine F.okX scStd (fun vs H Q E h => ?_) (fun cdv A0 outer s0 H vs Q E hr h => ?_)
  · obtain ⟨dr, ld, eas, es, b, p, n, ini, y, rfl, _⟩ := h
    rfl
  obtain ⟨dr, ld, eas, es, b, p, n, ini, y, rfl, hd, X, hsz, q⟩ := h
  obtain ⟨fD, dD, GD, kD, bD, gD⟩ := GD.ex
  obtain ⟨fS, dS, GS, kS, bS, gS⟩ := GS.ex
  refine ⟨_, pss_cons (ps_expr (pe_call GD (hr.mono (by decide)) (by rfl) gD kD bD .nil pass0 (pa_cons (pv 0) pa_nil)))
    (pss_one (ps_ret (pe_call GS (hr.mono (by decide)) (by rfl) gS kS bS .nil pass0 (pa_cons (pe_call (E := E) GL hr (by rfl) gL kL bL .nil (passes_call (takes_of rfl rfl rfl rfl) (fun _ _ _ _ z => z)) (pa_cons (pv 0) (pa_cons (pv 1) pa_nil))) pa_nil)))), ?_⟩
  refine ⟨_, rfl, dr, b, p, n, ini, y, rfl, hd, ?_⟩
  refine ⟨_, rfl, _, rfl, dr, ld, eas, es, [], b, p, n, ini, y, rfl, hd, X.lod fun H1 x s1 A pl1 p1 hdr nx x1 t1 => ⟨x, s1, A, rfl, p1, hsz s1 pl1, fun H2 u s2 h2 => ?_⟩⟩
  exact q H2 u s1 pl1 h2 (x1.trans (.of s2)) (t1.ext s2)
end
end K6

set_option Elab.async false
set_option linter.all false
set_option maxRecDepth 100000
set_option maxHeartbeats 4000000
/-! what is known of a drive and a load; lists of what was told -/
namespace K6
open PySem PySem.Spec PyProof.Rows L2 G1 G2 K2 G5 LamX
theorem bRepr6 : bootBuiltins "repr" = some (.builtin "repr") := by decide +kernel
theorem bList6 : bootBuiltins "list" = some (.type "list") := by decide +kernel
theorem bAll6 : bootBuiltins "all" = some (.builtin "all") := by decide +kernel
theorem tC_read2 {v : V} {σ : L2.St} {H : Hp} {Q : VK} (h : Q v H) : tC v σ H Q := h
structure GAt6 (P : Program) (w : World) (K : PySem.W.Frag) (mg : Str → Option Value) (base : Heap) (k : Nat) (x : Str) (ps : List Str) (sp : Sp) : Prop where
  ex : ∃ (f : Addr) (fd : FuncData), FnG P w K mg base k f fd ps sp ∧ PySem.W.keepIn K (.ref f) = true ∧ Binds K fd ps [] ∧ mg x = some (.ref f)
theorem all_true (m : Nat) : (List.replicate m true).all id = true := by
  rw [List.all_eq_true]
  intro x hx
  rw [(List.mem_replicate.mp hx).2]
  rfl
/-- what is known of a drive and a load -/
structure Pure8 (b p n : Nat) (rows : List RowD) (es : List (Str × Str)) : Prop where
  D : Dims b p
  calm : Calm p rows
  wd : ∀ r ∈ rows, r.2 ∈ wordsL
  hn : n ≤ p * (b - 1)
  lets : Lets n [] es
  few : es.length ≤ 100
theorem Pure8.all {b p n : Nat} {rows : List RowD} {es : List (Str × Str)} (h : Pure8 b p n rows es) : LoadOkG p n rows (newP b) es ∧ ∀ s', PlaysToG p rows (newP b) es s' → PInv b p s' (es.foldl aft []) ∧ LastW s' ∧ Paired (StepOk b) es s'.told := by
  have z := load_all h.calm h.D h.hn es (newP b) [] (pinv_new (by have := h.D.b2; omega) h.D.p0) (Nat.zero_le _) h.lets (by have := h.few; show 0 + es.length ≤ 10000; omega) (last_new b)
  refine ⟨z.1, fun s' hs => ?_⟩
  obtain ⟨a, c, ts, e1, e2⟩ := z.2 s' hs
  refine ⟨a, c, ?_⟩
  have e3 : s'.told = ts := by rw [e1]; rfl
  rw [e3]
  exact e2
theorem al_len {n : Nat} : ∀ (es : List (Str × Str)) (al : List Str), al.length ≤ n → Lets n al es → (es.foldl aft al).length ≤ n
  | [], al, h, _ => h
  | e :: es, al, h, ⟨h1, h2⟩ => al_len es (aft al e) (aft_len h1 h) h2
theorem Pure8.fit {b p n : Nat} {rows : List RowD} {es : List (Str × Str)} (h : Pure8 b p n rows es) {s' : Pl} (hs : PlaysToG p rows (newP b) es s') : s'.cont.length ≤ 10 ∧ ∀ c ∈ s'.cont, c.length ≤ 10 := by
  obtain ⟨I, _⟩ := h.all.2 s' hs
  have hl := al_len (n := n) es [] (Nat.zero_le _) h.lets
  have h90 : p * (b - 1) ≤ 10 * 9 := Nat.mul_le_mul h.D.p10 (by have := h.D.b10; omega)
  have hn := h.hn
  have F := I.fit2 h.D.b10 h.D.p10 (by omega)
  exact ⟨by rw [I.cl]; exact h.D.b10, F.cont⟩
theorem str_row8 {K : PySem.W.Frag} {H : Hp} (a : Addr) (e : Str × Str) (h : EvA H a e) : SqT K H a [.str e.1, .str e.2] := SqT.of h
structure S8 (K : PySem.W.Frag) (C : Addr) (H : Hp) (mi sc : Addr) (b p n : Nat) (ini : List RowD) (y : Str) (es : List (Str × Str)) : Prop where
  mi : DrvAt K C H mi b p n ini y
  sc : ∃ eas : List Addr, SqT K H sc (eas.map V.ref) ∧ Paired (EvA H) eas es
theorem S8.ext {K : PySem.W.Frag} {C : Addr} {H H' : Hp} {mi sc : Addr} {b p n : Nat} {ini : List RowD} {y : Str} {es : List (Str × Str)} (h : S8 K C H mi sc b p n ini y es) (e : ExtN H H') : S8 K C H' mi sc b p n ini y es := by
  obtain ⟨eas, h1, h2⟩ := h.sc
  exact ⟨DrvAt.extN h.mi e, eas, ext_tup e h1, Paired.mapP h2 fun _ _ z => e _ _ z (by intro _ q; cases q)⟩
abbrev lenK (K : PySem.W.Frag) : List V → Hp → VK → Prop := fun xs H Q => ∃ (p : Addr) (ys : List V), xs = [.ref p] ∧ (SqL K H p ys ∨ SqT K H p ys) ∧ Q (.int (ys.length : Int)) H
/-- what a step is -/
structure TOk (b : Nat) (t : Tld) : Prop where
  lt : ∀ j ∈ t.2.1, j < b
  c0 : 0 ≤ t.2.2
  c1 : t.2.2 ≤ 100
  len : t.2.1.length ≤ 10
theorem step_tok {b : Nat} {e : Str × Str} {t : Tld} (h : StepOk b e t) : TOk b t := by
  rcases h with ⟨_, rfl⟩ | ⟨_, k, cl, cp, rfl, hk, hj, h0, h1, hl, _⟩
  · exact ⟨fun j z => (nomatch z), Int.le_refl 0, by decide, by decide⟩
  · exact ⟨hj, h0, h1, hl⟩
theorem paired_all {α β : Type} {R : α → β → Prop} {Z : β → Prop} (hz : ∀ a c, R a c → Z c) : ∀ {l : List α} {m : List β}, Paired R l m → ∀ c ∈ m, Z c
  | _, _, .nil, _, h => nomatch h
  | _, _, .cons r t, c, h => by
    rcases List.mem_cons.mp h with e | e
    · subst e
      exact hz _ _ r
    · exact paired_all hz t c e
theorem Pure8.told {b p n : Nat} {rows : List RowD} {es : List (Str × Str)} (h : Pure8 b p n rows es) {s' : Pl} (hs : PlaysToG p rows (newP b) es s') : s'.told.length ≤ 100 ∧ ∀ t ∈ s'.told, TOk b t := by
  obtain ⟨_, _, c⟩ := h.all.2 s' hs
  exact ⟨by rw [← Paired.length c]; exact h.few, paired_all (fun _ _ z => step_tok z) c⟩
theorem gone_len {b : Nat} : ∀ {ts : List Tld}, (∀ t ∈ ts, TOk b t) → (gone ts).length ≤ 10 * ts.length
  | [], _ => Nat.zero_le _
  | t :: ts, h => by
    have ih := gone_len (ts := ts) fun u hu => h u (List.mem_cons_of_mem _ hu)
    have e : gone (t :: ts) = t.2.1 ++ gone ts := List.flatMap_cons ..
    have := (h t (List.mem_cons_self ..)).len
    rw [e, List.length_append, List.length_cons]
    omega
theorem gone_snoc (ts : List Tld) (t : Tld) : gone (ts ++ [t]) = gone ts ++ t.2.1 := by
  unfold gone
  rw [List.flatMap_append, List.flatMap_cons, List.flatMap_nil, List.append_nil]
theorem copied_le {b : Nat} : ∀ {ts : List Tld}, (∀ t ∈ ts, TOk b t) → 0 ≤ (ts.map fun t => t.2.2).sum ∧ (ts.map fun t => t.2.2).sum ≤ 100 * (ts.length : Int)
  | [], _ => ⟨Int.le_refl 0, Int.le_refl 0⟩
  | t :: ts, h => by
    obtain ⟨i1, i2⟩ := copied_le (ts := ts) fun u hu => h u (List.mem_cons_of_mem _ hu)
    have z := h t (List.mem_cons_self ..)
    have := z.c0
    have := z.c1
    rw [List.map_cons, List.sum_cons, List.length_cons]
    omega
theorem listG_read {tg : TGen} {σ : L2.St} {H : Hp} {Q : VK} (h : tg σ H fun out H2 => ∀ p, H2 p = none → Q (.ref p) (L2.upd H2 p (.lst out))) : tListG tg σ H Q := h
theorem callG_read {sp : SpG} {dvs : List V} {E : XK} {t : TA} {σ : L2.St} {H : Hp} {cont : List V → Hp → Prop} (h : t σ H fun vs H1 => sp (vs ++ dvs) H1 cont E) : tCallG sp dvs E t σ H cont := h
theorem passX {X : Cx} : Passes (CX X.prog X.w) X E0 := fun _ _ _ _ _ _ _ h => by
  obtain ⟨_, _, _, _, _, _, _, _, _, _, _, _, z⟩ := h
  exact z.elim
theorem noStop {K : PySem.W.Frag} : NoStop K E0 := fun _ _ _ h => h.elim
structure GnAt (P : Program) (w : World) (K : PySem.W.Frag) (mg : Str → Option Value) (base : Heap) (k : Nat) (x : Str) (ps : List Str) (sp : SpG) : Prop where
  ex : ∃ (f : Addr) (fd : FuncData), GFn P w K mg base k f fd ps sp ∧ PySem.W.keepIn K (.ref f) = true ∧ Binds K fd ps [] ∧ mg x = some (.ref f)
theorem drv_stp {K : PySem.W.Frag} {C pl x : Addr} {H H' : Hp} {b p n : Nat} {ini : List RowD} {y : Str} (hp : PoolAt H pl) (s : Stp pl H H') (hd : DrvAt K C H x b p n ini y) : DrvAt K C H' x b p n ini y := by
  obtain ⟨dx, t, h1, h2⟩ := hd
  have hp' := hp
  obtain ⟨i, j, n, e, _⟩ := hp
  exact ⟨dx, t, s.2 _ _ (ne_of h1 e (by intro z; cases z)) h1, s.rows hp' h2⟩
theorem tld_ext {H H' : Hp} {a : Addr} {t : Tld} (h : TldAt H a t) (e : ExtN H H') : TldAt H' a t := by
  obtain ⟨q, h1, h2⟩ := h
  exact ⟨q, e _ _ h1 (by intro _ z; cases z), e _ _ h2 (by intro _ z; cases z)⟩
section
variable {b p n : Nat} {rows : List RowD} {es : List (Str × Str)}
theorem lets_cut : ∀ {es es2 : List (Str × Str)} {al : List Str}, Lets n al (es ++ es2) → Lets n al es ∧ Lets n (es.foldl aft al) es2
  | [], _, _, h => ⟨trivial, h⟩
  | e :: es, _, _, ⟨h1, h2⟩ => ⟨⟨h1, (lets_cut (es := es) h2).1⟩, (lets_cut (es := es) h2).2⟩
theorem Pure8.take (h : Pure8 b p n rows es) (m : Nat) : Pure8 b p n rows (es.take m) := by
  refine ⟨h.D, h.calm, h.wd, h.hn, ?_, ?_⟩
  · have z := h.lets
    rw [← List.take_append_drop m es] at z
    exact (lets_cut z).1
  · have := h.few
    rw [List.length_take]
    omega
theorem Pure8.told_take (h : Pure8 b p n rows es) {m : Nat} (hm : m ≤ es.length) {s' s2 : Pl} (hs : PlaysToG p rows (newP b) es s') (h2 : PlaysToG p rows (newP b) (es.take m) s2) : s2.told = s'.told.take m := by
  have e : es = es.take m ++ es.drop m := (List.take_append_drop m es).symm
  rw [e] at hs
  obtain ⟨s1, a, c⟩ := plays_app hs
  have e1 := plays_uniq h.wd a h2
  subst e1
  obtain ⟨I1, L1, P1⟩ := (h.take m).all.2 s1 a
  have hl := h.lets
  rw [e] at hl
  have hlen := Paired.length P1
  rw [List.length_take, Nat.min_eq_left hm] at hlen
  have hfew := h.few
  obtain ⟨_, _, ts, e2, _⟩ := (load_all h.calm h.D h.hn (es.drop m) s1 _ I1 (al_len _ _ (Nat.zero_le _) (lets_cut hl).1) (lets_cut hl).2 (by rw [List.length_drop]; omega) L1).2 s' c
  rw [e2, hlen, List.take_left]
end
theorem cut_to {xs : List V} {d : Nat} : cutV xs none (some (d : Int)) = xs.take d := by
  unfold cutV
  rw [HT.sIx_none, HT.sIx_nat, List.drop_zero, Nat.sub_zero]
  by_cases h : d ≤ xs.length
  · rw [Nat.min_eq_left h]
  · rw [Nat.min_eq_right (by omega), List.take_length, List.take_of_length_le (by omega)]
theorem shp_dims {b p n : Nat} (h : Shp b p n) : Dims b p := by
  obtain ⟨h1, _, _⟩ := h
  simp only [List.mem_cons, List.mem_nil_iff, or_false, Prod.mk.injEq] at h1
  rcases h1 with ⟨rfl, rfl⟩ | ⟨rfl, rfl⟩ | ⟨rfl, rfl⟩ | ⟨rfl, rfl⟩ | ⟨rfl, rfl⟩ | ⟨rfl, rfl⟩ | ⟨rfl, rfl⟩ <;> exact ⟨by decide, by decide, by decide, by decide⟩
theorem shp_few {b p n : Nat} (h : Shp b p n) : n ≤ 10 := by
  obtain ⟨h1, _, h3⟩ := h
  simp only [List.mem_cons, List.mem_nil_iff, or_false, Prod.mk.injEq] at h1
  rcases h1 with ⟨rfl, rfl⟩ | ⟨rfl, rfl⟩ | ⟨rfl, rfl⟩ | ⟨rfl, rfl⟩ | ⟨rfl, rfl⟩ | ⟨rfl, rfl⟩ | ⟨rfl, rfl⟩ <;> omega
theorem paired_take {α β : Type} {F : α → β → Prop} : ∀ {l : List α} {m : List β}, Paired F l m → ∀ i : Nat, Paired F (l.take i) (m.take i)
  | _, _, h, 0 => .nil
  | _, _, .nil, i + 1 => by simp; exact .nil
  | _, _, .cons r t, i + 1 => .cons r (paired_take t i)
end K6

set_option Elab.async false
set_option linter.all false
set_option maxRecDepth 100000
set_option maxHeartbeats 4000000
/-! _law_outcome, _law_let -/
namespace K6
open PySem PySem.Spec PyProof.Rows L2 G1 G2 G3 K2 G5 LamX K3 ClX
abbrev sOut : Stmt := topS 78
abbrev NOut : List Str := ["_law_act", "_law_told", "e"]
theorem scOut : FnScope NOut ["_law_act"] (defScope sOut) := ⟨rfl, rfl, rfl, by decide +kernel, rfl, by decide +kernel, by decide +kernel⟩
structure Ex1 (K : PySem.W.Frag) (CL : Addr) : Prop where
  ll : PySem.W.exmOne K (.ref CL) (.ref CL) = some true
def OutE (CL : Addr) (Q : VK) : XK := fun cls d H' => ∃ (dd : Addr) (i : Int), cls = .ref CL ∧ d = some dd ∧ H' dd = some (.xd [("index", .int i)]) ∧ ∀ q, H' q = none → Q (.ref q) (upd H' q (.lst [.str "load", .int i]))
def OutQ (Q : VK) : VK := fun v H' => ∀ q, H' q = none → Q (.ref q) (upd H' q (.lst [.str "told", v]))
def TOut (CL : Addr) : (XK → Hp → VK → Prop) → Hp → VK → Prop := fun tl H Q => ∀ (E' : XK) (Q' : VK), (∀ cls d H', OutE CL Q cls d H' → E' cls d H') → (∀ v H', OutQ Q v H' → Q' v H') → tl E' H Q'
section
variable {X : Cx} {g CL : Addr} {cdg : Value} {q : Str}
theorem out_gives (xL : XCls X.prog X.w X.K X.mg X.base "InvalidLoad" "index" CL) (Em : Ex1 X.K CL) :
    GivesW X NOut "_law_outcome" (defScope sOut) g cdg (defBody sOut) "_law_act" q (TOut CL) := by
  intro f c' s H Q tl act hc want
  refine ⟨_, pss_cons (ps_try_manyA (Y := (cxOf C8.CX0 X.prog X.w X.K X.mg X.base NOut "_law_outcome" (defScope sOut) g cdg X.A X.stack s H C8.E0).nox) (i := 2) (Wo := fun _ _ _ _ => False)
      (tb := fun W => tAsg (tLst (tCons (tC (.str "told")) (tCons (fun τ G Q => τ[0]? = some (some (.ref f)) ∧ G c' = some (CodeO c' q) ∧ tl (WE W τ) G Q) tNil))) (gName 1))
      rfl rfl scOut.nd rfl rfl LamX.takes0 (fun W pn xe tk _ => ?_)
      (.cons (c := .ref CL) (ts := fun ea cls d => tAsg (tLst (tCons (tC (.str "load")) (tCons (tXf ea cls d CL "index" (tVar 2)) tNil))) (gName 1)) ⟨rfl, by decide, .inl xL.g⟩ (fun ea eo cls d pn hz hf => pss_one (ps_set (i := 1) scOut.nd rfl (.inl rfl) (pe_lst (pa_cons pe_str (pa_cons (pe_xf xL.xf xL.no hz hf (pv 2)) pa_nil)))))
      .nil)) (pss_one (ps_ret (pv 1))), ?_⟩
  · exact pss_one (ps_set (i := 1) scOut.nd rfl (.inl rfl) (pe_lst (pa_cons pe_str (pa_cons (act W pn xe _ _ tk) pa_nil))))
  · refine ⟨rfl, hc, want _ _ (fun cls d H' hE => ?_) (fun v H' hQ => ?_)⟩
    · have t0 : ∀ {P : Prop}, true = false → P := fun z => by cases z
      obtain ⟨dd, i, rfl, rfl, hdd, k⟩ := hE
      exact ⟨true, Em.ll, fun _ ea _ => ⟨_, rfl, rfl, rfl, dd, _, .int i, rfl, hdd, (by simp [List.lookup]), by show 2 ≤ sizeLine; decide, fun q nq => ⟨_, rfl, k q nq⟩⟩, t0⟩
    · exact ⟨by show 2 ≤ sizeLine; decide, fun q nq => ⟨_, rfl, hQ q nq⟩⟩
end
section
variable {P : Program} {w : World} {K : PySem.W.Frag} {mg : Str → Option Value} {base : Heap}
/-- from the body to the promise, the code object known -/
theorem okGC {x qual : Str} {st : Stmt} {f c : Addr} {fd : FuncData} {N ps : List Str} {k : Nat} {sp : Sp} (F : FunC K x qual st f c fd) (S : FnScope N ps (defScope st))
    (len : ∀ vs H Q E, sp vs H Q E → vs.length = ps.length)
    (hbody : ∀ (A : Around) (outer : List Env) (s : Shared) (H : Hp) (vs : List V) (Q : VK) (E : XK), A.guards = some [] →
      Room k (A.deeper (envOfC qual (defScope st) s.heap.objs.size f (.ref c))) → sp vs H Q E →
      ∃ t, PSs (cxOf CX0 P w K mg base N qual (defScope st) f (.ref c) A outer s H E).nox (defBody st) t ∧ t { nx := fun _ H' => Q .non H', rt := Q } (start N vs) H) :
    FnG P w K mg base (k + 1) f fd ps sp := by
  obtain ⟨oc, od, kV, doc, pm, an, ct, osl, rfl, lk, hcd⟩ := F.ex
  constructor
  · exact len
  intro A outer s H args us vs Q E hgu room e0 bnd rel want
  refine LamX.run_ofS (CX := CX0) (N := N) lk hcd S room e0 bnd rel (len _ _ _ _ want) fun hr' => ?_
  obtain ⟨t, h1, h2⟩ := hbody A outer s H vs Q E hgu hr' want
  exact ⟨t, h1.nox, h2⟩
end
structure OutL (P : Program) (w : World) (K : PySem.W.Frag) (mg : Str → Option Value) (base : Heap) (CL : Addr) : Prop where
  out : ∃ (g : Addr) (fd : FuncData), Fun K "_law_outcome" "_law_outcome" sOut g fd ∧ Binds K fd ["_law_act"] [] ∧ mg "_law_outcome" = some (.ref g)
  xL : XCls P w K mg base "InvalidLoad" "index" CL
  Em : Ex1 K CL
  ns : PySem.W.subIn K (.ref CL) (.type "StopIteration") = some false
section
variable {X : Cx} {CL : Addr}
/-- outcome(lambda: ..) -/
theorem pe_out {T : List (Addr × Str)} {c P0 : Addr} {params : Arguments} {body : Expr} {scope : Scope} {t : XK → TE} {p lpos pos : Pos} (L : OutL X.prog X.w X.K X.mg X.base CL) (hr : Room 13 X.A)
    (TC : TabC X.base X.mg T c P0 (X.env.qual ++ "<lambda>")) (hcode : X.env.code = .ref c) (hg : Gl X "_law_outcome") (Ls : LamS X.env.scope scope) (hdef : defaultsOf params X.env = ([], []))
    (hbind : ∀ (q : Str) (cl : List (Str × Addr)) (pm cv ctv : Value), bindArgs (PySem.W.kla_fn "<lambda>" q params body scope cl pm cv ctv) ⟨[], []⟩ = pure [])
    (hbody : ∀ (A : Around) (outer : List Env) (s : Shared) (H : Hp) (E : XK) (f c' : Addr), Room 11 (A.deeper (lamEnv X scope s.heap.objs.size f c')) → PE (lamCx X A outer s H E scope f c') body (t E)) :
    PE X (.Call (.Name "_law_outcome" p) [.Lambda params body scope lpos] [] pos) (tLam T (TOut CL) t) := by
  obtain ⟨g2, fd2, F2, b2, m2⟩ := L.out
  obtain ⟨oc2, od2, kV2, doc2, pm2, an2, cd2, ct2, sl2, e2, lk2, hc2⟩ := F2.ex
  subst e2
  exact pe_lam1 (k := 11) (N1 := NOut) hg m2 F2.kp lk2 hc2 b2 scOut rfl (.inl rfl) (out_gives L.xL L.Em) TC.tb hcode TC.mem TC.uq hr Ls hdef hbind hbody (by decide)
end
/-! ### _law_let -/
abbrev sLet : Stmt := topS 79
abbrev NLet : List Str := ["_law_mine", "_law_script", "_law_told"]
theorem scLet : FnScope NLet ["_law_mine", "_law_script"] (defScope sLet) := ⟨rfl, rfl, rfl, by decide +kernel, rfl, by decide +kernel, by decide +kernel⟩
abbrev qLet : Str := ("_law_let" : Str) ++ ".<locals>." ++ "<lambda>"
/-- errors of this class alone -/
def ELe (CL : Addr) (E : XK) : XK := fun cls d H => cls = .ref CL ∧ E cls d H
def spLet (K : PySem.W.Frag) (T : List (Addr × Str)) (CD : Addr) : Sp := fun vs H Q _ => ∃ (mi sc : Addr) (b p n : Nat) (ini : List RowD) (y : Str) (es : List (Str × Str)), vs = [.ref mi, .ref sc] ∧ S8 K CD H mi sc b p n ini y es ∧ PureS b p n (ini ++ [((p : Int), y)]) es ∧ Tabs T H ∧
  ∀ (H' : Hp) (q : Addr) (m : Nat) (s' : Pl), m ≤ es.length → PlaysToG p (ini ++ [((p : Int), y)]) (newP b) (es.take m) s' → S8 K CD H' mi q b p n ini y (es.take m) → ExtN H H' → Tabs T H' → Q (.ref q) H'
theorem slA8 {K : PySem.W.Frag} {H : Hp} {Q : VK} {a : Addr} {xs : List V} {lo hi : Option Int} (h : SqT K H a xs) (k : ∀ (H' : Hp) (q : Addr), Same H H' → SqT K H' q (cutV xs lo hi) → Q (.ref q) H') : rSlA K (.ref a) lo hi H Q := by
  refine ⟨a, xs, rfl, h, fun hw => ?_, fun _ u nu => k _ u (same_lay nu) (SqT.of upd_same)⟩
  refine k H a (Same.refl H) ?_
  unfold cutV
  rw [hw.1, hw.2, List.drop_zero, Nat.sub_zero, List.take_length]
  exact h
theorem sl_read6 {r : V → Option Int → Option Int → Hp → VK → Prop} {te : TE} {tl th : TO} {σ : L2.St} {H : Hp} {Q : VK} (h : te σ H fun x H1 => tl σ H1 fun l H2 => th σ H2 fun u H3 => r x l u H3 Q) : L2.tSl r te tl th σ H Q := h
theorem tst_read6 {te : TE} {σ : L2.St} {H : Hp} {Q : Bool → Hp → Prop} (h : te σ H fun x H1 => ∃ k, x = .bl k ∧ Q k H1) : tTest te σ H Q := h
section
variable {P : Program} {w : World} {K : PySem.W.Frag} {mg : Str → Option Value} {base : Heap} {CD C CL : Addr}
theorem ok_let {f c P0 : Addr} {fd : FuncData} {T : List (Addr × Str)} (F : FunC K "_law_let" "_law_let" sLet f c fd) (hlist : mg "list" = none) (L : OutL P w K mg base CL) (TC : TabC base mg T c P0 qLet) (GS : GnAt P w K mg base 8 "steps" ["drive", "load"] (spStpX K T CD C CL)) : FnG P w K mg base 14 f fd ["_law_mine", "_law_script"] (spLet K T CD) := by
  refine okGC F scLet (fun vs H Q E h => ?_) (fun A outer s H vs Q E hgu hr h => ?_)
  · obtain ⟨mi, sc, b, p, n, ini, y, es, rfl, _⟩ := h
    rfl
  obtain ⟨mi, sc, b, p, n, ini, y, es, rfl, S, PU, hT, k⟩ := h
  obtain ⟨fS, dS, GS, kS, bS, gS⟩ := GS.ex
  refine ⟨_, pss_cons (ps_set (i := 2) scLet.nd rfl (.inl rfl) (pe_out (t := fun E => tListG (tCallG (spStpX K T CD C CL) [] (ELe CL E) (tCons (tVar 0) (tCons (tVar 1) tNil)))) L hr TC rfl rfl (lamS_by (show lamSB (defScope sLet) _ = true from by decide +kernel)) rfl (fun _ _ _ _ _ => rfl)
      (fun A outer s H E f c' hr' => pe_listG (E := ELe CL E) (k := 8) (pgen_call GS (hr'.mono (by decide)) (by rfl) gS kS bS .nil (pa_cons (pv 0) (pa_cons (pv 1) pa_nil))) (passes_call (takes_of rfl rfl rfl rfl) (fun _ _ _ _ z => z.2)) (fun cls d H z => by rw [z.1]; exact L.ns) hr' (by rfl) hlist bList6)))
    (pss_one (ps_ret (pe_ifExp (pt_cmpR op_eq (pe_ix ix_list (pv 2) pe_int (fun _ _ => rfl)) pe_str (nomark _)) (pe_slice sl_tupA (pv 1) po_none (po_some (pe_ix ix_list (pv 2) pe_int (fun _ _ => rfl)))) (pv 1)))), ?_⟩
  obtain ⟨eas, hsc, hev⟩ := S.sc
  have hel := Paired.length hev
  have hfew := PU.few
  have all := PU.all
  refine seq_asg ⟨hT, fun H2 x2 T2 => fun E' Q' hE hQ => ?_⟩
  have S2 := S.ext x2
  refine listG_read (callG_read (cons_read ⟨_, rfl, cons_read ⟨_, rfl, nil_read ⟨mi, sc, eas, es, b, p, n, ini, y, rfl, S2.mi, ⟨ext_tup x2 hsc, Paired.mapP hev fun _ _ z => str_row8 _ _ (x2 _ _ z (by intro _ q; cases q)), PU.D.b10, PU.wd, all.1, by omega, T2, fun H3 i e s1 s2 he hp hst x3 t3 d H4 s4 hd4 => ⟨rfl, hE _ _ _ ⟨d, (i : Int), rfl, rfl, hd4, fun q nq => ?_⟩⟩⟩, fun s' h' => by have := (all.2 s' h').2.1; omega, fun H3 rs s' hp hrs x3 t3 l nl => hQ _ _ fun q nq => ?_⟩⟩⟩))
  · -- it sticks
    have hi := (List.getElem?_eq_some_iff.mp he).1
    have X5 : ExtN H (L2.upd H4 q (.lst [.str "load", .int (i : Int)])) := x2.trans (x3.trans (.of (s4.trans (same_lay nq))))
    have T5 : Tabs T (L2.upd H4 q (.lst [.str "load", .int (i : Int)])) := (t3.ext s4).ext (same_lay nq)
    have e5 : (L2.upd H4 q (.lst [.str "load", .int (i : Int)])) q = some (.lst [.str "load", .int (i : Int)]) := upd_same
    have S5 := S.ext X5
    show tRet _ _ [some (.ref mi), some (.ref sc), some (.ref q)] (L2.upd H4 q (.lst [.str "load", .int (i : Int)]))
    generalize L2.upd H4 q (.lst [.str "load", .int (i : Int)]) = H5 at X5 T5 e5 S5 ⊢
    refine ret_read ?_
    refine ⟨_, rfl, q, _, _, .str "load", rfl, rfl, SqL.of e5, rfl, rfl, _, rfl, iteT ?_⟩
    refine sl_read6 ⟨_, rfl, ?_⟩
    dsimp only [tNoPart]
    refine ⟨_, rfl, q, _, _, .int (i : Int), rfl, rfl, SqL.of e5, rfl, (i : Int), rfl, slA8 (ext_tup X5 hsc) fun H6 u s6 h6 => ?_⟩
    rw [cut_to, ← List.map_take] at h6
    have S6 := S5.ext (.of s6)
    exact k H6 u i s1 (by omega) hp ⟨S6.mi, eas.take i, h6, paired_take (Paired.mapP hev fun _ _ z => s6 _ _ (X5 _ _ z (by intro _ q; cases q))) i⟩ (X5.trans (.of s6)) (T5.ext s6)
  · -- it is played
    have X5 : ExtN H (L2.upd (L2.upd H3 l (.lst (rs.map V.ref))) q (.lst [.str "told", .ref l])) := x2.trans (x3.trans (.of ((same_lay nl).trans (same_lay nq))))
    have T5 : Tabs T (L2.upd (L2.upd H3 l (.lst (rs.map V.ref))) q (.lst [.str "told", .ref l])) := (t3.ext (same_lay nl)).ext (same_lay nq)
    have e5 : (L2.upd (L2.upd H3 l (.lst (rs.map V.ref))) q (.lst [.str "told", .ref l])) q = some (.lst [.str "told", .ref l]) := upd_same
    have S5 := S.ext X5
    show tRet _ _ [some (.ref mi), some (.ref sc), some (.ref q)] (L2.upd (L2.upd H3 l (.lst (rs.map V.ref))) q (.lst [.str "told", .ref l]))
    generalize L2.upd (L2.upd H3 l (.lst (rs.map V.ref))) q (.lst [.str "told", .ref l]) = H5 at X5 T5 e5 S5 ⊢
    refine ret_read ?_
    refine ⟨_, rfl, q, _, _, .str "told", rfl, rfl, SqL.of e5, rfl, rfl, _, rfl, iteF ⟨_, rfl, ?_⟩⟩
    refine k H5 sc es.length s' (Nat.le_refl _) (by rw [List.take_length]; exact hp) ?_ X5 T5
    rw [List.take_length]
    exact S5
end
end K6

set_option Elab.async false
set_option linter.all false
set_option maxRecDepth 100000
set_option maxHeartbeats 8000000
/-! data that is compared; what follows a call of stand whose writes may stick -/
namespace K6
open PySem PySem.Spec PyProof.Rows L2 G1 G2 G3 K2 G5 LamX K3 ClX
structure L0 (d : PyData) (k : Nat) : Prop where
  lay : d.canLay0 = true
  dep : d.depth ≤ k
theorem L0.shaped {d : PyData} {k : Nat} (h : L0 d k) (hk : k ≤ 60) : SeqAt.shaped d = true := by
  unfold SeqAt.shaped
  rw [h.lay, Bool.true_and]
  exact decide_eq_true (by have := h.dep; omega)
theorem L0.refl {d : PyData} {k : Nat} (h : L0 d k) : PyData.eqv d d = true := SeqAt.eqv_refl _ h.lay
theorem L0.up {d : PyData} {k k' : Nat} (h : L0 d k) (hk : k ≤ k') : L0 d k' := ⟨h.lay, Nat.le_trans h.dep hk⟩
theorem l0_int (i : Int) : L0 (.int i) 0 := ⟨rfl, by simp [PyData.depth]⟩
theorem l0_non : L0 .none 0 := ⟨rfl, by simp [PyData.depth]⟩
theorem l0_tup {α : Type} {f : α → PyData} {l : List α} {k : Nat} (h : ∀ x ∈ l, L0 (f x) k) : L0 (.tuple (l.map f)) (k + 1) := by
  refine ⟨?_, ?_⟩
  · unfold PyData.canLay0
    exact lay_map f l fun x hx => (h x hx).lay
  · simp only [PyData.depth]
    exact Nat.succ_le_succ (deep_map k f l fun x hx => (h x hx).dep)
theorem l0_lst {α : Type} {f : α → PyData} {l : List α} {k : Nat} (h : ∀ x ∈ l, L0 (f x) k) : L0 (.list (l.map f)) (k + 1) := by
  have z := l0_tup h
  refine ⟨?_, ?_⟩
  · have := z.lay
    unfold PyData.canLay0 at this ⊢
    exact this
  · have := z.dep
    simp only [PyData.depth] at this ⊢
    exact this
theorem l0_tupL {l : List PyData} {k : Nat} (h : ∀ x ∈ l, L0 x k) : L0 (.tuple l) (k + 1) := by
  have z := l0_tup (f := fun (x : PyData) => x) (l := l) h
  rwa [List.map_id'] at z
theorem l0_lstL {l : List PyData} {k : Nat} (h : ∀ x ∈ l, L0 x k) : L0 (.list l) (k + 1) := by
  have z := l0_lst (f := fun (x : PyData) => x) (l := l) h
  rwa [List.map_id'] at z
theorem l0_ints (l : List Int) : L0 (.tuple (iD l)) 1 := l0_tup fun i _ => l0_int i
theorem l0_tld (t : Tld) : L0 (tldD t) 2 := by
  refine l0_tupL fun x hx => ?_
  simp only [List.mem_cons, List.not_mem_nil, or_false] at hx
  rcases hx with rfl | rfl | rfl
  · cases t.1 with
    | none => exact l0_non.up (by decide)
    | some j => exact (l0_int _).up (by decide)
  · exact l0_ints _
  · exact (l0_int _).up (by decide)
theorem l0_tlds (ts : List Tld) : L0 (.list (ts.map tldD)) 3 := l0_lst fun t _ => l0_tld t
def stdD (s : Pl) : PyData := .tuple [.tuple (iD (cntP s)), .tuple (iD (opnL s))]
theorem l0_std (s : Pl) : L0 (stdD s) 2 := l0_tupL fun x hx => by
  simp only [List.mem_cons, List.not_mem_nil, or_false] at hx
  rcases hx with rfl | rfl <;> exact l0_ints _
theorem std_dp {K : PySem.W.Frag} {H : Hp} {q : Addr} {s : Pl} (h : StdAt H q s) : Dp K H (.ref q) (stdD s) := by
  obtain ⟨a, c, h1, h2, h3⟩ := h
  exact .tup (SqT.of h1) (.cons (.tup (SqT.of h2) (dp_ints _)) (.cons (.tup (SqT.of h3) (dp_ints _)) .nil))
theorem std_ext {H H' : Hp} {q : Addr} {s : Pl} (h : StdAt H q s) (e : ExtN H H') : StdAt H' q s := by
  obtain ⟨a, c, h1, h2, h3⟩ := h
  exact ⟨a, c, e _ _ h1 (by intro _ z; cases z), e _ _ h2 (by intro _ z; cases z), e _ _ h3 (by intro _ z; cases z)⟩
/-- text -/
theorem name_plain {x : Str} (h : NameOk x) : ∀ c ∈ x.cps.toList, c < 128 := fun c hc => by
  have z : ∀ c ∈ letS.cps.toList ++ digS.cps.toList, c < 128 := by decide +kernel
  exact z c (List.mem_append.mpr (h.all c hc))
theorem str_fit {x : Str} {n : Nat} (hp : ∀ c ∈ x.cps.toList, c < 128) (hl : x.cps.size ≤ n) : DFit (.str x) 0 n := by
  refine ⟨?_, rfl, ?_, by simp [PyData.depth], by simp only [PyData.bulk]; exact hl⟩
  · unfold PyData.canLay0 PyData.strOk
    rw [← Array.all_toList, List.all_eq_true]
    intro c hc
    have := hp c hc
    exact decide_eq_true (by omega)
  · unfold PyData.leavesShort
    rw [List.all_eq_true]
    intro c hc
    have := hp c hc
    exact decide_eq_true (by omega)
theorem name_fit {x : Str} (h : NameOk x) : DFit (.str x) 0 8 := str_fit (name_plain h) h.hi
theorem state_fit : ∀ w ∈ (["free", "closed", "open"] : List Str), DFit (.str w) 0 8 := fun w hw => by
  have z : ∀ w ∈ (["free", "closed", "open"] : List Str), (∀ c ∈ w.cps.toList, c < 128) ∧ w.cps.size ≤ 8 := by decide +kernel
  exact str_fit (z w hw).1 (z w hw).2
def blkD (t : Str × List Str) : PyData := .tuple [.str t.1, .tuple (t.2.map PyData.str)]
theorem dp_strs {K : PySem.W.Frag} {H : Hp} : ∀ l : List Str, DpAll K H (l.map V.str) (l.map PyData.str)
  | [] => .nil
  | x :: l => .cons (.str x) (dp_strs l)
theorem blk_dp {K : PySem.W.Frag} {H : Hp} {a : Addr} {t : Str × List Str} (h : BlAt H a t) : Dp K H (.ref a) (blkD t) := by
  obtain ⟨q, h1, h2⟩ := h
  exact .tup (SqT.of h1) (.cons (.str _) (.cons (.tup (SqT.of h2) (dp_strs _)) .nil))
theorem blks_dp {K : PySem.W.Frag} {H : Hp} : ∀ {rs : List Addr} {ts : List (Str × List Str)}, Paired (BlAt H) rs ts → DpAll K H (rs.map V.ref) (ts.map blkD)
  | _, _, .nil => .nil
  | _, _, .cons r t => .cons (blk_dp r) (blks_dp t)
theorem blk_fit {t : Str × List Str} (h1 : t.1 ∈ (["free", "closed", "open"] : List Str)) (h2 : ∀ x ∈ t.2, NameOk x) (h3 : t.2.length ≤ 10) : DFit (blkD t) 2 200 := by
  have z1 := (state_fit _ h1).up (k' := 1) (m' := 90) (by decide) (by decide)
  have z2 := tup_fit (f := PyData.str) (l := t.2) (k := 0) (m := 8) (n := 10) (fun x hx => name_fit (h2 x hx)) h3
  have z := tup_fit (f := fun (x : PyData) => x) (l := [.str t.1, .tuple (t.2.map PyData.str)]) (k := 1) (m := 90) (n := 2) (fun x hx => by
    simp only [List.mem_cons, List.not_mem_nil, or_false] at hx
    rcases hx with rfl | rfl
    · exact z1
    · exact z2.up (by decide) (by decide)) (Nat.le_refl _)
  rw [List.map_id'] at z
  exact z.up (Nat.le_refl _) (by decide)
theorem blks_fit {ts : List (Str × List Str)} (h : ∀ t ∈ ts, t.1 ∈ (["free", "closed", "open"] : List Str) ∧ (∀ x ∈ t.2, NameOk x) ∧ t.2.length ≤ 10) (hl : ts.length ≤ 10) : DFit (.tuple (ts.map blkD)) 3 2010 := tup_fit (fun t ht => blk_fit (h t ht).1 (h t ht).2.1 (h t ht).2.2) hl
theorem blo_state (s : Pl) (i : Nat) : (bloM s i).1 ∈ (["free", "closed", "open"] : List Str) := by
  unfold bloM
  dsimp only
  split
  · simp
  · split <;> simp
/-- what outcome tells of stand -/
def OutC (H : Hp) (q : Addr) (b p : Nat) (rows : List RowD) (es : List (Str × Str)) : Prop :=
  (∃ (s : Pl) (v : Addr), PlaysToG p rows (newP b) es s ∧ H q = some (.lst [.str "told", .ref v]) ∧ StdAt H v s) ∨
  ∃ (i : Nat) (e : Str × Str) (s1 s2 : Pl), es[i]? = some e ∧ PlaysToG p rows (newP b) (es.take i) s1 ∧ EvtStuck p rows s1 s2 e.1 e.2 ∧ H q = some (.lst [.str "load", .int (i : Int)])
theorem OutC.ext {H H' : Hp} {q : Addr} {b p : Nat} {rows : List RowD} {es : List (Str × Str)} (h : OutC H q b p rows es) (x : ExtN H H') : OutC H' q b p rows es := by
  rcases h with ⟨s, v, h1, h2, h3⟩ | ⟨i, e, s1, s2, h1, h2, h3, h4⟩
  · exact .inl ⟨s, v, h1, x _ _ h2 (by intro _ z; cases z), std_ext h3 x⟩
  · exact .inr ⟨i, e, s1, s2, h1, h2, h3, x _ _ h4 (by intro _ z; cases z)⟩
theorem l0_two {a : Str} {d : PyData} (ha : PyData.strOk a = true) (hd : L0 d 2) : L0 (.list [.str a, d]) 3 := l0_lstL fun x hx => by
  simp only [List.mem_cons, List.not_mem_nil, or_false] at hx
  rcases hx with rfl | rfl
  · exact ⟨by unfold PyData.canLay0; exact ha, by simp [PyData.depth]⟩
  · exact hd
theorem eq_out {K : PySem.W.Frag} {H : Hp} {Q : VK} {q q' : Addr} {b p : Nat} {rows : List RowD} {es es' : List (Str × Str)} (hw : ∀ r ∈ rows, r.2 ∈ wordsL) (T : Twin b p rows es es') (h : OutC H q b p rows es) (h' : OutC H q' b p rows es') (k : Q (.bl true) H) : rEqD K (.ref q) (.ref q') H Q := by
  rcases h with ⟨s, v, h1, h2, h3⟩ | ⟨i, e, s1, s2, h1, h2, h3, h4⟩
  · rcases h' with ⟨s', v', h1', h2', h3'⟩ | ⟨i', e', s1', s2', h1', h2', h3', _⟩
    · obtain ⟨_, e1, e2⟩ := T.end_ h1 h1'
      have ed : stdD s' = stdD s := by unfold stdD; rw [e1, e2]
      have f := l0_two (a := "told") (by decide +kernel) (l0_std s)
      have z := std_dp (K := K) h3'
      rw [ed] at z
      refine ⟨.list [.str "told", stdD s], .list [.str "told", stdD s], .lst (SqL.of h2) (.cons (.str _) (.cons (std_dp h3) .nil)), .lst (SqL.of h2') (.cons (.str _) (.cons z .nil)), f.shaped (by decide), f.shaped (by decide), ?_⟩
      rw [f.refl]
      exact k
    · exact (T.okStuck h1 h1' h2' h3').elim
  · rcases h' with ⟨s', v', h1', h2', h3'⟩ | ⟨i', e', s1', s2', h1', h2', h3', h4'⟩
    · exact (T.stuckOk h1 h2 h3 h1').elim
    · have ei := T.stuck hw h1 h2 h3 h1' h2' h3'
      subst ei
      have f := l0_two (a := "load") (by decide +kernel) ((l0_int (i : Int)).up (k' := 2) (by decide))
      refine ⟨.list [.str "load", .int (i : Int)], .list [.str "load", .int (i : Int)], .lst (SqL.of h4) (.cons (.str _) (.cons (.int _) .nil)), .lst (SqL.of h4') (.cons (.str _) (.cons (.int _) .nil)), f.shaped (by decide), f.shaped (by decide), ?_⟩
      rw [f.refl]
      exact k
theorem stdokS {b p n : Nat} {rows : List RowD} {es : List (Str × Str)} (PU : PureS b p n rows es) {s : Pl} (h : PlaysToG p rows (newP b) es s) : StdOk s := (PU.all.2 s h).1.stdok PU.D.b10
/-- stand in an outcome -/
theorem std_out {K : PySem.W.Frag} {T : List (Addr × Str)} {CD C CL : Addr} {H : Hp} {mi ld : Addr} {b p n : Nat} {ini : List RowD} {y : Str} {eas : List Addr} {es : List (Str × Str)} {Q : VK} {E' : XK} {Q' : VK} (hmi : DrvAt K CD H mi b p n ini y) (hld : SqT K H ld (eas.map V.ref)) (hev : Paired (EvA H) eas es) (PU : PureS b p n (ini ++ [((p : Int), y)]) es) (hT : Tabs T H)
    (hE : ∀ cls d H', OutE CL Q cls d H' → E' cls d H') (hQ : ∀ v H', OutQ Q v H' → Q' v H') (k : ∀ (H' : Hp) (q : Addr), ExtN H H' → Tabs T H' → OutC H' q b p (ini ++ [((p : Int), y)]) es → Q (.ref q) H') : spStdX K T CD C CL [.ref mi, .ref ld] H Q' E' := by
  have hfew := PU.few
  refine ⟨mi, ld, eas, es, b, p, n, ini, y, rfl, hmi, ⟨hld, Paired.mapP hev str_row8, PU.D.b10, PU.wd, PU.all.1, by omega, hT, fun H1 i e s1 s2 he hp hst x t d H2 s hd => hE _ _ _ ⟨d, (i : Int), rfl, rfl, hd, fun q nq => ?_⟩⟩, fun s' h' => stdokS PU h', fun H1 q s' hp hq x t => hQ _ _ fun q2 nq2 => ?_⟩
  · exact k _ q (x.trans (.of (s.trans (same_lay nq)))) ((t.ext s).ext (same_lay nq)) (.inr ⟨i, e, s1, s2, he, hp, hst, upd_same⟩)
  · exact k _ q2 (x.trans (.of (same_lay nq2))) (t.ext (same_lay nq2)) (.inl ⟨s', q, hp, upd_same, std_ext hq (.of (same_lay nq2))⟩)
end K6

set_option Elab.async false
set_option linter.all false
set_option maxRecDepth 100000
set_option maxHeartbeats 8000000
/-! _law_alive_now, _law_let as far as a load is played -/
namespace KY
open PySem PySem.Spec PyProof.Rows L2 G1 G2 G3 K2 G5 LamX K3 ClX K6
/-- as far as a load is played -/
def Far (p b : Nat) (rows : List RowD) (es : List (Str × Str)) (m : Nat) (s : Pl) : Prop :=
  m ≤ es.length ∧ PlaysToG p rows (newP b) (es.take m) s ∧ (m = es.length ∨ ∃ (e : Str × Str) (s2 : Pl), es[m]? = some e ∧ EvtStuck p rows s s2 e.1 e.2)
def rmN (x : Str) (l : List Str) : List Str := l.filter fun y => decide (y ≠ x)
theorem rm_erase {x : Str} {l : List Str} (h : l.Nodup) : rmN x l = l.erase x := filt_erase h x
abbrev sAlv : Stmt := topS 80
abbrev NAlv : List Str := ["_law_alive", "_law_act", "_law_found", "_law_x"]
theorem scAlv : FnScope NAlv ["_law_alive", "_law_act"] (defScope sAlv) := ⟨rfl, rfl, rfl, by decide +kernel, rfl, by decide +kernel, by decide +kernel⟩
def alvM (al : List Str) (wd x : Str) : List Str := rmN x al ++ if wd = "write" then [x] else []
def spAlv : Sp := fun vs H Q _ => ∃ (l e : Addr) (al : List Str) (wd x : Str), vs = [.ref l, .ref e] ∧ H l = some (.lst (al.map V.str)) ∧ H e = some (.tup [.str wd, .str x]) ∧ al.length ≤ 100 ∧ ∀ (H' : Hp) (q : Addr), Same H H' → H q = none → H' q = some (.lst ((alvM al wd x).map V.str)) → Q (.ref q) H'
theorem rm_snoc (x : Str) (l : List Str) (o : Str) : rmN x (l ++ [o]) = rmN x l ++ if o = x then [] else [o] := by
  unfold rmN
  rw [List.filter_append]
  by_cases e : o = x
  · rw [if_pos e]
    congr 1
    simp [e]
  · rw [if_neg e]
    congr 1
    simp [e]
section
variable {P : Program} {w : World} {K : PySem.W.Frag} {mg : Str → Option Value} {base : Heap}
theorem ok_alv {f : Addr} {fd : FuncData} (F : Fun K "_law_alive_now" "_law_alive_now" sAlv f fd) : FnOk P w K mg base CX0 1 f fd ["_law_alive", "_law_act"] spAlv := by
  refine F.ok scAlv (fun vs H Q E h => ?_) (fun cdv A outer s H vs Q E hr h => ?_)
  · obtain ⟨l, e, al, wd, x, rfl, _⟩ := h
    rfl
  obtain ⟨l, e, al, wd, x, rfl, hl, he, hn, k⟩ := h
  refine ⟨_, pss_cons (ps_setLc (i := 2) (own := [("_law_x", 3)]) (g := gName 3) (tt := tTest (tOp rNe (tVar 3) (tOp (rIxT K) (tVar 1) (tC (.int 1))))) (te := tVar 3) rfl scAlv.nd rfl rfl (by rfl) (pi_list (pv 0)) (blkOk_by (own := [("_law_x", 3)]) (N := NAlv) (sc := defScope sAlv) (by decide +kernel))
      (fun _ _ _ _ _ => pg_name (i := 3) scAlv.nd rfl (Or.inl rfl)) (fun _ _ _ _ _ => pts_one (pt_cmpR op_ne (pv 3) (pe_ix ix_tup (pv 1) pe_int (fun _ _ => rfl)) (nomark _))) (fun _ _ _ _ _ => pv 3))
    (pss_cons (ps_if (pt_cmpR op_eq (pe_ix ix_tup (pv 1) pe_int (fun _ _ => rfl)) pe_str (nomark _)) (pss_one (ps_expr (pe_bm PySem.F.plainAttrs_list PySem.F.slot_list_append PySem.F.type_list_append mt_append (pv 2) (pa_cons (pe_ix ix_tup (pv 1) pe_int (fun _ _ => rfl)) pa_nil)))) pss_nil)
    (pss_one (ps_ret (pv 2)))), ?_⟩
  refine seq_asg ?_
  refine ⟨_, rfl, l, rfl, ⟨_, SqL.of hl⟩, fun D hD => ?_⟩
  refine lc_list (K := K) (xs := al.map V.str) (fun i H' => Same H H' ∧ H' D = some (.lst ((rmN x (al.take i)).map V.str))) ⟨same_lay hD, upd_same⟩ (fun i H' _ z => SqL.of (z.1 _ _ hl)) ?_ ?_
  · rintro i v H' hi ⟨si, ei⟩
    rw [List.getElem?_map] at hi
    obtain ⟨o, ho, rfl⟩ : ∃ o, al[i]? = some o ∧ V.str o = v := by
      cases hq : al[i]? with
      | none => rw [hq] at hi; cases hi
      | some o => rw [hq] at hi; exact ⟨o, rfl, Option.some.inj hi⟩
    have htk : al.take (i + 1) = al.take i ++ [o] := by rw [List.take_add_one, ho]; rfl
    refine ⟨rfl, test_read6 (op_read ⟨_, rfl, op_read ⟨_, rfl, c_read ⟨e, _, _, .str x, rfl, rfl, SqT.of (si _ _ he), rfl, rfl, _, rfl, ?_⟩⟩⟩)⟩
    rw [neV_str]
    by_cases c : o ≠ x
    · rw [decide_eq_true c]
      refine iteT ⟨_, rfl, _, ei, ?_, fun d u z => ?_, ?_⟩
      · have z := List.length_filter_le (fun y => decide (y ≠ x)) (al.take i)
        rw [List.length_take] at z
        rw [List.length_map, sizeLine_eq]
        unfold rmN
        omega
      · rw [upd_ne (ne_of_none z hD)]
        exact si _ _ z
      · rw [upd_same, htk, rm_snoc, if_neg c, List.map_append]
        rfl
    · rw [decide_eq_false c]
      refine iteF ⟨si, ?_⟩
      have e0 : o = x := Decidable.byContradiction c
      rw [htk, rm_snoc, if_pos e0, List.append_nil]
      exact ei
  rintro H1 ⟨s1, e1⟩
  rw [List.length_map, List.take_length] at e1
  have he1 := s1 _ _ he
  have hrl : (rmN x al).length ≤ al.length := List.length_filter_le _ _
  show tSeq (tIfS _ _ _) _ _ [some (.ref l), some (.ref e), some (.ref D), none] H1
  refine seq_if6 (test_read6 (op_read (op_read ⟨_, rfl, c_read ⟨e, _, _, .str wd, rfl, rfl, SqT.of he1, rfl, c_read ⟨rfl, _, rfl, ?_⟩⟩⟩)))
  by_cases c : wd = "write"
  · rw [decide_eq_true (by rw [c])]
    refine iteT ⟨_, rfl, .inl ⟨rfl, _, SqL.of e1⟩, cons_read (op_read ⟨_, rfl, c_read ⟨e, _, _, .str x, rfl, rfl, SqT.of he1, rfl, nil_read ⟨D, _, _, rfl, rfl, e1, by rw [List.length_map, sizeLine_eq]; omega, ?_⟩⟩⟩)⟩
    dsimp only
    refine ret_read ⟨_, rfl, k _ D (fun d u z => ?_) hD ?_⟩
    · rw [upd_ne (ne_of_none z hD)]
      exact s1 _ _ z
    · rw [upd_same]
      unfold alvM
      rw [if_pos c, List.map_append]
      rfl
  · rw [decide_eq_false (fun z => c (by injection z))]
    refine iteF (ret_read ⟨_, rfl, k _ D s1 hD ?_⟩)
    unfold alvM
    rw [if_neg c, List.append_nil]
    exact e1
end
variable {n : Nat}
theorem alv_aft {al : List Str} (nd : al.Nodup) {e : Str × Str} (h : LetE n al e) : alvM al e.1 e.2 = aft al e := by
  unfold alvM aft
  rw [rm_erase nd]
  rcases h.ok with ⟨hw, _⟩ | ⟨hw, _⟩
  · rw [if_pos hw, if_neg (by rw [hw]; decide)]
  · rw [if_neg (by rw [hw]; decide), if_pos hw, List.append_nil]
def spLetM (K : PySem.W.Frag) (T : List (Addr × Str)) (CD : Addr) : Sp := fun vs H Q _ => ∃ (mi sc : Addr) (b p n : Nat) (ini : List RowD) (y : Str) (es : List (Str × Str)), vs = [.ref mi, .ref sc] ∧ S8 K CD H mi sc b p n ini y es ∧ PureS b p n (ini ++ [((p : Int), y)]) es ∧ Tabs T H ∧
  ∀ (H' : Hp) (q : Addr) (m : Nat) (s' : Pl), Far p b (ini ++ [((p : Int), y)]) es m s' → S8 K CD H' mi q b p n ini y (es.take m) → ExtN H H' → Tabs T H' → Q (.ref q) H'
section
variable {P : Program} {w : World} {K : PySem.W.Frag} {mg : Str → Option Value} {base : Heap} {CD C CL : Addr}
theorem ok_letM {f c P0 : Addr} {fd : FuncData} {T : List (Addr × Str)} (F : FunC K "_law_let" "_law_let" sLet f c fd) (hlist : mg "list" = none) (L : OutL P w K mg base CL) (TC : TabC base mg T c P0 qLet) (GS : GnAt P w K mg base 8 "steps" ["drive", "load"] (spStpX K T CD C CL)) : FnG P w K mg base 14 f fd ["_law_mine", "_law_script"] (spLetM K T CD) := by
  refine okGC F scLet (fun vs H Q E h => ?_) (fun A outer s H vs Q E hgu hr h => ?_)
  · obtain ⟨mi, sc, b, p, n, ini, y, es, rfl, _⟩ := h
    rfl
  obtain ⟨mi, sc, b, p, n, ini, y, es, rfl, S, PU, hT, k⟩ := h
  obtain ⟨fS, dS, GS, kS, bS, gS⟩ := GS.ex
  refine ⟨_, pss_cons (ps_set (i := 2) scLet.nd rfl (.inl rfl) (pe_out (t := fun E => tListG (tCallG (spStpX K T CD C CL) [] (ELe CL E) (tCons (tVar 0) (tCons (tVar 1) tNil)))) L hr TC rfl rfl (lamS_by (show lamSB (defScope sLet) _ = true from by decide +kernel)) rfl (fun _ _ _ _ _ => rfl)
      (fun A outer s H E f c' hr' => pe_listG (E := ELe CL E) (k := 8) (pgen_call GS (hr'.mono (by decide)) (by rfl) gS kS bS .nil (pa_cons (pv 0) (pa_cons (pv 1) pa_nil))) (passes_call (takes_of rfl rfl rfl rfl) (fun _ _ _ _ z => z.2)) (fun cls d H z => by rw [z.1]; exact L.ns) hr' (by rfl) hlist bList6)))
    (pss_one (ps_ret (pe_ifExp (pt_cmpR op_eq (pe_ix ix_list (pv 2) pe_int (fun _ _ => rfl)) pe_str (nomark _)) (pe_slice sl_tupA (pv 1) po_none (po_some (pe_ix ix_list (pv 2) pe_int (fun _ _ => rfl)))) (pv 1)))), ?_⟩
  obtain ⟨eas, hsc, hev⟩ := S.sc
  have hel := Paired.length hev
  have hfew := PU.few
  have all := PU.all
  refine seq_asg ⟨hT, fun H2 x2 T2 => fun E' Q' hE hQ => ?_⟩
  have S2 := S.ext x2
  refine listG_read (callG_read (cons_read ⟨_, rfl, cons_read ⟨_, rfl, nil_read ⟨mi, sc, eas, es, b, p, n, ini, y, rfl, S2.mi, ⟨ext_tup x2 hsc, Paired.mapP hev fun _ _ z => str_row8 _ _ (x2 _ _ z (by intro _ q; cases q)), PU.D.b10, PU.wd, all.1, by omega, T2, fun H3 i e s1 s2 he hp hst x3 t3 d H4 s4 hd4 => ⟨rfl, hE _ _ _ ⟨d, (i : Int), rfl, rfl, hd4, fun q nq => ?_⟩⟩⟩, fun s' h' => by have := (all.2 s' h').2.1; omega, fun H3 rs s' hp hrs x3 t3 l nl => hQ _ _ fun q nq => ?_⟩⟩⟩))
  · -- it sticks
    have hi := (List.getElem?_eq_some_iff.mp he).1
    have X5 : ExtN H (L2.upd H4 q (.lst [.str "load", .int (i : Int)])) := x2.trans (x3.trans (.of (s4.trans (same_lay nq))))
    have T5 : Tabs T (L2.upd H4 q (.lst [.str "load", .int (i : Int)])) := (t3.ext s4).ext (same_lay nq)
    have e5 : (L2.upd H4 q (.lst [.str "load", .int (i : Int)])) q = some (.lst [.str "load", .int (i : Int)]) := upd_same
    have S5 := S.ext X5
    show tRet _ _ [some (.ref mi), some (.ref sc), some (.ref q)] (L2.upd H4 q (.lst [.str "load", .int (i : Int)]))
    generalize L2.upd H4 q (.lst [.str "load", .int (i : Int)]) = H5 at X5 T5 e5 S5 ⊢
    refine ret_read ?_
    refine ⟨_, rfl, q, _, _, .str "load", rfl, rfl, SqL.of e5, rfl, rfl, _, rfl, iteT ?_⟩
    refine sl_read6 ⟨_, rfl, ?_⟩
    dsimp only [tNoPart]
    refine ⟨_, rfl, q, _, _, .int (i : Int), rfl, rfl, SqL.of e5, rfl, (i : Int), rfl, slA8 (ext_tup X5 hsc) fun H6 u s6 h6 => ?_⟩
    rw [cut_to, ← List.map_take] at h6
    have S6 := S5.ext (.of s6)
    exact k H6 u i s1 ⟨by omega, hp, .inr ⟨e, s2, he, hst⟩⟩ ⟨S6.mi, eas.take i, h6, paired_take (Paired.mapP hev fun _ _ z => s6 _ _ (X5 _ _ z (by intro _ q; cases q))) i⟩ (X5.trans (.of s6)) (T5.ext s6)
  · -- it is played
    have X5 : ExtN H (L2.upd (L2.upd H3 l (.lst (rs.map V.ref))) q (.lst [.str "told", .ref l])) := x2.trans (x3.trans (.of ((same_lay nl).trans (same_lay nq))))
    have T5 : Tabs T (L2.upd (L2.upd H3 l (.lst (rs.map V.ref))) q (.lst [.str "told", .ref l])) := (t3.ext (same_lay nl)).ext (same_lay nq)
    have e5 : (L2.upd (L2.upd H3 l (.lst (rs.map V.ref))) q (.lst [.str "told", .ref l])) q = some (.lst [.str "told", .ref l]) := upd_same
    have S5 := S.ext X5
    show tRet _ _ [some (.ref mi), some (.ref sc), some (.ref q)] (L2.upd (L2.upd H3 l (.lst (rs.map V.ref))) q (.lst [.str "told", .ref l]))
    generalize L2.upd (L2.upd H3 l (.lst (rs.map V.ref))) q (.lst [.str "told", .ref l]) = H5 at X5 T5 e5 S5 ⊢
    refine ret_read ?_
    refine ⟨_, rfl, q, _, _, .str "told", rfl, rfl, SqL.of e5, rfl, rfl, _, rfl, iteF ⟨_, rfl, ?_⟩⟩
    refine k H5 sc es.length s' ⟨Nat.le_refl _, by rw [List.take_length]; exact hp, .inl rfl⟩ ?_ X5 T5
    rw [List.take_length]
    exact S5
end
end KY

set_option Elab.async false
set_option linter.all false
set_option maxRecDepth 100000
set_option maxHeartbeats 4000000
/-! what is written, copied, erased and closed adds up -/
namespace KY
open PySem PySem.Spec PyProof.Rows L2 G1 G2 G3 K2 G5 LamX K3 ClX K6
/-- all pages that are written -/
def pgs (s : Pl) : Nat := (s.cont.flatMap id).length
def cps (told : List Tld) : Int := (told.map fun t => t.2.2).sum
def half0 (s : Pl) : Nat := match s.fil with
  | none => 0
  | some k => (s.cont.getD k []).length
theorem set_pgs {l : List Cb} {k : Nat} {c : Cb} (h : k < l.length) : ((l.set k c).flatMap id).length + (l.getD k []).length = (l.flatMap id).length + c.length := by
  have z := (flat_set id [] l k c h).length_eq
  rw [List.length_append, List.length_append] at z
  exact z
theorem flat_lens (l : List Cb) : (l.flatMap id).length = ((List.range l.length).map fun k => (l.getD k []).length).sum := by
  have e : (List.range l.length).map (fun k => (l.getD k []).length) = l.map List.length := by
    refine List.ext_getElem (by simp) fun i h1 h2 => ?_
    rw [List.length_map] at h2
    rw [List.getElem_map, List.getElem_range, List.getElem_map, List.getD_eq_getElem?_getD, List.getElem?_eq_getElem h2]
    rfl
  rw [e, List.length_flatMap]
  rfl
section
variable {b p : Nat} {s : Pl} {al : List Str} {x : Str} {rows : List RowD}
theorem PInv.part (I : PInv b p s al) : pgs s = p * s.clo.length + half0 s := by
  unfold pgs
  rw [flat_lens, I.cl, ← perm_sum (I.pt.map _), List.map_append, List.map_append, List.sum_append, List.sum_append]
  have e1 : (s.free.map fun k => (s.cont.getD k []).length).sum = 0 := by
    have : s.free.map (fun k => (s.cont.getD k []).length) = List.replicate s.free.length 0 := by
      refine List.eq_replicate_iff.mpr ⟨List.length_map .., fun v hv => ?_⟩
      obtain ⟨k, hk, rfl⟩ := List.mem_map.mp hv
      rw [I.fr k hk]
      rfl
    rw [this]
    simp
  have e2 : (s.clo.map fun k => (s.cont.getD k []).length).sum = p * s.clo.length := by
    have : s.clo.map (fun k => (s.cont.getD k []).length) = List.replicate s.clo.length p := by
      refine List.eq_replicate_iff.mpr ⟨List.length_map .., fun v hv => ?_⟩
      obtain ⟨k, hk, rfl⟩ := List.mem_map.mp hv
      exact I.fc k hk
    rw [this]
    simp [Nat.mul_comm]
  rw [e1, e2]
  unfold half0
  cases s.fil with
  | none => simp
  | some k => simp
theorem PInv.count (I : PInv b p s al) : s.free.length + s.clo.length + s.fil.toList.length = b := by
  have z := I.pt.length_eq
  rw [List.length_range, List.length_append, List.length_append] at z
  exact z
theorem die_pgs {h j : Nat} (L : LivesAt s x h j) : pgs (dieP s h j x) = pgs s := by
  unfold pgs
  have z := set_pgs (c := (s.cont.getD h []).set j none) L.blk
  rw [List.length_set] at z
  show ((s.cont.set h ((s.cont.getD h []).set j none)).flatMap id).length = _
  omega
theorem die_half {h j : Nat} (L : LivesAt s x h j) : half0 (dieP s h j x) = half0 s := by
  unfold half0
  show (match s.fil with | none => 0 | some k => ((s.cont.set h ((s.cont.getD h []).set j none)).getD k []).length) = _
  cases s.fil with
  | none => rfl
  | some k =>
    show ((s.cont.set h ((s.cont.getD h []).set j none)).getD k []).length = (s.cont.getD k []).length
    by_cases e : k = h
    · subst e
      rw [getD_set L.blk, List.length_set]
    · rw [set_getD_ne e]
theorem put_pgs {k : Nat} (h : k < s.cont.length) : pgs (putP p s k x) = pgs s + 1 := by
  unfold pgs
  rw [put_cont]
  have z := set_pgs (c := s.cont.getD k [] ++ [some x]) h
  rw [List.length_append, List.length_singleton] at z
  omega
theorem clean_pgs (I : PInv b p s al) (hp : 0 < p) {i j f : Nat} (hf : s.fil = none) (hfe : s.free = [f]) (hi : s.clo[i]? = some j) : ((pgs (cleanP p s i j f) : Nat) : Int) + p = pgs s + s.liv.getD j 0 ∧ (cleanP p s i j f).free = [j] := by
  obtain ⟨T, hfk, hfb, hkb⟩ := I.cln hp ⟨_, hfe⟩ hf hfe hi
  have hkl : j < s.cont.length := by rw [I.cl]; exact hkb
  have hjl : (s.cont.getD j []).length = p := I.fc j (List.mem_of_getElem? hi)
  have hfl : f < (s.cont.set j []).length := by rw [List.length_set, I.cl]; exact hfb
  have hcf : (s.cont.set j []).getD f [] = [] := by
    rw [set_getD_ne hfk]
    exact I.fr f (by rw [hfe]; exact List.mem_singleton.mpr rfl)
  have hc : (cleanP p s i j f).cont = (s.cont.set j []).set f ((s.cont.set j []).getD f [] ++ (keptN (s.cont.getD j [])).map some) := puts_cont (s := cln1 s i j f) hfl
  refine ⟨?_, ?_⟩
  · unfold pgs
    rw [hc]
    have z1 := set_pgs (c := ([] : Cb)) hkl
    have z2 := set_pgs (c := (s.cont.set j []).getD f [] ++ (keptN (s.cont.getD j [])).map some) hfl
    rw [hcf] at z2 ⊢
    rw [List.nil_append, List.length_map] at z2
    rw [hjl] at z1
    rw [List.nil_append]
    have z3 : s.liv.getD j 0 = ((keptN (s.cont.getD j [])).length : Int) := I.lv j hkb
    rw [z3]
    simp only [List.length_nil] at z1 z2
    omega
  · show s.free.eraseIdx 0 ++ [j] = [j]
    rw [hfe]
    rfl
theorem cleans_pgs (hp : 0 < p) {seen : List (List Int)} {s1 : Pl} {k : Nat} {cl : List Nat} {cp : Int} (h : Cleans p rows seen s s1 k cl cp) : PInv b p s al → ((pgs s1 : Nat) : Int) + ((p * cl.length : Nat) : Int) = pgs s + cp ∧ (cl ≠ [] → s1.free.length = 1 ∧ s.fil = none ∧ s.free.length = 1) ∧ (cl = [] → s1 = s ∧ cp = 0) := by
  induction h with
  | stop hf => exact fun I => ⟨by simp, fun z => absurd rfl z, fun _ => ⟨rfl, rfl⟩⟩
  | @step seen s s2 i j f k cl cp hf hfe hi hn hpk hrest ih =>
    intro I
    obtain ⟨T, hfk, hfb, hkb⟩ := I.cln hp ⟨_, hfe⟩ hf hfe hi
    obtain ⟨h1, h2⟩ := clean_pgs I hp hf hfe hi
    obtain ⟨h3, h4, h5⟩ := ih (I.clean hp hf hfe hi hfk hfb hkb T)
    refine ⟨?_, fun _ => ⟨?_, hf, by rw [hfe]; rfl⟩, fun z => (by cases z)⟩
    · rw [List.length_cons, Nat.mul_succ]
      omega
    · by_cases c : cl = []
      · rw [(h5 c).1, h2]
        rfl
      · exact (h4 c).1
/-- how a load adds up, w writes of it -/
structure Bal (b p : Nat) (s : Pl) (w : Nat) : Prop where
  bal : (w : Int) + cps s.told = ((p * (gone s.told).length + pgs s : Nat) : Int)
  late : gone s.told ≠ [] → p * (b - 1) + 1 ≤ w ∧ s.free.length = 1
  idle : gone s.told = [] → cps s.told = 0
  opn : ∀ k, s.fil = some k → 1 ≤ (s.cont.getD k []).length
theorem bal_new (b p : Nat) : Bal b p (newP b) 0 := by
  refine ⟨?_, fun z => absurd rfl z, fun _ => rfl, fun k z => (by cases z)⟩
  have e : pgs (newP b) = 0 := by
    show ((List.replicate b ([] : Cb)).flatMap id).length = 0
    rw [List.length_flatMap]
    simp
  rw [e]
  rfl
theorem gone_add (ts : List Tld) (t : Tld) : gone (ts ++ [t]) = gone ts ++ t.2.1 := gone_snoc ts t
theorem cps_add (ts : List Tld) (t : Tld) : cps (ts ++ [t]) = cps ts + t.2.2 := by
  unfold cps
  rw [List.map_append, List.sum_append]
  simp
theorem bal_die (B : Bal b p s w) {s0 : Pl} (h : DeadR s s0 x) : Bal b p s0 w ∧ s0.told = s.told ∧ s0.free = s.free ∧ s0.fil = s.fil := by
  rcases h with ⟨_, rfl⟩ | ⟨h, j, L, rfl⟩
  · exact ⟨B, rfl, rfl, rfl⟩
  · refine ⟨⟨?_, B.late, B.idle, fun k hk => ?_⟩, rfl, rfl, rfl⟩
    · rw [die_pgs L]
      exact B.bal
    · have z := die_half L
      unfold half0 at z
      have hk' : s.fil = some k := hk
      have e1 : (dieP s h j x).fil = some k := hk
      rw [e1, hk'] at z
      dsimp only at z
      rw [z]
      exact B.opn k hk'
/-- one event -/
theorem bal_evt {w : Nat} (hp : 0 < p) (I : PInv b p s al) (B : Bal b p s w) {e : Str × Str} {s' : Pl} (h : EvtRG p rows s s' e.1 e.2) :
    ∃ t : Tld, s'.told = s.told ++ [t] ∧ Bal b p s' (w + if e.1 = "write" then 1 else 0) ∧ (t.2.1 ≠ [] → p * (b - 1) ≤ w) ∧ (e.1 = "write" → w = p * (b - 1) → t.2.1 ≠ []) ∧ (e.1 = "trim" ∧ t = (none, [], 0) ∨ e.1 = "write" ∧ ∃ k, t.1 = some k) := by
  obtain ⟨s0, hd, hw⟩ := h
  obtain ⟨I0, ht0⟩ := die_any I hd
  obtain ⟨B0, _, hfr0, hfi0⟩ := bal_die B hd
  rcases hw with ⟨hw, rfl⟩ | ⟨hw, s1, k, cl, cp, ho, rfl⟩
  · refine ⟨(none, [], 0), by rw [← ht0], ?_, fun z => absurd rfl z, fun z => ?_, .inl ⟨hw, rfl⟩⟩
    · rw [if_neg (by rw [hw]; decide)]
      have eg : gone (s0.told ++ [((none, [], 0) : Tld)]) = gone s0.told := by rw [gone_add]; exact List.append_nil _
      have ec : cps (s0.told ++ [((none, [], 0) : Tld)]) = cps s0.told := by rw [cps_add]; exact Int.add_zero _
      refine ⟨?_, fun z => ?_, fun z => ?_, B0.opn⟩
      · show ((w : Nat) : Int) + cps (s0.told ++ [((none, [], 0) : Tld)]) = ((p * (gone (s0.told ++ [((none, [], 0) : Tld)])).length + pgs s0 : Nat) : Int)
        rw [eg, ec]
        exact B0.bal
      · have z' : gone (s0.told ++ [((none, [], 0) : Tld)]) ≠ [] := z
        rw [eg] at z'
        exact B0.late z'
      · have z' : gone (s0.told ++ [((none, [], 0) : Tld)]) = [] := z
        rw [eg] at z'
        show cps (s0.told ++ [((none, [], 0) : Tld)]) = 0
        rw [ec]
        exact B0.idle z'
    · rw [hw] at z
      exact absurd z (by decide)
  · obtain ⟨I1, hf1, ht1⟩ := opn_inv hp I0 ho
    have hkb : k < b := I1.mem (List.mem_append_right _ (by rw [hf1]; exact List.mem_singleton.mpr rfl))
    have hkl : k < s1.cont.length := by rw [I1.cl]; exact hkb
    have key : ((pgs s1 : Nat) : Int) + ((p * cl.length : Nat) : Int) = pgs s0 + cp ∧ (cl ≠ [] → s1.free.length = 1 ∧ s0.fil = none ∧ s0.free.length = 1) ∧ (cl = [] → cp = 0 ∧ (s0.free.length = 1 → s1.free.length = 1 ∧ s0.fil ≠ none)) := by
      rcases ho with ⟨hf, hl, h0, rfl, rfl, rfl⟩ | ⟨hfr, hcl⟩
      · refine ⟨by show ((pgs s0 : Nat) : Int) + _ = _; simp, fun z => absurd rfl z, fun _ => ⟨rfl, fun z => by omega⟩⟩
      · obtain ⟨h1, h2, h3⟩ := cleans_pgs hp hcl I0
        refine ⟨h1, h2, fun z => ⟨(h3 z).2, fun q => ?_⟩⟩
        have e := (h3 z).1
        subst e
        exact ⟨q, by rw [hf1]; intro q2; cases q2⟩
    obtain ⟨k1, k2, k3⟩ := key
    have htold : (putP p { s1 with told := s1.told ++ [(some k, cl, cp)] } k e.2).told = s.told ++ [(some k, cl, cp)] := by
      rw [put_told]
      show s1.told ++ _ = _
      rw [ht1, ht0]
    have hfree : (putP p { s1 with told := s1.told ++ [(some k, cl, cp)] } k e.2).free = s1.free := put_free _ _ _ _
    have hpg : pgs (putP p { s1 with told := s1.told ++ [(some k, cl, cp)] } k e.2) = pgs s1 + 1 := put_pgs (s := { s1 with told := s1.told ++ [(some k, cl, cp)] }) hkl
    have eg : gone (s.told ++ [((some k, cl, cp) : Tld)]) = gone s.told ++ cl := gone_add _ _
    have ec : cps (s.told ++ [((some k, cl, cp) : Tld)]) = cps s.told + cp := cps_add _ _
    have hb0 := B0.bal
    rw [ht0] at hb0
    have hpart := PInv.part I0
    have hcnt := PInv.count I0
    -- where it cleans for the first time
    have first : cl ≠ [] → gone s.told = [] → w = p * (b - 1) := fun hc hg => by
      obtain ⟨_, q1, q2⟩ := k2 hc
      have z := B.idle hg
      rw [hg, z] at hb0
      have e1 : half0 s0 = 0 := by
        unfold half0
        rw [q1]
      rw [q1] at hcnt
      have e2 : s0.clo.length = b - 1 := by
        have : (none : Option Nat).toList.length = 0 := rfl
        omega
      rw [e1, e2] at hpart
      rw [List.length_nil, Nat.mul_zero] at hb0
      omega
    have late : cl ≠ [] → p * (b - 1) ≤ w := fun hc => by
      by_cases hg : gone s.told = []
      · have := first hc hg
        omega
      · have := (B.late hg).1
        omega
    refine ⟨(some k, cl, cp), htold, ?_, late, fun _ hwm hc => ?_, .inr ⟨hw, k, rfl⟩⟩
    · rw [if_pos hw]
      refine ⟨?_, fun z => ?_, fun z => ?_, fun k' hk' => ?_⟩
      · rw [htold, hpg, eg, ec, List.length_append, Nat.mul_add]
        omega
      · rw [htold, eg] at z
        rw [hfree]
        by_cases hc : cl = []
        · have hg : gone s.told ≠ [] := fun q => z (by rw [q, hc]; rfl)
          obtain ⟨l1, l2⟩ := B.late hg
          exact ⟨by omega, ((k3 hc).2 (by rw [hfr0]; exact l2)).1⟩
        · have := late hc
          exact ⟨by omega, (k2 hc).1⟩
      · rw [htold, eg] at z
        obtain ⟨z1, z2⟩ := List.append_eq_nil_iff.mp z
        rw [htold, ec, B.idle z1, (k3 z2).1]
        rfl
      · have hcont : (putP p { s1 with told := s1.told ++ [(some k, cl, cp)] } k e.2).cont = s1.cont.set k (s1.cont.getD k [] ++ [some e.2]) := put_cont _ _ _ _
        rw [hcont]
        by_cases q : k' = k
        · subst q
          rw [getD_set hkl, List.length_append, List.length_singleton]
          omega
        · exfalso
          unfold putP at hk'
          split at hk'
          · cases hk'
          · rw [show ({ s1 with told := s1.told ++ [(some k, cl, cp)] } : Pl).fil = some k from hf1] at hk'
            exact q (Option.some.inj hk').symm
    · have hg : gone s.told = [] := by
        by_cases hg : gone s.told = []
        · exact hg
        · have := (B.late hg).1
          omega
      have hc' : cl = [] := hc
      rw [hg, B.idle hg] at hb0
      rw [List.length_nil, Nat.mul_zero] at hb0
      have hfe := List.length_pos_iff.mpr I0.fe
      -- all blocks but one are closed
      have hclo : s0.fil = none ∧ s0.free.length = 1 := by
        unfold half0 at hpart
        cases hq : s0.fil with
        | none =>
          rw [hq] at hpart hcnt
          have e0 : (none : Option Nat).toList.length = 0 := rfl
          have hpart : pgs s0 = p * s0.clo.length + 0 := hpart
          have e1 : p * s0.clo.length = p * (b - 1) := by omega
          have e2 := Nat.eq_of_mul_eq_mul_left hp e1
          exact ⟨rfl, by omega⟩
        | some k' =>
          exfalso
          rw [hq] at hpart hcnt
          have e0 : (some k' : Option Nat).toList.length = 1 := rfl
          have h2 := I0.fo k' hq
          have e2 : s0.clo.length ≤ b - 2 := by omega
          have e3 := Nat.mul_le_mul_left p e2
          have e4 : p * (b - 1) = p * (b - 2) + p := by
            rw [show b - 1 = (b - 2) + 1 by omega, Nat.mul_succ]
          dsimp only at hpart
          omega
      exact ((k3 hc').2 hclo.2).2 hclo.1
end
end KY

set_option Elab.async false
set_option linter.all false
set_option maxRecDepth 100000
set_option maxHeartbeats 4000000
/-! a load that is played adds up behind each part -/
namespace KY
open PySem PySem.Spec PyProof.Rows L2 G1 G2 G3 K2 G5 LamX K3 ClX K6
/-- writes among events, and among what is told -/
def wrs (es : List (Str × Str)) : Nat := (es.filter fun (e : Str × Str) => decide (e.1 = ("write" : Str))).length
def wrn (told : List Tld) : Nat := (told.filter fun t => t.1.isSome).length
theorem wrs_snoc (es : List (Str × Str)) (e : Str × Str) : wrs (es ++ [e]) = wrs es + if e.1 = "write" then 1 else 0 := by
  unfold wrs
  rw [List.filter_append, List.length_append]
  by_cases c : e.1 = "write"
  · rw [if_pos c]
    simp [c]
  · rw [if_neg c]
    simp [c]
theorem wrn_snoc (ts : List Tld) (t : Tld) : wrn (ts ++ [t]) = wrn ts + if t.1.isSome = true then 1 else 0 := by
  unfold wrn
  rw [List.filter_append, List.length_append]
  by_cases c : t.1.isSome = true
  · rw [if_pos c]
    simp [c]
  · rw [if_neg c]
    simp [c]
section
variable {b p : Nat} {s : Pl} {al : List Str} {rows : List RowD}
theorem bal_plays (hp : 0 < p) : ∀ {es : List (Str × Str)} {s s' : Pl} {al : List Str} {w : Nat}, PlaysToG p rows s es s' → PInv b p s al → Bal b p s w → w = wrn s.told → Bal b p s' (w + wrs es) ∧ w + wrs es = wrn s'.told ∧ PInv b p s' (es.foldl aft al)
  | [], s, s', al, w, h, I, B, e => by
    have h' : s' = s := h
    subst h'
    exact ⟨B, e, I⟩
  | e :: es, s, s', al, w, ⟨s1, h1, h2⟩, I, B, ew => by
    obtain ⟨I1, _⟩ := evt_to hp I h1
    obtain ⟨t, ht, B1, _, _, hk⟩ := bal_evt hp I B h1
    have e1 : wrs (e :: es) = (if e.1 = "write" then 1 else 0) + wrs es := by
      unfold wrs
      rw [List.filter_cons]
      by_cases c : e.1 = "write"
      · rw [if_pos c, if_pos (decide_eq_true c), List.length_cons]
        omega
      · rw [if_neg c, if_neg (by simpa using c)]
        omega
    have e2 : wrn s1.told = wrn s.told + if e.1 = "write" then 1 else 0 := by
      rw [ht, wrn_snoc]
      rcases hk with ⟨z1, z2⟩ | ⟨z1, k, z2⟩
      · rw [z2, z1]
        rfl
      · rw [z2, if_pos z1]
        rfl
    rw [e1, ← Nat.add_assoc]
    exact bal_plays hp h2 I1 B1 (by omega)
theorem told_grow (hp : 0 < p) : ∀ {es : List (Str × Str)} {s s' : Pl} {al : List Str}, PlaysToG p rows s es s' → PInv b p s al → ∃ ts, s'.told = s.told ++ ts ∧ ts.length = es.length
  | [], s, s', al, h, I => by
    have h' : s' = s := h
    subst h'
    exact ⟨[], (List.append_nil _).symm, rfl⟩
  | e :: es, s, s', al, ⟨s1, h1, h2⟩, I => by
    obtain ⟨I1, t, ht, _⟩ := evt_to hp I h1
    obtain ⟨ts, h3, h4⟩ := told_grow hp h2 I1
    exact ⟨t :: ts, by rw [h3, ht, List.append_assoc]; rfl, by rw [List.length_cons, List.length_cons, h4]⟩
variable {n : Nat}
theorem pures_new (PU : PureS b p n rows es) : PInv b p (newP b) [] := pinv_new (by have := PU.D.b2; omega) PU.D.p0
theorem told_take {es : List (Str × Str)} (PU : PureS b p n rows es) {s' s2 : Pl} {m : Nat} (hm : m ≤ es.length) (hs : PlaysToG p rows (newP b) es s') (h2 : PlaysToG p rows (newP b) (es.take m) s2) : s2.told = s'.told.take m := by
  have hs' := hs
  rw [← List.take_append_drop m es] at hs'
  obtain ⟨s3, h3, h4⟩ := plays_app hs'
  have e := plays_uniq PU.wd h3 h2
  subst e
  have I0 := pures_new PU
  obtain ⟨I3, l3, _⟩ := (PU.take m).all.2 s3 h3
  obtain ⟨ts, h5, _⟩ := told_grow PU.D.p0 h4 I3
  rw [List.length_take] at l3
  have e3 : s3.told.length = m := by omega
  rw [h5, List.take_append_of_le_length (by omega), ← e3, List.take_length]
/-- how cleaning begins -/
theorem first_fact {es : List (Str × Str)} (PU : PureS b p n rows es) {s' : Pl} (hs : PlaysToG p rows (newP b) es s') {k : Nat} {e : Str × Str} {t : Tld} (he : es[k]? = some e) (ht : s'.told[k]? = some t) :
    (t.2.1 ≠ [] → p * (b - 1) ≤ wrs (es.take k)) ∧ (e.1 = "write" → wrs (es.take k) = p * (b - 1) → t.2.1 ≠ []) ∧ wrs (es.take (k + 1)) = wrs (es.take k) + if e.1 = "write" then 1 else 0 := by
  have hk := (List.getElem?_eq_some_iff.mp he).1
  have etk : es.take (k + 1) = es.take k ++ [e] := by rw [List.take_add_one, he]; rfl
  have hs' := hs
  rw [← List.take_append_drop (k + 1) es] at hs'
  obtain ⟨s3, h3, h4⟩ := plays_app hs'
  have h3' := h3
  rw [etk] at h3'
  obtain ⟨s2, h2, h5⟩ := plays_app h3'
  obtain ⟨s4, h6, h7⟩ := h5
  have e7 : s3 = s4 := h7
  subst e7
  obtain ⟨B2, w2, I2⟩ := bal_plays PU.D.p0 h2 (pures_new PU) (bal_new b p) rfl
  obtain ⟨t', ht', _, f1, f2, _⟩ := bal_evt PU.D.p0 I2 B2 h6
  have e1 := told_take PU (by omega) hs h3
  have e2 := told_take PU (by omega) hs h2
  have e3 : t' = t := by
    rw [e1, e2, List.take_add_one, ht] at ht'
    have := List.append_cancel_left ht'
    have z : [t] = [t'] := this
    injection z with z
    exact z.symm
  subst e3
  rw [Nat.zero_add] at f1 f2
  exact ⟨f1, f2, by rw [etk, wrs_snoc]⟩
/-- what a part of a load shows -/
structure PartOk (b p : Nat) (al : List Str) (s : Pl) : Prop where
  put : (wrn s.told : Int) + cps s.told = (p : Int) * (((gone s.told).length : Int) + ((cntP s).length : Int)) + ((opnL s).take 1).sum
  live : (cntP s).sum + ((opnL s).drop 1).sum = (al.length : Int)
  half : (opnL s = [] ∧ s.fil = none) ∨ ∃ h l : Nat, opnL s = [(h : Int), (l : Int)] ∧ s.fil.toList.length = 1 ∧ 1 ≤ h ∧ h < p ∧ l ≤ h
  room : (cntP s).length + s.fil.toList.length + s.free.length = b
  few : ∀ c ∈ cntP s, 0 ≤ c ∧ c ≤ (p : Int)
  clo : (((blosM s).map fun t => t.1).count ("closed" : Str)) = (cntP s).length
  opn : (((blosM s).map fun t => t.1).count ("open" : Str)) = s.fil.toList.length
  fre : (((blosM s).map fun t => t.1).count ("free" : Str)) = s.free.length
  one : 1 ≤ s.free.length
  late : gone s.told ≠ [] → s.free.length = 1
theorem count_word (s : Pl) (w : Str) : ((blosM s).map fun t => t.1).count w = ((List.range s.cont.length).filter fun i => decide ((bloM s i).1 = w)).length := by
  unfold blosM
  rw [List.map_map, List.count_eq_countP, List.countP_map, List.countP_eq_length_filter]
  congr 1
theorem part_fact {es : List (Str × Str)} (PU : PureS b p n rows es) {s : Pl} (hs : PlaysToG p rows (newP b) es s) : PartOk b p (es.foldl aft []) s := by
  obtain ⟨B, w, I⟩ := bal_plays PU.D.p0 hs (pures_new PU) (bal_new b p) rfl
  rw [Nat.zero_add] at B w
  have hcl : (cntP s).length = s.clo.length := by unfold cntP; rw [List.length_map]
  have hpart := PInv.part I
  have hcnt := PInv.count I
  have hfil : (s.fil = none ∧ opnL s = [] ∧ half0 s = 0) ∨ ∃ k, s.fil = some k ∧ opnL s = [((s.cont.getD k []).length : Int), ((kln (s.cont.getD k []) : Nat) : Int)] ∧ half0 s = (s.cont.getD k []).length := by
    cases hf : s.fil with
    | none =>
      refine .inl ⟨rfl, ?_, ?_⟩
      · unfold opnL
        rw [hf]
      · unfold half0
        rw [hf]
    | some k =>
      have hk : k < b := I.mem (List.mem_append_right _ (by rw [hf]; exact List.mem_singleton.mpr rfl))
      refine .inr ⟨k, rfl, ?_, ?_⟩
      · unfold opnL
        rw [hf]
        show [((s.cont.getD k []).length : Int), s.liv.getD k 0] = _
        rw [I.lv k hk]
        rfl
      · unfold half0
        rw [hf]
  refine ⟨?_, ?_, ?_, by omega, fun c hc => ?_, ?_, ?_, ?_, ?_, fun z => (B.late z).2⟩
  · have z := B.bal
    rw [w] at z
    rw [z, hcl]
    rw [hpart]
    rcases hfil with ⟨_, h2, h3⟩ | ⟨k, _, h2, h3⟩
    · rw [h2, h3, Int.mul_add]
      push_cast
      simp
    · rw [h2, h3, Int.mul_add]
      push_cast
      simp only [List.take, List.sum_cons, List.sum_nil]
      omega
  · have z := I.sum
    have e0 : (s.free.map fun k => kln (s.cont.getD k [])).sum = 0 := by
      have : s.free.map (fun k => kln (s.cont.getD k [])) = List.replicate s.free.length 0 := by
        refine List.eq_replicate_iff.mpr ⟨List.length_map .., fun v hv => ?_⟩
        obtain ⟨k, hk, rfl⟩ := List.mem_map.mp hv
        rw [I.fr k hk]
        rfl
      rw [this]
      simp
    rw [List.map_append, List.map_append, List.sum_append, List.sum_append, e0] at z
    have e1 : (cntP s).sum = ((lvC s).sum : Int) := by
      rw [I.cnt]
      unfold csI
      generalize lvC s = L
      induction L with
      | nil => rfl
      | cons a L ih =>
        rw [List.map_cons, List.sum_cons, List.sum_cons, ih]
        push_cast
        rfl
    rw [e1]
    unfold lvC
    rcases hfil with ⟨h1, h2, h3⟩ | ⟨k, h1, h2, h3⟩
    · rw [h2]
      rw [h1] at z
      simp only [Option.toList, List.map_nil, List.sum_nil] at z
      simp only [List.drop_nil, List.sum_nil]
      omega
    · rw [h2]
      rw [h1] at z
      simp only [Option.toList, List.map_cons, List.map_nil, List.sum_cons, List.sum_nil] at z
      simp only [List.drop, List.sum_cons, List.sum_nil]
      omega
  · rcases hfil with ⟨h1, h2, h3⟩ | ⟨k, h1, h2, h3⟩
    · exact .inl ⟨h2, h1⟩
    · exact .inr ⟨_, _, h2, by rw [h1]; rfl, B.opn k h1, I.fo k h1, kept_len _⟩
  · rw [I.cnt] at hc
    obtain ⟨v, hv, rfl⟩ := List.mem_map.mp hc
    have := I.lvc_le v hv
    show (0 : Int) ≤ (v : Int) ∧ (v : Int) ≤ (p : Int)
    omega
  · rw [count_word, I.idxs.2.1.length_eq, hcl]
  · rw [count_word, I.idxs.2.2.length_eq]
  · rw [count_word, I.idxs.1.length_eq]
  · exact List.length_pos_iff.mpr I.fe
end
end KY

set_option Elab.async false
set_option linter.all false
set_option maxRecDepth 100000
set_option maxHeartbeats 4000000
/-! sum of a tuple, a tuple once, how often a text stands in a list. -/
namespace G2
open PySem PySem.Spec PyProof.Rows L2 Builtin
section
variable {X : Cx}
def rSumT (K : PySem.W.Frag) : List V → Hp → VK → Prop := fun vs H Q => ∃ (a : Addr) (ns : List Int), vs = [V.ref a] ∧ SqT K H a (ns.map V.int) ∧ Q (.int ns.sum) H
theorem cr_sumT (hc : X.calm = true) : CallR X (.builtin "sum") (rSumT X.K) := by
  intro pins s σ H vs us Q I r h
  obtain ⟨a, ns, rfl, hs, q⟩ := h
  obtain ⟨its, rv, hl, _⟩ := I.tuple hs
  rw [Vals.ref1 r]
  have hi := rv.ints
  obtain ⟨xs, hx⟩ := hi.allInts.items
  have hn : numsOf its.toArray.toList = ns := by rw [show its.toArray.toList = its from rfl, hi.numsOf]
  rw [hx] at hl hn
  rw [nums_intItems] at hn
  refine PySem.W.ktm_sumG (I.ok.hd hc) hl fun h' tk t' hk => ?_
  refine ⟨.int _, H, I.kept hk, ⟨_, rfl⟩, ?_⟩
  rw [preSum_eq, List.take_of_length_le (by simp), hn]
  exact q
def rCntS (K : PySem.W.Frag) : V → List V → Hp → VK → Prop := fun x xs H Q => ∃ (p : Addr) (ys : List Str) (k : Str), x = .ref p ∧ xs = [.str k] ∧ SqL K H p (ys.map V.str) ∧ Q (.int (countIn (.str k) (ys.map PyData.str))) H
theorem mt_scount : MtR X "list.count" (rCntS X.K) := by
  intro pins s σ H x xs v us Q I rx rxs h
  obtain ⟨p, ys, k, rfl, rfl, hs, q⟩ := h
  cases rx
  obtain ⟨u, rfl, ru⟩ := rxs.one
  obtain ⟨t, rfl⟩ := ru
  obtain ⟨its, rv, hl, hlen⟩ := I.list hs
  exact count_list_strs hl.isList rv.strs ⟨.int _, H, I.tok _, ⟨_, rfl⟩, q⟩
theorem count_all (k : Str) : ∀ n : Nat, countIn (.str k) ((List.replicate n k).map PyData.str) = (n : Int)
  | 0 => rfl
  | n + 1 => by
    rw [List.replicate_succ, List.map_cons, countIn, count_all k n]
    simp [same]
    omega
theorem tuple_mul1 (l : Addr) (items : Array Value) (n : Nat) (dd : Option Addr) (sl : Array (Option Value)) (u : Tok) :
    Meets (Builtin.«tuple.__mul__» ⟨[.ref l, .int 1 u], []⟩) (fun _ R s => s.heap.get? l = some { cls := .type "tuple", dict := dd, data := .seq items n, slots := sl } ∧ R (.ok (.ret (Value.ref l))) s) :=
  .of_wp fun prog w A R s h => by
    obtain ⟨hp, g, d, tk, os⟩ := s
    obtain ⟨hl, h⟩ := h
    have f1 := AutoSeq1.idx_int
    wp_walk using wpAny_loadPart' hl
    exact ⟨_, rfl, h⟩
def rRepA (K : PySem.W.Frag) : R2 := fun x y H Q => ∃ l k xs, x = .ref l ∧ y = .int k ∧ SqT K H l xs ∧ xs ≠ [] ∧ 1 ≤ k ∧ k ≤ 1000 ∧ xs.length ≤ 1000 ∧ (k = 1 → Q (.ref l) H) ∧ (2 ≤ k → ∀ p, H p = none → Q (.ref p) (upd H p (.tup (List.replicate k.toNat xs).flatten)))
theorem op_repA : OpR X (binaryOp .Mult) (rRepA X.K) := by
  intro pins s σ H x y v u Q I rx ry h
  obtain ⟨l, k, xs, rfl, rfl, hT, hne, h1, h2, hz, q1, q2⟩ := h
  by_cases hk : 2 ≤ k
  · exact op_repT pins s σ H _ _ v u Q I rx ry ⟨l, k, xs, rfl, rfl, hT, hne, hk, h2, hz, q2 hk⟩
  have e1 : k = 1 := by omega
  subst e1
  cases rx
  obtain ⟨t, rfl⟩ := ry
  obtain ⟨its, r, ⟨⟨cls, dd, data, sl⟩, ho, hc, n, hd⟩, hs⟩ := I.tuple hT
  simp only at hc hd
  subst hc hd
  refine wpAny_binaryOp_repeat_ref (T := "tuple") (U := "int") (by decide) ⟨_, ho, rfl⟩ (fun s' => typeIs_int s' 1 t) noFill_tuple_mul F.fills_int_mul F.slot_int_rmul repeat_tuple F.slot_int_index.lookup
    (call_meets F.slot_int_rmul (typeIs_int s 1 t) F.entry_int_rmul (F.args_int_rmul_2 _ _) (int_rmul_tuple 1 t l its.toArray n dd sl)
      ⟨ho, rfl, ⟨_, ho, rfl⟩, call_meets F.slot_tuple_mul ⟨_, ho, rfl⟩ F.entry_tuple_mul (F.args_tuple_mul_2 _ _) (tuple_mul1 l its.toArray n dd sl t) ⟨ho, ?_⟩⟩)
  exact ⟨.ref l, H, I, rfl, q1 rfl⟩
end
end G2

set_option Elab.async false
set_option linter.all false
set_option maxRecDepth 100000
set_option maxHeartbeats 8000000
/-! _law_seen -/
namespace KY
open PySem PySem.Spec PyProof.Rows L2 G1 G2 G3 K2 G5 LamX K3 ClX K6
theorem ers_lenY (b : Nat) : ∀ told : List Tld, (ersM b told).length = b := fun told => by
  have : ∀ (l : List Tld) (a : List Nat), (l.foldl ersT a).length = a.length := fun l => by
    induction l with
    | nil => exact fun _ => rfl
    | cons t l ih =>
      intro a
      show (l.foldl ersT (ersT a t)).length = _
      rw [ih]
      exact fold_len t.2.1 a
  unfold ersM
  rw [this, List.length_replicate]
theorem adds_le : ∀ (cl er : List Nat) (k : Nat), (∀ v ∈ er, v ≤ k) → ∀ v ∈ cl.foldl addJ er, v ≤ k + cl.length
  | [], _, _, h, v, hv => h v hv
  | j :: cl, er, k, h, v, hv => by
    have z := adds_le cl (addJ er j) (k + 1) (fun w hw => by
      unfold addJ at hw
      rcases List.mem_or_eq_of_mem_set hw with q | q
      · have := h w q
        omega
      · rw [q, List.getD_eq_getElem?_getD]
        cases e : er[j]? with
        | none => show 0 + 1 ≤ k + 1; omega
        | some m =>
          have := h m (List.mem_of_getElem? e)
          show m + 1 ≤ k + 1
          omega) v hv
    rw [List.length_cons]
    omega
theorem ers_leY (b : Nat) : ∀ told : List Tld, (∀ t ∈ told, t.2.1.length ≤ 32) → ∀ v ∈ ersM b told, v ≤ 32 * told.length := fun told h => by
  have : ∀ (l : List Tld) (a : List Nat) (k : Nat), (∀ t ∈ l, t.2.1.length ≤ 32) → (∀ v ∈ a, v ≤ k) → ∀ v ∈ l.foldl ersT a, v ≤ k + 32 * l.length := fun l => by
    induction l with
    | nil => exact fun a k _ ha v hv => ha v hv
    | cons t l ih =>
      intro a k hl ha v hv
      have z := ih (ersT a t) (k + 32) (fun t ht => hl t (List.mem_cons_of_mem _ ht)) (fun v hv => by
        have y := adds_le t.2.1 a k ha v hv
        have := hl t (List.mem_cons_self ..)
        omega) v hv
      rw [List.length_cons]
      omega
  intro v hv
  have z := this told (List.replicate b 0) 0 h (fun v hv => by rw [(List.mem_replicate.mp hv).2]; exact Nat.le_refl 0) v hv
  omega
theorem tld_fitY {b : Nat} {t : Tld} (hb : b ≤ 10) (h : StepS b t) : DFit (tldD t) 2 99 := by
  have h1 := (opt_fit (o := t.1) fun j z => by have := h.k j z; omega).up (k' := 1) (m' := 32) (by decide) (by decide)
  have h2 := ints_fit (l := csI t.2.1) (n := 32) (fun i hi => by
    obtain ⟨j, hj, rfl⟩ := List.mem_map.mp hi
    have := h.cl j hj
    show ((j : Nat) : Int).natAbs < _
    omega) (by rw [List.length_map]; exact h.len)
  have h3 := (small_int (i := t.2.2) (by have := h.c0; have := h.c1; omega)).up (k' := 1) (m' := 32) (by decide) (by decide)
  have z := tup_fit (f := fun (x : PyData) => x) (l := [optD t.1, .tuple (iD (csI t.2.1)), .int t.2.2]) (k := 1) (m := 32) (n := 3) (fun x hx => by
    simp only [List.mem_cons, List.not_mem_nil, or_false] at hx
    rcases hx with rfl | rfl | rfl
    · exact h1
    · exact h2
    · exact h3) (Nat.le_refl _)
  rw [List.map_id'] at z
  exact z
theorem pr_sum {c e : Int} (hc : 0 ≤ c ∧ c ≤ 9) (he : 0 ≤ e ∧ e ≤ 9) : ∀ (ts : List Tld) (b : Nat), (∀ t ∈ ts, StepS b t) → 0 ≤ prM c e ts ∧ prM c e ts ≤ 4000 * ts.length
  | [], _, _ => ⟨Int.le_refl 0, Int.le_refl 0⟩
  | t :: ts, b, h => by
    obtain ⟨h1, h2⟩ := pr_sum hc he ts b fun x hx => h x (List.mem_cons_of_mem _ hx)
    have a := h t (List.mem_cons_self ..)
    have a1 := a.c0
    have a2 := a.c1
    have a3 := a.len
    have m1 : 0 ≤ c * t.2.2 := Int.mul_nonneg hc.1 a1
    have m2 : c * t.2.2 ≤ 9 * 400 := Int.mul_le_mul hc.2 a2 a1 (by decide)
    have m3 : 0 ≤ e * (t.2.1.length : Int) := Int.mul_nonneg he.1 (by omega)
    have m4 : e * (t.2.1.length : Int) ≤ 9 * 32 := Int.mul_le_mul he.2 (by omega) (by omega) (by decide)
    have e1 : prM c e (t :: ts) = (c * t.2.2 + e * (t.2.1.length : Int)) + prM c e ts := by
      unfold prM
      rw [List.map_cons, List.sum_cons]
      rfl
    rw [e1, List.length_cons]
    omega
theorem aft_namesY {e : Str × Str} {al : List Str} (h : ∀ y ∈ al, NameOk y) (he : NameOk e.2) : ∀ y ∈ aft al e, NameOk y := fun y hy => by
  unfold aft at hy
  split at hy
  · exact h y (List.mem_of_mem_erase hy)
  · rcases List.mem_append.mp hy with z | z
    · exact h y (List.mem_of_mem_erase z)
    · rw [List.mem_singleton.mp z]
      exact he
theorem fold_namesY {n : Nat} : ∀ {es : List (Str × Str)} {al : List Str}, (∀ y ∈ al, NameOk y) → Lets n al es → ∀ y ∈ es.foldl aft al, NameOk y
  | [], _, h, _ => h
  | e :: es, al, h, ⟨h1, h2⟩ => fold_namesY (es := es) (aft_namesY h h1.nm) h2
/-- what is told of a load -/
def seenD (b : Nat) (s : Pl) : PyData := .list [.list (s.told.map tldD), .tuple (((List.range b).map (bloM s)).map blkD), .tuple (iD (csI (ersM b s.told))), stdD s, .int (prM 1 0 s.told), .int (prM 2 5 s.told)]
theorem seen_fit {b p n : Nat} {rows : List RowD} {es : List (Str × Str)} {s : Pl} (PU : PureS b p n rows es) (pl : PlaysToG p rows (newP b) es s) : DFit (seenD b s) 4 60006 := by
  obtain ⟨I, hlen, hst⟩ := PU.all.2 s pl
  have hb := PU.D.b10
  have hp := PU.D.p10
  have hf := PU.few
  have hnm := fold_namesY (fun _ w => (List.not_mem_nil w).elim) PU.lets
  obtain ⟨_, hcont⟩ := PU.fit pl
  have hstd := I.stdok hb
  have f1 := (lst_fit (f := tldD) (l := s.told) (n := 100) (fun t ht => tld_fitY hb (hst t ht)) (by omega)).up (k' := 3) (m' := 10000) (by decide) (by decide)
  have f2 := (blks_fit (ts := (List.range b).map (bloM s)) (fun t ht => by
    obtain ⟨i, hi, rfl⟩ := List.mem_map.mp ht
    have hib := List.mem_range.mp hi
    have hm : s.cont.getD i [] ∈ s.cont := K6.getD_mem (by rw [I.cl]; exact hib)
    refine ⟨blo_state s i, fun x hx => hnm x (I.names.mem_iff.mp (List.mem_flatMap.mpr ⟨_, hm, hx⟩)), ?_⟩
    exact Nat.le_trans (kept_len _) (hcont _ hm)) (by rw [List.length_map, List.length_range]; exact hb)).up (k' := 3) (m' := 10000) (by decide) (by decide)
  have f3 := (ints_fit (l := csI (ersM b s.told)) (n := 10) (fun i hi => by
    obtain ⟨v, hv, rfl⟩ := List.mem_map.mp hi
    have := ers_leY b s.told (fun t ht => (hst t ht).len) v hv
    show ((v : Nat) : Int).natAbs < 10000000
    omega) (by unfold csI; rw [List.length_map, ers_lenY]; exact hb)).up (k' := 3) (m' := 10000) (by decide) (by decide)
  have hcs : ∀ i ∈ cntP s, i.natAbs < 10 ^ 7 := fun i hi => by
    rw [I.cnt] at hi
    obtain ⟨v, hv, rfl⟩ := List.mem_map.mp hi
    have := I.lvc_le v hv
    show ((v : Nat) : Int).natAbs < 10000000
    omega
  have hcl : (cntP s).length ≤ 10 := by
    unfold cntP
    rw [List.length_map]
    exact hstd.clo
  have hop : (∀ i ∈ opnL s, i.natAbs < 10 ^ 7) ∧ (opnL s).length ≤ 10 := by
    unfold opnL
    cases hfil : s.fil with
    | none => exact ⟨fun i hi => (nomatch hi), by show 0 ≤ 10; decide⟩
    | some k =>
      have hk : k < b := I.mem (List.mem_append_right _ (by rw [hfil]; exact List.mem_singleton.mpr rfl))
      have h1 := I.fo k hfil
      have h2 := kept_len (s.cont.getD k [])
      refine ⟨fun i hi => ?_, by show 2 ≤ 10; decide⟩
      have hi : i = ((s.cont.getD k []).length : Int) ∨ i = s.liv.getD k 0 := by simpa using hi
      rcases hi with rfl | rfl
      · show _ < 10000000
        omega
      · rw [I.lv k hk]
        show (((keptN (s.cont.getD k [])).length : Nat) : Int).natAbs < 10000000
        omega
  have f4 : DFit (stdD s) 3 10000 := by
    have a1 := (ints_fit hcs hcl).up (k' := 1) (m' := 10) (by decide) (by decide)
    have a2 := (ints_fit hop.1 hop.2).up (k' := 1) (m' := 10) (by decide) (by decide)
    have z := tup_fit (f := fun (x : PyData) => x) (l := [.tuple (iD (cntP s)), .tuple (iD (opnL s))]) (k := 1) (m := 10) (n := 2) (fun x hx => by
      simp only [List.mem_cons, List.not_mem_nil, or_false] at hx
      rcases hx with rfl | rfl
      · exact a1
      · exact a2) (Nat.le_refl _)
    rw [List.map_id'] at z
    exact z.up (by decide) (by decide)
  obtain ⟨c1, c2⟩ := pr_sum (c := 1) (e := 0) ⟨by decide, by decide⟩ ⟨by decide, by decide⟩ s.told b hst
  obtain ⟨c3, c4⟩ := pr_sum (c := 2) (e := 5) ⟨by decide, by decide⟩ ⟨by decide, by decide⟩ s.told b hst
  have f5 := (small_int (i := prM 1 0 s.told) (by show _ < 10000000; omega)).up (k' := 3) (m' := 10000) (by decide) (by decide)
  have f6 := (small_int (i := prM 2 5 s.told) (by show _ < 10000000; omega)).up (k' := 3) (m' := 10000) (by decide) (by decide)
  have z := lst_fit (f := fun (x : PyData) => x) (l := [.list (s.told.map tldD), .tuple (((List.range b).map (bloM s)).map blkD), .tuple (iD (csI (ersM b s.told))), stdD s, .int (prM 1 0 s.told), .int (prM 2 5 s.told)]) (k := 3) (m := 10000) (n := 6) (fun x hx => by
    simp only [List.mem_cons, List.not_mem_nil, or_false] at hx
    rcases hx with rfl | rfl | rfl | rfl | rfl | rfl
    · exact f1
    · exact f2
    · exact f3
    · exact f4
    · exact f5
    · exact f6) (Nat.le_refl _)
  rw [List.map_id'] at z
  exact z
structure PrcAt (P : Program) (w : World) (K : PySem.W.Frag) (mg : Str → Option Value) (base : Heap) (T : List (Addr × Str)) (CD C : Addr) : Prop where
  ex : ∃ (f : Addr) (fd : FuncData), FnOk P w K mg base CX0 8 f fd NP4 (spPrc K T CD C) ∧ PySem.W.keepIn K (.ref f) = true ∧ (∃ ds, Vals [V.int 1, V.int 0] ds ∧ Binds K fd NP4 ds) ∧ KBn K fd NP4 2 ["copies", "erasures"] gApp6 gApp6 ∧ mg "price" = some (.ref f)
section
variable {K : PySem.W.Frag} {T : List (Addr × Str)} {CD C : Addr} {H : Hp} {mi ld : Addr} {b p n : Nat} {ini : List RowD} {y : Str} {es : List (Str × Str)} {s0 : Pl}
theorem stp_in {Q : List V → Hp → Prop} {E : XK} (S : S8 K CD H mi ld b p n ini y es) (PU : PureS b p n (ini ++ [((p : Int), y)]) es) (pl : PlaysToG p (ini ++ [((p : Int), y)]) (newP b) es s0) (hT : Tabs T H) (k : ∀ (H' : Hp) (rs : List Addr), Paired (TldAt H') rs s0.told → ExtN H H' → Tabs T H' → Q (rs.map V.ref) H') : spStpG K T CD C [.ref mi, .ref ld] H Q E := by
  obtain ⟨eas, hld, hev⟩ := S.sc
  have hfew := PU.few
  refine ⟨mi, ld, eas, es, b, p, n, ini, y, rfl, hld, Paired.mapP hev str_row8, S.mi, PU.D.b10, PU.wd, PU.ok pl, by omega, hT, fun s' h' => by have := (PU.all.2 s' h').2.1; omega, fun H' rs s' h' hrs x t => ?_⟩
  have e := plays_uniq PU.wd h' pl
  subst e
  exact k H' rs hrs x t
theorem ers_in {Q : VK} {E : XK} (S : S8 K CD H mi ld b p n ini y es) (PU : PureS b p n (ini ++ [((p : Int), y)]) es) (pl : PlaysToG p (ini ++ [((p : Int), y)]) (newP b) es s0) (hT : Tabs T H) (k : ∀ (H' : Hp) (q : Addr), H' q = some (.tup ((ersM b s0.told).map nV)) → ExtN H H' → Tabs T H' → Q (.ref q) H') : spErs K T CD C [.ref mi, .ref ld] H Q E := by
  obtain ⟨eas, hld, hev⟩ := S.sc
  have hfew := PU.few
  refine ⟨mi, ld, eas, es, b, p, n, ini, y, rfl, hld, Paired.mapP hev str_row8, S.mi, by have := PU.D.b2; omega, PU.D.b10, PU.wd, PU.ok pl, by omega, hT, fun s' h' t ht => ((PU.all.2 s' h').2.2 t ht).cl, fun H' q s' h' hq x t => ?_⟩
  have e := plays_uniq PU.wd h' pl
  subst e
  exact k H' q hq x t
theorem blo_in {Q : VK} {E : XK} (S : S8 K CD H mi ld b p n ini y es) (PU : PureS b p n (ini ++ [((p : Int), y)]) es) (pl : PlaysToG p (ini ++ [((p : Int), y)]) (newP b) es s0) (hT : Tabs T H) (k : ∀ (H' : Hp) (q : Addr) (rs : List Addr), H' q = some (.tup (rs.map V.ref)) → Paired (BlAt H') rs ((List.range b).map (bloM s0)) → ExtN H H' → Tabs T H' → Q (.ref q) H') : spBloG K T CD C [.ref mi, .ref ld] H Q E := by
  obtain ⟨eas, hld, hev⟩ := S.sc
  have hfew := PU.few
  refine ⟨mi, ld, eas, es, b, p, n, ini, y, rfl, hld, Paired.mapP hev str_row8, S.mi, PU.D.b10, PU.wd, PU.ok pl, by omega, hT, fun s' h' => PU.fit h', fun H' q rs s' h' hq hrs x t => ?_⟩
  have e := plays_uniq PU.wd h' pl
  subst e
  rw [(PU.all.2 _ pl).1.cl] at hrs
  exact k H' q rs hq hrs x t
theorem std_in {Q : VK} {E : XK} (S : S8 K CD H mi ld b p n ini y es) (PU : PureS b p n (ini ++ [((p : Int), y)]) es) (pl : PlaysToG p (ini ++ [((p : Int), y)]) (newP b) es s0) (hT : Tabs T H) (k : ∀ (H' : Hp) (q : Addr), StdAt H' q s0 → ExtN H H' → Tabs T H' → Q (.ref q) H') : spStd K T CD C [.ref mi, .ref ld] H Q E := by
  obtain ⟨eas, hld, hev⟩ := S.sc
  have hfew := PU.few
  refine ⟨mi, ld, eas, es, b, p, n, ini, y, rfl, hld, Paired.mapP hev str_row8, S.mi, PU.D.b10, PU.wd, PU.ok pl, by omega, hT, fun s' h' => stdokS PU h', fun H' q s' h' hq x t => ?_⟩
  have e := plays_uniq PU.wd h' pl
  subst e
  exact k H' q hq x t
theorem prc_in {c e : Int} (hc : 0 ≤ c ∧ c ≤ 9) (he : 0 ≤ e ∧ e ≤ 9) (h0 : ¬ (c = 0 ∧ e = 0)) {Q : VK} {E : XK} (S : S8 K CD H mi ld b p n ini y es) (PU : PureS b p n (ini ++ [((p : Int), y)]) es) (pl : PlaysToG p (ini ++ [((p : Int), y)]) (newP b) es s0) (hT : Tabs T H) (k : ∀ H' : Hp, ExtN H H' → Tabs T H' → Q (.int (prM c e s0.told)) H') : spPrc K T CD C [.ref mi, .ref ld, .int c, .int e] H Q E := by
  obtain ⟨eas, hld, hev⟩ := S.sc
  have hfew := PU.few
  refine ⟨c, e, mi, ld, eas, es, b, p, n, ini, y, rfl, hc.1, hc.2, he.1, he.2, h0, hld, Paired.mapP hev str_row8, S.mi, PU.D.b10, PU.wd, PU.ok pl, by omega, hT, fun s' h' => ?_, fun H' s' h' x t => ?_⟩
  · obtain ⟨_, a, z⟩ := PU.all.2 s' h'
    exact ⟨by omega, fun t ht => ⟨(z t ht).c0, by have := (z t ht).c1; omega, by have := (z t ht).len; omega⟩⟩
  · have e := plays_uniq PU.wd h' pl
    subst e
    exact k H' x t
end
end KY

set_option Elab.async false
set_option linter.all false
set_option maxRecDepth 100000
set_option maxHeartbeats 8000000
/-! _law_part_right -/
namespace KY
open PySem PySem.Spec PyProof.Rows L2 G1 G2 G3 K2 G5 LamX K3 ClX K6
abbrev sPrt : Stmt := topS 81
abbrev NPrt : List Str := ["_law_mine", "_law_script", "_law_told", "_law_alive", "_law_spot", "_law_size", "_law_shut", "_law_half", "_law_put_in", "_law_gone", "_law_states", "_law_counts", "_law_step", "_law_k", "_law_side"]
theorem scPrt : FnScope NPrt ["_law_mine", "_law_script", "_law_told", "_law_alive"] (defScope sPrt) := ⟨rfl, rfl, rfl, by decide +kernel, rfl, by decide +kernel, by decide +kernel⟩
theorem blo_extY {H H' : Hp} {a : Addr} {t : Str × List Str} (h : BlAt H a t) (e : ExtN H H') : BlAt H' a t := by
  obtain ⟨q, h1, h2⟩ := h
  exact ⟨q, e _ _ h1 (by intro _ z; cases z), e _ _ h2 (by intro _ z; cases z)⟩
theorem callN_read {n m : Nat} {sp : Sp} {gV : List V → List V → List V} {E : XK} {t tk : TA} {σ : L2.St} {H : Hp} {Q : VK} (h : t σ H fun vs H1 => tk σ H1 fun zs H2 => vs.length = n ∧ zs.length = m ∧ sp (gV vs zs) H2 Q E) : tCallN n m sp gV E t tk σ H Q := h
theorem seq_ifBY {tt : TT} {t t2 : TS} {D : Ends} {σ : L2.St} {H : Hp} (Bk : L2.St → Hp → Prop) (h1 : ∀ N : L2.St → Hp → Prop, (∀ σ H, Bk σ H → N σ H) → tt σ H fun c H1 => if c = true then t { D with nx := N } σ H1 else N σ H1) (h2 : ∀ σ H, Bk σ H → t2 D σ H) : tSeq (tIfS tt t tNext) t2 D σ H := h1 (t2 D) h2
theorem not_readY {tt : TT} {σ : L2.St} {H : Hp} {Q : Bool → Hp → Prop} (h : tt σ H fun c H1 => Q (!c) H1) : tNot tt σ H Q := h
theorem pr_sums (c e : Int) : ∀ told : List Tld, prM c e told = c * (told.map fun t => t.2.2).sum + e * ((gone told).length : Int)
  | [] => by
    show (0 : Int) = c * 0 + e * 0
    rw [Int.mul_zero, Int.mul_zero]
    rfl
  | t :: ts => by
    have ih := pr_sums c e ts
    unfold prM at ih ⊢
    have eg : gone (t :: ts) = t.2.1 ++ gone ts := List.flatMap_cons ..
    rw [List.map_cons, List.sum_cons, ih, List.map_cons, List.sum_cons, eg, List.length_append]
    unfold prT
    rw [Int.natCast_add, Int.mul_add, Int.mul_add]
    omega
/-! ### the blocks -/
theorem ifx_read6 {tt : TT} {t e : TE} {σ : L2.St} {H : Hp} {Q : VK} (h : tt σ H fun c H1 => if c = true then t σ H1 Q else e σ H1 Q) : tIf tt t e σ H Q := h
theorem cnt_in (k : Str) : ∀ ys : List Str, countIn (.str k) (ys.map PyData.str) = (ys.count k : Int)
  | [] => rfl
  | y :: ys => by
    rw [List.map_cons, countIn, cnt_in k ys, List.count_cons]
    by_cases c : y = k
    · subst c
      simp [same]
      omega
    · have : (y == k) = false := by simpa using c
      have c2 : ¬ k = y := fun z => c z.symm
      rw [this]
      simp [same, c, c2]
theorem nats_intsY (l : List Nat) : l.map nV = (csI l).map V.int := by rw [csI, List.map_map]; rfl
theorem cut_oneY (xs : List V) : cutV xs (some 1) none = xs.drop 1 := by
  unfold cutV
  have e : HT.sIx xs.length 0 (some ((1 : Nat) : Int)) = min 1 xs.length := by rw [HT.sIx_nat]
  have e1 : (some (1 : Int)) = some ((1 : Nat) : Int) := rfl
  rw [e1, e, HT.sIx_none]
  by_cases h : 1 ≤ xs.length
  · rw [Nat.min_eq_left h, List.take_of_length_le]
    rw [List.length_drop]
    exact Nat.le_refl _
  · have e0 : xs = [] := List.length_eq_zero_iff.mp (by omega)
    subst e0
    rfl
theorem sum_set {j : Nat} {v : Nat} : ∀ {l : List Nat} {j : Nat}, j < l.length → (l.set j v).sum + l.getD j 0 = l.sum + v
  | [], j, h => by simp at h
  | a :: l, 0, _ => by
    show (v :: l).sum + a = (a :: l).sum + v
    rw [List.sum_cons, List.sum_cons]
    omega
  | a :: l, j + 1, h => by
    have z := sum_set (v := v) (j := j) (l := l) (Nat.lt_of_succ_lt_succ h)
    show (a :: l.set j v).sum + l.getD j 0 = (a :: l).sum + v
    rw [List.sum_cons, List.sum_cons]
    omega
theorem adds_sum : ∀ (js l : List Nat), (∀ j ∈ js, j < l.length) → (js.foldl addJ l).sum = l.sum + js.length
  | [], l, _ => rfl
  | j :: js, l, h => by
    have hj := h j (List.mem_cons_self ..)
    have z := sum_set (v := l.getD j 0 + 1) (j := j) hj
    show (js.foldl addJ (addJ l j)).sum = _
    rw [adds_sum js (addJ l j) fun i hi => by unfold addJ; rw [List.length_set]; exact h i (List.mem_cons_of_mem _ hi)]
    unfold addJ
    rw [List.length_cons]
    omega
theorem ers_sum : ∀ (ts : List Tld) (l : List Nat), (∀ t ∈ ts, ∀ j ∈ t.2.1, j < l.length) → (ts.foldl ersT l).sum = l.sum + (gone ts).length
  | [], l, _ => rfl
  | t :: ts, l, h => by
    have e : (ersT l t).length = l.length := by
      unfold ersT
      generalize t.2.1 = js
      induction js generalizing l with
      | nil => rfl
      | cons j js ih =>
        show (js.foldl addJ (addJ l j)).length = _
        have : ∀ (js l : List Nat), (js.foldl addJ l).length = l.length := fun js => by
          induction js with
          | nil => exact fun _ => rfl
          | cons j js ih =>
            intro l
            show (js.foldl addJ (addJ l j)).length = _
            rw [ih]
            exact List.length_set
        rw [this]
        exact List.length_set
    show (ts.foldl ersT (ersT l t)).sum = _
    rw [ers_sum ts (ersT l t) fun t' ht' j hj => by rw [e]; exact h t' (List.mem_cons_of_mem _ ht') j hj]
    have z := adds_sum t.2.1 l (h t (List.mem_cons_self ..))
    have e2 : gone (t :: ts) = t.2.1 ++ gone ts := rfl
    rw [e2, List.length_append]
    unfold ersT
    omega
theorem gone_lenY {b : Nat} : ∀ {ts : List Tld}, (∀ t ∈ ts, StepS b t) → (gone ts).length ≤ 1000 * ts.length
  | [], _ => Nat.le_refl _
  | t :: ts, h => by
    have e2 : gone (t :: ts) = t.2.1 ++ gone ts := rfl
    have z := gone_lenY (ts := ts) fun t' h' => h t' (List.mem_cons_of_mem _ h')
    have z2 := (h t (List.mem_cons_self ..)).len
    rw [e2, List.length_append, List.length_cons]
    omega
theorem csI_sum : ∀ l : List Nat, (csI l).sum = (l.sum : Int)
  | [] => rfl
  | a :: l => by
    have e : csI (a :: l) = (a : Int) :: csI l := rfl
    rw [e, List.sum_cons, List.sum_cons, csI_sum l]
    push_cast
    rfl
def spPrt (K : PySem.W.Frag) (T : List (Addr × Str)) (CD : Addr) : Sp := fun vs H Q _ => ∃ (mi sc tl : Addr) (b p n : Nat) (ini : List RowD) (y : Str) (es : List (Str × Str)) (rs : List Addr) (s : Pl), vs = [.ref mi, .ref sc, .ref tl, .int ((es.foldl aft []).length : Int)] ∧ S8 K CD H mi sc b p n ini y es ∧ PureS b p n (ini ++ [((p : Int), y)]) es ∧ PlaysToG p (ini ++ [((p : Int), y)]) (newP b) es s ∧ H tl = some (.lst (rs.map V.ref)) ∧ Paired (TldAt H) rs s.told ∧ Tabs T H ∧ ∀ H', ExtN H H' → Tabs T H' → Q (.bl true) H'
abbrev teS2 (K : PySem.W.Frag) : TE := tOp (rIxT K) (tVar 12) (tC (.int 2))
abbrev ttS0 (K : PySem.W.Frag) : TT := tTest (tOp (fun x y H Q => y = .non ∧ Q (.bl (!decide (x = .non))) H) (tOp (rIxT K) (tVar 12) (tC (.int 0))) (tC .non))
section
variable {P : Program} {w : World} {K : PySem.W.Frag} {mg : Str → Option Value} {base : Heap} {CD C : Addr}
theorem ok_prt {f : Addr} {fd : FuncData} {T : List (Addr × Str)} (F : Fun K "_law_part_right" "_law_part_right" sPrt f fd) (B : Bl mg) (M : DD P w K mg base CD) (GB : FAt P w K mg base 8 "blocks_of" ["drive", "load"] (spBloG K T CD C)) (GE : FAt P w K mg base 8 "erased" ["drive", "load"] (spErs K T CD C)) (GS : FAt P w K mg base 8 "stand" ["drive", "load"] (spStd K T CD C)) (GP : PrcAt P w K mg base T CD C) : FnG P w K mg base 10 f fd ["_law_mine", "_law_script", "_law_told", "_law_alive"] (spPrt K T CD) := by
  refine okG F scPrt (fun vs H Q E h => ?_) (fun cdv A outer s0 H vs Q E hgu hr h => ?_)
  · obtain ⟨mi, sc, tl, b, p, n, ini, y, es, rs, s, rfl, _⟩ := h
    rfl
  obtain ⟨mi, sc, tl, b, p, n, ini, y, es, rs, s, rfl, S, PU, pl, htl, hrs, hT, k⟩ := h
  have hr8 : Room 8 _ := hr.mono (by decide)
  have hr2 : Room 2 _ := hr.mono (by decide)
  obtain ⟨fB, dB, GB, kB, bB, gB⟩ := GB.ex
  obtain ⟨fE, dE, GE, kE, bE, gE⟩ := GE.ex
  obtain ⟨fS, dS, GS, kS, bS, gS⟩ := GS.ex
  obtain ⟨fP, dP, GP, kP, ⟨ds1, v1, b1⟩, nP, gP⟩ := GP.ex
  obtain ⟨p2, g2, f2, P2, F2, B2⟩ := M.pb.ex
  obtain ⟨p3, g3, f3, P3, F3, B3⟩ := M.pp.ex
  refine ⟨_, (pss_cons (ps_asg (pe_tup (pa_cons (pe_call GS hr8 (by rfl) gS kS bS .nil pass0 (pa_cons (pv 0) (pa_cons (pv 1) pa_nil))) (pa_cons (pe_prop (pv 0) M.T.cl P3 F3 hr2 B3 .nil pass0 rfl) pa_nil))) (pg_tup rfl (pgs_cons (pg_name (i := 4) scPrt.nd rfl (.inl rfl)) (pgs_cons (pg_name (i := 5) scPrt.nd rfl (.inr rfl)) pgs_nil))))
    (pss_cons (ps_asg (pv 4) (pg_tup rfl (pgs_cons (pg_name (i := 6) scPrt.nd rfl (.inl rfl)) (pgs_cons (pg_name (i := 7) scPrt.nd rfl (.inl rfl)) pgs_nil))))
    (pss_cons (ps_set (i := 8) scPrt.nd rfl (.inl rfl) (pe_op op_add (pe_callB call_len_seq (by rfl) B.len PySem.boot_len (pa_cons (pe_lc (own := [("_law_step", 12)]) (g := gName 12) (tt := tTest (tOp (fun x y H Q => y = .non ∧ Q (.bl (!decide (x = .non))) H) (tOp (rIxT K) (tVar 12) (tC (.int 0))) (tC .non))) (te := tVar 12) rfl scPrt.nd (pi_list (pv 2)) (blkOk_by (own := [("_law_step", 12)]) (N := NPrt) (sc := defScope sPrt) (by decide +kernel)) (fun _ _ _ _ _ => pg_name (i := 12) scPrt.nd rfl (Or.inl rfl)) (fun _ _ _ _ _ => (pts_one (pt_cmpR op_notN (pe_ix ix_tup (pv 12) pe_int (fun _ _ => rfl)) pe_non (nomark _)))) (fun _ _ _ _ _ => (pv 12))) pa_nil)) (pe_callB (cr_sum rfl) (by rfl) B.sum bSum (pa_cons (pe_lc (own := [("_law_step", 12)]) (g := gName 12) (tt := tYes) (te := tOp (rIxT K) (tVar 12) (tC (.int 2))) rfl scPrt.nd (pi_list (pv 2)) (blkOk_by (own := [("_law_step", 12)]) (N := NPrt) (sc := defScope sPrt) (by decide +kernel)) (fun _ _ _ _ _ => pg_name (i := 12) scPrt.nd rfl (Or.inl rfl)) (fun _ _ _ _ _ => pts_nil) (fun _ _ _ _ _ => (pe_ix ix_tup (pv 12) pe_int (fun _ _ => rfl)))) pa_nil))))
    (pss_cons (ps_set (i := 9) scPrt.nd rfl (.inl rfl) (pe_callB (cr_sumT rfl) (by rfl) B.sum bSum (pa_cons (pe_call GE hr8 (by rfl) gE kE bE .nil pass0 (pa_cons (pv 0) (pa_cons (pv 1) pa_nil))) pa_nil)))
    (pss_cons (ps_if (pt_cmpR op_ne (pv 8) (pe_op op_add (pe_op op_mul (pv 5) (pe_op op_add (pv 9) (pe_callB call_len_seq (by rfl) B.len PySem.boot_len (pa_cons (pv 6) pa_nil)))) (pe_callB (cr_sumT rfl) (by rfl) B.sum bSum (pa_cons (pe_slice sl_tupA (pv 7) po_none (po_some pe_int)) pa_nil))) (nomark _)) (pss_one (ps_ret pe_bl)) pss_nil)
    (pss_cons (ps_if (PW.pt (pw_or (pt_cmpR op_ne (pe_callN GP hr8 (by rfl) gP kP nP pass0 (pa_cons (pv 0) (pa_cons (pv 1) pa_nil)) (pk_cons pe_int (pk_cons pe_int pk_nil))) (pv 9) (nomark _)) (pw_or1 (pt_cmpR op_ne (pe_op op_add (pe_callB (cr_sumT rfl) (by rfl) B.sum bSum (pa_cons (pv 6) pa_nil)) (pe_callB (cr_sumT rfl) (by rfl) B.sum bSum (pa_cons (pe_slice sl_tupA (pv 7) (po_some pe_int) po_none) pa_nil))) (pv 3) (nomark _))))) (pss_one (ps_ret pe_bl)) pss_nil)
    (pss_cons (ps_if (PW.pt (pw_and (pt_cmpR (op_neD hr.units) (pv 7) (pe_tup pa_nil) (nomark _)) (pw_and1 (pt_not (PW.pt (pw_and (pt_chain op_le op_lt pe_int (pe_ix ix_tup (pv 7) pe_int (fun _ _ => rfl)) (pv 5)) (pw_and1 (pt_chain op_le op_le pe_int (pe_ix ix_tup (pv 7) pe_int (fun _ _ => rfl)) (pe_ix ix_tup (pv 7) pe_int (fun _ _ => rfl)))))))))) (pss_one (ps_ret pe_bl)) pss_nil)
    (pss_cons (ps_if (PW.pt (pw_or (pt_cmpR op_ge (pe_op op_add (pe_callB call_len_seq (by rfl) B.len PySem.boot_len (pa_cons (pv 6) pa_nil)) (pe_op op_fdiv (pe_callB call_len_seq (by rfl) B.len PySem.boot_len (pa_cons (pv 7) pa_nil)) pe_int)) (pe_prop (pv 0) M.T.cl P2 F2 hr2 B2 .nil pass0 rfl) (nomark _)) (pw_or1 (pt_not (pt_val (pe_callB (cr_all rfl) (by rfl) B.all bAll6 (pa_cons (pe_lc (own := [("_law_k", 13)]) (g := gName 13) (tt := tYes) (te := tChain (rI0 fun i j => .bl (decide (i ≤ j))) (rI0 fun i j => .bl (decide (i ≤ j))) (tC (.int 0)) (tVar 13) (tVar 5)) rfl scPrt.nd (pi_tup (pv 6)) (blkOk_by (own := [("_law_k", 13)]) (N := NPrt) (sc := defScope sPrt) (by decide +kernel)) (fun _ _ _ _ _ => pg_name (i := 13) scPrt.nd rfl (Or.inl rfl)) (fun _ _ _ _ _ => pts_nil) (fun _ _ _ _ _ => (pe_chain op_le op_le pe_int (pv 13) (pv 5)))) pa_nil))))))) (pss_one (ps_ret pe_bl)) pss_nil)
    (pss_cons (ps_setLc (i := 10) (own := [("_law_side", 14)]) (g := gName 14) (tt := tYes) (te := tOp (rIxT K) (tVar 14) (tC (.int 0))) rfl scPrt.nd rfl rfl (by rfl) (pi_tup (pe_call GB hr8 (by rfl) gB kB bB .nil pass0 (pa_cons (pv 0) (pa_cons (pv 1) pa_nil)))) (blkOk_by (own := [("_law_side", 14)]) (N := NPrt) (sc := defScope sPrt) (by decide +kernel)) (fun _ _ _ _ _ => pg_name (i := 14) scPrt.nd rfl (Or.inl rfl)) (fun _ _ _ _ _ => pts_nil) (fun _ _ _ _ _ => (pe_ix ix_tup (pv 14) pe_int (fun _ _ => rfl))))
    (pss_cons (ps_set (i := 11) scPrt.nd rfl (.inl rfl) (pe_lst (pa_cons (pe_bm PySem.F.plainAttrs_list PySem.F.slot_list_count PySem.F.type_list_count mt_scount (pv 10) (pa_cons pe_str pa_nil)) (pa_cons (pe_bm PySem.F.plainAttrs_list PySem.F.slot_list_count PySem.F.type_list_count mt_scount (pv 10) (pa_cons pe_str pa_nil)) (pa_cons (pe_bm PySem.F.plainAttrs_list PySem.F.slot_list_count PySem.F.type_list_count mt_scount (pv 10) (pa_cons pe_str pa_nil)) pa_nil)))))
    (pss_cons (ps_if (PW.pt (pw_or (pt_cmpR (op_neD hr.units) (pe_slice sl_list (pv 11) po_none (po_some pe_int)) (pe_lst (pa_cons (pe_callB call_len_seq (by rfl) B.len PySem.boot_len (pa_cons (pv 6) pa_nil)) (pa_cons (pe_op op_fdiv (pe_callB call_len_seq (by rfl) B.len PySem.boot_len (pa_cons (pv 7) pa_nil)) pe_int) pa_nil))) (nomark _)) (pw_or1 (pt_cmpR op_ne (pe_callB (cr_sum rfl) (by rfl) B.sum bSum (pa_cons (pv 11) pa_nil)) (pe_prop (pv 0) M.T.cl P2 F2 hr2 B2 .nil pass0 rfl) (nomark _))))) (pss_one (ps_ret pe_bl)) pss_nil)
    (pss_one (ps_ret (pe_ifExp (pt_cmpR op_gt (pv 9) pe_int (nomark _)) (pe_cmpR op_eq (pe_ix ix_list (pv 11) pe_int (fun _ _ => rfl)) pe_int (nomark _)) (pe_cmpR op_ge (pe_ix ix_list (pv 11) pe_int (fun _ _ => rfl)) pe_int (nomark _)))))))))))))))), ?_⟩
  have PF := part_fact PU pl
  obtain ⟨I, hlen, hst⟩ := PU.all.2 s pl
  have hb := PU.D.b10
  have hb2 := PU.D.b2
  have hp := PU.D.p10
  have hfew := PU.few
  have hrl := Paired.length hrs
  have hgl := gone_lenY hst
  have hroom := PF.room
  have hone := PF.one
  have hcl : (cntP s).length ≤ 10 := by omega
  have hol : (opnL s).length / 2 = s.fil.toList.length ∧ (opnL s).length ≤ 2 := by
    rcases PF.half with ⟨h1, h2⟩ | ⟨h, l, h1, h2, _⟩
    · rw [h1, h2]
      exact ⟨rfl, Nat.zero_le _⟩
    · rw [h1, h2]
      exact ⟨by simp, by simp⟩
  obtain ⟨dd, td, hdi, _⟩ := id S.mi
  -- stand
  refine seq_asg (tup_read (cons_read (call_read (cons_read ⟨_, rfl, cons_read ⟨_, rfl, nil_read (std_in S PU pl hT fun H1 sq hq x1 t1 => cons_read ⟨_, rfl, mi, dd, _, rfl, x1 _ _ hdi (by intro _ z; cases z), mi, dd, _, _, rfl, x1 _ _ hdi (by intro _ z; cases z), rfl, nil_read ⟨by show 2 ≤ sizeLine; decide, fun u nu => ?_⟩⟩)⟩⟩))))
  have su := same_lay (o := .tup [.ref sq, .int (p : Int)]) nu
  refine ⟨u, _, rfl, SqT.of upd_same, rfl, _, _, rfl, _, _, rfl, rfl, ?_⟩
  have x1 := x1.trans (.of su)
  have t1 := t1.ext su
  have hq := std_ext hq (.of su)
  generalize L2.upd H1 u (.tup [.ref sq, .int (p : Int)]) = H1 at x1 t1 hq ⊢
  obtain ⟨qa, qc, h1, h2, h3⟩ := hq
  show tSeq (tAsg _ _) _ _ [some (.ref mi), some (.ref sc), some (.ref tl), some (.int _), some (.ref sq), some (.int (p : Int)), none, none, none, none, none, none, none, none, none] H1
  refine seq_asg ⟨_, rfl, sq, _, rfl, SqT.of h1, rfl, _, _, rfl, _, _, rfl, rfl, ?_⟩
  show tSeq (tAsg _ _) _ _ [some (.ref mi), some (.ref sc), some (.ref tl), some (.int _), some (.ref sq), some (.int (p : Int)), some (.ref qa), some (.ref qc), none, none, none, none, none, none, none] H1
  have htl1 := x1 _ _ htl (by intro _ z; cases z)
  have hrs1 : Paired (TldAt H1) rs s.told := Paired.mapP hrs fun _ _ z => tld_ext z x1
  have S1 := S.ext x1
  -- what is put in
  refine seq_asg (op_read (cb_read (cons_read ?_)))
  refine ⟨_, rfl, tl, rfl, ⟨_, SqL.of htl1⟩, fun D hD => ?_⟩
  refine lc_list (K := K) (xs := rs.map V.ref) (fun i H' => Same H1 H' ∧ ∃ l : List V, H' D = some (.lst l) ∧ l.length = wrn (s.told.take i)) ⟨same_lay hD, [], upd_same, rfl⟩ (fun i H' _ z => SqL.of (z.1 _ _ htl1)) ?_ ?_
  · rintro i v H' hi ⟨si, l, el, ll⟩
    rw [List.getElem?_map] at hi
    obtain ⟨a, ha, rfl⟩ : ∃ a, rs[i]? = some a ∧ V.ref a = v := by
      cases hq : rs[i]? with
      | none => rw [hq] at hi; cases hi
      | some a => rw [hq] at hi; exact ⟨a, rfl, Option.some.inj hi⟩
    obtain ⟨t, ht, q, g1, g2⟩ := K2.paired_get hrs1 ha
    have htk : s.told.take (i + 1) = s.told.take i ++ [t] := by rw [List.take_add_one, ht]; rfl
    refine ⟨rfl, test_read6 (op_read (op_read ⟨_, rfl, c_read ⟨a, _, _, oN t.1, rfl, rfl, SqT.of (si _ _ g1), rfl, c_read ⟨rfl, ?_⟩⟩⟩))⟩
    have hin : i < s.told.length := (List.getElem?_eq_some_iff.mp ht).1
    have hwl : wrn (s.told.take i) ≤ 100 := by
      have z := List.length_filter_le (fun t : Tld => t.1.isSome) (s.told.take i)
      rw [List.length_take] at z
      unfold wrn
      omega
    cases ho : t.1 with
    | none =>
      refine ⟨false, rfl, iteF ⟨si, l, el, ?_⟩⟩
      rw [htk, wrn_snoc, ho, ll]
      rfl
    | some kk =>
      refine ⟨true, rfl, iteT ⟨_, rfl, l, el, by rw [sizeLine_eq]; omega, fun d u z => ?_, _, upd_same, ?_⟩⟩
      · rw [upd_ne (ne_of_none z hD)]
        exact si _ _ z
      · rw [htk, wrn_snoc, ho, List.length_append, ll]
        rfl
  rintro H2 ⟨s2, l2, e2, ll2⟩
  rw [List.length_map, hrl, List.take_length] at ll2
  refine nil_read ⟨D, l2, rfl, .inl (SqL.of e2), ?_⟩
  have htl2 := s2 _ _ htl1
  have hrs2 : Paired (TldAt H2) rs s.told := Paired.mapP hrs1 fun _ _ z => tld_ext z (.of s2)
  refine cb_read (cons_read ?_)
  refine ⟨_, rfl, tl, rfl, ⟨_, SqL.of htl2⟩, fun D2 hD2 => ?_⟩
  refine lc_list (K := K) (xs := rs.map V.ref) (fun i H' => Same H2 H' ∧ H' D2 = some (.lst (((s.told.take i).map fun t => t.2.2).map V.int))) ⟨same_lay hD2, upd_same⟩ (fun i H' _ z => SqL.of (z.1 _ _ htl2)) ?_ ?_
  · rintro i v H' hi ⟨si, ei⟩
    rw [List.getElem?_map] at hi
    obtain ⟨a, ha, rfl⟩ : ∃ a, rs[i]? = some a ∧ V.ref a = v := by
      cases hq : rs[i]? with
      | none => rw [hq] at hi; cases hi
      | some a => rw [hq] at hi; exact ⟨a, rfl, Option.some.inj hi⟩
    obtain ⟨t, ht, q, g1, g2⟩ := K2.paired_get hrs2 ha
    have htk : s.told.take (i + 1) = s.told.take i ++ [t] := by rw [List.take_add_one, ht]; rfl
    have hin : i < s.told.length := (List.getElem?_eq_some_iff.mp ht).1
    refine ⟨rfl, ?_⟩
    unfold tYes
    dsimp only
    rw [if_pos rfl]
    refine op_read ⟨_, rfl, c_read ⟨a, _, _, .int t.2.2, rfl, rfl, SqT.of (si _ _ g1), rfl, _, ei, ?_, fun d u z => ?_, ?_⟩⟩
    · rw [List.length_map, List.length_map, List.length_take, sizeLine_eq]
      omega
    · rw [upd_ne (ne_of_none z hD2)]
      exact si _ _ z
    · rw [upd_same, htk, List.map_append, List.map_append]
      rfl
  rintro H3 ⟨s3, e3⟩
  rw [List.length_map, hrl, List.take_length] at e3
  refine nil_read ⟨D2, _, rfl, SqL.of e3, ⟨_, _, rfl, rfl, ?_⟩⟩
  have hput : ((l2.length : Nat) : Int) + (s.told.map fun t => t.2.2).sum = (p : Int) * (((gone s.told).length : Int) + ((cntP s).length : Int)) + ((opnL s).take 1).sum := by
    rw [ll2]
    exact PF.put
  dsimp only
  rw [hput]
  have X3 := x1.trans (.of (s2.trans s3))
  have T3 := (t1.ext s2).ext s3
  have S3 := S.ext X3
  have h2' := (s2.trans s3) _ _ h2
  have h3' := (s2.trans s3) _ _ h3
  have hdi3 := X3 _ _ hdi (by intro _ z; cases z)
  show tSeq (tAsg _ _) _ _ [some (.ref mi), some (.ref sc), some (.ref tl), some (.int _), some (.ref sq), some (.int (p : Int)), some (.ref qa), some (.ref qc), some (.int _), none, none, none, none, none, none] H3
  clear s2 s3 e2 e3 ll2 hrs1 hrs2 htl1 htl2 h1 hD hD2 x1 t1
  -- erased
  refine seq_asg (cb_read (cons_read (call_read (cons_read ⟨_, rfl, cons_read ⟨_, rfl, nil_read (ers_in S3 PU pl T3 fun H4 qe he x4 t4 => ?_)⟩⟩))))
  rw [nats_intsY] at he
  refine nil_read ⟨qe, _, rfl, SqT.of he, ?_⟩
  have hsum : (csI (ersM b s.told)).sum = ((gone s.told).length : Int) := by
    rw [csI_sum]
    have z := ers_sum s.told (List.replicate b 0) fun t ht j hj => by
      rw [List.length_replicate]
      exact (hst t ht).cl j hj
    unfold ersM
    rw [z]
    simp
  dsimp only
  rw [hsum]
  have S4 := S3.ext x4
  have h24 := x4 _ _ h2' (by intro _ z; cases z)
  have h34 := x4 _ _ h3' (by intro _ z; cases z)
  have hdi4 := x4 _ _ hdi3 (by intro _ z; cases z)
  have X4 := X3.trans x4
  show tSeq (tIfS _ _ _) _ _ [some (.ref mi), some (.ref sc), some (.ref tl), some (.int _), some (.ref sq), some (.int (p : Int)), some (.ref qa), some (.ref qc), some (.int _), some (.int ((gone s.told).length : Int)), none, none, none, none, none] H4
  clear X3 T3 S3 h2' h3' hdi3 x4 he
  -- it adds up
  refine seq_if6 (test_read6 (op_read ⟨_, rfl, op_read (op_read ⟨_, rfl, op_read ⟨_, rfl, cb_read (cons_read ⟨_, rfl, nil_read ⟨qa, _, rfl, .inr (SqT.of h24), ⟨_, _, rfl, rfl, ⟨_, _, rfl, rfl, .inl ⟨by omega, by omega⟩, cb_read (cons_read (sl_read6 ⟨_, rfl, ?_⟩))⟩⟩⟩⟩)⟩⟩)⟩))
  dsimp only [tNoPart]
  refine ⟨1, rfl, slA8 (SqT.of h34) fun H5 u5 s5 hu5 => nil_read ⟨u5, (opnL s).take 1, rfl, ?_, ⟨_, _, rfl, rfl, ⟨rfl, _, rfl, ?_⟩⟩⟩⟩
  · rw [List.map_take]
    exact (show cutV ((opnL s).map V.int) none (some ((1 : Nat) : Int)) = _ from cut_to) ▸ hu5
  rw [List.length_map]
  rw [decide_eq_true rfl]
  refine iteF ?_
  have X5 := X4.trans (.of s5)
  have T5 := t4.ext s5
  have S5 := S4.ext (.of s5)
  have h25 := s5 _ _ h24
  have h35 := s5 _ _ h34
  have hdi5 := s5 _ _ hdi4
  clear s5 hu5 h24 h34 hdi4 S4 X4 t4
  -- price, living pages
  refine seq_if6 (or_read6 (test_read6 (op_read (callN_read (cons_read ⟨_, rfl, cons_read ⟨_, rfl, nil_read (cons_read (c_read (cons_read (c_read (nil_read ⟨rfl, rfl, prc_in (c := 0) (e := 1) ⟨by decide, by decide⟩ ⟨by decide, by decide⟩ (by decide) S5 PU pl T5 fun H6 x6 t6 => ⟨_, rfl, rfl, _, rfl, ?_⟩⟩)))))⟩⟩)))))
  rw [pr_sums, Int.zero_mul, Int.zero_add, Int.one_mul, decide_eq_true rfl]
  refine iteF ?_
  have S6 := S5.ext x6
  have h26 := x6 _ _ h25 (by intro _ z; cases z)
  have h36 := x6 _ _ h35 (by intro _ z; cases z)
  have hdi6 := x6 _ _ hdi5 (by intro _ z; cases z)
  have X6 := X5.trans x6
  clear S5 h25 h35 hdi5 X5 x6 T5
  refine test_read6 (op_read (op_read (cb_read (cons_read ⟨_, rfl, nil_read ⟨qa, _, rfl, SqT.of h26, cb_read (cons_read (sl_read6 ⟨_, rfl, 1, rfl, ?_⟩))⟩⟩))))
  dsimp only [tNoPart]
  refine slA8 (SqT.of h36) fun H7 u7 s7 hu7 => nil_read ⟨u7, (opnL s).drop 1, rfl, ?_, ⟨_, _, rfl, rfl, ⟨_, rfl, rfl, _, rfl, ?_⟩⟩⟩
  · rw [List.map_drop]
    exact cut_oneY ((opnL s).map V.int) ▸ hu7
  have eL : V.int ((cntP s).sum + ((opnL s).drop 1).sum) = V.int ((es.foldl aft []).length : Int) := by rw [PF.live]
  rw [decide_eq_true eL]
  refine iteF ?_
  have X7 := X6.trans (.of s7)
  have T7 := t6.ext s7
  have S7 := S6.ext (.of s7)
  have h27 := s7 _ _ h26
  have h37 := s7 _ _ h36
  have hdi7 := s7 _ _ hdi6
  clear s7 hu7 h26 h36 hdi6 S6 X6 t6
  -- the open block
  have hopl : (∀ i ∈ opnL s, i.natAbs < 10 ^ 7) := fun i hi => by
    rcases PF.half with ⟨h1, _⟩ | ⟨h, l, h1, _, h3, h4, h5⟩
    · rw [h1] at hi
      exact (nomatch hi)
    · rw [h1] at hi
      simp only [List.mem_cons, List.not_mem_nil, or_false] at hi
      rcases hi with rfl | rfl
      · show ((h : Nat) : Int).natAbs < 10000000
        omega
      · show ((l : Nat) : Int).natAbs < 10000000
        omega
  have fitO : DFit (.tuple (iD (opnL s))) 1 10 := ints_fit hopl (by omega)
  have fitE : DFit (.tuple (iD [])) 1 10 := ints_fit (fun i hi => (nomatch hi)) (Nat.zero_le _)
  show tSeq (tIfS _ _ _) _ _ [some (.ref mi), some (.ref sc), some (.ref tl), some (.int ((es.foldl aft []).length : Int)), some (.ref sq), some (.int (p : Int)), some (.ref qa), some (.ref qc), some (.int ((p : Int) * (((gone s.told).length : Int) + ((cntP s).length : Int)) + ((opnL s).take 1).sum)), some (.int ((gone s.told).length : Int)), none, none, none, none, none] H7
  generalize some (V.int ((p : Int) * (((gone s.told).length : Int) + ((cntP s).length : Int)) + ((opnL s).take 1).sum)) = x8
  refine seq_ifBY (fun σ H' => σ = [some (.ref mi), some (.ref sc), some (.ref tl), some (.int ((es.foldl aft []).length : Int)), some (.ref sq), some (.int (p : Int)), some (.ref qa), some (.ref qc), x8, some (.int ((gone s.told).length : Int)), none, none, none, none, none] ∧ Same H7 H') (fun N hN => ?_) ?_
  · refine and_read6 (test_read6 (op_read ⟨_, rfl, tup_read (nil_read ⟨by show 0 ≤ sizeLine; decide, fun ue nue => ?_⟩)⟩))
    have se := same_lay (o := .tup []) nue
    refine ⟨_, _, .tup (SqT.of (se _ _ h37)) (dp_ints _), .tup (SqT.of (show (L2.upd H7 ue (.tup [])) ue = some (.tup (([] : List Int).map V.int)) from upd_same)) (dp_ints []), fitO.shaped (by decide), fitE.shaped (by decide), ?_⟩
    rcases PF.half with ⟨h1, h2⟩ | ⟨h, l, h1, h2, h4, h5, h6⟩
    · rw [h1, fitE.refl]
      exact ⟨false, rfl, iteF (hN _ _ ⟨rfl, se⟩)⟩
    · have h38 := se _ _ h37
      rw [h1] at h38 ⊢
      refine ⟨true, rfl, iteT ?_⟩
      refine not_readY (and_read6 (test_read6 ⟨_, rfl, qc, _, _, .int (h : Int), rfl, rfl, SqT.of h38, rfl, _, _, rfl, rfl, _, rfl, ?_⟩))
      rw [decide_eq_true (show (1 : Int) ≤ (h : Int) by omega)]
      refine iteT ⟨_, rfl, _, _, rfl, rfl, _, rfl, ?_⟩
      rw [decide_eq_true (show (h : Int) < (p : Int) by omega)]
      refine iteT (test_read6 ⟨_, rfl, qc, _, _, .int (l : Int), rfl, rfl, SqT.of h38, rfl, _, _, rfl, rfl, _, rfl, ?_⟩)
      rw [decide_eq_true (show (0 : Int) ≤ (l : Int) by omega)]
      refine iteT ⟨_, rfl, qc, _, _, .int (h : Int), rfl, rfl, SqT.of h38, rfl, _, _, rfl, rfl, _, rfl, ?_⟩
      rw [decide_eq_true (show (l : Int) ≤ (h : Int) by omega)]
      exact iteF (hN _ _ ⟨rfl, se⟩)
  rintro σ H8 ⟨rfl, s8⟩
  have X8 := X7.trans (.of s8)
  have T8 := T7.ext s8
  have S8' := S7.ext (.of s8)
  have h28 := s8 _ _ h27
  have h38 := s8 _ _ h37
  have hdi8 := s8 _ _ hdi7
  clear s8 h27 h37 hdi7 S7 X7 T7
  -- the numbers of blocks
  have ediv : (((opnL s).length : Nat) : Int) / 2 = ((s.fil.toList.length : Nat) : Int) := by
    rw [← hol.1]
    rfl
  refine seq_if6 (or_read6 (test_read6 (op_read (op_read (cb_read (cons_read ⟨_, rfl, nil_read ⟨qa, _, rfl, .inr (SqT.of h28), op_read (cb_read (cons_read ⟨_, rfl, nil_read ⟨qc, _, rfl, .inr (SqT.of h38), ⟨_, _, rfl, rfl, ⟨by decide, by decide⟩, _, _, rfl, rfl, _, rfl, mi, dd, _, rfl, hdi8, mi, dd, _, _, rfl, hdi8, rfl, _, _, rfl, rfl, _, rfl, ?_⟩⟩⟩))⟩⟩))))))
  rw [List.length_map, List.length_map, ediv, decide_eq_false (show ¬ ((b : Int) ≤ ((cntP s).length : Int) + ((s.fil.toList.length : Nat) : Int)) by omega)]
  refine iteF (not_readY (b_read9 (cb_read (cons_read ?_))))
  refine ⟨_, rfl, qa, rfl, ⟨_, SqT.of h28⟩, fun D9 hD9 => ?_⟩
  refine lc_tup (K := K) (xs := (cntP s).map V.int) (fun i H' => Same H8 H' ∧ H' D9 = some (.lst ((List.replicate i true).map V.bl))) ⟨same_lay hD9, upd_same⟩ (fun i H' _ z => SqT.of (z.1 _ _ h28)) ?_ ?_
  · rintro i v H' hi ⟨si, ei⟩
    rw [List.getElem?_map] at hi
    obtain ⟨c, hc, rfl⟩ : ∃ c, (cntP s)[i]? = some c ∧ V.int c = v := by
      cases hq : (cntP s)[i]? with
      | none => rw [hq] at hi; cases hi
      | some c => rw [hq] at hi; exact ⟨c, rfl, Option.some.inj hi⟩
    obtain ⟨c0, c1⟩ := PF.few c (List.mem_of_getElem? hc)
    have hin : i < (cntP s).length := (List.getElem?_eq_some_iff.mp hc).1
    refine ⟨rfl, ?_⟩
    unfold tYes
    dsimp only
    rw [if_pos rfl]
    refine ⟨_, rfl, _, _, rfl, rfl, _, rfl, ?_⟩
    rw [decide_eq_true c0]
    refine iteT ⟨_, rfl, _, _, rfl, rfl, ?_⟩
    dsimp only
    rw [decide_eq_true c1]
    refine ⟨_, ei, ?_, fun d u z => ?_, ?_⟩
    · rw [List.length_map, List.length_replicate, sizeLine_eq]
      omega
    · rw [upd_ne (ne_of_none z hD9)]
      exact si _ _ z
    · rw [upd_same, List.replicate_succ', List.map_append]
      rfl
  rintro H9 ⟨s9, e9⟩
  refine nil_read ⟨D9, _, rfl, SqL.of e9, ?_⟩
  rw [all_true]
  refine ⟨true, rfl, iteF ?_⟩
  have X9 := X8.trans (.of s9)
  have T9 := T8.ext s9
  have S9 := S8'.ext (.of s9)
  have h29 := s9 _ _ h28
  have h39 := s9 _ _ h38
  have hdi9 := s9 _ _ hdi8
  clear s9 e9 h28 h38 hdi8 S8' X8 T8 hD9
  -- the states
  show tSeq (tAsg _ _) _ _ [some (.ref mi), some (.ref sc), some (.ref tl), some (.int ((es.foldl aft []).length : Int)), some (.ref sq), some (.int (p : Int)), some (.ref qa), some (.ref qc), x8, some (.int ((gone s.told).length : Int)), none, none, none, none, none] H9
  refine seq_asg (call_read (cons_read ⟨_, rfl, cons_read ⟨_, rfl, nil_read (blo_in S9 PU pl T9 fun HA qb bs hqb hbs xA tA => ?_)⟩⟩))
  have hbl : (List.range b).map (bloM s) = blosM s := by
    unfold blosM
    rw [I.cl]
  rw [hbl] at hbs
  have hbll := Paired.length hbs
  have hbsl : (blosM s).length = b := by rw [← hbl, List.length_map, List.length_range]
  refine ⟨qb, rfl, ⟨_, SqT.of hqb⟩, fun DA hDA => ?_⟩
  refine lc_tup (K := K) (xs := bs.map V.ref) (fun i H' => Same HA H' ∧ H' DA = some (.lst ((((blosM s).take i).map fun t => t.1).map V.str))) ⟨same_lay hDA, upd_same⟩ (fun i H' _ z => SqT.of (z.1 _ _ hqb)) ?_ ?_
  · rintro i v H' hi ⟨si, ei⟩
    rw [List.getElem?_map] at hi
    obtain ⟨a, ha, rfl⟩ : ∃ a, bs[i]? = some a ∧ V.ref a = v := by
      cases hq : bs[i]? with
      | none => rw [hq] at hi; cases hi
      | some a => rw [hq] at hi; exact ⟨a, rfl, Option.some.inj hi⟩
    obtain ⟨t, ht, q, g1, g2⟩ := K2.paired_get hbs ha
    have htk : (blosM s).take (i + 1) = (blosM s).take i ++ [t] := by rw [List.take_add_one, ht]; rfl
    refine ⟨rfl, ?_⟩
    unfold tYes
    dsimp only
    rw [if_pos rfl]
    refine op_read ⟨_, rfl, c_read ⟨a, _, _, .str t.1, rfl, rfl, SqT.of (si _ _ g1), rfl, _, ei, ?_, fun d u z => ?_, ?_⟩⟩
    · rw [List.length_map, List.length_map, List.length_take, sizeLine_eq]
      omega
    · rw [upd_ne (ne_of_none z hDA)]
      exact si _ _ z
    · rw [upd_same, htk, List.map_append, List.map_append]
      rfl
  rintro HB ⟨sB, eB⟩
  rw [List.length_map, hbll, List.take_length] at eB
  have x9B := xA.trans (.of sB)
  have XB := X9.trans x9B
  have TB := tA.ext sB
  have h3B := x9B _ _ h39 (by intro _ z; cases z)
  have h2B := x9B _ _ h29 (by intro _ z; cases z)
  have hdiB := x9B _ _ hdi9 (by intro _ z; cases z)
  clear xA tA sB x9B hqb hbs X9 T9 h29 h39 hdi9 hDA S9
  -- the counts
  show tSeq (tAsg _ _) _ _ [some (.ref mi), some (.ref sc), some (.ref tl), some (.int ((es.foldl aft []).length : Int)), some (.ref sq), some (.int (p : Int)), some (.ref qa), some (.ref qc), x8, some (.int ((gone s.told).length : Int)), some (.ref DA), none, none, none, none] HB
  have hL : SqL K HB DA (((blosM s).map fun t => t.1).map V.str) := SqL.of eB
  refine seq_asg (lst_read (cons_read ⟨_, rfl, .inl ⟨rfl, _, hL⟩, cons_read (c_read (nil_read ⟨DA, _, _, rfl, rfl, hL, ?_⟩))⟩))
  rw [cnt_in, PF.clo]
  refine cons_read ⟨_, rfl, .inl ⟨rfl, _, hL⟩, cons_read (c_read (nil_read ⟨DA, _, _, rfl, rfl, hL, ?_⟩))⟩
  rw [cnt_in, PF.opn]
  refine cons_read ⟨_, rfl, .inl ⟨rfl, _, hL⟩, cons_read (c_read (nil_read ⟨DA, _, _, rfl, rfl, hL, ?_⟩))⟩
  rw [cnt_in, PF.fre]
  refine nil_read ⟨by show 3 ≤ sizeLine; decide, fun qn nqn => ?_⟩
  have sn := same_lay (o := .lst [.int ((cntP s).length : Int), .int (s.fil.toList.length : Int), .int (s.free.length : Int)]) nqn
  have en : (L2.upd HB qn (.lst [.int ((cntP s).length : Int), .int (s.fil.toList.length : Int), .int (s.free.length : Int)])) qn = some (.lst [.int ((cntP s).length : Int), .int (s.fil.toList.length : Int), .int (s.free.length : Int)]) := upd_same
  show tSeq (tIfS _ _ _) _ _ [some (.ref mi), some (.ref sc), some (.ref tl), some (.int ((es.foldl aft []).length : Int)), some (.ref sq), some (.int (p : Int)), some (.ref qa), some (.ref qc), x8, some (.int ((gone s.told).length : Int)), some (.ref DA), some (.ref qn), none, none, none] (L2.upd HB qn (.lst [.int ((cntP s).length : Int), .int (s.fil.toList.length : Int), .int (s.free.length : Int)]))
  generalize L2.upd HB qn (.lst [.int ((cntP s).length : Int), .int (s.fil.toList.length : Int), .int (s.free.length : Int)]) = HC at sn en ⊢
  have fitC : DFit (.list (iD [((cntP s).length : Int), (s.fil.toList.length : Int)])) 1 10 := ints_fitL (fun i hi => by
    simp only [List.mem_cons, List.not_mem_nil, or_false] at hi
    rcases hi with rfl | rfl
    · show (((cntP s).length : Nat) : Int).natAbs < 10000000
      omega
    · show ((s.fil.toList.length : Nat) : Int).natAbs < 10000000
      omega) (by show 2 ≤ 10; decide)
  refine seq_if6 (or_read6 (test_read6 (op_read (sl_read6 ⟨_, rfl, ?_⟩))))
  dsimp only [tNoPart]
  refine ⟨2, rfl, qn, _, rfl, SqL.of en, fun qd nqd => ?_⟩
  have sd := same_lay (o := .lst (cutV [.int ((cntP s).length : Int), .int (s.fil.toList.length : Int), .int (s.free.length : Int)] none (some 2))) nqd
  have ed : (L2.upd HC qd (.lst (cutV [.int ((cntP s).length : Int), .int (s.fil.toList.length : Int), .int (s.free.length : Int)] none (some 2)))) qd = some (.lst [.int ((cntP s).length : Int), .int (s.fil.toList.length : Int)]) := by
    rw [upd_same]
    exact congrArg (fun l => some (HO.lst l)) ((cut_to (xs := [V.int ((cntP s).length : Int), .int (s.fil.toList.length : Int), .int (s.free.length : Int)]) (d := 2)).trans rfl)
  generalize L2.upd HC qd (.lst (cutV [.int ((cntP s).length : Int), .int (s.fil.toList.length : Int), .int (s.free.length : Int)] none (some 2))) = HD at sd ed ⊢
  have snd := sn.trans sd
  refine lst_read (cons_read (cb_read (cons_read ⟨_, rfl, nil_read ⟨qa, _, rfl, .inr (SqT.of (snd _ _ h2B)), cons_read (op_read (cb_read (cons_read ⟨_, rfl, nil_read ⟨qc, _, rfl, .inr (SqT.of (snd _ _ h3B)), ⟨_, _, rfl, rfl, ⟨by decide, by decide⟩, nil_read ⟨by show 2 ≤ sizeLine; decide, fun qe nqe => ?_⟩⟩⟩⟩)))⟩⟩)))
  have ee : (L2.upd HD qe (.lst [.int (((((cntP s).map V.int).length : Nat)) : Int), .int (((((opnL s).map V.int).length : Nat) : Int) / 2)])) qe = some (.lst [.int ((cntP s).length : Int), .int (s.fil.toList.length : Int)]) := by
    rw [upd_same, List.length_map, List.length_map, ediv]
  have se := same_lay (o := .lst [.int (((((cntP s).map V.int).length : Nat)) : Int), .int (((((opnL s).map V.int).length : Nat) : Int) / 2)]) nqe
  refine ⟨_, _, .lst (SqL.of (se _ _ ed)) (dp_ints [((cntP s).length : Int), (s.fil.toList.length : Int)]), .lst (SqL.of ee) (dp_ints [((cntP s).length : Int), (s.fil.toList.length : Int)]), fitC.shaped (by decide), fitC.shaped (by decide), ?_⟩
  rw [fitC.refl]
  refine ⟨false, rfl, iteF ?_⟩
  have sE := snd.trans se
  generalize L2.upd HD qe (.lst [.int (((((cntP s).map V.int).length : Nat)) : Int), .int (((((opnL s).map V.int).length : Nat) : Int) / 2)]) = HE at sE se ee ⊢
  have enE := se _ _ (sd _ _ en)
  refine test_read6 (op_read (cb_read (cons_read ⟨_, rfl, nil_read ⟨qn, [((cntP s).length : Int), (s.fil.toList.length : Int), (s.free.length : Int)], rfl, SqL.of enE, _, rfl, mi, dd, _, rfl, sE _ _ hdiB, mi, dd, _, _, rfl, sE _ _ hdiB, rfl, rfl, _, rfl, ?_⟩⟩)))
  have esum : ([((cntP s).length : Int), (s.fil.toList.length : Int), (s.free.length : Int)] : List Int).sum = (b : Int) := by
    simp only [List.sum_cons, List.sum_nil]
    omega
  rw [esum, decide_eq_true rfl]
  refine iteF ?_
  have XE := XB.trans (.of sE)
  have TE' := TB.ext sE
  refine ret_read (ifx_read6 (test_read6 (op_read ⟨_, rfl, c_read ⟨_, _, rfl, rfl, _, rfl, ?_⟩⟩)))
  by_cases hg : (0 : Int) < ((gone s.told).length : Int)
  · rw [decide_eq_true hg]
    have hg' : gone s.told ≠ [] := fun z => by rw [z] at hg; exact absurd hg (by decide)
    refine iteT (op_read (op_read ⟨_, rfl, c_read ⟨qn, _, _, .int (s.free.length : Int), rfl, rfl, SqL.of enE, rfl, c_read ⟨rfl, ?_⟩⟩⟩))
    rw [PF.late hg']
    exact k _ XE TE'
  · rw [decide_eq_false hg]
    refine iteF (op_read (op_read ⟨_, rfl, c_read ⟨qn, _, _, .int (s.free.length : Int), rfl, rfl, SqL.of enE, rfl, c_read ⟨_, _, rfl, rfl, ?_⟩⟩⟩))
    dsimp only
    rw [decide_eq_true (show (1 : Int) ≤ (s.free.length : Int) by omega)]
    exact k _ XE TE'
end
end KY

set_option Elab.async false
set_option linter.all false
set_option maxRecDepth 100000
set_option maxHeartbeats 8000000
/-! _law_first_right -/
namespace KY
open PySem PySem.Spec PyProof.Rows L2 G1 G2 G3 K2 G5 LamX K3 ClX K6
abbrev sFst : Stmt := topS 82
abbrev NFst : List Str := ["_law_mine", "_law_script", "_law_told", "_law_writes_here", "_law_k", "_law_is_late"]
theorem scFst : FnScope NFst ["_law_mine", "_law_script", "_law_told"] (defScope sFst) := ⟨rfl, rfl, rfl, by decide +kernel, rfl, by decide +kernel, by decide +kernel⟩
def spFst (K : PySem.W.Frag) (CD : Addr) : Sp := fun vs H Q _ => ∃ (mi sc tl : Addr) (b p n : Nat) (ini : List RowD) (y : Str) (es : List (Str × Str)) (rs : List Addr) (s : Pl), vs = [.ref mi, .ref sc, .ref tl] ∧ S8 K CD H mi sc b p n ini y es ∧ PureS b p n (ini ++ [((p : Int), y)]) es ∧ PlaysToG p (ini ++ [((p : Int), y)]) (newP b) es s ∧ H tl = some (.lst (rs.map V.ref)) ∧ Paired (TldAt H) rs s.told ∧ ∀ H', Same H H' → Q (.bl true) H'
theorem eqI_strY (a c : Str) : decide (V.str a = V.str c) = decide (a = c) := by
  by_cases h : a = c
  · rw [h, decide_eq_true rfl, decide_eq_true rfl]
  · rw [decide_eq_false h, decide_eq_false (fun z => h (by injection z))]
theorem dec_intY (a b : Nat) : decide (V.int (a : Int) = V.int (b : Int)) = decide (a = b) := by
  by_cases c : a = b
  · rw [c, decide_eq_true rfl, decide_eq_true rfl]
  · rw [decide_eq_false c, decide_eq_false (fun z => c (by injection z with z; omega))]
theorem dec_mulY {a m : Nat} {x : Int} (h : x = (m : Int)) : decide (V.int (a : Int) = V.int x) = decide (a = m) := by
  subst h
  exact dec_intY a m
section
variable {P : Program} {w : World} {K : PySem.W.Frag} {mg : Str → Option Value} {base : Heap} {CD C : Addr}
theorem ok_fst {f : Addr} {fd : FuncData} (F : Fun K "_law_first_right" "_law_first_right" sFst f fd) (B : Bl mg) (M : DD P w K mg base CD) : FnG P w K mg base 3 f fd ["_law_mine", "_law_script", "_law_told"] (spFst K CD) := by
  refine okG F scFst (fun vs H Q E h => ?_) (fun cdv A outer s0 H vs Q E hgu hr h => ?_)
  · obtain ⟨mi, sc, tl, b, p, n, ini, y, es, rs, s, rfl, _⟩ := h
    rfl
  obtain ⟨mi, sc, tl, b, p, n, ini, y, es, rs, s, rfl, S, PU, pl, htl, hrs, k⟩ := h
  have hr2 : Room 2 _ := hr.mono (by decide)
  obtain ⟨p2, g2, f2, P2, F2, B2⟩ := M.pb.ex
  obtain ⟨p3, g3, f3, P3, F3, B3⟩ := M.pp.ex
  refine ⟨_, (pss_cons (ps_set (i := 3) scFst.nd rfl (.inl rfl) pe_int)
    (pss_cons (ps_for PassesOwn.never rfl (pi_range1 (by rfl) B.range (pa_cons (pe_callB call_len_seq (by rfl) B.len PySem.boot_len (pa_cons (pv 1) pa_nil)) pa_nil)) (pg_name (i := 4) scFst.nd rfl (.inl rfl))
      (pss_cons (ps_set (i := 5) scFst.nd rfl (.inl rfl) (pe_cmpR op_ge (pv 3) (pe_op op_mul (pe_prop (pv 0) M.T.cl P3 F3 hr2 B3 .nil pass0 rfl) (pe_op op_sub (pe_prop (pv 0) M.T.cl P2 F2 hr2 B2 .nil pass0 rfl) pe_int)) (nomark _)))
    (pss_cons (ps_if (PW.pt (pw_and (pt_cmpR (op_neD hr.units) (pe_ix ix_tup (pe_ix ix_list (pv 2) (pv 4) (fun _ _ => rfl)) pe_int (fun _ _ => rfl)) (pe_tup pa_nil) (nomark _)) (pw_and1 (pt_not (pt_truth (pv 5) (by intro _; rfl)))))) (pss_one (ps_ret pe_bl)) pss_nil)
    (pss_cons (ps_if (PW.pt (pw_and (pt_cmpR op_eq (pe_ix ix_tup (pe_ix ix_tup (pv 1) (pv 4) (fun _ _ => rfl)) pe_int (fun _ _ => rfl)) pe_str (nomark _)) (pw_and (pt_cmpR op_eq (pv 3) (pe_op op_mul (pe_prop (pv 0) M.T.cl P3 F3 hr2 B3 .nil pass0 rfl) (pe_op op_sub (pe_prop (pv 0) M.T.cl P2 F2 hr2 B2 .nil pass0 rfl) pe_int)) (nomark _)) (pw_and1 (pt_cmpR (op_eqD hr.units) (pe_ix ix_tup (pe_ix ix_list (pv 2) (pv 4) (fun _ _ => rfl)) pe_int (fun _ _ => rfl)) (pe_tup pa_nil) (nomark _)))))) (pss_one (ps_ret pe_bl)) pss_nil)
    (pss_one (ps_set (i := 3) scFst.nd rfl (.inl rfl) (pe_op op_add (pv 3) (pe_callTy call_int1 (by rfl) B.int bInt (pa_cons (pe_cmpR op_eq (pe_ix ix_tup (pe_ix ix_tup (pv 1) (pv 4) (fun _ _ => rfl)) pe_int (fun _ _ => rfl)) pe_str (nomark _)) pa_nil)))))))))
    (pss_one (ps_ret pe_bl)))), ?_⟩
  obtain ⟨I, hlen, hst⟩ := PU.all.2 s pl
  have hb := PU.D.b10
  have hb2 := PU.D.b2
  have hp := PU.D.p10
  have hfew := PU.few
  have hrl := Paired.length hrs
  obtain ⟨dd, td, hdi, _⟩ := id S.mi
  obtain ⟨eas, hsc, hev⟩ := S.sc
  have hel := Paired.length hev
  have em : (p : Int) * ((b : Int) - 1) = ((p * (b - 1) : Nat) : Int) := by
    rw [Int.natCast_mul, Int.natCast_sub (by omega)]
    rfl
  have hmul : p * (b - 1) ≤ 10 * 9 := Nat.mul_le_mul hp (by omega)
  have fitE : DFit (.tuple (iD [])) 1 1000 := ints_fit (fun i hi => (nomatch hi)) (Nat.zero_le _)
  refine seq_asg (c_read ?_)
  show tSeq (tFor _ _ _) _ _ [some (.ref mi), some (.ref sc), some (.ref tl), some (.int 0), none, none] H
  refine seq_for fun D' hD1 hD2 => ?_
  refine cons_read (cb_read (cons_read ⟨_, rfl, nil_read ⟨sc, _, rfl, .inr hsc, nil_read ⟨_, rfl, by omega, by rw [List.length_map]; omega, ?_⟩⟩⟩))
  rw [List.length_map, Int.toNat_natCast]
  refine for_range (lo := 0) (n := eas.length) (fun i σ H' => ∃ x4 x5 : Option V, σ = [some (.ref mi), some (.ref sc), some (.ref tl), some (.int (wrs (es.take i) : Int)), x4, x5] ∧ Same H H') ⟨none, none, rfl, Same.refl _⟩ ?_ ?_
  · rintro i σ H1 hi ⟨x4, x5, rfl, s1⟩
    rw [Int.zero_add]
    obtain ⟨ea, hea⟩ : ∃ e, eas[i]? = some e := ⟨_, List.getElem?_eq_getElem hi⟩
    obtain ⟨ev, hev2, hEv⟩ := K2.paired_get hev hea
    have hit : i < s.told.length := by omega
    obtain ⟨a, ha⟩ : ∃ a, rs[i]? = some a := ⟨_, List.getElem?_eq_getElem (by omega)⟩
    obtain ⟨t, ht, q, g1, g2⟩ := K2.paired_get hrs ha
    obtain ⟨f1, f2, f3⟩ := first_fact PU pl hev2 ht
    have hS := hst t (List.mem_of_getElem? ht)
    have fitT : DFit (.tuple (iD (csI t.2.1))) 1 1000 := ints_fit (fun j hj => by
      obtain ⟨v, hv, rfl⟩ := List.mem_map.mp hj
      have := hS.cl v hv
      show ((v : Nat) : Int).natAbs < 10000000
      omega) (by unfold csI; rw [List.length_map]; exact Nat.le_trans hS.len (by decide))
    have hwl : wrs (es.take i) ≤ 100 := by
      have z := List.length_filter_le (fun (e : Str × Str) => decide (e.1 = ("write" : Str))) (es.take i)
      rw [List.length_take] at z
      unfold wrs
      omega
    have hdi1 := s1 _ _ hdi
    have hsc1 := K2.Same.tup s1 hsc
    have htl1 := s1 _ _ htl
    have g1' := s1 _ _ g1
    have g2' := s1 _ _ g2
    have hEv1 := s1 _ _ hEv
    rw [nats_intsY] at g2'
    generalize hw : wrs (es.take i) = wn at f1 f2 f3 hwl ⊢
    refine seq_asg (op_read ⟨_, rfl, op_read ⟨_, rfl, mi, dd, _, rfl, hdi1, mi, dd, _, _, rfl, hdi1, rfl,  op_read ⟨_, rfl, mi, dd, _, rfl, hdi1, mi, dd, _, _, rfl, hdi1, rfl,  c_read ⟨_, _, rfl, rfl, ⟨_, _, rfl, rfl, .inl ⟨by omega, by omega⟩, ⟨_, _, rfl, rfl, ?_⟩⟩⟩⟩⟩⟩)
    dsimp only
    rw [em]
    have dle : decide (((p * (b - 1) : Nat) : Int) ≤ (wn : Int)) = decide (p * (b - 1) ≤ wn) := decide_eq_decide.mpr (by omega)
    rw [dle]
    show tSeq (tIfS _ _ _) _ _ [some (.ref mi), some (.ref sc), some (.ref tl), some (.int (wn : Int)), some (.int (i : Int)), some (.bl (decide (p * (b - 1) ≤ wn)))] H1
    generalize hlb : decide (p * (b - 1) ≤ wn) = lb
    refine seq_ifBY (fun σ H' => σ = [some (.ref mi), some (.ref sc), some (.ref tl), some (.int (wn : Int)), some (.int (i : Int)), some (.bl lb)] ∧ Same H1 H') (fun N hN => ?_) ?_
    · refine and_read6 (test_read6 (op_read (op_read (op_read ⟨_, rfl, _, rfl, tl, _, _, .ref a, rfl, rfl, SqL.of htl1, atI_nat (by rw [List.getElem?_map, ha]; rfl), c_read ⟨a, _, _, .ref q, rfl, rfl, SqT.of g1', rfl, tup_read (nil_read ⟨by show 0 ≤ sizeLine; decide, fun ue nue => ?_⟩)⟩⟩))))
      have se := same_lay (o := .tup []) nue
      refine ⟨_, _, .tup (SqT.of (se _ _ g2')) (dp_ints _), .tup (SqT.of (show (L2.upd H1 ue (.tup [])) ue = some (.tup (([] : List Int).map V.int)) from upd_same)) (dp_ints []), fitT.shaped (by decide), fitE.shaped (by decide), ?_⟩
      by_cases c : t.2.1 = []
      · rw [c]
        show ∃ k, V.bl (!PyData.eqv (.tuple (iD [])) (.tuple (iD []))) = V.bl k ∧ _
        rw [fitE.refl]
        exact ⟨false, rfl, iteF (hN _ _ ⟨rfl, se⟩)⟩
      · obtain ⟨j, js, ej⟩ := List.exists_cons_of_ne_nil c
        have hlate := f1 c
        rw [ej]
        have hl : lb = true := by rw [← hlb, decide_eq_true hlate]
        refine ⟨true, rfl, iteT (not_readY ⟨_, rfl, lb, rfl, ?_⟩)⟩
        rw [hl]
        exact iteF (hN _ _ ⟨by rw [hl], se⟩)
    rintro σ H2 ⟨rfl, s2⟩
    have hdi2 := s2 _ _ hdi1
    have hsc2 := K2.Same.tup s2 hsc1
    have htl2 := s2 _ _ htl1
    have g12 := s2 _ _ g1'
    have g22 := s2 _ _ g2'
    have hEv2 := s2 _ _ hEv1
    refine seq_ifBY (fun σ H' => σ = [some (.ref mi), some (.ref sc), some (.ref tl), some (.int (wn : Int)), some (.int (i : Int)), some (.bl lb)] ∧ Same H2 H') (fun N hN => ?_) ?_
    · refine and_read6 (test_read6 (op_read (op_read (op_read ⟨_, rfl, _, rfl, sc, _, _, .ref ea, rfl, rfl, hsc2, atI_nat (by rw [List.getElem?_map, hea]; rfl), c_read ⟨ea, _, _, .str ev.1, rfl, rfl, SqT.of hEv2, rfl, c_read ⟨rfl, _, rfl, ?_⟩⟩⟩))))
      rw [eqI_strY]
      by_cases c : ev.1 = "write"
      · rw [decide_eq_true c]
        refine iteT (and_read6 (test_read6 (op_read ⟨_, rfl, op_read ⟨_, rfl, mi, dd, _, rfl, hdi2, mi, dd, _, _, rfl, hdi2, rfl,  op_read ⟨_, rfl, mi, dd, _, rfl, hdi2, mi, dd, _, _, rfl, hdi2, rfl,  c_read ⟨_, _, rfl, rfl, ⟨_, _, rfl, rfl, .inl ⟨by omega, by omega⟩, ⟨rfl, _, rfl, ?_⟩⟩⟩⟩⟩⟩)))
        dsimp only
        rw [dec_mulY em]
        by_cases c2 : wn = p * (b - 1)
        · rw [decide_eq_true c2]
          refine iteT (test_read6 (op_read (op_read (op_read ⟨_, rfl, _, rfl, tl, _, _, .ref a, rfl, rfl, SqL.of htl2, atI_nat (by rw [List.getElem?_map, ha]; rfl), c_read ⟨a, _, _, .ref q, rfl, rfl, SqT.of g12, rfl, tup_read (nil_read ⟨by show 0 ≤ sizeLine; decide, fun ue nue => ?_⟩)⟩⟩))))
          have se := same_lay (o := .tup []) nue
          refine ⟨_, _, .tup (SqT.of (se _ _ g22)) (dp_ints _), .tup (SqT.of (show (L2.upd H2 ue (.tup [])) ue = some (.tup (([] : List Int).map V.int)) from upd_same)) (dp_ints []), fitT.shaped (by decide), fitE.shaped (by decide), ?_⟩
          obtain ⟨j, js, ej⟩ := List.exists_cons_of_ne_nil (f2 c c2)
          rw [ej]
          exact ⟨false, rfl, iteF (hN _ _ ⟨rfl, se⟩)⟩
        · rw [decide_eq_false c2]
          exact iteF (iteF (hN _ _ ⟨rfl, Same.refl _⟩))
      · rw [decide_eq_false c]
        exact iteF (iteF (hN _ _ ⟨rfl, Same.refl _⟩))
    rintro σ H3 ⟨rfl, s3⟩
    have hsc3 := K2.Same.tup s3 hsc2
    have hEv3 := s3 _ _ hEv2
    refine asg_read (op_read ⟨_, rfl, cb_read (cons_read (op_read (op_read (op_read ⟨_, rfl, _, rfl, sc, _, _, .ref ea, rfl, rfl, hsc3, atI_nat (by rw [List.getElem?_map, hea]; rfl), c_read ⟨ea, _, _, .str ev.1, rfl, rfl, SqT.of hEv3, rfl, c_read ⟨rfl, nil_read (.inr ⟨_, rfl, ⟨_, _, rfl, rfl, ?_⟩⟩)⟩⟩⟩))))⟩)
    refine ⟨some (.int (i : Int)), some (.bl lb), ?_, s1.trans (s2.trans s3)⟩
    rw [eqI_strY, f3]
    by_cases c : ev.1 = "write"
    · rw [decide_eq_true c, if_pos rfl, if_pos c]
      rfl
    · rw [decide_eq_false c, if_neg (by decide), if_neg c]
      rfl
  · rintro σ H2 ⟨x4, x5, rfl, s2⟩
    rw [hD1]
    exact ret_read (c_read (k _ s2))
end
end KY

set_option Elab.async false
set_option linter.all false
set_option maxRecDepth 100000
set_option maxHeartbeats 8000000
/-! _law_right -/
namespace KY
open PySem PySem.Spec PyProof.Rows L2 G1 G2 G3 K2 G5 LamX K3 ClX K6
abbrev sRgt : Stmt := topS 83
abbrev NRgt : List Str := ["_law_pool_here", "_law_turn", "_law_shape_here", "_law_mine", "_law_tags_here", "_law_script", "_law_told", "_law_alive", "_law_k"]
theorem scRgt : FnScope NRgt ["_law_pool_here"] (defScope sRgt) := ⟨rfl, rfl, rfl, by decide +kernel, rfl, by decide +kernel, by decide +kernel⟩
theorem tabs_stpY {T : List (Addr × Str)} {pl : Addr} {H H' : Hp} (hp : PoolAt H pl) (s : Stp pl H H') (t : Tabs T H) : Tabs T H' := fun p hpt => by
  obtain ⟨i, j, n, e, _⟩ := hp
  obtain ⟨ps, h1, h2, h3⟩ := t p hpt
  refine ⟨ps, s.2 _ _ (ne_of h1 e (by intro z; cases z)) h1, h2, fun pos cv hc => ?_⟩
  obtain ⟨c, e1, e2⟩ := h3 pos cv hc
  exact ⟨c, e1, s.2 _ _ (ne_of e2 e (by intro z; cases z)) e2⟩
theorem shp_b6Y {b p n : Nat} (h : Shp b p n) : b ≤ 6 ∧ p ≤ 6 := by
  obtain ⟨h1, _, _⟩ := h
  simp only [List.mem_cons, List.mem_nil_iff, or_false, Prod.mk.injEq] at h1
  rcases h1 with ⟨rfl, rfl⟩ | ⟨rfl, rfl⟩ | ⟨rfl, rfl⟩ | ⟨rfl, rfl⟩ | ⟨rfl, rfl⟩ | ⟨rfl, rfl⟩ | ⟨rfl, rfl⟩ <;> decide
theorem rows_wdY {p : Nat} {ini : List RowD} {y : Str} (h : IniOk p ini) (hy : y ∈ wordsL) : ∀ r ∈ ini ++ [((p : Int), y)], r.2 ∈ wordsL := fun r hr => by
  rcases List.mem_append.mp hr with z | z
  · exact (h.1 r z).2.2
  · rw [List.mem_singleton.mp z]
    exact hy
def StpY (pl : Addr) (H H' : Hp) : Prop := PoolAt H' pl ∧ ∀ b o, b ≠ pl → H b = some o → (∀ ps, o ≠ .tbl ps) → H' b = some o
theorem StpY.of {pl : Addr} {H H' : Hp} (s : Stp pl H H') : StpY pl H H' := ⟨s.1, fun b o n e _ => s.2 b o n e⟩
theorem StpY.trans {pl : Addr} {H H1 H2 : Hp} (a : StpY pl H H1) (b : StpY pl H1 H2) : StpY pl H H2 := ⟨b.1, fun c o n e t => b.2 c o n (a.2 c o n e t) t⟩
theorem StpY.ext {pl : Addr} {H H' : Hp} (hp : PoolAt H pl) (e : ExtN H H') : StpY pl H H' := by
  obtain ⟨i, j, n, z, h0, h1⟩ := hp
  exact ⟨⟨i, j, n, e _ _ z (by intro _ q; cases q), h0, h1⟩, fun b o _ q t => e b o q t⟩
theorem for_readY {wi : TI} {g : TG} {tb : TS} {D : Ends} {σ : L2.St} {H : Hp} (h : ∀ D' : Ends, D'.nx = D.nx → D'.rt = D.rt → wi σ H fun J H1 => ∃ W : Nat → Nat → L2.St → Hp → Prop, (∃ m, W 0 m σ H1) ∧ ∀ i m σ H, W i m σ H →
      (J.stop i H ∧ D'.nx σ H) ∨ (J.go i H ∧ ∃ N : L2.St → Hp → Prop, (∀ σ' H', N σ' H' → ∃ m', m' < m ∧ W (i + 1) m' σ' H') ∧ ∀ x H', J.yld i H x H' → g x σ H' fun σ2 H2 => tb { D' with nx := N, ct := N, bk := D'.nx } σ2 H2)) : tFor wi g tb D σ H := h D rfl rfl
theorem if_readY {tt : TT} {t e : TS} {D : Ends} {σ : L2.St} {H : Hp} (h : tt σ H fun c H1 => if c = true then t D σ H1 else e D σ H1) : tIfS tt t e D σ H := h
theorem fold_takeY {es : List (Str × Str)} {i : Nat} {e : Str × Str} (he : es[i]? = some e) (al : List Str) : (es.take (i + 1)).foldl aft al = aft ((es.take i).foldl aft al) e := by
  rw [List.take_add_one, he, List.foldl_append]
  rfl
theorem lets_memY {n : Nat} : ∀ {es : List (Str × Str)} {al : List Str} {i : Nat} {e : Str × Str}, Lets n al es → es[i]? = some e → LetE n ((es.take i).foldl aft al) e
  | e0 :: es, al, 0, e, ⟨h1, _⟩, he => by
    cases he
    exact h1
  | e0 :: es, al, i + 1, e, ⟨_, h2⟩, he => lets_memY (es := es) (al := aft al e0) h2 he
structure R4 (K : PySem.W.Frag) (CD : Addr) (T : List (Addr × Str)) (pl : Addr) (H0 H : Hp) (mi sc tl : Addr) (b p n : Nat) (ini : List RowD) (y : Str) (eas : List Addr) (es : List (Str × Str)) (rs : List Addr) (told : List Tld) : Prop where
  St : StpY pl H0 H
  mi : DrvAt K CD H mi b p n ini y
  sc : SqT K H sc (eas.map V.ref)
  ev : Paired (EvA H) eas es
  tl : H tl = some (.lst (rs.map V.ref))
  rs : Paired (TldAt H) rs told
  T : Tabs T H
section
variable {K : PySem.W.Frag} {CD : Addr} {T : List (Addr × Str)} {H0 H H' : Hp} {pl mi sc tl : Addr} {b p n : Nat} {ini : List RowD} {y : Str} {eas : List Addr} {es : List (Str × Str)} {rs : List Addr} {told : List Tld}
theorem R4.ext (h : R4 K CD T pl H0 H mi sc tl b p n ini y eas es rs told) (e : ExtN H H') (t : Tabs T H') : R4 K CD T pl H0 H' mi sc tl b p n ini y eas es rs told :=
  ⟨h.St.trans (.ext h.St.1 e), DrvAt.extN h.mi e, ext_tup e h.sc, Paired.mapP h.ev fun _ _ z => e _ _ z (by intro _ q; cases q), e _ _ h.tl (by intro _ z; cases z), Paired.mapP h.rs fun _ _ z => tld_ext z e, t⟩
theorem R4.same (h : R4 K CD T pl H0 H mi sc tl b p n ini y eas es rs told) (s : Same H H') : R4 K CD T pl H0 H' mi sc tl b p n ini y eas es rs told := h.ext (.of s) (h.T.ext s)
theorem R4.s8 (h : R4 K CD T pl H0 H mi sc tl b p n ini y eas es rs told) : S8 K CD H mi sc b p n ini y es := ⟨h.mi, eas, h.sc, h.ev⟩
end
def spOne (T : List (Addr × Str)) : Sp := fun vs H Q _ => ∃ pl : Addr, vs = [.ref pl] ∧ PoolAt H pl ∧ Tabs T H ∧ ∀ H', PoolAt H' pl → (∀ b o, b ≠ pl → H b = some o → (∀ ps, o ≠ .tbl ps) → H' b = some o) → Tabs T H' → Q (.bl true) H'
section
variable {P : Program} {w : World} {K : PySem.W.Frag} {mg : Str → Option Value} {base : Heap} {CD C CL : Addr}
theorem ok_rgt {f : Addr} {fd : FuncData} {T : List (Addr × Str)} (F : Fun K "_law_right" "_law_right" sRgt f fd) (B : Bl mg) (hlist : mg "list" = none) (GX : GnAt P w K mg base 8 "steps" ["drive", "load"] (spStpG K T CD C))
    (GD : FAt P w K mg base 1 "_law_draw" ["_law_pool_here", "_law_many"] spDraw) (GH : FAt P w K mg base 2 "_law_shape" ["_law_pool_here"] (spShp K)) (GT : FAt P w K mg base 2 "_law_table" ["_law_pool_here", "_law_size"] (spTab K))
    (GM : FAt P w K mg base 7 "_law_made" ["_law_shape_here", "_law_table_here"] (spMad K CD)) (GG : FAt P w K mg base 3 "_law_tags" ["_law_pool_here", "_law_many"] spTgs) (GL : FAt P w K mg base 2 "_law_load" ["_law_pool_here", "_law_tags_here", "_law_room", "_law_many"] spLoa)
    (GE : GAt6 P w K mg base 14 "_law_let" ["_law_mine", "_law_script"] (spLetM K T CD)) (GF : GAt6 P w K mg base 3 "_law_first_right" ["_law_mine", "_law_script", "_law_told"] (spFst K CD)) (GQ : GAt6 P w K mg base 10 "_law_part_right" ["_law_mine", "_law_script", "_law_told", "_law_alive"] (spPrt K T CD)) (GA : FAt P w K mg base 1 "_law_alive_now" ["_law_alive", "_law_act"] spAlv) : FnG P w K mg base 15 f fd ["_law_pool_here"] (spOne T) := by
  refine okG F scRgt (fun vs H Q E h => ?_) (fun cdv A outer s H vs Q E hgu hr h => ?_)
  · obtain ⟨pl, rfl, _⟩ := h
    rfl
  obtain ⟨pl, rfl, hp, hT, k⟩ := h
  have hr1 : Room 1 _ := hr.mono (by decide)
  have hr2 : Room 2 _ := hr.mono (by decide)
  have hr3 : Room 3 _ := hr.mono (by decide)
  have hr7 : Room 7 _ := hr.mono (by decide)
  have hr8 : Room 8 _ := hr.mono (by decide)
  have hr10 : Room 10 _ := hr.mono (by decide)
  have hr11 : Room (8 + 3) _ := hr.mono (by decide)
  have hr14 : Room 14 _ := hr.mono (by decide)
  obtain ⟨fX, dX, GX, kX, bX, gX⟩ := GX.ex
  obtain ⟨fD, dD, GD, kD, bD, gD⟩ := GD.ex
  obtain ⟨fH, dH, GH, kH, bH, gH⟩ := GH.ex
  obtain ⟨fT, dT, GT, kT, bT, gT⟩ := GT.ex
  obtain ⟨fM, dM, GM, kM, bM, gM⟩ := GM.ex
  obtain ⟨fG, dG, GG, kG, bG, gG⟩ := GG.ex
  obtain ⟨fL, dL, GL, kL, bL, gL⟩ := GL.ex
  obtain ⟨fE, dE, GE, kE, bE, gE⟩ := GE.ex
  obtain ⟨fF, dF, GF, kF, bF, gF⟩ := GF.ex
  obtain ⟨fQ, dQ, GQ, kQ, bQ, gQ⟩ := GQ.ex
  obtain ⟨fA, dA, GA, kA, bA, gA⟩ := GA.ex
  refine ⟨_, (pss_cons (ps_for PassesOwn.never rfl (pi_range1 (by rfl) B.range (pa_cons pe_int pa_nil)) (pg_name (i := 1) scRgt.nd rfl (.inl rfl))
      (pss_cons (ps_set (i := 2) scRgt.nd rfl (.inl rfl) (pe_call GH hr2 (by rfl) gH kH bH .nil pass0 (pa_cons (pv 0) pa_nil)))
    (pss_cons (ps_par (i := 3) (j := 4) (by rfl) scRgt.nd rfl rfl (by decide) rfl rfl (pa_cons (pe_call GM hr7 (by rfl) gM kM bM .nil pass0 (pa_cons (pv 2) (pa_cons (pe_call GT hr2 (by rfl) gT kT bT .nil pass0 (pa_cons (pv 0) (pa_cons (pe_ix ix_tup (pv 2) pe_int (fun _ _ => rfl)) pa_nil))) pa_nil))) (pa_cons (pe_call GG hr3 (by rfl) gG kG bG .nil pass0 (pa_cons (pv 0) (pa_cons (pe_op op_add (pe_ix ix_tup (pv 2) pe_int (fun _ _ => rfl)) pe_int) pa_nil))) pa_nil)) (by rfl))
    (pss_cons (ps_set (i := 5) scRgt.nd rfl (.inl rfl) (pe_callG GE hgu hr14 (by rfl) gE kE bE (pa_cons (pv 3) (pa_cons (pe_call GL hr2 (by rfl) gL kL bL .nil pass0 (pa_cons (pv 0) (pa_cons (pv 4) (pa_cons (pe_ix ix_tup (pv 2) pe_int (fun _ _ => rfl)) (pa_cons (pe_op op_add pe_int (pe_call GD hr1 (by rfl) gD kD bD .nil pass0 (pa_cons (pv 0) (pa_cons pe_int pa_nil)))) pa_nil))))) pa_nil))))
    (pss_cons (ps_par (i := 6) (j := 7) (by rfl) scRgt.nd rfl rfl (by decide) rfl rfl (pa_cons (pe_listG (k := 8) (pgen_call GX hr8 (by rfl) gX kX bX .nil (pa_cons (pv 3) (pa_cons (pv 5) pa_nil))) passX noStop hr11 (by rfl) hlist bList6) (pa_cons (pe_lst pa_nil) pa_nil)) (by rfl))
    (pss_cons (ps_if (PW.pt (pw_or (pt_not (pt_val (pe_callG GF hgu hr3 (by rfl) gF kF bF (pa_cons (pv 3) (pa_cons (pv 5) (pa_cons (pv 6) pa_nil)))))) (pw_or1 (pt_not (pt_val (pe_callG GQ hgu hr10 (by rfl) gQ kQ bQ (pa_cons (pv 3) (pa_cons (pe_tup pa_nil) (pa_cons (pe_lst pa_nil) (pa_cons pe_int pa_nil)))))))))) (pss_one (ps_ret pe_bl)) pss_nil)
    (pss_one (ps_for PassesOwn.never rfl (pi_range1 (by rfl) B.range (pa_cons (pe_callB call_len_seq (by rfl) B.len PySem.boot_len (pa_cons (pv 5) pa_nil)) pa_nil)) (pg_name (i := 8) scRgt.nd rfl (.inl rfl))
      (pss_cons (ps_set (i := 7) scRgt.nd rfl (.inl rfl) (pe_call GA hr1 (by rfl) gA kA bA .nil pass0 (pa_cons (pv 7) (pa_cons (pe_ix ix_tup (pv 5) (pv 8) (fun _ _ => rfl)) pa_nil))))
    (pss_one (ps_if (pt_not (pt_val (pe_callG GQ hgu hr10 (by rfl) gQ kQ bQ (pa_cons (pv 3) (pa_cons (pe_slice sl_tupA (pv 5) po_none (po_some (pe_op op_add (pv 8) pe_int))) (pa_cons (pe_slice sl_list (pv 6) po_none (po_some (pe_op op_add (pv 8) pe_int))) (pa_cons (pe_callB call_len_seq (by rfl) B.len PySem.boot_len (pa_cons (pv 7) pa_nil)) pa_nil))))))) (pss_one (ps_ret pe_bl)) pss_nil)))))))))))
    (pss_one (ps_ret pe_bl))), ?_⟩
  refine seq_for fun D' hD1 hD2 => ?_
  refine ⟨2, rfl, by decide, by decide, ?_⟩
  refine for_range (lo := 0) (n := 2) (fun i σ H' => ∃ (x1 x2 x3 x4 x5 x6 x7 x8 : Option V), σ = [some (.ref pl), x1, x2, x3, x4, x5, x6, x7, x8] ∧ StpY pl H H' ∧ Tabs T H') ⟨none, none, none, none, none, none, none, none, rfl, ⟨hp, fun _ _ _ z _ => z⟩, hT⟩ ?_ ?_
  · rintro i σ H0 hi ⟨x1, x2, x3, x4, x5, x6, x7, x8, rfl, Y0, T0⟩
    have hp0' := Y0.1
    generalize (0 : Int) + (i : Int) = turn
    -- the shape, the drive, the names
    refine seq_asg (call_read (cons_read ⟨_, rfl, nil_read ⟨pl, rfl, hp0', fun H1 sh b p n S1 hshp hsh => ?_⟩⟩))
    have D := shp_dims hshp
    obtain ⟨hb6, hp6⟩ := shp_b6Y hshp
    have hb2 := D.b2
    have hb10 := D.b10
    have hp10 := D.p10
    have hp0 := D.p0
    have hn10 := shp_few hshp
    have hn1 := hshp.2.1
    refine seq_par6 (cons_read (call_read (cons_read ⟨_, rfl, cons_read (call_read (cons_read ⟨_, rfl, cons_read (op_read ⟨_, rfl, c_read ⟨sh, _, _, .int (p : Int), rfl, rfl, SqT.of hsh, rfl, nil_read ⟨pl, p, rfl, S1.1, by omega, fun H2 tb ini y S2 hR hini hy => ?_⟩⟩⟩)⟩))⟩)))
    have hsh2 := S2.2 _ _ (pool_ne S1.1 hsh) hsh
    refine nil_read ⟨sh, tb, b, p, n, ini, y, rfl, SqT.of hsh2, ⟨hshp.sz, hshp.few, hini, hy⟩, hR, fun H3 mi s3 nmi hmi => ?_⟩
    have S13 := (S1.trans S2).trans (Stp.of S2.1 s3)
    have hsh3 := s3 _ _ hsh2
    refine cons_read (call_read (cons_read ⟨_, rfl, cons_read (op_read (op_read ⟨_, rfl, c_read ⟨sh, _, _, .int (n : Int), rfl, rfl, SqT.of hsh3, rfl, c_read ⟨_, _, rfl, rfl, nil_read ⟨pl, n + 1, rfl, S13.1, by omega, fun H4 tl tags S4 ntl htl hlt hnd hnm => ?_⟩⟩⟩⟩))⟩))
    have ntp : tl ≠ pl := pool_new S13.1 ntl
    have S14 := S13.trans S4
    have hsh4 := S4.2 _ _ (pool_ne S13.1 hsh3) hsh3
    have hmi4 := drv_stp S13.1 S4 hmi
    refine nil_read ⟨_, _, rfl, ?_⟩
    show tSeq (tAsg _ _) _ _ [some (.ref pl), some (.int turn), some (.ref sh), some (.ref mi), some (.ref tl), x5, x6, x7, x8] H4
    -- the load, as far as no write sticks
    refine seq_asg (call_read (cons_read ⟨_, rfl, cons_read (call_read (cons_read ⟨_, rfl, cons_read ⟨_, rfl, cons_read (op_read ⟨_, rfl, c_read ⟨sh, _, _, .int (n : Int), rfl, rfl, SqT.of hsh4, rfl, ?_⟩⟩)⟩⟩))⟩))
    refine cons_read (op_read (c_read (draw_c (p := pl) rfl S14.1 (by decide) (by decide) fun H6 m S6 m0 m1 => ⟨_, _, rfl, rfl, ?_⟩)))
    obtain ⟨m, rfl⟩ : ∃ m' : Nat, m = (m' : Int) := ⟨m.toNat, by omega⟩
    have S16 := S14.trans S6
    refine nil_read ⟨pl, tl, n, 10 + m, tags, by rw [Int.natCast_add]; rfl, S16.1, ntp, S6.2 _ _ ntp htl, (fun z => by rw [z] at hlt; cases hlt), by omega, hnm, hn1, by omega, by omega, fun H7 wh eas0 es0 S7 hwh hev0 hl0 hel0 hin0 => ?_⟩
    have S17 := S16.trans S7
    have hmi7 := drv_stp S16.1 S7 (drv_stp S14.1 S6 hmi4)
    have hT7 := tabs_stpY hp0' S17 T0
    have PU0 : PureS b p n (ini ++ [((p : Int), y)]) es0 := ⟨D, hb6, rows_wdY hini hy, hshp.2.2, hl0, by omega⟩
    have SW0 : S8 K CD H7 mi wh b p n ini y es0 := ⟨hmi7, eas0, SqT.of hwh, hev0⟩
    refine nil_read ⟨mi, wh, b, p, n, ini, y, es0, rfl, SW0, PU0, hT7, fun H8 sc m2 sE far SS x8' t8 => ?_⟩
    have plE := far.2.1
    have PU := PU0.take m2
    generalize es0.take m2 = es at PU plE SS
    show tSeq (tPar _ _ _) _ _ [some (.ref pl), some (.int turn), some (.ref sh), some (.ref mi), some (.ref tl), some (.ref sc), x6, x7, x8] H8
    have hfew := PU.few
    have St8 : StpY pl H H8 := Y0.trans ((StpY.of S17).trans (.ext S17.1 x8'))
    -- what is told
    refine seq_par6 (cons_read (listG_read (callG_read (cons_read ⟨_, rfl, cons_read ⟨_, rfl, nil_read (stp_in SS PU plE t8 fun H9 rs hrs x9 t9 tl9 ntl9 => ?_)⟩⟩))))
    have sT := same_lay (o := .lst (rs.map V.ref)) ntl9
    have R9 : R4 K CD T pl H (L2.upd H9 tl9 (.lst (rs.map V.ref))) mi sc tl9 b p n ini y (Classical.choose SS.sc) es rs sE.told := by
      have x := x9.trans (ExtN.of sT)
      obtain ⟨h1, h2⟩ := Classical.choose_spec SS.sc
      exact ⟨St8.trans (.ext St8.1 x), DrvAt.extN SS.mi x, ext_tup x h1, Paired.mapP h2 fun _ _ z => x _ _ z (by intro _ q; cases q), upd_same, Paired.mapP hrs fun _ _ z => tld_ext z (.of sT), t9.ext sT⟩
    generalize Classical.choose SS.sc = eas at R9
    generalize L2.upd H9 tl9 (.lst (rs.map V.ref)) = H10 at R9 ⊢
    refine cons_read (lst_read (nil_read ⟨by show 0 ≤ sizeLine; decide, fun al0 nal0 => nil_read ⟨_, _, rfl, ?_⟩⟩))
    have R10 := R9.same (same_lay (o := .lst []) nal0)
    have ea : (L2.upd H10 al0 (.lst [])) al0 = some (.lst (([] : List Str).map V.str)) := upd_same
    show tSeq (tIfS _ _ _) _ _ [some (.ref pl), some (.int turn), some (.ref sh), some (.ref mi), some (.ref tl), some (.ref sc), some (.ref tl9), some (.ref al0), x8] _
    generalize L2.upd H10 al0 (.lst []) = H11 at R10 ea ⊢
    clear R9 hrs x9 t9 ntl9 sT nal0 SS x8' t8 SW0 hmi7 hT7 S17 S16 S14 S13 hmi4 hsh4 hsh3 hsh2 hsh s3 S1 S2 S4 S6 S7 hev0 hwh hR hmi htl St8
    have hrl := Paired.length R10.rs
    have hel := Paired.length R10.ev
    obtain ⟨I, hlen, _⟩ := PU.all.2 sE plE
    -- how cleaning begins, and before anything
    refine seq_if6 (or_read6 (not_readY (b_read9 (call_read (cons_read ⟨_, rfl, cons_read ⟨_, rfl, cons_read ⟨_, rfl, nil_read ⟨mi, sc, tl9, b, p, n, ini, y, es, rs, sE, rfl, R10.s8, PU, plE, R10.tl, R10.rs, fun H12 s12 => ⟨_, rfl, iteF ?_⟩⟩⟩⟩⟩)))))
    have R12 := R10.same s12
    have PU00 : PureS b p n (ini ++ [((p : Int), y)]) [] := by
      have z := PU.take 0
      rwa [List.take_zero] at z
    refine not_readY (b_read9 (call_read (cons_read ⟨_, rfl, cons_read (tup_read (nil_read ⟨by show 0 ≤ sizeLine; decide, fun e0 ne0 => cons_read (lst_read (nil_read ⟨by show 0 ≤ sizeLine; decide, fun l0 nl0 => cons_read (c_read (nil_read ?_))⟩))⟩))⟩)))
    have se := same_lay (o := .tup []) ne0
    have sl := same_lay (o := .lst []) nl0
    have R13 := (R12.same se).same sl
    have h00 : (L2.upd (L2.upd H12 e0 (.tup [])) l0 (.lst [])) e0 = some (.tup []) := sl _ _ upd_same
    refine ⟨mi, e0, l0, b, p, n, ini, y, [], [], newP b, rfl, ⟨R13.mi, [], SqT.of h00, .nil⟩, PU00, rfl, upd_same, .nil, R13.T, fun H14 x14 t14 => ⟨_, rfl, iteF ?_⟩⟩
    have R14 := R13.ext x14 t14
    have ea14 := ((ExtN.of (s12.trans (se.trans sl))).trans x14) _ _ ea (by intro _ z; cases z)
    clear R10 R12 R13 se sl h00 ne0 nl0 s12 x14 t14 ea
    -- each part
    refine for_readY fun D2 hE1 hE2 => ?_
    refine cons_read (cb_read (cons_read ⟨_, rfl, nil_read ⟨sc, _, rfl, .inr R14.sc, nil_read ⟨_, rfl, by omega, by rw [List.length_map]; omega, ?_⟩⟩⟩))
    rw [List.length_map, Int.toNat_natCast]
    refine for_range (lo := 0) (n := eas.length) (fun i σ H' => ∃ (al : Addr) (x8 : Option V), σ = [some (.ref pl), some (.int turn), some (.ref sh), some (.ref mi), some (.ref tl), some (.ref sc), some (.ref tl9), some (.ref al), x8] ∧ R4 K CD T pl H H' mi sc tl9 b p n ini y eas es rs sE.told ∧ H' al = some (.lst (((es.take i).foldl aft []).map V.str))) ⟨al0, x8, rfl, R14, ea14⟩ ?_ ?_
    · rintro j σ H' hj ⟨al, x8, rfl, R, eal⟩
      rw [Int.zero_add]
      obtain ⟨e, hea⟩ : ∃ e, eas[j]? = some e := ⟨_, List.getElem?_eq_getElem hj⟩
      obtain ⟨ev, hev2, hEv⟩ := K2.paired_get R.ev hea
      have LE := lets_memY PU.lets hev2
      obtain ⟨s1, pl1, _⟩ := plays_take plE j
      have nd1 := ((PU.take j).all.2 _ pl1).1.nd
      have hl := al_lenS (n := n) _ [] (Nat.zero_le _) (PU.take j).lets
      refine seq_asg (call_read (cons_read ⟨_, rfl, cons_read (op_read ⟨_, rfl, _, rfl, sc, _, _, .ref e, rfl, rfl, R.sc, atI_nat (by rw [List.getElem?_map, hea]; rfl), nil_read ⟨al, e, (es.take j).foldl aft [], ev.1, ev.2, rfl, eal, hEv, by omega, fun H2 q s2 nq hq => ?_⟩⟩)⟩))
      rw [alv_aft nd1 LE, ← fold_takeY hev2] at hq
      have R2 := R.same s2
      obtain ⟨s3, pl3, _⟩ := plays_take plE (j + 1)
      have PU3 := PU.take (j + 1)
      have ht3 := told_take PU (m := j + 1) (by omega) plE pl3
      show tIfS _ _ _ _ [some (.ref pl), some (.int turn), some (.ref sh), some (.ref mi), some (.ref tl), some (.ref sc), some (.ref tl9), some (.ref q), some (.int (j : Int))] H2
      refine if_readY (not_readY (b_read9 (call_read (cons_read ⟨_, rfl, cons_read (sl_read6 ⟨_, rfl, ?_⟩)⟩))))
      dsimp only [tNoPart]
      refine op_read ⟨_, rfl, c_read ⟨_, _, rfl, rfl, (((j + 1 : Nat)) : Int), by rw [Int.natCast_add]; rfl, slA8 R2.sc fun H3 u s3' hu => ?_⟩⟩
      rw [cut_to, ← List.map_take] at hu
      have R3 := R2.same s3'
      refine cons_read (sl_read6 ⟨_, rfl, ?_⟩)
      dsimp only [tNoPart]
      refine op_read ⟨_, rfl, c_read ⟨_, _, rfl, rfl, (((j + 1 : Nat)) : Int), by rw [Int.natCast_add]; rfl, tl9, _, rfl, SqL.of R3.tl, fun v nv => ?_⟩⟩
      rw [cut_to, ← List.map_take]
      have sv := same_lay (o := .lst ((rs.take (j + 1)).map V.ref)) nv
      have ev4 : (L2.upd H3 v (.lst ((rs.take (j + 1)).map V.ref))) v = some (.lst ((rs.take (j + 1)).map V.ref)) := upd_same
      have R5 := R3.same sv
      have hu4 := K2.Same.tup sv hu
      have hq4 := sv _ _ (s3' _ _ hq)
      generalize L2.upd H3 v (.lst ((rs.take (j + 1)).map V.ref)) = H4 at ev4 R5 hu4 hq4 ⊢
      refine cons_read (cb_read (cons_read ⟨_, rfl, nil_read ⟨q, _, rfl, .inl (SqL.of hq4), nil_read ⟨mi, u, v, b, p, n, ini, y, es.take (j + 1), rs.take (j + 1), s3, by rw [List.length_map]; rfl, ⟨R5.mi, eas.take (j + 1), hu4, paired_take R5.ev (j + 1)⟩, PU3, pl3, ev4, by rw [ht3]; exact paired_take R5.rs (j + 1), R5.T, fun H6 x6 t6 => ⟨_, rfl, iteF ?_⟩⟩⟩⟩))
      exact ⟨q, _, rfl, R5.ext x6 t6, x6 _ _ hq4 (by intro _ z; cases z)⟩
    · rintro σ H2 ⟨al, x8, rfl, R, _⟩
      rw [hE1]
      exact ⟨_, _, _, _, _, _, _, _, rfl, R.St, R.T⟩
  · rintro σ H2 ⟨x1, x2, x3, x4, x5, x6, x7, x8, rfl, Y2, T2⟩
    rw [hD1]
    exact ret_read (c_read (k _ Y2.1 Y2.2 T2))
end
end KY

set_option Elab.async false
set_option linter.all false
set_option maxRecDepth 100000
set_option maxHeartbeats 4000000
namespace KY
open PySem PySem.Spec PyProof.Rows L2 G1 G2 G3 K2 G5 LamX K3 ClX K6
abbrev sLaw : Stmt := topS 84
theorem scLaw : FnScope ["_law_cells", "_law_k"] ["_law_cells"] (defScope sLaw) := ⟨rfl, rfl, rfl, by decide +kernel, rfl, by decide +kernel, by decide +kernel⟩
theorem ExtN.lst6 {K : PySem.W.Frag} {H H' : Hp} {a : Addr} {xs : List V} (s : ExtN H H') (h : SqL K H a xs) : SqL K H' a xs := by
  rcases h with (h | ⟨o, h⟩) | h
  · exact .inl (.inl (s _ _ h (fun ps z => by cases z)))
  · exact .inl (.inr ⟨o, s _ _ h (fun ps z => by cases z)⟩)
  · exact .inr h
def spLaw (K : PySem.W.Frag) (T : List (Addr × Str)) : Sp := fun vs H Q _ => ∃ (l : Addr) (ns : List Int), vs = [.ref l] ∧ SqL K H l (ns.map V.int) ∧ ns.length ≤ 63 ∧ Tabs T H ∧ ∀ H' : Hp, Q (.bl true) H'
section
variable {P : Program} {w : World} {K : PySem.W.Frag} {mg : Str → Option Value} {base : Heap} {C CP : Addr}
theorem ok_law {f : Addr} {fd : FuncData} {T : List (Addr × Str)} (F : Fun K "law" "law" sLaw f fd) (B : Bl mg) (GC : FAt P w K mg base 1 "_law_cell" ["_law_cells", "_law_k"] (K2.spCell K)) (GP : FAt P w K mg base 1 "_law_pool" ["_law_cell_here"] spPool)
    (GR : GAt6 P w K mg base 15 "_law_right" ["_law_pool_here"] (spOne T)) : FnG P w K mg base 16 f fd ["_law_cells"] (spLaw K T) := by
  refine okG F scLaw (fun vs H Q E h => ?_) (fun cdv A outer s H vs Q E hgu hr h => ?_)
  · obtain ⟨l, ns, rfl, _⟩ := h
    rfl
  obtain ⟨l, ns, rfl, hS, hlen, hTb, k⟩ := h
  have hr1 : Room 1 _ := hr.mono (by decide)
  obtain ⟨fC, dC, GC, kC, bC, gC⟩ := GC.ex
  obtain ⟨fP, dP, GP, kP, bP, gP⟩ := GP.ex
  obtain ⟨fR, dR, GR, kR, bR, gR⟩ := GR.ex
  refine ⟨_, pss_one (ps_ret (pe_callB (cr_all rfl) (by rfl) B.all bAll6 (pa_cons (pe_lc (own := [("_law_k", 1)]) (g := gName 1) (tt := tYes)
      (te := tCall (spOne T) [] E0 (tCons (tCall spPool [] E0 (tCons (tCall (K2.spCell K) [] E0 (tCons (tVar 0) (tCons (tVar 1) tNil))) tNil)) tNil)) rfl scLaw.nd
      (pi_range1 (by rfl) B.range (pa_cons (pe_callB (call_max2 rfl) (by rfl) B.max bMax (pa_cons pe_int (pa_cons (pe_callB (call_min2 rfl) (by rfl) B.min bMin (pa_cons (pe_callB call_len_seq (by rfl) B.len PySem.boot_len (pa_cons (pv 0) pa_nil)) (pa_cons pe_int pa_nil))) pa_nil))) pa_nil))
      (blkOk_by (own := [("_law_k", 1)]) (N := ["_law_cells", "_law_k"]) (sc := defScope sLaw) (by decide +kernel))
      (fun _ _ _ _ _ => pg_name (i := 1) scLaw.nd rfl (Or.inl rfl)) (fun _ _ _ _ _ => pts_nil)
      (fun _ _ _ _ _ => pe_callG GR hgu hr (by rfl) gR kR bR (pa_cons (pe_call GP hr1 (by rfl) gP kP bP .nil pass0 (pa_cons (pe_call GC hr1 (by rfl) gC kC bC .nil pass0 (pa_cons (pv 0) (pa_cons (pv 1) pa_nil))) pa_nil)) pa_nil))) pa_nil))), ?_⟩
  refine ret_read (cb_read (cons_read ?_))
  refine ⟨_, rfl, l, _, rfl, .inl hS, _, _, rfl, _, _, rfl, _, rfl, ?_, ?_, fun D hD => ?_⟩
  · rw [List.length_map]
    split <;> (try split) <;> omega
  · rw [List.length_map]
    split <;> (try split) <;> omega
  generalize hm : (if (if (4 : Int) < ((ns.map V.int).length : Int) then 4 else ((ns.map V.int).length : Int)) > 2 then (if (4 : Int) < ((ns.map V.int).length : Int) then 4 else ((ns.map V.int).length : Int)) else 2) = m
  have m3 : m ≤ 4 := by
    rw [← hm]
    split <;> (try split) <;> omega
  refine lc_range (lo := 0) (n := m.toNat) (fun i H' => ExtN H H' ∧ Tabs T H' ∧ H' D = some (.lst (List.replicate i (V.bl true)))) ⟨.of (same_lay hD), hTb.ext (same_lay hD), upd_same⟩ ?_ ?_
  · rintro i H' hi ⟨s1, t1, hy⟩
    refine ⟨rfl, ?_⟩
    unfold tYes
    dsimp only
    rw [if_pos rfl]
    refine ⟨_, rfl, _, rfl, l, ns, i, by show [V.ref l, V.int (0 + (i : Int))] = _; rw [Int.zero_add], ExtN.lst6 s1 hS, hlen, by omega, fun H5 z s5 => ⟨z, rfl, fun p a b c np a0 a1 => ⟨p, rfl, ⟨a, b, c, upd_same, a0, a1⟩, (t1.ext s5).ext (same_lay np), fun H6 hp6 k6 t6 => ?_⟩⟩⟩
    have s6 : ExtN H5 H6 := fun x o e nt => by
      have ne : x ≠ p := ne_of_none e np
      exact k6 x o ne (by rw [upd_ne ne]; exact e) nt
    have hy6 := s6 _ _ (s5 _ _ hy) (by intro _ z; cases z)
    refine ⟨_, hy6, ?_, fun x o z nt => ?_, tabs_upd hy6 t6, ?_⟩
    · rw [List.length_replicate, sizeLine_eq]
      omega
    · rw [upd_ne (ne_of_none z hD)]
      exact s6 _ _ (s5 _ _ (s1 _ _ z nt)) nt
    · rw [upd_same, List.replicate_succ']
  · rintro H' ⟨s1, t1, hy⟩
    refine nil_read ⟨D, List.replicate m.toNat true, rfl, SqL.of (by rw [hy, List.map_replicate]), ?_⟩
    rw [all_true]
    exact k H'
end
end KY

set_option Elab.async false
set_option linter.all false
set_option maxRecDepth 100000
set_option maxHeartbeats 4000000
/-! The end of a law row with tables of code objects, from a promise of the kind FnG. -/
namespace G3
open PySem PySem.Spec PyProof.Rows L2 LamX G1
section
variable {P : Program} {w : World} {K : PySem.W.Frag} {mg mb : Str → Option Value} {k : Nat} {fa a : Addr} {cs : List (Addr × Addr)} {fd : FuncData} {x : Str} {sp : Sp} {m : Shared} {vs : List Value} {ns : List Int}
abbrev tabs (cs : List (Addr × Addr)) : List Addr := cs.map (·.2)
/-- over an abstract heap in which nothing but the script and the tables may be tracked -/
theorem coreT (kin : K.In m.heap) (g1 : m.heap.Ns mainGlobals mg) (g2 : m.heap.Ns builtinsNs mb) (g3 : ∀ y : Str, y ≠ "__name__" → mb y = bootBuiltins y) (nol : m.heap.NoLimit) (gens : m.gens = #[])
    (tb : ∀ p ∈ cs, m.heap.get? p.2 = some { cls := .none, data := .fields #[] }) (tk : ∀ p ∈ cs, K.lookup p.2 = none) (cd : ∀ p ∈ cs, PySem.W.CodeHd m.heap p.1 p.2)
    (bmm : ∃ (bm : Addr) (ob : Obj), mg "__builtins__" = some (.ref bm) ∧ bm ≠ builtinsNs ∧ m.heap.get? bm = some ob ∧ ob.cls = .type "module" ∧ ob.dict = some builtinsNs ∧ ob.data = .plain)
    (there : m.heap.get? a = some { cls := .type "list", data := .seq vs.toArray }) (room : Room k callerA)
    (F : ∀ base : Heap, K.In base → base.Ns mainGlobals mg → (∀ p ∈ cs, TabB base mg p.1 p.2) → FnG P w K mg base k fa fd [x] sp) (bnd : ∀ (s : Shared) (u : Value), BindsTo s fd ⟨[u], []⟩ [(x, u)])
    (want : ∀ H : Hp, (∀ p ∈ cs, H p.2 = some (.tbl #[])) → SqL K H a (ns.map V.int) → sp [.ref a] H (fun v _ => v = .bl true) fun _ _ _ => False)
    (H : Hp) (hH : ∀ p ∈ cs, H p.2 = some (.tbl #[])) (only : ∀ b, H b = none ∨ b ∈ tabs cs ∨ ∃ o xs, H b = some (.frz o (.lst xs))) (seq : SqL K H a (ns.map V.int)) (ok : HOk P w H m.heap) (one : ∀ y, H y ≠ none → y = a ∨ y ∈ tabs cs) (apart : H a ≠ none → K.lookup a = none) :
    codeAny (model P w) callerA (.call (.ref fa) ⟨[.ref a], []⟩) (fun r m' => r = .ok (.ret (.bool true)) ∧ OldK m.heap m'.heap ∧ m'.os = m.os ∧ AllBare m'.gens) m := by
  have tbA : ∀ {y : Addr}, y ∈ tabs cs → m.heap.get? y = some { cls := .none, data := .fields #[] } := fun {y} hy => by
    obtain ⟨q, hq, e⟩ := List.mem_map.mp hy
    subst e
    exact tb q hq
  have hid : ∀ {y : Addr} {o : Obj}, m.heap.get? y = some o → H y = none → (hidT m.heap H).get? y = some o := fun e n => hidT_get e n
  -- an object that is neither a list nor an empty table is not tracked
  have untr : ∀ {y : Addr} {o : Obj}, m.heap.get? y = some o → (∀ l n, o.data ≠ .seq l n) → o.data ≠ .fields #[] → H y = none := fun {y o} e n1 n2 => by
    cases z : H y with
    | none => rfl
    | some u =>
      exfalso
      rcases one y (by rw [z]; simp) with hy | hy
      · subst hy
        rw [there] at e
        cases e
        exact n1 _ _ rfl
      · rw [tbA hy] at e
        cases e
        exact n2 rfl
  have nsH : ∀ {y : Addr} {f : Str → Option Value}, m.heap.Ns y f → (hidT m.heap H).Ns y f := fun {y f} z => by
    obtain ⟨o, es, ep, e, d, r⟩ := z
    refine ⟨o, es, ep, hid e (untr e (fun l n c => ?_) fun c => ?_), d, r⟩
    · rw [d] at c; cases c
    · rw [d] at c; cases c
  have kinH : K.In (hidT m.heap H) := fun y o e => by
    refine hid (kin y o e) ?_
    cases z : H y with
    | none => rfl
    | some u =>
      exfalso
      rcases one y (by rw [z]; simp) with hy | hy
      · subst hy
        rw [apart (by rw [z]; simp)] at e
        cases e
      · obtain ⟨q, hq, e'⟩ := List.mem_map.mp hy
        subst e'
        rw [tk q hq] at e
        cases e
  have md : Mod K mg (hidT m.heap H) := by
    obtain ⟨mc, h1, h2⟩ := nol
    exact ⟨kinH, nsH g1, ⟨mb, nsH g2, g3⟩, ⟨mc, nsH h1, h2⟩⟩
  have TBs : ∀ p ∈ cs, TabB (hidT m.heap H) mg p.1 p.2 := fun q hq => by
    have hTq := tb q hq
    refine ⟨?_, ?_, fun z => ?_⟩
    · obtain ⟨o, us, fl, tf, fg, tg, iF, tx, tt, e1, r1, r2, r3, r4, r5, r6, r7, r8, hne⟩ := cd q hq
      refine ⟨o, us, fl, tf, fg, tg, iF, tx, tt, hid e1 (untr e1 (fun l n c => ?_) fun c => ?_), r1, r2, r3, r4, r5, r6, r7, r8, hne⟩
      · rw [r2] at c; cases c
      · rw [r2] at c
        cases c
        simp at r3
    · obtain ⟨bm, ob, b1, b2, b3, b4, b5, b6⟩ := bmm
      refine ⟨bm, ob, b1, b2, fun z => ?_, fun z => ?_, hid b3 (untr b3 (fun l n c => ?_) fun c => ?_), b4, b5, b6⟩
      · obtain ⟨o, es, ep, e, d, _⟩ := g1
        rw [z, e] at b3
        cases b3
        rw [d] at b6
        cases b6
      · rw [z, hTq] at b3
        cases b3
        cases b6
      · rw [b6] at c; cases c
      · rw [b6] at c; cases c
    · obtain ⟨o, es, ep, e, d, _⟩ := g1
      rw [z, hTq] at e
      cases e
      cases d
  have e0 : Env0 P w K mg (hidT m.heap H) callerA [] m H :=
    ⟨rfl, md, fun y o e => of_hidT e, Nat.le_of_eq (hidT_size _ _), trivial, fun y hy => absurd (show y ∈ ([] : List Addr) from hy) (by simp), ok, .of_eq gens⟩
  have run := (F _ kinH (nsH g1) TBs).run callerA [] m H ⟨[.ref a], []⟩ [.ref a] [.ref a] _ _ rfl room e0 (bnd m (.ref a)) (.cons rfl .nil) (want H hH seq)
  refine codeAny_mono run fun r m' h => ?_
  match r, h with
  | .error e, h => exact (show False from h).elim
  | .ok .next, h => exact (show False from h).elim
  | .ok .brk, h => exact (show False from h).elim
  | .ok .cont, h => exact (show False from h).elim
  | .ok (.ret u), h =>
    obtain ⟨v, H', hos, hba, un, ok', rv, q⟩ := h
    obtain rfl : v = .bl true := q
    obtain rfl : u = Value.bool true := rv
    have stays : ∀ y o, y ∉ tabs cs → m.heap.get? y = some o → m'.heap.get? y = some o := fun y o ny e => by
      rcases only y with z | z | ⟨ob, xs, z⟩
      · exact un.keep y o e z (fun hm => absurd (show y ∈ ([] : List Addr) from hm) (by simp)) (by simp)
      · exact absurd z ny
      · obtain ⟨e1, _⟩ := ok y _ z
        obtain ⟨e2, _⟩ := ok' y _ (un.frzs y ob _ z)
        rw [e1] at e
        cases e
        exact e2
    have grows : ∀ q ∈ cs, ∃ more : Array Value, m'.heap.get? q.2 = some { cls := .none, data := .fields more } := fun q hq => by
      obtain ⟨more, z⟩ := un.tbls q.2 #[] (hH q hq)
      exact ⟨_, ok' q.2 _ z⟩
    refine ⟨rfl, ⟨fun y o e => ?_, fun y o e => ?_⟩, hos, hba⟩
    · by_cases hy : y ∈ tabs cs
      · obtain ⟨q, hq, e'⟩ := List.mem_map.mp hy
        subst e'
        obtain ⟨more, hm⟩ := grows q hq
        rw [tb q hq] at e
        cases e
        exact .inr (.inl ⟨((cd q hq).tab (tb q hq)).isCodeTable, rfl, #[], more, rfl, by rw [Array.empty_append]; exact hm⟩)
      · exact .inl (stays y o hy e)
    · by_cases hy : y ∈ tabs cs
      · obtain ⟨q, hq, e'⟩ := List.mem_map.mp hy
        subst e'
        obtain ⟨more, hm⟩ := grows q hq
        exact ⟨_, hm⟩
      · exact ⟨o, stays y o hy e⟩
theorem callLawT (kin : K.In m.heap) (g1 : m.heap.Ns mainGlobals mg) (g2 : m.heap.Ns builtinsNs mb) (g3 : ∀ y : Str, y ≠ "__name__" → mb y = bootBuiltins y) (nol : m.heap.NoLimit) (gens : m.gens = #[])
    (tb : ∀ p ∈ cs, m.heap.get? p.2 = some { cls := .none, data := .fields #[] }) (tk : ∀ p ∈ cs, K.lookup p.2 = none) (cd : ∀ p ∈ cs, PySem.W.CodeHd m.heap p.1 p.2)
    (bmm : ∃ (bm : Addr) (ob : Obj), mg "__builtins__" = some (.ref bm) ∧ bm ≠ builtinsNs ∧ m.heap.get? bm = some ob ∧ ob.cls = .type "module" ∧ ob.dict = some builtinsNs ∧ ob.data = .plain)
    (there : m.heap.get? a = some { cls := .type "list", data := .seq vs.toArray }) (hi : IntsAre vs ns) (hl : ns.length ≤ sizeLine) (room : Room k callerA)
    (F : ∀ base : Heap, K.In base → base.Ns mainGlobals mg → (∀ p ∈ cs, TabB base mg p.1 p.2) → FnG P w K mg base k fa fd [x] sp) (bnd : ∀ (s : Shared) (u : Value), BindsTo s fd ⟨[u], []⟩ [(x, u)])
    (want : ∀ H : Hp, (∀ p ∈ cs, H p.2 = some (.tbl #[])) → SqL K H a (ns.map V.int) → sp [.ref a] H (fun v _ => v = .bl true) fun _ _ _ => False) :
    codeAny (model P w) callerA (.call (.ref fa) ⟨[.ref a], []⟩) (fun r m' => r = .ok (.ret (.bool true)) ∧ OldK m.heap m'.heap ∧ m'.os = m.os ∧ AllBare m'.gens) m := by
  have rv := vals_ints hi
  have lv := hi.length
  have tbA : ∀ {y : Addr}, y ∈ tabs cs → m.heap.get? y = some { cls := .none, data := .fields #[] } := fun {y} hy => by
    obtain ⟨q, hq, e⟩ := List.mem_map.mp hy
    subst e
    exact tb q hq
  have aT : a ∉ tabs cs := fun z => by
    have q := tbA z
    rw [there] at q
    have z' : Data.seq vs.toArray _ = Data.fields #[] := congrArg Obj.data (Option.some.inj q)
    cases z'
  have inT : ∀ p ∈ cs, p.2 ∈ tabs cs := fun p hp => List.mem_map.mpr ⟨p, hp, rfl⟩
  cases hk : K.lookup a with
  | some o =>
    have e := kin a o hk
    rw [there] at e
    cases e
    have hn : ∀ y, y ∉ tabs cs → (if y ∈ tabs cs then some (HO.tbl #[]) else none) = none := fun y hy => if_neg hy
    refine coreT (ns := ns) kin g1 g2 g3 nol gens tb tk cd bmm there room F bnd want (fun y => if y ∈ tabs cs then some (.tbl #[]) else none) (fun q hq => if_pos (inT q hq)) (fun y => ?_) ?_ (fun y u z => ?_) (fun y z => ?_) fun z => absurd (hn a aT) z
    · by_cases hy : y ∈ tabs cs
      · exact .inr (.inl hy)
      · exact .inl (hn y hy)
    · exact .inr ⟨_, vs.toArray, _, hk, rfl, rfl, rfl, by rw [List.size_toArray, lv]; exact hl, by simpa using rv⟩
    · by_cases hy : y ∈ tabs cs
      · have z' := (if_pos hy).symm.trans z
        cases z'
        exact tbA hy
      · have z' := (hn y hy).symm.trans z
        cases z'
    · by_cases hy : y ∈ tabs cs
      · exact .inr hy
      · exact absurd (hn y hy) z
  | none =>
    have ha : ∀ y, y = a → (if y = a then some (HO.frz { cls := .type "list", data := .seq vs.toArray } (.lst (ns.map V.int))) else if y ∈ tabs cs then some (.tbl #[]) else none) = some (HO.frz { cls := .type "list", data := .seq vs.toArray } (.lst (ns.map V.int))) := fun y hy => if_pos hy
    have ht : ∀ y, y ≠ a → y ∈ tabs cs → (if y = a then some (HO.frz { cls := .type "list", data := .seq vs.toArray } (.lst (ns.map V.int))) else if y ∈ tabs cs then some (.tbl #[]) else none) = some (.tbl #[]) := fun y h1 h2 => (if_neg h1).trans (if_pos h2)
    have hn : ∀ y, y ≠ a → y ∉ tabs cs → (if y = a then some (HO.frz { cls := .type "list", data := .seq vs.toArray } (.lst (ns.map V.int))) else if y ∈ tabs cs then some (.tbl #[]) else none) = none := fun y h1 h2 => (if_neg h1).trans (if_neg h2)
    refine coreT (ns := ns) kin g1 g2 g3 nol gens tb tk cd bmm there room F bnd want (fun y => if y = a then some (HO.frz { cls := .type "list", data := .seq vs.toArray } (.lst (ns.map V.int))) else if y ∈ tabs cs then some (.tbl #[]) else none)
      (fun q hq => ht q.2 (fun z => aT (by rw [← z]; exact inT q hq)) (inT q hq)) (fun y => ?_) (.inl (.inr ⟨{ cls := .type "list", data := .seq vs.toArray }, if_pos rfl⟩)) (fun y u z => ?_) (fun y z => ?_) fun _ => hk
    · by_cases hy : y = a
      · exact .inr (.inr ⟨_, _, ha y hy⟩)
      · by_cases h2 : y ∈ tabs cs
        · exact .inr (.inl h2)
        · exact .inl (hn y hy h2)
    · by_cases hy : y = a
      · have z' := (ha y hy).symm.trans z
        cases z'
        subst hy
        exact ⟨there, by rw [List.length_map]; exact hl, vs, _, rv, there⟩
      · by_cases h2 : y ∈ tabs cs
        · have z' := (ht y hy h2).symm.trans z
          cases z'
          exact tbA h2
        · have z' := (hn y hy h2).symm.trans z
          cases z'
    · by_cases hy : y = a
      · exact .inl hy
      · by_cases h2 : y ∈ tabs cs
        · exact .inr h2
        · exact absurd (hn y hy h2) z
end
/-- what is known of the law at the head's heap -/
def LawT (l : PySem.W.OpenLaw) (w : World) (K : PySem.W.Frag) (k n : Nat) (x : Str) (mg : Str → Option Value) (fa : Addr) (h : Heap) : Prop :=
  ∃ (fd : FuncData) (cs : List (Addr × Addr)) (sp : Sp), (∀ p ∈ cs, h.get? p.2 = some { cls := .none, data := .fields #[] }) ∧ (∀ p ∈ cs, K.lookup p.2 = none) ∧ (∀ p ∈ cs, PySem.W.CodeHd h p.1 p.2) ∧ (∀ (s : Shared) (u : Value), BindsTo s fd ⟨[u], []⟩ [(x, u)]) ∧
    (∀ (H : Hp) (a : Addr) (ns : List Int), ns.length ≤ n → (∀ p ∈ cs, H p.2 = some (.tbl #[])) → SqL K H a (ns.map V.int) → sp [.ref a] H (fun v _ => v = .bl true) fun _ _ _ => False) ∧
    ∀ base : Heap, K.In base → base.Ns mainGlobals mg → (∀ p ∈ cs, TabB base mg p.1 p.2) → FnG l.prog w K mg base k fa fd [x] sp
theorem walkT {l : PySem.W.OpenLaw} {n k : Nat} {q : Program} {loose : List Str} {XP : (Str → Option Value) → Heap → Prop} {YP : World → Heap → Prop} {d : DefRec} {K : Params → PySem.W.Frag} {x : Str}
    (hn : l.most = some n) (hn2 : n ≤ sizeLine) (hdf : d.params.defaults = []) (room : Room k callerA) (hY : ∀ (w : World) (h : Heap), YP w h → (K w.params).In h)
    (F : ∀ (w : World) (mg : Str → Option Value) (fa : Addr) (h : Heap), YP w h → (K w.params).In h → h.Ns mainGlobals mg → mg d.name = some (.ref fa) → LawT l w (K w.params) k n x mg fa h) :
    PySem.W.WalkO q loose XP YP l.row.toRowW d [] (fun f vs => PySem.call f vs) := by
  refine Att.attach_call hn hdf fun w s₀ s₁ mg mb fa o pm cd doc a vs ns G Y ho hd hcd hmg hobj hints hlen hg => ?_
  have kin := hY w _ Y
  obtain ⟨fd, cs, sp, hT, nT, C, hb, hsp, hF⟩ := F w mg fa _ Y kin G.T.g hmg
  exact callLawT kin G.T.g G.T.b G.T.builtins G.T.nolimit hg hT nT C G.T.bmain hobj hints (Nat.le_trans hlen hn2) room hF hb fun H hH hS => hsp H a ns hlen hH hS
end G3

set_option Elab.async false
set_option linter.all false
set_option maxRecDepth 100000
set_option maxHeartbeats 8000000
namespace K2
open PySem PySem.Spec PyProof.Rows L2 G1 G2 ClX
abbrev sGb : Stmt := inClass sDrv 3
abbrev sGp : Stmt := inClass sDrv 4
abbrev sGn : Stmt := inClass sDrv 5
abbrev sGr : Stmt := inClass sDrv 6
theorem scGb : FnScope ["self"] ["self"] (defScope sGb) := ⟨rfl, rfl, rfl, by decide +kernel, rfl, by decide +kernel, by decide +kernel⟩
theorem scGp : FnScope ["self"] ["self"] (defScope sGp) := ⟨rfl, rfl, rfl, by decide +kernel, rfl, by decide +kernel, by decide +kernel⟩
theorem scGn : FnScope ["self"] ["self"] (defScope sGn) := ⟨rfl, rfl, rfl, by decide +kernel, rfl, by decide +kernel, by decide +kernel⟩
theorem scGr : FnScope ["self"] ["self"] (defScope sGr) := ⟨rfl, rfl, rfl, by decide +kernel, rfl, by decide +kernel, by decide +kernel⟩
section
variable {P : Program} {w : World} {K : PySem.W.Frag} {mg : Str → Option Value} {base : Heap} {C : Addr}
theorem ok_gb {f : Addr} {fd : FuncData} (F : Fun K "blocks" "Drive.blocks" sGb f fd) (T : DCls K C) : FnOk P w K mg base CX0 1 f fd ["self"] (getSp C "kept_blocks") := by
  refine F.ok scGb (fun vs H Q E h => ?_) (fun cdv A outer s H vs Q E hr h => ?_)
  · obtain ⟨a, dx, fs, v, rfl, _⟩ := h
    rfl
  obtain ⟨a, dx, fs, v, rfl, ha, h1, k⟩ := h
  exact ⟨_, pss_one (ps_ret (pe_fld (pv 0) rfl)), _, rfl, a, C, dx, fs, _, rfl, ha, T.cl, T.nb, h1, k⟩
theorem ok_gp {f : Addr} {fd : FuncData} (F : Fun K "pages" "Drive.pages" sGp f fd) (T : DCls K C) : FnOk P w K mg base CX0 1 f fd ["self"] (getSp C "kept_pages") := by
  refine F.ok scGp (fun vs H Q E h => ?_) (fun cdv A outer s H vs Q E hr h => ?_)
  · obtain ⟨a, dx, fs, v, rfl, _⟩ := h
    rfl
  obtain ⟨a, dx, fs, v, rfl, ha, h1, k⟩ := h
  exact ⟨_, pss_one (ps_ret (pe_fld (pv 0) rfl)), _, rfl, a, C, dx, fs, _, rfl, ha, T.cl, T.np, h1, k⟩
theorem ok_gn {f : Addr} {fd : FuncData} (F : Fun K "names" "Drive.names" sGn f fd) (T : DCls K C) : FnOk P w K mg base CX0 1 f fd ["self"] (getSp C "kept_names") := by
  refine F.ok scGn (fun vs H Q E h => ?_) (fun cdv A outer s H vs Q E hr h => ?_)
  · obtain ⟨a, dx, fs, v, rfl, _⟩ := h
    rfl
  obtain ⟨a, dx, fs, v, rfl, ha, h1, k⟩ := h
  exact ⟨_, pss_one (ps_ret (pe_fld (pv 0) rfl)), _, rfl, a, C, dx, fs, _, rfl, ha, T.cl, T.nn, h1, k⟩
theorem ok_gr {f : Addr} {fd : FuncData} (F : Fun K "rows" "Drive.rows" sGr f fd) (T : DCls K C) : FnOk P w K mg base CX0 1 f fd ["self"] (getSp C "kept_rows") := by
  refine F.ok scGr (fun vs H Q E h => ?_) (fun cdv A outer s H vs Q E hr h => ?_)
  · obtain ⟨a, dx, fs, v, rfl, _⟩ := h
    rfl
  obtain ⟨a, dx, fs, v, rfl, ha, h1, k⟩ := h
  exact ⟨_, pss_one (ps_ret (pe_fld (pv 0) rfl)), _, rfl, a, C, dx, fs, _, rfl, ha, T.cl, T.nr, h1, k⟩
/-- what the top has written of a def -/
structure DF (K : PySem.W.Frag) (x : Str) (st : Stmt) (f : Addr) : Prop where
  ns : PySem.W.nsIn K mainGlobals x = some (some (.ref f))
  lk : ∃ (oc : Value) (od : Option Addr) (kV dc pm : Value) (an : Option Addr) (cd ct : Value) (sl : Array (Option Value)),
    K.lookup f = some ⟨oc, od, .func (PySem.W.fnOf x x (defArgs st) (defBody st) (defScope st) .none kV dc pm an cd ct), sl⟩ ∧ PySem.W.codeIn K cd x = true
  kp : PySem.W.keepIn K (.ref f) = true
/-- .. of a def in the class -/
structure MF (K : PySem.W.Frag) (x q : Str) (st : Stmt) (f : Addr) : Prop where
  lk : ∃ (oc : Value) (od : Option Addr) (kV dc pm : Value) (an : Option Addr) (cd ct : Value) (sl : Array (Option Value)),
    K.lookup f = some ⟨oc, od, .func (PySem.W.fnOf x q (defArgs st) (defBody st) (defScope st) .none kV dc pm an cd ct), sl⟩ ∧ PySem.W.codeIn K cd q = true
  kp : PySem.W.keepIn K (.ref f) = true
theorem DF.fn {x : Str} {st : Stmt} {f : Addr} (D : DF K x st f) : ∃ fd, Fun K x x st f fd ∧ ∃ (kV dc pm : Value) (an : Option Addr) (cd ct : Value), fd = PySem.W.fnOf x x (defArgs st) (defBody st) (defScope st) .none kV dc pm an cd ct := by
  obtain ⟨oc, od, kV, dc, pm, an, cd, ct, sl, l, h⟩ := D.lk
  exact ⟨_, fun_mk l h D.kp, kV, dc, pm, an, cd, ct, rfl⟩
theorem MF.fn {x q : Str} {st : Stmt} {f : Addr} (D : MF K x q st f) : ∃ fd, Fun K x q st f fd := by
  obtain ⟨oc, od, kV, dc, pm, an, cd, ct, sl, l, h⟩ := D.lk
  exact ⟨_, fun_mk l h D.kp⟩
/-- .. of the words -/
structure WF (K : PySem.W.Frag) (a : Addr) : Prop where
  ex : ∃ (od : Option Addr) (n : Nat) (t1 t2 t3 t4 : Tok) (sl : Array (Option Value)),
    K.lookup a = some ⟨.type "tuple", od, .seq #[Value.str (Str.ofString "oldest") t1, Value.str (Str.ofString "youngest") t2, Value.str (Str.ofString "least") t3, Value.str (Str.ofString "most") t4] n, sl⟩
theorem WF.at_ {a : Addr} (W : WF K a) : WordsAt K a := by
  obtain ⟨od, n, t1, t2, t3, t4, sl, l⟩ := W.ex
  exact fun H => .inr ⟨_, _, n, l, rfl, rfl, by show 4 ≤ sizeLine; decide, .cons ⟨_, rfl⟩ (.cons ⟨_, rfl⟩ (.cons ⟨_, rfl⟩ (.cons ⟨_, rfl⟩ .nil)))⟩
end
end K2
namespace K6
open PySem PySem.Spec PyProof.Rows L2 G1 G2 G3 K2 G5 LamX ClX
/-- a def whose two words have defaults, by name alone -/
structure KFP (K : PySem.W.Frag) (x : Str) (st : Stmt) (f : Addr) : Prop where
  ns : PySem.W.nsIn K mainGlobals x = some (some (.ref f))
  ex : ∃ (oc : Value) (od : Option Addr) (T : Addr) (dc pm : Value) (an : Option Addr) (cd ct : Value) (sl : Array (Option Value)),
    K.lookup f = some ⟨oc, od, .func (PySem.W.fnOf x x (defArgs st) (defBody st) (defScope st) .none (.ref T) dc pm an cd ct), sl⟩ ∧ PySem.W.codeIn K cd x = true ∧ (∃ t, PySem.W.nsIn K T "copies" = some (some (.int 1 t))) ∧ ∃ t, PySem.W.nsIn K T "erasures" = some (some (.int 0 t))
  kp : PySem.W.keepIn K (.ref f) = true
theorem KFP.fn {K : PySem.W.Frag} {x : Str} {st : Stmt} {f : Addr} (D : KFP K x st f) : ∃ fd, FunD K x x (defArgs st) (defBody st) (defScope st) [] kwP f fd := by
  obtain ⟨oc, od, T, dc, pm, an, cd, ct, sl, l, h, ⟨t1, h1⟩, ⟨t2, h2⟩⟩ := D.ex
  refine ⟨_, ⟨oc, od, _, _, dc, pm, an, cd, ct, sl, rfl, l, h, .inl ⟨rfl, rfl⟩, .inr ⟨T, rfl, fun q hq => ?_⟩⟩, D.kp⟩
  simp only [kwP, List.mem_cons, List.not_mem_nil, or_false] at hq
  rcases hq with rfl | rfl
  · exact ⟨_, h1, _, rfl⟩
  · exact ⟨_, h2, _, rfl⟩
end K6
namespace K6
open PySem PySem.Spec PyProof.Rows L2 G1 G2 G3 K2 G5 LamX ClX K3 KY
/-- a def that makes lambdas -/
structure DC (K : PySem.W.Frag) (x : Str) (st : Stmt) (f c : Addr) : Prop where
  ns : PySem.W.nsIn K mainGlobals x = some (some (.ref f))
  lk : ∃ (oc : Value) (od : Option Addr) (kV dc pm : Value) (an : Option Addr) (ct : Value) (sl : Array (Option Value)),
    K.lookup f = some ⟨oc, od, .func (PySem.W.fnOf x x (defArgs st) (defBody st) (defScope st) .none kV dc pm an (.ref c) ct), sl⟩ ∧ PySem.W.codeIn K (.ref c) x = true
  kp : PySem.W.keepIn K (.ref f) = true
theorem DC.fn {K : PySem.W.Frag} {x : Str} {st : Stmt} {f c : Addr} (D : DC K x st f c) : ∃ fd, FunC K x x st f c fd ∧ ∃ (kV dc pm : Value) (an : Option Addr) (ct : Value), fd = PySem.W.fnOf x x (defArgs st) (defBody st) (defScope st) .none kV dc pm an (.ref c) ct := by
  obtain ⟨oc, od, kV, dc, pm, an, ct, sl, l, h⟩ := D.lk
  exact ⟨_, ⟨⟨oc, od, kV, dc, pm, an, ct, sl, rfl, l, h⟩, D.kp⟩, kV, dc, pm, an, ct, rfl⟩
theorem fun_of_c {K : PySem.W.Frag} {x q : Str} {st : Stmt} {f c : Addr} {fd : FuncData} (F : FunC K x q st f c fd) : Fun K x q st f fd := by
  obtain ⟨oc, od, kV, doc, pm, an, ct, osl, e, l, h⟩ := F.ex
  exact ⟨⟨oc, od, kV, doc, pm, an, .ref c, ct, osl, e, l, h⟩, F.kp⟩
/-- all that the top has written -/
structure All (K : PySem.W.Frag) (C aW I0 CP IP p0 p1 p2 p3 g0 g1 g2 g3 m0 m1 c0 c1 s0 x0 y0 P0 P1 : Addr) (dA : Nat → Addr) : Prop where
  nC : PySem.W.nsIn K mainGlobals "Drive" = some (some (.ref C))
  nW : PySem.W.nsIn K mainGlobals "WORDS" = some (some (.ref aW))
  W : WF K aW
  T : DCls K C
  D : DKit K C
  mk_ : Mk K C I0
  ini : MF K "__init__" "Drive.__init__" sIni I0
  nP : PySem.W.nsIn K mainGlobals "Play" = some (some (.ref CP))
  PC : PCls K CP
  mkp : Mk K CP IP
  inp : MF K "__init__" "Play.__init__" sPin IP
  x0_n : PySem.W.nsIn K mainGlobals "InvalidLoad" = some (some (.ref x0))
  x0_T : OexC K x0
  x0_f : XfC K x0
  x0_no : PySem.W.findIn K (.ref x0) "index" = some none
  x0_i : PySem.W.findIn K (.ref x0) "__init__" = some (some (.ref y0))
  x0_t : PySem.W.typeIn K (.ref y0) = some (.type "function")
  x0_m : MF K "__init__" "InvalidLoad.__init__" K3.sILd y0
  ex : Ex1 K x0
  ns0 : PySem.W.subIn K (.ref x0) (.type "StopIteration") = some false
  q0 : PropOf K C "blocks" p0 g0
  q0_m : MF K "blocks" "Drive.blocks" sGb g0
  q1 : PropOf K C "pages" p1 g1
  q1_m : MF K "pages" "Drive.pages" sGp g1
  q2 : PropOf K C "names" p2 g2
  q2_m : MF K "names" "Drive.names" sGn g2
  q3 : PropOf K C "rows" p3 g3
  q3_m : MF K "rows" "Drive.rows" sGr g3
  mk0 : DC K "choose" K6.sCho m0 c0
  hd0 : PySem.W.codeHdIn K c0 P0 = true
  nP0 : K.lookup P0 = none
  mk1 : DC K "_law_let" K6.sLet m1 c1
  hd1 : PySem.W.codeHdIn K c1 P1 = true
  nP1 : K.lookup P1 = none
  s0_ : KFP K "price" K6.sPrc s0
  d0 : DF K "spread" K2.sSpr (dA 0)
  d1 : DF K "count_stands" K2.sCnt (dA 1)
  d2 : DF K "is_integer" K2.sIsI (dA 2)
  d3 : DF K "is_within" K2.sWit (dA 3)
  d4 : DF K "is_row" K2.sRow (dA 4)
  d5 : DF K "check_rows" K2.sChk (dA 5)
  d6 : DF K "check_sizes" K2.sSiz (dA 6)
  d7 : DF K "text_of" K2.sTxt (dA 7)
  d8 : DF K "pick" K6.sPck (dA 8)
  d9 : DF K "put_page" K6.sPut (dA 9)
  d10 : DF K "clean_place" K6.sCln (dA 10)
  d11 : DF K "let_name_die" K6.sDie (dA 11)
  d12 : DF K "bring_name" K6.sBrg (dA 12)
  d13 : DF K "play_event" K6.sEvt (dA 13)
  d14 : DF K "is_name" K6.sNam (dA 14)
  d15 : DF K "is_event" K6.sIev (dA 15)
  d16 : DF K "play_load" K6.sLod (dA 16)
  d17 : DF K "check_drive" K6.sCkd (dA 17)
  d18 : DF K "steps" K6.sStp (dA 18)
  d19 : DF K "blocks_of" K6.sBlo (dA 19)
  d20 : DF K "erased" K6.sErs (dA 20)
  d21 : DF K "check_prices" K6.sCkp (dA 21)
  d22 : DF K "stand_of" K6.sSto (dA 22)
  d23 : DF K "stand" K6.sStd (dA 23)
  d24 : DF K "_law_cell" K2.sCell (dA 24)
  d25 : DF K "_law_pool" K2.sPool (dA 25)
  d26 : DF K "_law_draw" K2.sDraw (dA 26)
  d27 : DF K "_law_word" K6.sWrd (dA 27)
  d28 : DF K "_law_tags" K6.sTgs (dA 28)
  d29 : DF K "_law_shape" K2.sShp (dA 29)
  d30 : DF K "_law_table" K2.sTab (dA 30)
  d31 : DF K "_law_made" K2.sMad (dA 31)
  d32 : DF K "_law_load" K6.sLoa (dA 32)
  d33 : DF K "_law_outcome" K6.sOut (dA 33)
  d34 : DF K "_law_alive_now" KY.sAlv (dA 34)
  d35 : DF K "_law_part_right" KY.sPrt (dA 35)
  d36 : DF K "_law_first_right" KY.sFst (dA 36)
  d37 : DF K "_law_right" KY.sRgt (dA 37)
  d38 : DF K "law" KY.sLaw (dA 38)
  k_lb : ∃ t, PySem.W.nsIn K mainGlobals "LEAST_BLOCKS" = some (some (.int 3 t))
  k_mb : ∃ t, PySem.W.nsIn K mainGlobals "MOST_BLOCKS" = some (some (.int 6 t))
  k_lp : ∃ t, PySem.W.nsIn K mainGlobals "LEAST_PAGES" = some (some (.int 2 t))
  k_mp : ∃ t, PySem.W.nsIn K mainGlobals "MOST_PAGES" = some (some (.int 5 t))
  k_mr : ∃ t, PySem.W.nsIn K mainGlobals "MOST_ROWS" = some (some (.int 4 t))
  k_ms : ∃ t, PySem.W.nsIn K mainGlobals "MOST_STANDS" = some (some (.int 2000 t))
  k_wh : ∃ t, PySem.W.nsIn K mainGlobals "WORDS_OF_HEAD" = some (some (.int 7 t))
  k_md : ∃ t, PySem.W.nsIn K mainGlobals "MOST_DIGITS" = some (some (.int 2 t))
  k_me : ∃ t, PySem.W.nsIn K mainGlobals "MOST_EVENTS" = some (some (.int 2000 t))
  k_mc : ∃ t, PySem.W.nsIn K mainGlobals "MOST_CHARACTERS" = some (some (.int 8 t))
  k_pr : ∃ t, PySem.W.nsIn K mainGlobals "MOST_PRICE" = some (some (.int 9 t))
  k_wr : ∃ t, PySem.W.nsIn K mainGlobals "WRITE" = some (some (.str (Str.ofString "write") t))
  k_tr : ∃ t, PySem.W.nsIn K mainGlobals "TRIM" = some (some (.str (Str.ofString "trim") t))
  k_le : ∃ t, PySem.W.nsIn K mainGlobals "LETTERS" = some (some (.str (Str.ofString "abcdefghijklmnopqrstuvwxyz") t))
  k_di : ∃ t, PySem.W.nsIn K mainGlobals "DIGITS" = some (some (.str (Str.ofString "0123456789") t))
  z_len : PySem.W.nsIn K mainGlobals "len" = some none
  z_int : PySem.W.nsIn K mainGlobals "int" = some none
  z_abs : PySem.W.nsIn K mainGlobals "abs" = some none
  z_repr : PySem.W.nsIn K mainGlobals "repr" = some none
  z_isi : PySem.W.nsIn K mainGlobals "isinstance" = some none
  z_range : PySem.W.nsIn K mainGlobals "range" = some none
  z_max : PySem.W.nsIn K mainGlobals "max" = some none
  z_min : PySem.W.nsIn K mainGlobals "min" = some none
  z_all : PySem.W.nsIn K mainGlobals "all" = some none
  z_sum : PySem.W.nsIn K mainGlobals "sum" = some none
  z_enm : PySem.W.nsIn K mainGlobals "enumerate" = some none
  z_tup : PySem.W.nsIn K mainGlobals "tuple" = some none
  z_boo : PySem.W.nsIn K mainGlobals "bool" = some none
  z_str : PySem.W.nsIn K mainGlobals "str" = some none
  z_list : PySem.W.nsIn K mainGlobals "list" = some none
  z_set : PySem.W.nsIn K mainGlobals "set" = some none
  z_sorted : PySem.W.nsIn K mainGlobals "sorted" = some none
theorem All.law {l : PySem.W.OpenLaw} {w : World} {K : PySem.W.Frag} {mg : Str → Option Value} {h : Heap} {fa : Addr} {C aW I0 CP IP p0 p1 p2 p3 g0 g1 g2 g3 m0 m1 c0 c1 s0 x0 y0 P0 P1 : Addr} {dA : Nat → Addr} (A : All K C aW I0 CP IP p0 p1 p2 p3 g0 g1 g2 g3 m0 m1 c0 c1 s0 x0 y0 P0 P1 dA)
    (X : K.In h) (G : h.Ns mainGlobals mg) (hfa : mg "law" = some (.ref fa)) (t0 : h.get? P0 = some { cls := .none, data := .fields #[] }) (t1 : h.get? P1 = some { cls := .none, data := .fields #[] }) (n01 : P0 ≠ P1) :
    LawT l w K 16 63 "_law_cells" mg fa h := by
  have B : Bl mg := ⟨PySem.W.mg_none_of X G A.z_len, PySem.W.mg_none_of X G A.z_int, PySem.W.mg_none_of X G A.z_abs, PySem.W.mg_none_of X G A.z_repr, PySem.W.mg_none_of X G A.z_isi, PySem.W.mg_none_of X G A.z_range, PySem.W.mg_none_of X G A.z_max, PySem.W.mg_none_of X G A.z_min, PySem.W.mg_none_of X G A.z_all, PySem.W.mg_none_of X G A.z_sum, PySem.W.mg_none_of X G A.z_enm, PySem.W.mg_none_of X G A.z_tup, PySem.W.mg_none_of X G A.z_boo, PySem.W.mg_none_of X G A.z_str⟩
  have b_list := PySem.W.mg_none_of X G A.z_list
  have b_set := PySem.W.mg_none_of X G A.z_set
  have b_sorted := PySem.W.mg_none_of X G A.z_sorted
  have c_lb : ∃ t, mg "LEAST_BLOCKS" = some (.int 3 t) := (let ⟨t, e⟩ := A.k_lb; ⟨t, PySem.W.mg_of X G e⟩)
  have c_mb : ∃ t, mg "MOST_BLOCKS" = some (.int 6 t) := (let ⟨t, e⟩ := A.k_mb; ⟨t, PySem.W.mg_of X G e⟩)
  have c_lp : ∃ t, mg "LEAST_PAGES" = some (.int 2 t) := (let ⟨t, e⟩ := A.k_lp; ⟨t, PySem.W.mg_of X G e⟩)
  have c_mp : ∃ t, mg "MOST_PAGES" = some (.int 5 t) := (let ⟨t, e⟩ := A.k_mp; ⟨t, PySem.W.mg_of X G e⟩)
  have c_mr : ∃ t, mg "MOST_ROWS" = some (.int 4 t) := (let ⟨t, e⟩ := A.k_mr; ⟨t, PySem.W.mg_of X G e⟩)
  have c_ms : ∃ t, mg "MOST_STANDS" = some (.int 2000 t) := (let ⟨t, e⟩ := A.k_ms; ⟨t, PySem.W.mg_of X G e⟩)
  have c_wh : ∃ t, mg "WORDS_OF_HEAD" = some (.int 7 t) := (let ⟨t, e⟩ := A.k_wh; ⟨t, PySem.W.mg_of X G e⟩)
  have c_md : ∃ t, mg "MOST_DIGITS" = some (.int 2 t) := (let ⟨t, e⟩ := A.k_md; ⟨t, PySem.W.mg_of X G e⟩)
  have c_me : ∃ t, mg "MOST_EVENTS" = some (.int 2000 t) := (let ⟨t, e⟩ := A.k_me; ⟨t, PySem.W.mg_of X G e⟩)
  have c_mc : ∃ t, mg "MOST_CHARACTERS" = some (.int 8 t) := (let ⟨t, e⟩ := A.k_mc; ⟨t, PySem.W.mg_of X G e⟩)
  have c_pr : ∃ t, mg "MOST_PRICE" = some (.int 9 t) := (let ⟨t, e⟩ := A.k_pr; ⟨t, PySem.W.mg_of X G e⟩)
  have c_wr : ∃ t, mg "WRITE" = some (.str (Str.ofString "write") t) := (let ⟨t, e⟩ := A.k_wr; ⟨t, PySem.W.mg_of X G e⟩)
  have c_tr : ∃ t, mg "TRIM" = some (.str (Str.ofString "trim") t) := (let ⟨t, e⟩ := A.k_tr; ⟨t, PySem.W.mg_of X G e⟩)
  have c_le : ∃ t, mg "LETTERS" = some (.str (Str.ofString "abcdefghijklmnopqrstuvwxyz") t) := (let ⟨t, e⟩ := A.k_le; ⟨t, PySem.W.mg_of X G e⟩)
  have c_di : ∃ t, mg "DIGITS" = some (.str (Str.ofString "0123456789") t) := (let ⟨t, e⟩ := A.k_di; ⟨t, PySem.W.mg_of X G e⟩)
  have Cm : Cn mg := ⟨c_lb, c_mb, c_lp, c_mp, c_mr, c_ms, c_wh, c_md⟩
  have gD := PySem.W.mg_of X G A.nC
  have gW := PySem.W.mg_of X G A.nW
  have gP := PySem.W.mg_of X G A.nP
  have T := A.T
  have PC := A.PC
  obtain ⟨fd0, F0, kV0, dc0, pm0, an0, cd0, ct0, e0⟩ := A.d0.fn
  have b0 := F0.binds (ps := ["before", "pages"]) fun _ _ _ _ _ _ us hl => match us, hl with | [_, _], _ => rfl
  have g_0 := PySem.W.mg_of X G A.d0.ns
  obtain ⟨fd1, F1, kV1, dc1, pm1, an1, cd1, ct1, e1⟩ := A.d1.fn
  have b1 := F1.binds (ps := ["blocks", "pages", "names"]) fun _ _ _ _ _ _ us hl => match us, hl with | [_, _, _], _ => rfl
  have g_1 := PySem.W.mg_of X G A.d1.ns
  obtain ⟨fd2, F2, kV2, dc2, pm2, an2, cd2, ct2, e2⟩ := A.d2.fn
  have b2 := F2.binds (ps := ["value"]) fun _ _ _ _ _ _ us hl => match us, hl with | [_], _ => rfl
  have g_2 := PySem.W.mg_of X G A.d2.ns
  obtain ⟨fd3, F3, kV3, dc3, pm3, an3, cd3, ct3, e3⟩ := A.d3.fn
  have b3 := F3.binds (ps := ["value", "least", "most"]) fun _ _ _ _ _ _ us hl => match us, hl with | [_, _, _], _ => rfl
  have g_3 := PySem.W.mg_of X G A.d3.ns
  obtain ⟨fd4, F4, kV4, dc4, pm4, an4, cd4, ct4, e4⟩ := A.d4.fn
  have b4 := F4.binds (ps := ["value", "pages"]) fun _ _ _ _ _ _ us hl => match us, hl with | [_, _], _ => rfl
  have g_4 := PySem.W.mg_of X G A.d4.ns
  obtain ⟨fd5, F5, kV5, dc5, pm5, an5, cd5, ct5, e5⟩ := A.d5.fn
  have b5 := F5.binds (ps := ["rows", "pages"]) fun _ _ _ _ _ _ us hl => match us, hl with | [_, _], _ => rfl
  have g_5 := PySem.W.mg_of X G A.d5.ns
  obtain ⟨fd6, F6, kV6, dc6, pm6, an6, cd6, ct6, e6⟩ := A.d6.fn
  have b6 := F6.binds (ps := ["blocks", "pages", "names"]) fun _ _ _ _ _ _ us hl => match us, hl with | [_, _, _], _ => rfl
  have g_6 := PySem.W.mg_of X G A.d6.ns
  obtain ⟨fd7, F7, kV7, dc7, pm7, an7, cd7, ct7, e7⟩ := A.d7.fn
  have b7 := F7.binds (ps := ["blocks", "pages", "names", "rows"]) fun _ _ _ _ _ _ us hl => match us, hl with | [_, _, _, _], _ => rfl
  have g_7 := PySem.W.mg_of X G A.d7.ns
  obtain ⟨fd8, F8, kV8, dc8, pm8, an8, cd8, ct8, e8⟩ := A.d8.fn
  have b8 := F8.binds (ps := ["rows", "closed"]) fun _ _ _ _ _ _ us hl => match us, hl with | [_, _], _ => rfl
  have g_8 := PySem.W.mg_of X G A.d8.ns
  obtain ⟨fd9, F9, kV9, dc9, pm9, an9, cd9, ct9, e9⟩ := A.d9.fn
  have b9 := F9.binds (ps := ["play", "name"]) fun _ _ _ _ _ _ us hl => match us, hl with | [_, _], _ => rfl
  have g_9 := PySem.W.mg_of X G A.d9.ns
  obtain ⟨fd10, F10, kV10, dc10, pm10, an10, cd10, ct10, e10⟩ := A.d10.fn
  have b10 := F10.binds (ps := ["play", "place"]) fun _ _ _ _ _ _ us hl => match us, hl with | [_, _], _ => rfl
  have g_10 := PySem.W.mg_of X G A.d10.ns
  obtain ⟨fd11, F11, kV11, dc11, pm11, an11, cd11, ct11, e11⟩ := A.d11.fn
  have b11 := F11.binds (ps := ["play", "name"]) fun _ _ _ _ _ _ us hl => match us, hl with | [_, _], _ => rfl
  have g_11 := PySem.W.mg_of X G A.d11.ns
  obtain ⟨fd12, F12, kV12, dc12, pm12, an12, cd12, ct12, e12⟩ := A.d12.fn
  have b12 := F12.binds (ps := ["play", "name"]) fun _ _ _ _ _ _ us hl => match us, hl with | [_, _], _ => rfl
  have g_12 := PySem.W.mg_of X G A.d12.ns
  obtain ⟨fd13, F13, kV13, dc13, pm13, an13, cd13, ct13, e13⟩ := A.d13.fn
  have b13 := F13.binds (ps := ["play", "event"]) fun _ _ _ _ _ _ us hl => match us, hl with | [_, _], _ => rfl
  have g_13 := PySem.W.mg_of X G A.d13.ns
  obtain ⟨fd14, F14, kV14, dc14, pm14, an14, cd14, ct14, e14⟩ := A.d14.fn
  have b14 := F14.binds (ps := ["value"]) fun _ _ _ _ _ _ us hl => match us, hl with | [_], _ => rfl
  have g_14 := PySem.W.mg_of X G A.d14.ns
  obtain ⟨fd15, F15, kV15, dc15, pm15, an15, cd15, ct15, e15⟩ := A.d15.fn
  have b15 := F15.binds (ps := ["value"]) fun _ _ _ _ _ _ us hl => match us, hl with | [_], _ => rfl
  have g_15 := PySem.W.mg_of X G A.d15.ns
  obtain ⟨fd16, F16, kV16, dc16, pm16, an16, cd16, ct16, e16⟩ := A.d16.fn
  have b16 := F16.binds (ps := ["drive", "load"]) fun _ _ _ _ _ _ us hl => match us, hl with | [_, _], _ => rfl
  have g_16 := PySem.W.mg_of X G A.d16.ns
  obtain ⟨fd17, F17, kV17, dc17, pm17, an17, cd17, ct17, e17⟩ := A.d17.fn
  have b17 := F17.binds (ps := ["drive"]) fun _ _ _ _ _ _ us hl => match us, hl with | [_], _ => rfl
  have g_17 := PySem.W.mg_of X G A.d17.ns
  obtain ⟨fd18, F18, kV18, dc18, pm18, an18, cd18, ct18, e18⟩ := A.d18.fn
  have b18 := F18.binds (ps := ["drive", "load"]) fun _ _ _ _ _ _ us hl => match us, hl with | [_, _], _ => rfl
  have g_18 := PySem.W.mg_of X G A.d18.ns
  obtain ⟨fd19, F19, kV19, dc19, pm19, an19, cd19, ct19, e19⟩ := A.d19.fn
  have b19 := F19.binds (ps := ["drive", "load"]) fun _ _ _ _ _ _ us hl => match us, hl with | [_, _], _ => rfl
  have g_19 := PySem.W.mg_of X G A.d19.ns
  obtain ⟨fd20, F20, kV20, dc20, pm20, an20, cd20, ct20, e20⟩ := A.d20.fn
  have b20 := F20.binds (ps := ["drive", "load"]) fun _ _ _ _ _ _ us hl => match us, hl with | [_, _], _ => rfl
  have g_20 := PySem.W.mg_of X G A.d20.ns
  obtain ⟨fd21, F21, kV21, dc21, pm21, an21, cd21, ct21, e21⟩ := A.d21.fn
  have b21 := F21.binds (ps := ["copies", "erasures"]) fun _ _ _ _ _ _ us hl => match us, hl with | [_, _], _ => rfl
  have g_21 := PySem.W.mg_of X G A.d21.ns
  obtain ⟨fd22, F22, kV22, dc22, pm22, an22, cd22, ct22, e22⟩ := A.d22.fn
  have b22 := F22.binds (ps := ["play"]) fun _ _ _ _ _ _ us hl => match us, hl with | [_], _ => rfl
  have g_22 := PySem.W.mg_of X G A.d22.ns
  obtain ⟨fd23, F23, kV23, dc23, pm23, an23, cd23, ct23, e23⟩ := A.d23.fn
  have b23 := F23.binds (ps := ["drive", "load"]) fun _ _ _ _ _ _ us hl => match us, hl with | [_, _], _ => rfl
  have g_23 := PySem.W.mg_of X G A.d23.ns
  obtain ⟨fd24, F24, kV24, dc24, pm24, an24, cd24, ct24, e24⟩ := A.d24.fn
  have b24 := F24.binds (ps := ["_law_cells", "_law_k"]) fun _ _ _ _ _ _ us hl => match us, hl with | [_, _], _ => rfl
  have g_24 := PySem.W.mg_of X G A.d24.ns
  obtain ⟨fd25, F25, kV25, dc25, pm25, an25, cd25, ct25, e25⟩ := A.d25.fn
  have b25 := F25.binds (ps := ["_law_cell_here"]) fun _ _ _ _ _ _ us hl => match us, hl with | [_], _ => rfl
  have g_25 := PySem.W.mg_of X G A.d25.ns
  obtain ⟨fd26, F26, kV26, dc26, pm26, an26, cd26, ct26, e26⟩ := A.d26.fn
  have b26 := F26.binds (ps := ["_law_pool_here", "_law_many"]) fun _ _ _ _ _ _ us hl => match us, hl with | [_, _], _ => rfl
  have g_26 := PySem.W.mg_of X G A.d26.ns
  obtain ⟨fd27, F27, kV27, dc27, pm27, an27, cd27, ct27, e27⟩ := A.d27.fn
  have b27 := F27.binds (ps := ["_law_pool_here"]) fun _ _ _ _ _ _ us hl => match us, hl with | [_], _ => rfl
  have g_27 := PySem.W.mg_of X G A.d27.ns
  obtain ⟨fd28, F28, kV28, dc28, pm28, an28, cd28, ct28, e28⟩ := A.d28.fn
  have b28 := F28.binds (ps := ["_law_pool_here", "_law_many"]) fun _ _ _ _ _ _ us hl => match us, hl with | [_, _], _ => rfl
  have g_28 := PySem.W.mg_of X G A.d28.ns
  obtain ⟨fd29, F29, kV29, dc29, pm29, an29, cd29, ct29, e29⟩ := A.d29.fn
  have b29 := F29.binds (ps := ["_law_pool_here"]) fun _ _ _ _ _ _ us hl => match us, hl with | [_], _ => rfl
  have g_29 := PySem.W.mg_of X G A.d29.ns
  obtain ⟨fd30, F30, kV30, dc30, pm30, an30, cd30, ct30, e30⟩ := A.d30.fn
  have b30 := F30.binds (ps := ["_law_pool_here", "_law_size"]) fun _ _ _ _ _ _ us hl => match us, hl with | [_, _], _ => rfl
  have g_30 := PySem.W.mg_of X G A.d30.ns
  obtain ⟨fd31, F31, kV31, dc31, pm31, an31, cd31, ct31, e31⟩ := A.d31.fn
  have b31 := F31.binds (ps := ["_law_shape_here", "_law_table_here"]) fun _ _ _ _ _ _ us hl => match us, hl with | [_, _], _ => rfl
  have g_31 := PySem.W.mg_of X G A.d31.ns
  obtain ⟨fd32, F32, kV32, dc32, pm32, an32, cd32, ct32, e32⟩ := A.d32.fn
  have b32 := F32.binds (ps := ["_law_pool_here", "_law_tags_here", "_law_room", "_law_many"]) fun _ _ _ _ _ _ us hl => match us, hl with | [_, _, _, _], _ => rfl
  have g_32 := PySem.W.mg_of X G A.d32.ns
  obtain ⟨fd33, F33, kV33, dc33, pm33, an33, cd33, ct33, e33⟩ := A.d33.fn
  have b33 := F33.binds (ps := ["_law_act"]) fun _ _ _ _ _ _ us hl => match us, hl with | [_], _ => rfl
  have g_33 := PySem.W.mg_of X G A.d33.ns
  obtain ⟨fd34, F34, kV34, dc34, pm34, an34, cd34, ct34, e34⟩ := A.d34.fn
  have b34 := F34.binds (ps := ["_law_alive", "_law_act"]) fun _ _ _ _ _ _ us hl => match us, hl with | [_, _], _ => rfl
  have g_34 := PySem.W.mg_of X G A.d34.ns
  obtain ⟨fd35, F35, kV35, dc35, pm35, an35, cd35, ct35, e35⟩ := A.d35.fn
  have b35 := F35.binds (ps := ["_law_mine", "_law_script", "_law_told", "_law_alive"]) fun _ _ _ _ _ _ us hl => match us, hl with | [_, _, _, _], _ => rfl
  have g_35 := PySem.W.mg_of X G A.d35.ns
  obtain ⟨fd36, F36, kV36, dc36, pm36, an36, cd36, ct36, e36⟩ := A.d36.fn
  have b36 := F36.binds (ps := ["_law_mine", "_law_script", "_law_told"]) fun _ _ _ _ _ _ us hl => match us, hl with | [_, _, _], _ => rfl
  have g_36 := PySem.W.mg_of X G A.d36.ns
  obtain ⟨fd37, F37, kV37, dc37, pm37, an37, cd37, ct37, e37⟩ := A.d37.fn
  have b37 := F37.binds (ps := ["_law_pool_here"]) fun _ _ _ _ _ _ us hl => match us, hl with | [_], _ => rfl
  have g_37 := PySem.W.mg_of X G A.d37.ns
  obtain ⟨fd38, F38, kV38, dc38, pm38, an38, cd38, ct38, e38⟩ := A.d38.fn
  have b38 := F38.binds (ps := ["_law_cells"]) fun _ _ _ _ _ _ us hl => match us, hl with | [_], _ => rfl
  have g_38 := PySem.W.mg_of X G A.d38.ns
  obtain ⟨fs0, FS0⟩ := A.s0_.fn
  have gS0 := PySem.W.mg_of X G A.s0_.ns
  obtain ⟨fd_ini, F_ini⟩ := A.ini.fn
  have b_ini := F_ini.binds (ps := ["self", "blocks", "pages", "names", "rows"]) fun _ _ _ _ _ _ us hl => match us, hl with | [_, _, _, _, _], _ => rfl
  obtain ⟨fd_inp, F_inp⟩ := A.inp.fn
  have b_inp := F_inp.binds (ps := ["self", "drive"]) fun _ _ _ _ _ _ us hl => match us, hl with | [_, _], _ => rfl
  obtain ⟨fd_q0, F_q0⟩ := A.q0_m.fn
  have b_q0 := F_q0.binds (ps := ["self"]) fun _ _ _ _ _ _ us hl => match us, hl with | [_], _ => rfl
  obtain ⟨fd_q1, F_q1⟩ := A.q1_m.fn
  have b_q1 := F_q1.binds (ps := ["self"]) fun _ _ _ _ _ _ us hl => match us, hl with | [_], _ => rfl
  obtain ⟨fd_q2, F_q2⟩ := A.q2_m.fn
  have b_q2 := F_q2.binds (ps := ["self"]) fun _ _ _ _ _ _ us hl => match us, hl with | [_], _ => rfl
  obtain ⟨fd_q3, F_q3⟩ := A.q3_m.fn
  have b_q3 := F_q3.binds (ps := ["self"]) fun _ _ _ _ _ _ us hl => match us, hl with | [_], _ => rfl
  obtain ⟨fd_x0, F_x0⟩ := A.x0_m.fn
  have b_x0 := F_x0.binds (ps := ["self", "index"]) fun _ _ _ _ _ _ us hl => match us, hl with | [_, _], _ => rfl
  obtain ⟨fm0, FM0, kVm0, dcm0, pmm0, anm0, ctm0, em0⟩ := A.mk0.fn
  have bm0 := (fun_of_c FM0).binds (ps := ["word", "closed", "places"]) fun _ _ _ _ _ _ us hl => match us, hl with | [_, _, _], _ => rfl
  have gm0 := PySem.W.mg_of X G A.mk0.ns
  obtain ⟨fm1, FM1, kVm1, dcm1, pmm1, anm1, ctm1, em1⟩ := A.mk1.fn
  have bm1 := (fun_of_c FM1).binds (ps := ["_law_mine", "_law_script"]) fun _ _ _ _ _ _ us hl => match us, hl with | [_, _], _ => rfl
  have gm1 := PySem.W.mg_of X G A.mk1.ns
  have e := hfa.symm.trans g_38
  cases e
  refine ⟨fd38, [(c0, P0), (c1, P1)], spLaw K [(P0, qCho), (P1, qLet)], ?_, ?_, ?_, fun s u => ?_, fun H a ns hl hT hS => ?_, fun base _ _ TBs => ?_⟩
  · intro p hp
    simp only [List.mem_cons, List.mem_nil_iff, or_false] at hp
    rcases hp with rfl | rfl
    · exact t0
    · exact t1
  · intro p hp
    simp only [List.mem_cons, List.mem_nil_iff, or_false] at hp
    rcases hp with rfl | rfl
    · exact A.nP0
    · exact A.nP1
  · intro p hp
    simp only [List.mem_cons, List.mem_nil_iff, or_false] at hp
    rcases hp with rfl | rfl
    · exact PySem.W.codeHd_of_K X A.hd0
    · exact PySem.W.codeHd_of_K X A.hd1
  · rw [e38]
    exact .of_eq rfl
  · refine ⟨a, ns, rfl, hS, hl, fun hp hpm => ?_, fun _ => rfl⟩
    simp only [List.mem_cons, List.mem_nil_iff, or_false] at hpm
    rcases hpm with rfl | rfl
    · exact TabS.nil (hT (c0, P0) (by simp))
    · exact TabS.nil (hT (c1, P1) (by simp))
  have TC0 : TabC base mg [(P0, qCho), (P1, qLet)] c0 P0 qCho := ⟨TBs (c0, P0) (by simp), by simp, fun z hz e => by
    simp only [List.mem_cons, List.mem_nil_iff, or_false] at hz
    rcases hz with rfl | rfl
    · rfl
    · exact absurd e (Ne.symm n01)⟩
  have TC1 : TabC base mg [(P0, qCho), (P1, qLet)] c1 P1 qLet := ⟨TBs (c1, P1) (by simp), by simp, fun z hz e => by
    simp only [List.mem_cons, List.mem_nil_iff, or_false] at hz
    rcases hz with rfl | rfl
    · exact absurd e n01
    · rfl⟩
  have X0 : XCls l.prog w K mg base "InvalidLoad" "index" x0 := ⟨A.x0_T, A.x0_f, A.x0_no, PySem.W.mg_of X G A.x0_n, y0, fd_x0, A.x0_i, A.x0_t, K3.ok_xLd F_x0 A.x0_T A.x0_no, b_x0⟩
  have o_is_integer : FnOk l.prog w K mg base CX0 1 (dA 2) fd2 ["value"] spIsI := ok_isI F2 B
  have o_is_within : FnOk l.prog w K mg base CX0 2 (dA 3) fd3 ["value", "least", "most"] spWit := ok_wit F3 o_is_integer F2.kp b2 g_2
  have o_is_row : FnOk l.prog w K mg base CX0 3 (dA 4) fd4 ["value", "pages"] (spRow K) := ok_row F4 B o_is_within F3.kp b3 g_3 gW A.W.at_
  have o_check_rows : FnOk l.prog w K mg base CX0 4 (dA 5) fd5 ["rows", "pages"] (spChk K) := ok_chk F5 B o_is_row F4.kp b4 g_4 Cm.mr
  have o_check_sizes : FnOk l.prog w K mg base CX0 3 (dA 6) fd6 ["blocks", "pages", "names"] spSiz := ok_siz F6 Cm o_is_within F3.kp b3 g_3
  have o_text_of : FnOk l.prog w K mg base CX0 1 (dA 7) fd7 ["blocks", "pages", "names", "rows"] (spTxt K) := ok_txt F7 B
  have o_spread : FnOk l.prog w K mg base CX0 1 (dA 0) fd0 ["before", "pages"] (spSpr K) := ok_spr F0 B
  have o_count_stands : FnOk l.prog w K mg base CX0 2 (dA 1) fd1 ["blocks", "pages", "names"] spCnt := ok_cnt F1 B o_spread F0.kp b0 g_0
  have o_ini : FnOk l.prog w K mg base CX0 5 I0 fd_ini ["self", "blocks", "pages", "names", "rows"] (spIni K C) := ok_ini F_ini T Cm ⟨o_check_sizes, F6.kp, b6, g_6, o_check_rows, F5.kp, b5, g_5, o_text_of, F7.kp, b7, g_7, o_count_stands, F1.kp, b1, g_1⟩
  have M : DD l.prog w K mg base C := ⟨T, A.D, ⟨_, _, _, A.q0, ok_gb F_q0 T, b_q0⟩, ⟨_, _, _, A.q1, ok_gp F_q1 T, b_q1⟩, ⟨_, _, _, A.q2, ok_gn F_q2 T, b_q2⟩, ⟨_, _, _, A.q3, ok_gr F_q3 T, b_q3⟩, gD⟩
  have o_choose : FnOk l.prog w K mg base CX0 3 m0 fm0 ["word", "closed", "places"] (spCho K [(P0, qCho), (P1, qLet)]) := ok_cho FM0 B TC0
  have o_pick : FnOk l.prog w K mg base CX0 4 (dA 8) fd8 ["rows", "closed"] (spPck K [(P0, qCho), (P1, qLet)]) := ok_pck F8 B ⟨⟨_, _, o_choose, FM0.kp, bm0, gm0⟩⟩
  have o_put_page : FnOk l.prog w K mg base CX0 3 (dA 9) fd9 ["play", "name"] (spPut K C CP) := ok_put F9 B M PC
  have o_clean_place : FnOk l.prog w K mg base CX0 4 (dA 10) fd10 ["play", "place"] (spCln K C CP) := ok_cln F10 B PC ⟨⟨_, _, o_put_page, F9.kp, b9, g_9⟩⟩
  have o_let_name_die : FnOk l.prog w K mg base CX0 1 (dA 11) fd11 ["play", "name"] (spDie CP) := ok_die F11 PC
  have o_bring_name_false : FnOk l.prog w K mg base CX0 5 (dA 12) fd12 ["play", "name"] (spBrgG K [(P0, qCho), (P1, qLet)] false C CP) := ok_brgG F12 B b_set M PC ⟨⟨_, _, o_put_page, F9.kp, b9, g_9⟩⟩ ⟨⟨_, _, o_clean_place, F10.kp, b10, g_10⟩⟩ ⟨⟨_, _, o_pick, F8.kp, b8, g_8⟩⟩
  have o_play_event_false : FnOk l.prog w K mg base CX0 6 (dA 13) fd13 ["play", "event"] (spEvtG K [(P0, qCho), (P1, qLet)] false C CP) := ok_evtG F13 B c_tr M PC ⟨⟨_, _, o_let_name_die, F11.kp, b11, g_11⟩⟩ ⟨⟨_, _, o_bring_name_false, F12.kp, b12, g_12⟩⟩
  have o_bring_name_true : FnOk l.prog w K mg base CX0 5 (dA 12) fd12 ["play", "name"] (spBrgG K [(P0, qCho), (P1, qLet)] true C CP) := ok_brgG F12 B b_set M PC ⟨⟨_, _, o_put_page, F9.kp, b9, g_9⟩⟩ ⟨⟨_, _, o_clean_place, F10.kp, b10, g_10⟩⟩ ⟨⟨_, _, o_pick, F8.kp, b8, g_8⟩⟩
  have o_play_event_true : FnOk l.prog w K mg base CX0 6 (dA 13) fd13 ["play", "event"] (spEvtG K [(P0, qCho), (P1, qLet)] true C CP) := ok_evtG F13 B c_tr M PC ⟨⟨_, _, o_let_name_die, F11.kp, b11, g_11⟩⟩ ⟨⟨_, _, o_bring_name_true, F12.kp, b12, g_12⟩⟩
  have o_is_name : FnOk l.prog w K mg base CX0 1 (dA 14) fd14 ["value"] spNam := ok_nam F14 B c_le c_di c_mc
  have o_is_event : FnOk l.prog w K mg base CX0 2 (dA 15) fd15 ["value"] (spIev K) := ok_iev F15 B c_wr c_tr ⟨⟨_, _, o_is_name, F14.kp, b14, g_14⟩⟩
  have o_ievB : FnOk l.prog w K mg base CX0 2 (dA 15) fd15 ["value"] (spIevB K) := or_ok o_is_event (ok_ievX F15 B c_wr c_tr ⟨⟨_, _, o_is_name, F14.kp, b14, g_14⟩⟩)
  have o_pin : FnOk l.prog w K mg base CX0 3 IP fd_inp ["self", "drive"] (spPin K C CP) := ok_pin F_inp B b_list M PC
  have o_play_load : FnOk l.prog w K mg base CX0 7 (dA 16) fd16 ["drive", "load"] (spLodG K [(P0, qCho), (P1, qLet)] C CP) := ok_lodG F16 B c_me A.mkp o_pin b_inp gP ⟨⟨_, _, o_is_event, F15.kp, b15, g_15⟩⟩ ⟨⟨_, _, o_play_event_false, F13.kp, b13, g_13⟩⟩
  have o_check_drive : FnOk l.prog w K mg base CX0 1 (dA 17) fd17 ["drive"] (spCkd K C) := ok_ckd F17 B M
  have o_steps : GFn l.prog w K mg base 8 (dA 18) fd18 ["drive", "load"] (spStpG K [(P0, qCho), (P1, qLet)] C CP) := ok_stpG F18 B PC ⟨⟨_, _, o_check_drive, F17.kp, b17, g_17⟩⟩ ⟨⟨_, _, o_play_load, F16.kp, b16, g_16⟩⟩
  have o_lodX : FnOk l.prog w K mg base (L2.CX l.prog w) 7 (dA 16) fd16 ["drive", "load"] (spLodX K [(P0, qCho), (P1, qLet)] true C CP x0) := ok_lodX F16 B c_me A.mkp o_pin b_inp gP X0 ⟨⟨_, _, o_ievB, F15.kp, b15, g_15⟩⟩ ⟨⟨_, _, o_play_event_true, F13.kp, b13, g_13⟩⟩
  have o__law_cell : FnOk l.prog w K mg base CX0 1 (dA 24) fd24 ["_law_cells", "_law_k"] (K2.spCell K) := ok_cell F24 B
  have o__law_pool : FnOk l.prog w K mg base CX0 1 (dA 25) fd25 ["_law_cell_here"] spPool := ok_pool F25 B
  have o__law_draw : FnOk l.prog w K mg base CX0 1 (dA 26) fd26 ["_law_pool_here", "_law_many"] spDraw := ok_draw F26 B
  have o__law_shape : FnOk l.prog w K mg base CX0 2 (dA 29) fd29 ["_law_pool_here"] (spShp K) := ok_shp F29 o__law_draw F26.kp b26 g_26
  have o__law_table : FnOk l.prog w K mg base CX0 2 (dA 30) fd30 ["_law_pool_here", "_law_size"] (spTab K) := ok_tab F30 B o__law_draw F26.kp b26 g_26
  have o__law_made : FnOk l.prog w K mg base CX0 7 (dA 31) fd31 ["_law_shape_here", "_law_table_here"] (spMad K C) := ok_mad F31 A.mk_ o_ini b_ini gD
  have o__law_word : FnOk l.prog w K mg base CX0 2 (dA 27) fd27 ["_law_pool_here"] spWrd := ok_wrd F27 B ⟨⟨_, _, o__law_draw, F26.kp, b26, g_26⟩⟩
  have o__law_tags : FnOk l.prog w K mg base CX0 3 (dA 28) fd28 ["_law_pool_here", "_law_many"] spTgs := ok_tgs F28 B ⟨⟨_, _, o__law_word, F27.kp, b27, g_27⟩⟩
  have o_stand_of : FnOk l.prog w K mg base CX0 1 (dA 22) fd22 ["play"] (spSto CP) := ok_sto F22 B PC
  have o_stand : FnOk l.prog w K mg base CX0 8 (dA 23) fd23 ["drive", "load"] (spStd K [(P0, qCho), (P1, qLet)] C CP) := ok_std F23 ⟨⟨_, _, o_check_drive, F17.kp, b17, g_17⟩⟩ ⟨⟨_, _, o_play_load, F16.kp, b16, g_16⟩⟩ ⟨⟨_, _, o_stand_of, F22.kp, b22, g_22⟩⟩
  have o__law_load : FnOk l.prog w K mg base CX0 2 (dA 32) fd32 ["_law_pool_here", "_law_tags_here", "_law_room", "_law_many"] spLoa := ok_loa F32 B ⟨⟨_, _, o__law_draw, F26.kp, b26, g_26⟩⟩
  have o_blocks_of : FnOk l.prog w K mg base CX0 8 (dA 19) fd19 ["drive", "load"] (spBloG K [(P0, qCho), (P1, qLet)] C CP) := ok_bloG F19 B PC ⟨⟨_, _, o_check_drive, F17.kp, b17, g_17⟩⟩ ⟨⟨_, _, o_play_load, F16.kp, b16, g_16⟩⟩
  have o_erased : FnOk l.prog w K mg base CX0 8 (dA 20) fd20 ["drive", "load"] (spErs K [(P0, qCho), (P1, qLet)] C CP) := ok_ers F20 B M PC ⟨⟨_, _, o_check_drive, F17.kp, b17, g_17⟩⟩ ⟨⟨_, _, o_play_load, F16.kp, b16, g_16⟩⟩
  have o_check_prices : FnOk l.prog w K mg base CX0 3 (dA 21) fd21 ["copies", "erasures"] spCkp := ok_ckp F21 c_pr ⟨⟨_, _, o_is_within, F3.kp, b3, g_3⟩⟩
  have o_price : FnOk l.prog w K mg base CX0 8 s0 fs0 NP4 (spPrc K [(P0, qCho), (P1, qLet)] C CP) := ok_prc FS0 B PC ⟨⟨_, _, o_check_drive, F17.kp, b17, g_17⟩⟩ ⟨⟨_, _, o_play_load, F16.kp, b16, g_16⟩⟩ ⟨⟨_, _, o_check_prices, F21.kp, b21, g_21⟩⟩
  have OL : OutL l.prog w K mg base x0 := ⟨⟨_, _, F33, b33, g_33⟩, X0, A.ex, A.ns0⟩
  have o_stpX : GFn l.prog w K mg base 8 (dA 18) fd18 ["drive", "load"] (spStpX K [(P0, qCho), (P1, qLet)] C CP x0) := ok_stpX F18 B PC ⟨⟨_, _, o_check_drive, F17.kp, b17, g_17⟩⟩ o_lodX F16.kp b16 g_16
  have o_m1 : FnG l.prog w K mg base 14 m1 fm1 ["_law_mine", "_law_script"] (spLetM K [(P0, qCho), (P1, qLet)] C) := ok_letM FM1 b_list OL TC1 ⟨⟨_, _, o_stpX, F18.kp, b18, g_18⟩⟩
  have o__law_alive_now : FnOk l.prog w K mg base CX0 1 (dA 34) fd34 ["_law_alive", "_law_act"] KY.spAlv := KY.ok_alv F34
  have o__law_part_right : FnG l.prog w K mg base 10 (dA 35) fd35 ["_law_mine", "_law_script", "_law_told", "_law_alive"] (KY.spPrt K [(P0, qCho), (P1, qLet)] C) := KY.ok_prt F35 B M ⟨⟨_, _, o_blocks_of, F19.kp, b19, g_19⟩⟩ ⟨⟨_, _, o_erased, F20.kp, b20, g_20⟩⟩ ⟨⟨_, _, o_stand, F23.kp, b23, g_23⟩⟩ ⟨⟨_, _, o_price, FS0.kp, b_prc FS0, k_prc FS0, gS0⟩⟩
  have o__law_first_right : FnG l.prog w K mg base 3 (dA 36) fd36 ["_law_mine", "_law_script", "_law_told"] (KY.spFst K C) := KY.ok_fst F36 B M
  have o__law_right : FnG l.prog w K mg base 15 (dA 37) fd37 ["_law_pool_here"] (KY.spOne [(P0, qCho), (P1, qLet)]) := KY.ok_rgt F37 B b_list ⟨⟨_, _, o_steps, F18.kp, b18, g_18⟩⟩ ⟨⟨_, _, o__law_draw, F26.kp, b26, g_26⟩⟩ ⟨⟨_, _, o__law_shape, F29.kp, b29, g_29⟩⟩ ⟨⟨_, _, o__law_table, F30.kp, b30, g_30⟩⟩ ⟨⟨_, _, o__law_made, F31.kp, b31, g_31⟩⟩ ⟨⟨_, _, o__law_tags, F28.kp, b28, g_28⟩⟩ ⟨⟨_, _, o__law_load, F32.kp, b32, g_32⟩⟩ ⟨⟨_, _, o_m1, FM1.kp, bm1, gm1⟩⟩ ⟨⟨_, _, o__law_first_right, F36.kp, b36, g_36⟩⟩ ⟨⟨_, _, o__law_part_right, F35.kp, b35, g_35⟩⟩ ⟨⟨_, _, o__law_alive_now, F34.kp, b34, g_34⟩⟩
  exact KY.ok_law F38 B ⟨⟨_, _, o__law_cell, F24.kp, b24, g_24⟩⟩ ⟨⟨_, _, o__law_pool, F25.kp, b25, g_25⟩⟩ ⟨⟨_, _, o__law_right, F37.kp, b37, g_37⟩⟩
end K6

set_option maxHeartbeats 8000000
namespace K6
open PySem PySem.Spec PyProof.Rows L2 G1 G2 G3 K2 LamX ClX K3 KY
def dA : Nat → Addr
  | 0 => 26
  | 1 => 31
  | 2 => 235
  | 3 => 242
  | 4 => 255
  | 5 => 262
  | 6 => 307
  | 7 => 281
  | 8 => 267
  | 9 => 494
  | 10 => 487
  | 11 => 477
  | 12 => 482
  | 13 => 470
  | 14 => 247
  | 15 => 456
  | 16 => 463
  | 17 => 423
  | 18 => 506
  | 19 => 511
  | 20 => 518
  | 21 => 430
  | 22 => 499
  | 23 => 531
  | 24 => 538
  | 25 => 545
  | 26 => 552
  | 27 => 559
  | 28 => 564
  | 29 => 571
  | 30 => 578
  | 31 => 585
  | 32 => 590
  | 33 => 597
  | 34 => 609
  | 35 => 614
  | 36 => 621
  | 37 => 628
  | 38 => 633
  | _ => 0
section
variable {K : PySem.W.Frag} {C f : Addr}
theorem dcls_mk (pg : PySem.W.plainGet K C "" = true) (hd : PySem.W.hasDictIn K C = true) (po : PySem.W.plainOver K C = true) (sa : PySem.W.findIn K (.ref C) "__setattr__" = some (some (.builtin "object.__setattr__")))
    (nb : PySem.W.findIn K (.ref C) "kept_blocks" = some none) (np : PySem.W.findIn K (.ref C) "kept_pages" = some none) (nn : PySem.W.findIn K (.ref C) "kept_names" = some none) (nr : PySem.W.findIn K (.ref C) "kept_rows" = some none) (nt : PySem.W.findIn K (.ref C) "kept_text" = some none) : DCls K C := ⟨⟨pg, hd, po, sa⟩, nb, np, nn, nr, nt⟩
theorem pcls_mk (pg : PySem.W.plainGet K C "" = true) (hd : PySem.W.hasDictIn K C = true) (po : PySem.W.plainOver K C = true) (sa : PySem.W.findIn K (.ref C) "__setattr__" = some (some (.builtin "object.__setattr__")))
    (n1 : PySem.W.findIn K (.ref C) "drive" = some none) (n2 : PySem.W.findIn K (.ref C) "content" = some none) (n3 : PySem.W.findIn K (.ref C) "living" = some none) (n4 : PySem.W.findIn K (.ref C) "free" = some none) (n5 : PySem.W.findIn K (.ref C) "closed" = some none)
    (n6 : PySem.W.findIn K (.ref C) "filling" = some none) (n7 : PySem.W.findIn K (.ref C) "homes" = some none) (n8 : PySem.W.findIn K (.ref C) "told" = some none) : PCls K C := ⟨⟨pg, hd, po, sa⟩, n1, n2, n3, n4, n5, n6, n7, n8⟩
theorem prop_mk {x : Str} {p g : Addr} {rest : List Value} (h1 : PySem.W.findIn K (.ref C) x = some (some (.ref p))) (h2 : PySem.W.specialIn K (.ref p) "__get__" = some (some (.builtin "property.__get__"))) (h3 : PySem.W.takesIn K (.ref p) = some true) (h4 : PySem.W.recIn K p "property" = some (.ref g :: rest)) : PropOf K C x p g := ⟨h1, h2, h3, rest, h4⟩
theorem mf_mk {x q : Str} {st : Stmt} {oc : Value} {od : Option Addr} {kV dc pm : Value} {an : Option Addr} {cd ct : Value} {sl : Array (Option Value)}
    (l : K.lookup f = some ⟨oc, od, .func (PySem.W.fnOf x q (defArgs st) (defBody st) (defScope st) .none kV dc pm an cd ct), sl⟩) (h : PySem.W.codeIn K cd q = true) (kp : PySem.W.keepIn K (.ref f) = true) : MF K x q st f := ⟨⟨oc, od, kV, dc, pm, an, cd, ct, sl, l, h⟩, kp⟩
theorem df_mk {x : Str} {st : Stmt} {oc : Value} {od : Option Addr} {kV dc pm : Value} {an : Option Addr} {cd ct : Value} {sl : Array (Option Value)} (n : PySem.W.nsIn K mainGlobals x = some (some (.ref f)))
    (l : K.lookup f = some ⟨oc, od, .func (PySem.W.fnOf x x (defArgs st) (defBody st) (defScope st) .none kV dc pm an cd ct), sl⟩) (h : PySem.W.codeIn K cd x = true) (kp : PySem.W.keepIn K (.ref f) = true) : DF K x st f := ⟨n, ⟨oc, od, kV, dc, pm, an, cd, ct, sl, l, h⟩, kp⟩
theorem dc_mk {x : Str} {st : Stmt} {c : Addr} {oc : Value} {od : Option Addr} {kV dc pm : Value} {an : Option Addr} {ct : Value} {sl : Array (Option Value)} (n : PySem.W.nsIn K mainGlobals x = some (some (.ref f)))
    (l : K.lookup f = some ⟨oc, od, .func (PySem.W.fnOf x x (defArgs st) (defBody st) (defScope st) .none kV dc pm an (.ref c) ct), sl⟩) (h : PySem.W.codeIn K (.ref c) x = true) (kp : PySem.W.keepIn K (.ref f) = true) : DC K x st f c := ⟨n, ⟨oc, od, kV, dc, pm, an, ct, sl, l, h⟩, kp⟩
theorem kfp_mk {x : Str} {st : Stmt} {oc : Value} {od : Option Addr} {T : Addr} {dc pm : Value} {an : Option Addr} {cd ct : Value} {sl : Array (Option Value)} {t1 t2 : Tok} (n : PySem.W.nsIn K mainGlobals x = some (some (.ref f)))
    (l : K.lookup f = some ⟨oc, od, .func (PySem.W.fnOf x x (defArgs st) (defBody st) (defScope st) .none (.ref T) dc pm an cd ct), sl⟩) (h : PySem.W.codeIn K cd x = true) (hC : PySem.W.nsIn K T "copies" = some (some (.int 1 t1))) (hE : PySem.W.nsIn K T "erasures" = some (some (.int 0 t2))) (kp : PySem.W.keepIn K (.ref f) = true) : KFP K x st f := ⟨n, ⟨oc, od, T, dc, pm, an, cd, ct, sl, l, h, ⟨t1, hC⟩, ⟨t2, hE⟩⟩, kp⟩
theorem wf_mk {od : Option Addr} {n : Nat} {t1 t2 t3 t4 : Tok} {sl : Array (Option Value)}
    (l : K.lookup f = some ⟨.type "tuple", od, .seq #[Value.str (Str.ofString "oldest") t1, Value.str (Str.ofString "youngest") t2, Value.str (Str.ofString "least") t3, Value.str (Str.ofString "most") t4] n, sl⟩) : WF K f := ⟨⟨od, n, t1, t2, t3, t4, sl, l⟩⟩
theorem oex_mk {B : Addr} {a1 a2 : Str} {a3 : Addr} {a4 : List Value} {a5 : List Str} {a6 : List Value} {a7 : Bool} {a8 : Option Bool} {a9 : Option Addr} {v0 v1 v2 v3 v5 : Option Value}
    (l : K.lookup C = some (excClassObj a1 a2 C a3 a4 [.ref B, .type "ValueError", .type "Exception", .type "BaseException", .type "object"] true a5 a6 a7 a8 a9 v0 v1 v2 v3 v5 "ValueError.__new__"))
    (sa : PySem.W.findIn K (.ref C) "__setattr__" = some (some (.builtin "object.__setattr__"))) (ex : PySem.W.subIn K (.ref C) (.type "BaseException") = some true) (ty : PySem.W.typeIn K (.ref C) = some (.type "type")) (kc : PySem.W.keepIn K (.ref C) = true) : OexC K C :=
  ⟨⟨a1, a2, a3, a4, _, a5, a6, a7, a8, a9, v0, v1, v2, v3, v5, l, rfl⟩, sa, ex, ty, kc⟩
theorem exm_mk {U : Addr} {b : Bool} (h1 : PySem.W.subIn K (.ref U) (.type "BaseException") = some true) (h2 : PySem.W.isClsIn K U = true) (h3 : PySem.W.typeIn K (.ref U) = some (.type "type")) (h4 : PySem.W.subIn K (.ref C) (.ref U) = some b) : PySem.W.exmOne K (.ref C) (.ref U) = some b := by
  have z2 : (PySem.W.clsIn K U).isSome = true := h2
  have z : PySem.W.kitCls K (.ref C) (.ref U) = some b := by
    show (if ((PySem.W.clsIn K U).isSome && PySem.W.typeIn K (.ref U) == some (.type "type")) = true then PySem.W.subIn K (.ref C) (.ref U) else none) = some b
    rw [z2, h3, h4]
    rfl
  unfold PySem.W.exmOne
  rw [h1, z]
  rfl
theorem ct_mk {x : Str} {i : Int} {t : Tok} (n : PySem.W.nsIn K mainGlobals x = some (some (.int i t))) : ∃ t, PySem.W.nsIn K mainGlobals x = some (some (.int i t)) := ⟨t, n⟩
theorem cs_mk {x y : Str} {t : Tok} (n : PySem.W.nsIn K mainGlobals x = some (some (.str y t))) : ∃ t, PySem.W.nsIn K mainGlobals x = some (some (.str y t)) := ⟨t, n⟩
end
end K6
open PySem PySem.W PyProof.Rows
set_option maxRecDepth 100000 in
set_option maxHeartbeats 0 in
theorem PySem.Challenge.cw_spareblocks_k24_whole_balance_of_pages_holds : PySem.Challenge.rw_spareblocks_k24_whole_balance_of_pages.Holds := by
  w_on; o_law; k_head; (case hw => w_witness2)
  k_fill
  refine G3.walkT (l := PySem.Challenge.rw_spareblocks_k24_whole_balance_of_pages) (n := 63) (k := 16) (x := "_law_cells") rfl (by decide) rfl ⟨rfl, by decide, by decide⟩ (fun w h Y => PySem.W.km_in_of Y) ?F
  case F =>
    intro w mg fa h Y KX G hmg
    have hT8 := PySem.W.km_tabs_of Y
    have A : K6.All (L2.KOf KX) 412 248 321 445 442 350 358 366 374 349 357 365 373 274 604 273 603 524 194 191 269 599 K6.dA := by
      clear hT8 hmg G Y
      have nC : PySem.W.nsIn (L2.KOf KX) mainGlobals "Drive" = some (some (.ref 412)) := by unfold L2.KOf; k_is
      have nW : PySem.W.nsIn (L2.KOf KX) mainGlobals "WORDS" = some (some (.ref 248)) := by unfold L2.KOf; k_is
      have hW : K2.WF (L2.KOf KX) 248 := by unfold L2.KOf; refine' K6.wf_mk ?l; (case l => k_is)
      have hT : K2.DCls (L2.KOf KX) 412 := by unfold L2.KOf; refine' K6.dcls_mk ?pg ?hd ?po ?sa ?nb ?np ?nn ?nr ?nt; (case pg => k_is); (case hd => k_is); (case po => k_is); (case sa => k_is); (case nb => k_is); (case np => k_is); (case nn => k_is); (case nr => k_is); (case nt => k_is)
      have hD : K2.DKit (L2.KOf KX) 412 := by unfold L2.KOf; refine' K2.DKit.mk ?a1 ?a2 ?a3 ?a4 ?a5 ?a6 ?a7 ?a8 ?a9 ?b1 ?b2; (case a1 => kit_is); (case a2 => kit_is); (case a3 => kit_is); (case a4 => kit_is); (case a5 => kit_is); (case a6 => kit_is); (case a7 => kit_is); (case a8 => k_is); (case a9 => k_is); (case b1 => k_is); (case b2 => k_is)
      have hM : L2.Mk (L2.KOf KX) 412 321 := by unfold L2.KOf; refine' L2.Mk.mk ?a1 ?a2 ?a3 ?a4; (case a1 => k_is); (case a2 => k_is); (case a3 => k_is); (case a4 => k_is)
      have hI : K2.MF (L2.KOf KX) "__init__" "Drive.__init__" K2.sIni 321 := by unfold L2.KOf; refine' K6.mf_mk ?l ?h ?kp; (case l => k_is); (case h => k_is); (case kp => k_is)
      have nP : PySem.W.nsIn (L2.KOf KX) mainGlobals "Play" = some (some (.ref 445)) := by unfold L2.KOf; k_is
      have hPC : K6.PCls (L2.KOf KX) 445 := by unfold L2.KOf; refine' K6.pcls_mk ?pg ?hd ?po ?sa ?n1 ?n2 ?n3 ?n4 ?n5 ?n6 ?n7 ?n8; (case pg => k_is); (case hd => k_is); (case po => k_is); (case sa => k_is); (case n1 => k_is); (case n2 => k_is); (case n3 => k_is); (case n4 => k_is); (case n5 => k_is); (case n6 => k_is); (case n7 => k_is); (case n8 => k_is)
      have hMP : L2.Mk (L2.KOf KX) 445 442 := by unfold L2.KOf; refine' L2.Mk.mk ?a1 ?a2 ?a3 ?a4; (case a1 => k_is); (case a2 => k_is); (case a3 => k_is); (case a4 => k_is)
      have hIP : K2.MF (L2.KOf KX) "__init__" "Play.__init__" K6.sPin 442 := by unfold L2.KOf; refine' K6.mf_mk ?l ?h ?kp; (case l => k_is); (case h => k_is); (case kp => k_is)
      have x0_n : PySem.W.nsIn (L2.KOf KX) mainGlobals "InvalidLoad" = some (some (.ref 194)) := by unfold L2.KOf; k_is
      have x0_T : L2.OexC (L2.KOf KX) 194 := by unfold L2.KOf; refine' K6.oex_mk ?l ?a1 ?a2 ?a3 ?a4; (case l => k_is); (case a1 => k_is); (case a2 => k_is); (case a3 => k_is); (case a4 => k_is)
      have x0_f : L2.XfC (L2.KOf KX) 194 := by unfold L2.KOf; refine' L2.XfC.mk ?a1 ?a2 ?a3 ?a4; (case a1 => k_is); (case a2 => k_is); (case a3 => k_is); (case a4 => k_is)
      have x0_no : PySem.W.findIn (L2.KOf KX) (.ref 194) "index" = some none := by unfold L2.KOf; k_is
      have x0_i : PySem.W.findIn (L2.KOf KX) (.ref 194) "__init__" = some (some (.ref 191)) := by unfold L2.KOf; k_is
      have x0_t : PySem.W.typeIn (L2.KOf KX) (.ref 191) = some (.type "function") := by unfold L2.KOf; k_is
      have x0_m : K2.MF (L2.KOf KX) "__init__" "InvalidLoad.__init__" K3.sILd 191 := by unfold L2.KOf; refine' K6.mf_mk ?l ?h ?kp; (case l => k_is); (case h => k_is); (case kp => k_is)
      have em0 : PySem.W.exmOne (L2.KOf KX) (.ref 194) (.ref 194) = some true := by unfold L2.KOf; refine' K6.exm_mk ?a1 ?a2 ?a3 ?a4; (case a1 => k_is); (case a2 => k_is); (case a3 => k_is); (case a4 => first | rfl | k_is)
      have ns0 : PySem.W.subIn (L2.KOf KX) (.ref 194) (.type "StopIteration") = some false := by unfold L2.KOf; first | rfl | k_is
      have q0 : L2.PropOf (L2.KOf KX) 412 "blocks" 350 349 := by unfold L2.KOf; refine' K6.prop_mk ?a1 ?a2 ?a3 ?a4; (case a1 => k_is); (case a2 => k_is); (case a3 => k_is); (case a4 => k_is)
      have q0_m : K2.MF (L2.KOf KX) "blocks" "Drive.blocks" K2.sGb 349 := by unfold L2.KOf; refine' K6.mf_mk ?l ?h ?kp; (case l => k_is); (case h => k_is); (case kp => k_is)
      have q1 : L2.PropOf (L2.KOf KX) 412 "pages" 358 357 := by unfold L2.KOf; refine' K6.prop_mk ?a1 ?a2 ?a3 ?a4; (case a1 => k_is); (case a2 => k_is); (case a3 => k_is); (case a4 => k_is)
      have q1_m : K2.MF (L2.KOf KX) "pages" "Drive.pages" K2.sGp 357 := by unfold L2.KOf; refine' K6.mf_mk ?l ?h ?kp; (case l => k_is); (case h => k_is); (case kp => k_is)
      have q2 : L2.PropOf (L2.KOf KX) 412 "names" 366 365 := by unfold L2.KOf; refine' K6.prop_mk ?a1 ?a2 ?a3 ?a4; (case a1 => k_is); (case a2 => k_is); (case a3 => k_is); (case a4 => k_is)
      have q2_m : K2.MF (L2.KOf KX) "names" "Drive.names" K2.sGn 365 := by unfold L2.KOf; refine' K6.mf_mk ?l ?h ?kp; (case l => k_is); (case h => k_is); (case kp => k_is)
      have q3 : L2.PropOf (L2.KOf KX) 412 "rows" 374 373 := by unfold L2.KOf; refine' K6.prop_mk ?a1 ?a2 ?a3 ?a4; (case a1 => k_is); (case a2 => k_is); (case a3 => k_is); (case a4 => k_is)
      have q3_m : K2.MF (L2.KOf KX) "rows" "Drive.rows" K2.sGr 373 := by unfold L2.KOf; refine' K6.mf_mk ?l ?h ?kp; (case l => k_is); (case h => k_is); (case kp => k_is)
      have mk0 : K6.DC (L2.KOf KX) "choose" K6.sCho 274 273 := by unfold L2.KOf; refine' K6.dc_mk ?n ?l ?h ?kp; (case n => k_is); (case l => k_is); (case h => k_is); (case kp => k_is)
      have hd0 : PySem.W.codeHdIn (L2.KOf KX) 273 269 = true := by unfold L2.KOf; first | k_is | kernel_rfl
      have nP0 : (L2.KOf KX).lookup 269 = none := by unfold L2.KOf; first | k_is | kernel_rfl
      have mk1 : K6.DC (L2.KOf KX) "_law_let" K6.sLet 604 603 := by unfold L2.KOf; refine' K6.dc_mk ?n ?l ?h ?kp; (case n => k_is); (case l => k_is); (case h => k_is); (case kp => k_is)
      have hd1 : PySem.W.codeHdIn (L2.KOf KX) 603 599 = true := by unfold L2.KOf; first | k_is | kernel_rfl
      have nP1 : (L2.KOf KX).lookup 599 = none := by unfold L2.KOf; first | k_is | kernel_rfl
      have s0_ : K6.KFP (L2.KOf KX) "price" K6.sPrc 524 := by unfold L2.KOf; refine' K6.kfp_mk ?n ?l ?h ?hC ?hE ?kp; (case n => k_is); (case l => k_is); (case h => k_is); (case hC => k_is); (case hE => k_is); (case kp => k_is)
      have d0 : K2.DF (L2.KOf KX) "spread" K2.sSpr 26 := by unfold L2.KOf; refine' K6.df_mk ?n ?l ?h ?kp; (case n => k_is); (case l => k_is); (case h => k_is); (case kp => k_is)
      have d1 : K2.DF (L2.KOf KX) "count_stands" K2.sCnt 31 := by unfold L2.KOf; refine' K6.df_mk ?n ?l ?h ?kp; (case n => k_is); (case l => k_is); (case h => k_is); (case kp => k_is)
      have d2 : K2.DF (L2.KOf KX) "is_integer" K2.sIsI 235 := by unfold L2.KOf; refine' K6.df_mk ?n ?l ?h ?kp; (case n => k_is); (case l => k_is); (case h => k_is); (case kp => k_is)
      have d3 : K2.DF (L2.KOf KX) "is_within" K2.sWit 242 := by unfold L2.KOf; refine' K6.df_mk ?n ?l ?h ?kp; (case n => k_is); (case l => k_is); (case h => k_is); (case kp => k_is)
      have d4 : K2.DF (L2.KOf KX) "is_row" K2.sRow 255 := by unfold L2.KOf; refine' K6.df_mk ?n ?l ?h ?kp; (case n => k_is); (case l => k_is); (case h => k_is); (case kp => k_is)
      have d5 : K2.DF (L2.KOf KX) "check_rows" K2.sChk 262 := by unfold L2.KOf; refine' K6.df_mk ?n ?l ?h ?kp; (case n => k_is); (case l => k_is); (case h => k_is); (case kp => k_is)
      have d6 : K2.DF (L2.KOf KX) "check_sizes" K2.sSiz 307 := by unfold L2.KOf; refine' K6.df_mk ?n ?l ?h ?kp; (case n => k_is); (case l => k_is); (case h => k_is); (case kp => k_is)
      have d7 : K2.DF (L2.KOf KX) "text_of" K2.sTxt 281 := by unfold L2.KOf; refine' K6.df_mk ?n ?l ?h ?kp; (case n => k_is); (case l => k_is); (case h => k_is); (case kp => k_is)
      have d8 : K2.DF (L2.KOf KX) "pick" K6.sPck 267 := by unfold L2.KOf; refine' K6.df_mk ?n ?l ?h ?kp; (case n => k_is); (case l => k_is); (case h => k_is); (case kp => k_is)
      have d9 : K2.DF (L2.KOf KX) "put_page" K6.sPut 494 := by unfold L2.KOf; refine' K6.df_mk ?n ?l ?h ?kp; (case n => k_is); (case l => k_is); (case h => k_is); (case kp => k_is)
      have d10 : K2.DF (L2.KOf KX) "clean_place" K6.sCln 487 := by unfold L2.KOf; refine' K6.df_mk ?n ?l ?h ?kp; (case n => k_is); (case l => k_is); (case h => k_is); (case kp => k_is)
      have d11 : K2.DF (L2.KOf KX) "let_name_die" K6.sDie 477 := by unfold L2.KOf; refine' K6.df_mk ?n ?l ?h ?kp; (case n => k_is); (case l => k_is); (case h => k_is); (case kp => k_is)
      have d12 : K2.DF (L2.KOf KX) "bring_name" K6.sBrg 482 := by unfold L2.KOf; refine' K6.df_mk ?n ?l ?h ?kp; (case n => k_is); (case l => k_is); (case h => k_is); (case kp => k_is)
      have d13 : K2.DF (L2.KOf KX) "play_event" K6.sEvt 470 := by unfold L2.KOf; refine' K6.df_mk ?n ?l ?h ?kp; (case n => k_is); (case l => k_is); (case h => k_is); (case kp => k_is)
      have d14 : K2.DF (L2.KOf KX) "is_name" K6.sNam 247 := by unfold L2.KOf; refine' K6.df_mk ?n ?l ?h ?kp; (case n => k_is); (case l => k_is); (case h => k_is); (case kp => k_is)
      have d15 : K2.DF (L2.KOf KX) "is_event" K6.sIev 456 := by unfold L2.KOf; refine' K6.df_mk ?n ?l ?h ?kp; (case n => k_is); (case l => k_is); (case h => k_is); (case kp => k_is)
      have d16 : K2.DF (L2.KOf KX) "play_load" K6.sLod 463 := by unfold L2.KOf; refine' K6.df_mk ?n ?l ?h ?kp; (case n => k_is); (case l => k_is); (case h => k_is); (case kp => k_is)
      have d17 : K2.DF (L2.KOf KX) "check_drive" K6.sCkd 423 := by unfold L2.KOf; refine' K6.df_mk ?n ?l ?h ?kp; (case n => k_is); (case l => k_is); (case h => k_is); (case kp => k_is)
      have d18 : K2.DF (L2.KOf KX) "steps" K6.sStp 506 := by unfold L2.KOf; refine' K6.df_mk ?n ?l ?h ?kp; (case n => k_is); (case l => k_is); (case h => k_is); (case kp => k_is)
      have d19 : K2.DF (L2.KOf KX) "blocks_of" K6.sBlo 511 := by unfold L2.KOf; refine' K6.df_mk ?n ?l ?h ?kp; (case n => k_is); (case l => k_is); (case h => k_is); (case kp => k_is)
      have d20 : K2.DF (L2.KOf KX) "erased" K6.sErs 518 := by unfold L2.KOf; refine' K6.df_mk ?n ?l ?h ?kp; (case n => k_is); (case l => k_is); (case h => k_is); (case kp => k_is)
      have d21 : K2.DF (L2.KOf KX) "check_prices" K6.sCkp 430 := by unfold L2.KOf; refine' K6.df_mk ?n ?l ?h ?kp; (case n => k_is); (case l => k_is); (case h => k_is); (case kp => k_is)
      have d22 : K2.DF (L2.KOf KX) "stand_of" K6.sSto 499 := by unfold L2.KOf; refine' K6.df_mk ?n ?l ?h ?kp; (case n => k_is); (case l => k_is); (case h => k_is); (case kp => k_is)
      have d23 : K2.DF (L2.KOf KX) "stand" K6.sStd 531 := by unfold L2.KOf; refine' K6.df_mk ?n ?l ?h ?kp; (case n => k_is); (case l => k_is); (case h => k_is); (case kp => k_is)
      have d24 : K2.DF (L2.KOf KX) "_law_cell" K2.sCell 538 := by unfold L2.KOf; refine' K6.df_mk ?n ?l ?h ?kp; (case n => k_is); (case l => k_is); (case h => k_is); (case kp => k_is)
      have d25 : K2.DF (L2.KOf KX) "_law_pool" K2.sPool 545 := by unfold L2.KOf; refine' K6.df_mk ?n ?l ?h ?kp; (case n => k_is); (case l => k_is); (case h => k_is); (case kp => k_is)
      have d26 : K2.DF (L2.KOf KX) "_law_draw" K2.sDraw 552 := by unfold L2.KOf; refine' K6.df_mk ?n ?l ?h ?kp; (case n => k_is); (case l => k_is); (case h => k_is); (case kp => k_is)
      have d27 : K2.DF (L2.KOf KX) "_law_word" K6.sWrd 559 := by unfold L2.KOf; refine' K6.df_mk ?n ?l ?h ?kp; (case n => k_is); (case l => k_is); (case h => k_is); (case kp => k_is)
      have d28 : K2.DF (L2.KOf KX) "_law_tags" K6.sTgs 564 := by unfold L2.KOf; refine' K6.df_mk ?n ?l ?h ?kp; (case n => k_is); (case l => k_is); (case h => k_is); (case kp => k_is)
      have d29 : K2.DF (L2.KOf KX) "_law_shape" K2.sShp 571 := by unfold L2.KOf; refine' K6.df_mk ?n ?l ?h ?kp; (case n => k_is); (case l => k_is); (case h => k_is); (case kp => k_is)
      have d30 : K2.DF (L2.KOf KX) "_law_table" K2.sTab 578 := by unfold L2.KOf; refine' K6.df_mk ?n ?l ?h ?kp; (case n => k_is); (case l => k_is); (case h => k_is); (case kp => k_is)
      have d31 : K2.DF (L2.KOf KX) "_law_made" K2.sMad 585 := by unfold L2.KOf; refine' K6.df_mk ?n ?l ?h ?kp; (case n => k_is); (case l => k_is); (case h => k_is); (case kp => k_is)
      have d32 : K2.DF (L2.KOf KX) "_law_load" K6.sLoa 590 := by unfold L2.KOf; refine' K6.df_mk ?n ?l ?h ?kp; (case n => k_is); (case l => k_is); (case h => k_is); (case kp => k_is)
      have d33 : K2.DF (L2.KOf KX) "_law_outcome" K6.sOut 597 := by unfold L2.KOf; refine' K6.df_mk ?n ?l ?h ?kp; (case n => k_is); (case l => k_is); (case h => k_is); (case kp => k_is)
      have d34 : K2.DF (L2.KOf KX) "_law_alive_now" KY.sAlv 609 := by unfold L2.KOf; refine' K6.df_mk ?n ?l ?h ?kp; (case n => k_is); (case l => k_is); (case h => k_is); (case kp => k_is)
      have d35 : K2.DF (L2.KOf KX) "_law_part_right" KY.sPrt 614 := by unfold L2.KOf; refine' K6.df_mk ?n ?l ?h ?kp; (case n => k_is); (case l => k_is); (case h => k_is); (case kp => k_is)
      have d36 : K2.DF (L2.KOf KX) "_law_first_right" KY.sFst 621 := by unfold L2.KOf; refine' K6.df_mk ?n ?l ?h ?kp; (case n => k_is); (case l => k_is); (case h => k_is); (case kp => k_is)
      have d37 : K2.DF (L2.KOf KX) "_law_right" KY.sRgt 628 := by unfold L2.KOf; refine' K6.df_mk ?n ?l ?h ?kp; (case n => k_is); (case l => k_is); (case h => k_is); (case kp => k_is)
      have d38 : K2.DF (L2.KOf KX) "law" KY.sLaw 633 := by unfold L2.KOf; refine' K6.df_mk ?n ?l ?h ?kp; (case n => k_is); (case l => k_is); (case h => k_is); (case kp => k_is)
      have k_lb : ∃ t, PySem.W.nsIn (L2.KOf KX) mainGlobals "LEAST_BLOCKS" = some (some (.int 3 t)) := by unfold L2.KOf; refine' K6.ct_mk ?n; (case n => k_is)
      have k_mb : ∃ t, PySem.W.nsIn (L2.KOf KX) mainGlobals "MOST_BLOCKS" = some (some (.int 6 t)) := by unfold L2.KOf; refine' K6.ct_mk ?n; (case n => k_is)
      have k_lp : ∃ t, PySem.W.nsIn (L2.KOf KX) mainGlobals "LEAST_PAGES" = some (some (.int 2 t)) := by unfold L2.KOf; refine' K6.ct_mk ?n; (case n => k_is)
      have k_mp : ∃ t, PySem.W.nsIn (L2.KOf KX) mainGlobals "MOST_PAGES" = some (some (.int 5 t)) := by unfold L2.KOf; refine' K6.ct_mk ?n; (case n => k_is)
      have k_mr : ∃ t, PySem.W.nsIn (L2.KOf KX) mainGlobals "MOST_ROWS" = some (some (.int 4 t)) := by unfold L2.KOf; refine' K6.ct_mk ?n; (case n => k_is)
      have k_ms : ∃ t, PySem.W.nsIn (L2.KOf KX) mainGlobals "MOST_STANDS" = some (some (.int 2000 t)) := by unfold L2.KOf; refine' K6.ct_mk ?n; (case n => k_is)
      have k_wh : ∃ t, PySem.W.nsIn (L2.KOf KX) mainGlobals "WORDS_OF_HEAD" = some (some (.int 7 t)) := by unfold L2.KOf; refine' K6.ct_mk ?n; (case n => k_is)
      have k_md : ∃ t, PySem.W.nsIn (L2.KOf KX) mainGlobals "MOST_DIGITS" = some (some (.int 2 t)) := by unfold L2.KOf; refine' K6.ct_mk ?n; (case n => k_is)
      have k_me : ∃ t, PySem.W.nsIn (L2.KOf KX) mainGlobals "MOST_EVENTS" = some (some (.int 2000 t)) := by unfold L2.KOf; refine' K6.ct_mk ?n; (case n => k_is)
      have k_mc : ∃ t, PySem.W.nsIn (L2.KOf KX) mainGlobals "MOST_CHARACTERS" = some (some (.int 8 t)) := by unfold L2.KOf; refine' K6.ct_mk ?n; (case n => k_is)
      have k_pr : ∃ t, PySem.W.nsIn (L2.KOf KX) mainGlobals "MOST_PRICE" = some (some (.int 9 t)) := by unfold L2.KOf; refine' K6.ct_mk ?n; (case n => k_is)
      have k_wr : ∃ t, PySem.W.nsIn (L2.KOf KX) mainGlobals "WRITE" = some (some (.str (Str.ofString "write") t)) := by unfold L2.KOf; refine' K6.cs_mk ?n; (case n => k_is)
      have k_tr : ∃ t, PySem.W.nsIn (L2.KOf KX) mainGlobals "TRIM" = some (some (.str (Str.ofString "trim") t)) := by unfold L2.KOf; refine' K6.cs_mk ?n; (case n => k_is)
      have k_le : ∃ t, PySem.W.nsIn (L2.KOf KX) mainGlobals "LETTERS" = some (some (.str (Str.ofString "abcdefghijklmnopqrstuvwxyz") t)) := by unfold L2.KOf; refine' K6.cs_mk ?n; (case n => k_is)
      have k_di : ∃ t, PySem.W.nsIn (L2.KOf KX) mainGlobals "DIGITS" = some (some (.str (Str.ofString "0123456789") t)) := by unfold L2.KOf; refine' K6.cs_mk ?n; (case n => k_is)
      have z_len : PySem.W.nsIn (L2.KOf KX) mainGlobals "len" = some none := by unfold L2.KOf; k_is
      have z_int : PySem.W.nsIn (L2.KOf KX) mainGlobals "int" = some none := by unfold L2.KOf; k_is
      have z_abs : PySem.W.nsIn (L2.KOf KX) mainGlobals "abs" = some none := by unfold L2.KOf; k_is
      have z_repr : PySem.W.nsIn (L2.KOf KX) mainGlobals "repr" = some none := by unfold L2.KOf; k_is
      have z_isi : PySem.W.nsIn (L2.KOf KX) mainGlobals "isinstance" = some none := by unfold L2.KOf; k_is
      have z_range : PySem.W.nsIn (L2.KOf KX) mainGlobals "range" = some none := by unfold L2.KOf; k_is
      have z_max : PySem.W.nsIn (L2.KOf KX) mainGlobals "max" = some none := by unfold L2.KOf; k_is
      have z_min : PySem.W.nsIn (L2.KOf KX) mainGlobals "min" = some none := by unfold L2.KOf; k_is
      have z_all : PySem.W.nsIn (L2.KOf KX) mainGlobals "all" = some none := by unfold L2.KOf; k_is
      have z_sum : PySem.W.nsIn (L2.KOf KX) mainGlobals "sum" = some none := by unfold L2.KOf; k_is
      have z_enm : PySem.W.nsIn (L2.KOf KX) mainGlobals "enumerate" = some none := by unfold L2.KOf; k_is
      have z_tup : PySem.W.nsIn (L2.KOf KX) mainGlobals "tuple" = some none := by unfold L2.KOf; k_is
      have z_boo : PySem.W.nsIn (L2.KOf KX) mainGlobals "bool" = some none := by unfold L2.KOf; k_is
      have z_str : PySem.W.nsIn (L2.KOf KX) mainGlobals "str" = some none := by unfold L2.KOf; k_is
      have z_list : PySem.W.nsIn (L2.KOf KX) mainGlobals "list" = some none := by unfold L2.KOf; k_is
      have z_set : PySem.W.nsIn (L2.KOf KX) mainGlobals "set" = some none := by unfold L2.KOf; k_is
      have z_sorted : PySem.W.nsIn (L2.KOf KX) mainGlobals "sorted" = some none := by unfold L2.KOf; k_is
      exact ⟨nC, nW, hW, hT, hD, hM, hI, nP, hPC, hMP, hIP, x0_n, x0_T, x0_f, x0_no, x0_i, x0_t, x0_m, ⟨em0⟩, ns0, q0, q0_m, q1, q1_m, q2, q2_m, q3, q3_m, mk0, hd0, nP0, mk1, hd1, nP1, s0_, d0, d1, d2, d3, d4, d5, d6, d7, d8, d9, d10, d11, d12, d13, d14, d15, d16, d17, d18, d19, d20, d21, d22, d23, d24, d25, d26, d27, d28, d29, d30, d31, d32, d33, d34, d35, d36, d37, d38, k_lb, k_mb, k_lp, k_mp, k_mr, k_ms, k_wh, k_md, k_me, k_mc, k_pr, k_wr, k_tr, k_le, k_di, z_len, z_int, z_abs, z_repr, z_isi, z_range, z_max, z_min, z_all, z_sum, z_enm, z_tup, z_boo, z_str, z_list, z_set, z_sorted⟩
    exact A.law KX G hmg (hT8 _ (by decide)) (hT8 _ (by decide)) (by decide)
