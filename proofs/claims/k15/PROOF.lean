import PyProof.Rows.All
import Wide.All
import OpenK.AllK
import Wide.FinOn
import PyProof.EqAt
import PyProof.EqKinds
import PyProof.TupleCall
import HandS.ForMost
import HandS.DeepEq
import HandS.Deep
import HandS.Wide
import HandS.RaiseMore
import HandS.DictComp
import PyProof.ReprRoads
import PyProof.ReprLen
import HandS.SlotsOwn
import HandS.ClsMeth
import HandS.MakeKw
import HandS.MakeKwOnly
import HandS.Property
import HandS.FStr
import HandS.IsInst
import HandS.TupAny
import HandS.NoneIn
import HandS.CallLocal
import HandS.StrMore
import HandS.Style
import HandS.Flow
import KE.KCallOwn
import HandS.Star
import HandS.OwnEq
import KE.KUnpackStar
import KE.KRevSl
import KE.GoesMore
import HandS.Walk
import HandS.TupMul
import HandS.SetFor
import KE.KTupSum
import PyProof.Rows.CountFlat
import HandS.Exc
import HandS.TupLe
import KE.KDictKeyed
import KE.KDictDisplayH
import HandS.Codes
import KE.RegKIsAll
import PySem.Challenge.RW_spareblocks_k15_sticking_by_own_walk
set_option Elab.async false
set_option linter.all false
set_option maxRecDepth 100000
set_option maxHeartbeats 2000000
/-! The promise of a def that is kept where no repr is under way on the stack (guards empty): repr of a list asks for it. -/
namespace G1
open PySem PySem.Spec PyProof.Rows L2
section
variable {P : Program} {w : World} {K : PySem.W.Frag} {mg : Str → Option Value} {base : Heap}
structure FnG (P : Program) (w : World) (K : PySem.W.Frag) (mg : Str → Option Value) (base : Heap) (k : Nat) (f : Addr) (fd : FuncData) (ps : List Str) (sp : Sp) : Prop where
  len : ∀ vs H Q E, sp vs H Q E → vs.length = ps.length
  run : ∀ (A : Around) (outer : List Env) (s : Shared) (H : Hp) (args : Args) (us : List Value) (vs : List V) (Q : VK) (E : XK), A.guards = some [] →
    Room k A → Env0 P w K mg base A outer s H → BindsTo s fd args (ps.zip us) → Vals vs us → sp vs H Q E → codeAny (model P w) A (.call (.ref f) args) (CR CX0 outer P w H s Q E) s
/-- from the body to the promise -/
theorem okG {x qual : Str} {st : Stmt} {f : Addr} {fd : FuncData} {N ps : List Str} {k : Nat} {sp : Sp} (F : Fun K x qual st f fd) (S : FnScope N ps (defScope st))
    (len : ∀ vs H Q E, sp vs H Q E → vs.length = ps.length)
    (hbody : ∀ (cdv : Value) (A : Around) (outer : List Env) (s : Shared) (H : Hp) (vs : List V) (Q : VK) (E : XK), A.guards = some [] →
      Room k (A.deeper (envOfC qual (defScope st) s.heap.objs.size f cdv)) → sp vs H Q E →
      ∃ t, PSs (cxOf CX0 P w K mg base N qual (defScope st) f cdv A outer s H E).nox (defBody st) t ∧ t { nx := fun _ H' => Q .non H', rt := Q } (start N vs) H) :
    FnG P w K mg base (k + 1) f fd ps sp := by
  obtain ⟨oc, od, kV, doc, pm, an, cdv, ct, osl, rfl, lk, hcd⟩ := F.ex
  constructor
  · exact len
  intro A outer s H args us vs Q E hgu room e0 bnd rel want
  have kin : K.In s.heap := e0.mod.kin.keeps fun b o e => (e0.bs b o e).1
  have nol : s.heap.NoLimit := e0.mod.nolimit.keeps fun b o e => (e0.bs b o e).1
  have kinds : ∀ y ∈ ps.zip us, (defScope st).names.lookup y.1 = some .local ∨
      ((defScope st).names.lookup y.1 = some .cell ∧ ((cellsFrom (s.heap.objs.size + 1) (defScope st).names []).lookup y.1).isSome = true) := by
    rintro ⟨n, v⟩ hy
    cases S.par n (List.of_mem_zip hy).1 with
    | inl q => exact Or.inl q
    | inr q => exact Or.inr ⟨q, PySem.W.cellsFrom_some _ _ _ (Or.inl q)⟩
  refine codeAny_call_function room.depth (kin _ _ lk) rfl S.co S.gen rfl (PySem.W.codeRec_of kin hcd) (bnd _ _ _ _ ?_)
  refine wpAny_newFunctionEnv_cells S.kind kinds fun env henv s1 inc => ?_
  subst henv
  refine ⟨nol.keeps inc.toInCall.keep, codeAny_func ?_⟩
  obtain ⟨t, ht0, hq⟩ := hbody cdv A outer s H vs Q E hgu (room.deeper _) want
  have ht := ht0.nox
  have J0 : Inv (cxOf CX0 P w K mg base N qual (defScope st) f cdv A outer s H E) [] (start N vs) H s1 := inv_start S room.hd e0 (len _ _ _ _ want) rel inc
  refine wpAny_mono (ht.run [] s1 (start N vs) H _ J0 hq) (fun fl s' hs => ?_) fun _ _ z => z
  cases fl with
  | brk => exact (hs.elim fun _ z => z.elim fun _ y => y.2.elim)
  | cont => exact (hs.elim fun _ z => z.elim fun _ y => y.2.elim)
  | next =>
    obtain ⟨σ', H', J, q⟩ := hs
    exact ⟨V.non, H', J.os, J.bare, J.base, J.hok, rfl, q⟩
  | ret u =>
    obtain ⟨v, σ', H', J, rv, q⟩ := hs
    exact ⟨v, H', J.os, J.bare, J.base, J.hok, rv, q⟩
/-- what holds at all callers holds at these -/
theorem FnG.of {k : Nat} {f : Addr} {fd : FuncData} {ps : List Str} {sp : Sp} (F : FnOk P w K mg base CX0 k f fd ps sp) : FnG P w K mg base k f fd ps sp :=
  ⟨F.len, fun A outer s H args us vs Q E _ hr he hb hv hs => F.run A outer s H args us vs Q E hr he hb hv hs⟩
end
section
variable {X : Cx} {k : Nat} {f : Addr} {fd : FuncData} {ps : List Str} {sp : Sp} {x : Str} {p pos : Pos} {e : Expr} {es : List Expr} {t : TA}
theorem runG {pins : List (Addr × Obj)} {σ : L2.St} {H : Hp} {s : Shared} {Q : VK} {us : List Value} {vs : List V} (F : FnG X.prog X.w X.K X.mg X.base k f fd ps sp) (hgu : X.A.guards = some [])
    (hr : Room k X.A) (hb : Binds X.K fd ps []) (I : Inv X pins σ H s) (r : Vals vs us) (h : sp vs H Q E0) :
    wpAny (model X.prog X.w) X.A (call (.ref f) us) (EP X pins σ Q) X.xe s := by
  have hl : us.length = ps.length := by rw [← r.length]; exact F.len _ _ _ _ h
  have bb : BindsTo s fd ⟨us, []⟩ (ps.zip us) := by
    have z := hb s us I.kIn (by rw [List.append_nil]; exact hl)
    rw [List.append_nil] at z
    exact z
  refine wpAny_call (codeAny_mono (F.run X.A X.stack s H ⟨us, []⟩ us vs Q E0 hgu hr I.env0 bb r h) fun r s' hq => ?_)
  match r, hq with
  | .error e, hq => exact (show False from hq).elim
  | .ok (.ret u), hq => exact I.after hq
  | .ok .next, hq => exact (show False from hq).elim
  | .ok .brk, hq => exact (show False from hq).elim
  | .ok .cont, hq => exact (show False from hq).elim
/-- f(e, ..) of such a def -/
theorem pe_callG (F : FnG X.prog X.w X.K X.mg X.base k f fd ps sp) (hgu : X.A.guards = some []) (hr : Room k X.A) (hg : Gl X x) (hm : X.mg x = some (.ref f)) (hk : PySem.W.keepIn X.K (.ref f) = true) (hb : Binds X.K fd ps [])
    (ha : PA X (e :: es) t) (hdb : (x == ("__debug__" : Str)) = false := by decide) (he : starEach (e :: es) X.env = (false, eval e X.env) :: starEach es X.env := by rfl)
    (hpl : (backTo pos (starEach es X.env)).any (·.1) = false := by rfl) : PE X (.Call (.Name x p) (e :: es) [] pos) (tCall sp [] E0 t) := by
  refine ⟨fun pins s σ H Q I h => wpAny_Call_Name_kw (ld_glob I hg hm ?_ hdb)⟩
  refine PySem.W.callWith_K (h₀ := X.base) I.ok.mod.kin hk (thn (ha.run pos pins s σ H _ I h) fun us s1 hh => ?_) he hpl
  obtain ⟨vs, H1, I1, r, q⟩ := hh
  rw [List.append_nil] at q
  exact ⟨I1.kIn, runG F hgu hr hb I1 r q⟩
end
end G1

set_option Elab.async false
set_option linter.all false
set_option maxRecDepth 100000
set_option maxHeartbeats 2000000
/-! The end of a law row from a promise of the kind FnG: at the law's own call no repr is under way. -/
namespace G1
open PySem PySem.Spec PyProof.Rows L2
section
variable {P : Program} {w : World} {K : PySem.W.Frag} {mg mb : Str → Option Value} {k : Nat} {fa a : Addr} {fd : FuncData} {x : Str} {sp : Sp} {m : Shared} {vs : List Value} {ns : List Int}
/-- over an abstract heap in which nothing but the script may be tracked -/
theorem coreG (kin : K.In m.heap) (g1 : m.heap.Ns mainGlobals mg) (g2 : m.heap.Ns builtinsNs mb) (g3 : ∀ y : Str, y ≠ "__name__" → mb y = bootBuiltins y) (nol : m.heap.NoLimit) (gens : m.gens = #[])
    (there : m.heap.get? a = some { cls := .type "list", data := .seq vs.toArray }) (room : Room k callerA)
    (F : ∀ base : Heap, K.In base → base.Ns mainGlobals mg → FnG P w K mg base k fa fd [x] sp) (bnd : ∀ (s : Shared) (u : Value), BindsTo s fd ⟨[u], []⟩ [(x, u)])
    (want : ∀ H : Hp, Only H → SqL K H a (ns.map V.int) → sp [.ref a] H (fun v _ => v = .bl true) fun _ _ _ => False)
    (H : Hp) (only : Only H) (seq : SqL K H a (ns.map V.int)) (ok : HOk P w H m.heap) (one : ∀ y, H y ≠ none → y = a) (apart : H a ≠ none → K.lookup a = none) :
    codeAny (model P w) callerA (.call (.ref fa) ⟨[.ref a], []⟩) (fun r m' => r = .ok (.ret (.bool true)) ∧ OldK m.heap m'.heap ∧ m'.os = m.os ∧ AllBare m'.gens) m := by
  have hid : ∀ {y : Addr} {o : Obj}, m.heap.get? y = some o → H y = none → (hidT m.heap H).get? y = some o := fun e n => hidT_get e n
  have untr : ∀ y, y ≠ a → H y = none := fun y hy => by
    cases z : H y with
    | none => rfl
    | some u => exact absurd (one y (by rw [z]; simp)) hy
  have nodict : ∀ {y : Addr} {o : Obj} {es : Array DictEntry} {ep : Nat}, m.heap.get? y = some o → o.data = .dict es ep → H y = none := fun {y o es ep} e d => by
    by_cases hy : y = a
    · rw [hy, there] at e
      cases e
      exact absurd (show Data.seq vs.toArray _ = Data.dict es ep from d) (fun z => by cases z)
    · exact untr y hy
  have nsH : ∀ {y : Addr} {f : Str → Option Value}, m.heap.Ns y f → (hidT m.heap H).Ns y f := fun {y f} z => by
    obtain ⟨o, es, ep, e, d, r⟩ := z
    exact ⟨o, es, ep, hid e (nodict e d), d, r⟩
  have kinH : K.In (hidT m.heap H) := fun y o e => by
    refine hid (kin y o e) ?_
    by_cases hy : y = a
    · cases z : H y with
      | none => rfl
      | some u =>
        rw [hy] at z e
        rw [apart (by rw [z]; simp)] at e
        cases e
    · exact untr y hy
  have md : Mod K mg (hidT m.heap H) := by
    obtain ⟨mc, h1, h2⟩ := nol
    exact ⟨kinH, nsH g1, ⟨mb, nsH g2, g3⟩, ⟨mc, nsH h1, h2⟩⟩
  have e0 : Env0 P w K mg (hidT m.heap H) callerA [] m H :=
    ⟨rfl, md, fun y o e => of_hidT e, Nat.le_of_eq (hidT_size _ _), trivial, fun y hy => absurd (show y ∈ ([] : List Addr) from hy) (by simp), ok, .of_eq gens⟩
  have run := (F _ kinH (nsH g1)).run callerA [] m H ⟨[.ref a], []⟩ [.ref a] [.ref a] _ _ rfl room e0 (bnd m (.ref a)) (.cons rfl .nil) (want H only seq)
  refine codeAny_mono run fun r m' h => ?_
  match r, h with
  | .error e, h => exact (show False from h).elim
  | .ok .next, h => exact (show False from h).elim
  | .ok .brk, h => exact (show False from h).elim
  | .ok .cont, h => exact (show False from h).elim
  | .ok (.ret u), h =>
    obtain ⟨v, H', hos, hba, un, ok', rv, q⟩ := h
    obtain rfl : v = .bl true := q
    obtain rfl : u = Value.bool true := rv
    refine ⟨rfl, OldK.of_keep fun y o e => ?_, hos, hba⟩
    rcases only y with z | ⟨ob, xs, z⟩
    · exact un.keep y o e z (fun hm => absurd (show y ∈ ([] : List Addr) from hm) (by simp)) (by simp)
    · obtain ⟨e1, _⟩ := ok y _ z
      obtain ⟨e2, _⟩ := ok' y _ (un.frzs y ob _ z)
      rw [e1] at e
      cases e
      exact e2
theorem callLaw (kin : K.In m.heap) (g1 : m.heap.Ns mainGlobals mg) (g2 : m.heap.Ns builtinsNs mb) (g3 : ∀ y : Str, y ≠ "__name__" → mb y = bootBuiltins y) (nol : m.heap.NoLimit) (gens : m.gens = #[])
    (there : m.heap.get? a = some { cls := .type "list", data := .seq vs.toArray }) (hi : IntsAre vs ns) (hl : ns.length ≤ sizeLine) (room : Room k callerA)
    (F : ∀ base : Heap, K.In base → base.Ns mainGlobals mg → FnG P w K mg base k fa fd [x] sp) (bnd : ∀ (s : Shared) (u : Value), BindsTo s fd ⟨[u], []⟩ [(x, u)])
    (want : ∀ H : Hp, Only H → SqL K H a (ns.map V.int) → sp [.ref a] H (fun v _ => v = .bl true) fun _ _ _ => False) :
    codeAny (model P w) callerA (.call (.ref fa) ⟨[.ref a], []⟩) (fun r m' => r = .ok (.ret (.bool true)) ∧ OldK m.heap m'.heap ∧ m'.os = m.os ∧ AllBare m'.gens) m := by
  have rv := vals_ints hi
  have lv := hi.length
  cases hk : K.lookup a with
  | some o =>
    have e := kin a o hk
    rw [there] at e
    cases e
    refine coreG (ns := ns) kin g1 g2 g3 nol gens there room F bnd want (fun _ => none) (fun _ => .inl rfl) ?_ (fun y u z => ?_) (fun y z => absurd rfl z) fun z => absurd rfl z
    · exact .inr ⟨_, vs.toArray, _, hk, rfl, rfl, rfl, by rw [List.size_toArray, lv]; exact hl, by simpa using rv⟩
    · have z' : (none : Option HO) = some u := z
      cases z'
  | none =>
    refine coreG (ns := ns) kin g1 g2 g3 nol gens there room F bnd want (fun y => if y = a then some (.frz { cls := .type "list", data := .seq vs.toArray } (.lst (ns.map V.int))) else none)
      (fun y => ?_) (.inl (.inr ⟨{ cls := .type "list", data := .seq vs.toArray }, if_pos rfl⟩)) (fun y u z => ?_) (fun y z => ?_) fun _ => hk
    · by_cases hy : y = a
      · exact .inr ⟨_, _, if_pos hy⟩
      · exact .inl (if_neg hy)
    · by_cases hy : y = a
      · have z' := (if_pos hy).symm.trans z
        cases z'
        subst hy
        exact ⟨there, by rw [List.length_map]; exact hl, vs, _, rv, there⟩
      · have z' := (if_neg hy).symm.trans z
        cases z'
    · by_cases hy : y = a
      · exact hy
      · exact absurd (if_neg hy) z
end
/-- what k_head leaves -/
theorem walkG {l : PySem.W.OpenLaw} {n k : Nat} {q : Program} {loose : List Str} {XP : (Str → Option Value) → Heap → Prop} {YP : World → Heap → Prop} {d : DefRec} {K : Params → PySem.W.Frag} {sp : World → Sp} {x : Str}
    (hn : l.most = some n) (hn2 : n ≤ sizeLine) (hdf : d.params.defaults = []) (room : Room k callerA) (hY : ∀ (w : World) (h : Heap), YP w h → (K w.params).In h)
    (F : ∀ (w : World) (mg : Str → Option Value) (fa : Addr) (h : Heap), (K w.params).In h → h.Ns mainGlobals mg → mg d.name = some (.ref fa) →
      ∃ fd : FuncData, (∀ (s : Shared) (u : Value), BindsTo s fd ⟨[u], []⟩ [(x, u)]) ∧ ∀ base : Heap, (K w.params).In base → base.Ns mainGlobals mg → FnG l.prog w (K w.params) mg base k fa fd [x] (sp w))
    (hsp : ∀ (w : World) (H : Hp) (a : Addr) (ns : List Int), ns.length ≤ n → SqL (K w.params) H a (ns.map V.int) → sp w [.ref a] H (fun v _ => v = .bl true) fun _ _ _ => False) :
    PySem.W.WalkO q loose XP YP l.row.toRowW d [] (fun f vs => PySem.call f vs) := by
  refine Att.attach_call hn hdf fun w s₀ s₁ mg mb fa o pm cd doc a vs ns G Y ho hd hcd hmg hobj hints hlen hg => ?_
  have kin := hY w _ Y
  obtain ⟨fd, hb, hF⟩ := F w mg fa _ kin G.T.g hmg
  exact callLaw kin G.T.g G.T.b G.T.builtins G.T.nolimit hg hobj hints (Nat.le_trans hlen hn2) room hF hb fun H _ hS => hsp w H a ns hlen hS
end G1

set_option Elab.async false
set_option linter.all false
set_option maxRecDepth 100000
set_option maxHeartbeats 2000000
/-! repr and == of the values of many kinds. -/
namespace G1
open PySem PySem.Spec PyProof.Rows L2
/-- a value and what it shows -/
inductive Tg (K : PySem.W.Frag) (H : Hp) : V → PyData → Prop
  | dp {v : V} {d : PyData} : Dp K H v d → SeqAt.shaped d = true → PyData.eqv d d = true → d.hasDict = false → Tg K H v d
  | d0 {a : Addr} : H a = some (.dK []) → Tg K H (.ref a) (.dict [])
  | d1 {a : Addr} {x : Str} {i : Int} : H a = some (.dK [(.inr x, .int i)]) → Tg K H (.ref a) (.dict [(.str x, .int i)])
structure Gd (d : PyData) : Prop where
  sh : d.showable = true
  sz : d.shown.length ≤ sizeLine
  dp : d.depth ≤ 60
section
variable {X : Cx} {pins : List (Addr × Obj)} {σ : L2.St} {H : Hp} {s : Shared}
theorem Tg.reads (I : Inv X pins σ H s) {v : V} {d : PyData} {u : Value} (h : Tg X.K H v d) (r : RelV v u) : ∃ as, Reads s.heap u d as ∧ (d.hasDict = true → sysModules ∉ as) := by
  cases h with
  | dp h1 h2 h3 h4 =>
    obtain ⟨as, q⟩ := Dp.reads I _ _ _ h1 r
    exact ⟨as, q, PyData.noDict_hsm h4⟩
  | @d0 a e =>
    cases (show u = Value.ref a from r)
    obtain ⟨_, y, vs, rk, o, es, ep, ho, hx, hd, hl⟩ := (show ObjOk X.prog X.w H s.heap a (.dK []) from I.hok a _ e)
    cases rk
    have ne : a ≠ sysModules := fun z => by rw [z] at y; simp at y
    have e0 : es.toList = [] := by
      have z := hl.2.1
      generalize es.toList = l at z
      cases z
      rfl
    refine ⟨[a] ++ [], Reads.dict (as := []) (bs := []) ho hx.1 hd ?_ ?_, fun _ hm => ?_⟩
    · rw [e0]
      exact ReadsAll.nil
    · rw [e0]
      exact ReadsAll.nil
    · simp at hm
      exact ne hm.symm
  | @d1 a x i e =>
    cases (show u = Value.ref a from r)
    obtain ⟨_, y, vs, rk, o, es, ep, ho, hx, hd, hl⟩ := (show ObjOk X.prog X.w H s.heap a (.dK [(.inr x, .int i)]) from I.hok a _ e)
    have ne : a ≠ sysModules := fun z => by rw [z] at y; simp at y
    obtain ⟨en, t1, t2, e0, e1, e2⟩ : ∃ (en : DictEntry) (t1 t2 : Tok), es.toList = [en] ∧ en.key = .str x t1 ∧ en.val = .int i t2 := by
      have z := hl.2.1
      generalize es.toList = l at z
      cases rk with
      | @cons p q ps qs hp hn =>
        cases hn
        obtain ⟨hp1, t2, hp2⟩ := hp
        cases z with
        | @cons en kv es' kvs' k1 k2 k3 =>
          cases k3
          have k1' : keyIs q.1 en.key = true := k1
          rw [← hp1] at k1'
          rcases keyIs_shape k1' with ⟨j, t, c, _⟩ | ⟨z, t, c, ek⟩
          · cases c
          · cases c
            exact ⟨en, t, t2, rfl, ek, k2.trans hp2⟩
    refine ⟨a :: ([] ++ []) ++ ([] ++ []), Reads.dict ho hx.1 hd ?_ ?_, fun _ hm => ?_⟩
    · rw [e0]
      show ReadsAll s.heap [en.key] [.str x] _
      rw [e1]
      exact .cons (.str x t1) .nil
    · rw [e0]
      show ReadsAll s.heap [en.val] [.int i] _
      rw [e2]
      exact .cons (.int i t2) .nil
    · simp at hm
      exact ne hm.symm
/-- repr(x) -/
def rRepr (K : PySem.W.Frag) : List V → Hp → VK → Prop := fun xs H Q => ∃ (v : V) (d : PyData), xs = [v] ∧ Tg K H v d ∧ Gd d ∧ Q (.str d.shown) H
theorem call_repr (hg : X.A.guards = some []) (hu : X.A.units + 64 < cLine) : CallR X (.builtin "repr") (rRepr X.K) := by
  intro pins s σ H xs us Q I r h
  obtain ⟨v, d, rfl, th, gd, q⟩ := h
  obtain ⟨u, rfl, ru⟩ := vals1 r
  obtain ⟨as, rd, hsm⟩ := th.reads I ru
  cases v with
  | ref a =>
    cases (show u = Value.ref a from ru)
    refine repr_of_reads' rd gd.sh hsm hg (by have := gd.dp; omega) (fun _ _ e => e) (fun h' u tk k => ?_) gd.sz
    exact ⟨.str _, H, I.kept (t' := tk) k, ⟨u, rfl⟩, q⟩
  | non =>
    cases (show u = Value.none from ru)
    cases rd
    exact PySem.P.repr_of_none ⟨.str _, H, I.tok _, ⟨_, rfl⟩, q⟩
  | bl b =>
    cases (show u = Value.bool b from ru)
    cases rd
    refine PySem.P.repr_of_bool ⟨.str _, H, I.tok _, ⟨_, rfl⟩, ?_⟩
    rw [PyData.shown_bool] at q
    cases b <;> exact q
  | int i =>
    obtain ⟨t, e⟩ := (show ∃ t, u = Value.int i t from ru)
    cases e
    cases rd
    have z : i.natAbs.log2 < 1920 := of_decide_eq_true gd.sh
    exact PySem.P.repr_of_int z ⟨.str _, H, I.tok _, ⟨_, rfl⟩, q⟩
  | str x =>
    obtain ⟨t, e⟩ := (show ∃ t, u = Value.str x t from ru)
    cases e
    cases rd
    refine PySem.P.repr_of_str ⟨.str _, H, I.tok _, ⟨_, rfl⟩, ?_⟩ ?_
    · rw [PyData.shown_str] at q
      exact q
    · have z := gd.sz
      rw [PyData.shown_str] at z
      exact z
  | byt b =>
    obtain ⟨t, e⟩ := (show ∃ t, u = Value.bytes b t from ru)
    cases e
    cases rd
  | flt b =>
    obtain ⟨t, e⟩ := (show ∃ t, u = Value.float b t from ru)
    cases e
    cases rd
  | ty n =>
    cases (show u = Value.type n from ru)
    cases rd
/-- x == y, both the same thing -/
def rEqSame (K : PySem.W.Frag) : R2 := fun x y H Q => x = y ∧ (∃ d, Tg K H x d) ∧ Q (.bl true) H
theorem op_eqSame (hu : X.A.units + 64 < cLine) : OpR X (compareOp .Eq) (rEqSame X.K) := by
  intro pins s σ H x y v u Q I rx ry h
  obtain ⟨rfl, ⟨d, th⟩, q⟩ := h
  cases th with
  | dp h1 h2 h3 h4 => exact op_eqD hu pins s σ H x x v u Q I rx ry ⟨d, d, h1, h1, h2, h2, by rw [h3]; exact q⟩
  | @d0 a e => exact op_eqV hu pins s σ H _ _ v u Q I rx ry ⟨1, by decide, .inr ⟨a, a, _, _, rfl, rfl, e, e, rfl, fun p hp => by cases hp⟩, q⟩
  | @d1 a x i e =>
    refine op_eqV hu pins s σ H _ _ v u Q I rx ry ⟨1, by decide, .inr ⟨a, a, _, _, rfl, rfl, e, e, rfl, fun p hp => ?_⟩, q⟩
    have ep : p = (.inr x, .int i) := List.mem_singleton.mp hp
    subst ep
    exact ⟨.int i, by simp [valV], .inl ⟨rfl, rfl⟩⟩
end
end G1

set_option Elab.async false
set_option linter.all false
set_option maxRecDepth 100000
set_option maxHeartbeats 2000000
/-! Special methods of own classes: str, len, truth, ==, !=. -/
namespace G2
open PySem PySem.Spec PyProof.Rows L2 Builtin
section
variable {X : Cx} {CX : CXT} {n : Nat} {C g : Addr} {sp : Sp} {E : XK}
def rStrO (C : Addr) (sp : Sp) (E : XK) : List V → Hp → VK → Prop := fun xs H Q => ∃ a dx fs, xs = [.ref a] ∧ H a = some (.ins C dx fs) ∧ sp [.ref a] H (fun z H' => ∃ x, z = .str x ∧ Q z H') E
theorem call_strO (hs : PySem.W.findIn X.K (.ref C) "__str__" = some (some (.ref g))) (hf : PySem.W.isFn X.K (.ref g) = true) (F : FnR X.prog X.w X.K X.mg X.base CX n g sp) (hr : Room (n + 2) X.A) (hx : Passes CX X E) : CallR X (.type "str") (rStrO C sp E) := by
  intro pins s σ H xs us Q I r h
  obtain ⟨a, dx, fs, rfl, ha, q⟩ := h
  obtain ⟨u, rfl, ru⟩ := r.one
  cases (show u = Value.ref a from ru)
  obtain ⟨mA, J, _⟩ := ins_get I.hok ha
  obtain ⟨od, J, _⟩ := J.look
  have hr2 : Room n X.A.in1.in1 := (show Room (n + 1) X.A.in1 from Room.in1 hr).in1
  refine PySem.W.kso_call hr2.units0 I.kIn J hs hf (wpAny_mono (wpAny_call (SlX.run_at (us := [.ref a]) (ws := [.ref a]) F hr2 I.env0.in1.in1 hx I (.cons rfl .nil) q)) (fun w s' z => ?_) fun _ _ x => x)
  obtain ⟨z', H', I', rz, i, ei, qz⟩ := z
  subst ei
  obtain ⟨t, e⟩ := (show ∃ t, w = Value.str i t from rz)
  cases e
  exact ⟨.str i, H', I', ⟨t, rfl⟩, qz⟩
def rLenO (C : Addr) (sp : Sp) (E : XK) : List V → Hp → VK → Prop := fun xs H Q => ∃ a dx fs, xs = [.ref a] ∧ H a = some (.ins C dx fs) ∧ sp [.ref a] H (fun z H' => ∃ i : Int, z = .int i ∧ 0 ≤ i ∧ i < 2 ^ 63 ∧ Q z H') E
theorem call_lenO (hs : PySem.W.findIn X.K (.ref C) "__len__" = some (some (.ref g))) (hf : PySem.W.isFn X.K (.ref g) = true) (F : FnR X.prog X.w X.K X.mg X.base CX n g sp) (hr : Room (n + 1) X.A) (hx : Passes CX X E) : CallR X (.builtin "len") (rLenO C sp E) := by
  intro pins s σ H xs us Q I r h
  obtain ⟨a, dx, fs, rfl, ha, q⟩ := h
  obtain ⟨u, rfl, ru⟩ := r.one
  cases (show u = Value.ref a from ru)
  obtain ⟨mA, J, _⟩ := ins_get I.hok ha
  obtain ⟨od, J, _⟩ := J.look
  have hr1 : Room n X.A.in1 := Room.in1 hr
  obtain ⟨m, hF⟩ := I.fr
  refine PySem.W.len_K hF I.ok.mod.kin J hs hf (wpAny_mono (wpAny_call (SlX.run_at (us := [.ref a]) (ws := [.ref a]) F hr1 I.env0.in1 hx I (.cons rfl .nil) q)) (fun w s' z => ?_) fun _ _ x => x)
  obtain ⟨z', H', I', rz, i, ei, i0, i1, qz⟩ := z
  subst ei
  obtain ⟨t, e⟩ := (show ∃ t, w = Value.int i t from rz)
  cases e
  exact ⟨⟨i0, i1⟩, .int i, H', I'.tok _, ⟨_, rfl⟩, qz⟩
/-- the truth of an instance with a len of its own -/
theorem len_body {prog : Program} {w : World} {A : Around} {E : Value → Shared → Prop} {s : Shared} {K : PySem.W.Frag} {x C L f : Addr} {ox : Obj} {od : Option Obj} {Q : Bool → Shared → Prop} (X : K.In s.heap) (I : PySem.W.InstAt s.heap x ox C od)
    (hb : PySem.W.findIn K (.ref C) "__bool__" = some none) (hs : PySem.W.findIn K (.ref C) "__len__" = some (some (.ref f))) (hf : PySem.W.isFn K (.ref f) = true)
    (h : wpAny (model prog w) A.in1 (call (.ref f) [.ref x]) (fun v s' => ∃ (n : Int) (t : Tok), v = .int n t ∧ 0 ≤ n ∧ n < 2 ^ 63 ∧ Q (n != 0) { s' with toks := s'.toks + 1 }) E s) :
    wpAny (model prog w) A (truthy (.ref x)) Q E s := by
  have key : wpAny (model prog w) A (runValue (.builtin "len" ⟨[.ref x], []⟩)) (fun r s' => ∃ (n : Int) (t : Tok), r = .int n t ∧ Q (n != 0) s') E s := by
    refine wpAny_runValue (codeAny_builtin entry_len ?_)
    rw [Around.under_plainId plain_len _]
    unfold Builtin.«len»
    refine wpAny_bind (m := oneArg "len" _) (wpAny_pure ?_)
    refine wpAny_bind (m := callSpecial? (.ref x) (Str.ofString "__len__")) (PySem.W.special_fn X I hs (beq_iff_eq.mp hf) (wpAny_mono h (fun r s' hr => ?_) fun _ _ y => y))
    obtain ⟨n, t, rfl, h0, h1, hq⟩ := hr
    refine wpAny_bind (wpAny_holding (wpAny_pure ?_))
    refine wpAny_bind (wpAny_letGo ?_)
    show wpAny _ _ (if n < 0 then _ else _) _ _ _
    rw [if_neg (by omega)]
    show wpAny _ _ (if n ≥ 2 ^ 63 then _ else _) _ _ _
    rw [if_neg (by omega)]
    exact wpAny_bind (wpAny_mkInt (wpAny_pure ⟨n, _, rfl, hq⟩))
  unfold truthy
  refine wpAny_bind (m := callSpecial? (.ref x) (Str.ofString "__bool__")) (wpAny_bind (wpAny_bind (I.type.here ((PySem.W.looks_findIn X hb).here (wpAny_pure ?_)))))
  refine wpAny_bind (wpAny_bind (I.type.here ((PySem.W.looks_findIn X hs).here ?_)))
  refine wpAny_bind (wpAny_mono key (fun r s' hr => ?_) fun _ _ e => e)
  obtain ⟨n, t, rfl, hq⟩ := hr
  exact wpAny_pure hq
def rTruO (C : Addr) (sp : Sp) (E : XK) : V → Hp → (Bool → Hp → Prop) → Prop := fun x H Q => ∃ a dx fs, x = .ref a ∧ H a = some (.ins C dx fs) ∧ sp [.ref a] H (fun z H' => ∃ i : Int, z = .int i ∧ 0 ≤ i ∧ i < 2 ^ 63 ∧ Q (i != 0) H') E
theorem tru_lenO (hb : PySem.W.findIn X.K (.ref C) "__bool__" = some none) (hs : PySem.W.findIn X.K (.ref C) "__len__" = some (some (.ref g))) (hf : PySem.W.isFn X.K (.ref g) = true) (F : FnR X.prog X.w X.K X.mg X.base CX n g sp) (hr : Room (n + 1) X.A) (hx : Passes CX X E) :
    TruR X (rTruO C sp E) := by
  intro pins s σ H x v Q I rx h
  obtain ⟨a, dx, fs, rfl, ha, q⟩ := h
  cases (show v = Value.ref a from rx)
  obtain ⟨mA, J, _⟩ := ins_get I.hok ha
  obtain ⟨od, J, _⟩ := J.look
  have hr1 : Room n X.A.in1 := Room.in1 hr
  refine len_body (L := 0) I.kIn J hb hs hf (wpAny_mono (wpAny_call (SlX.run_at (us := [.ref a]) (ws := [.ref a]) F hr1 I.env0.in1 hx I (.cons rfl .nil) q)) (fun w s' z => ?_) fun _ _ x => x)
  obtain ⟨z', H', I', rz, i, ei, i0, i1, qz⟩ := z
  subst ei
  obtain ⟨t, e⟩ := (show ∃ t, w = Value.int i t from rz)
  exact ⟨i, t, e, i0, i1, H', I'.tok _, qz⟩
theorem pt_truO {a : Expr} {ta : TE} {r : V → Hp → (Bool → Hp → Prop) → Prop} (T : TruR X r) (ha : PE X a ta) (he : ∀ whole, isTrue a X.env whole = (do let v ← whole; standAt a.pos; holding [v] (truthy v))) :
    PT X a (fun σ H Q => ta σ H fun x H' => r x H' Q) := by
  refine ⟨fun pins s σ H Q I h => ?_⟩
  exact isTrue_plain (thn (ha.run pins s σ H _ I h) fun v s1 ⟨x, H1, I1, r1, q1⟩ => T pins s1 σ H1 x v Q I1 r1 q1) (he _)
/-! ### == and != -/
/-- the type of a value, and that it is no class below C's -/
def Beside (K : PySem.W.Frag) (C : Addr) (H : Hp) (y : V) : Prop := ∃ t : Value, TyX K H y t ∧ PySem.W.notFirst K C t = true
theorem ty_looks {pins : List (Addr × Obj)} {σ : L2.St} {H : Hp} {s : Shared} {y : V} {u t : Value} (I : Inv X pins σ H s) (r : RelV y u) (h : TyX X.K H y t) : PySem.W.Looks (model X.prog X.w) s.heap (typeOf u) t := by
  obtain ⟨P, Z, p, hx⟩ := kit_of I r h
  exact Z.ty _ _ I.kIn p
def rEqO (K : PySem.W.Frag) (C : Addr) (sp : Sp) (E : XK) : R2 := fun x y H Q => ∃ a dx fs, x = .ref a ∧ H a = some (.ins C dx fs) ∧ Beside K C H y ∧ sp [x, y] H (fun z H' => ∃ b, z = .bl b ∧ Q z H') E
theorem op_eqO (hs : PySem.W.findIn X.K (.ref C) "__eq__" = some (some (.ref g))) (hf : PySem.W.isFn X.K (.ref g) = true) (F : FnR X.prog X.w X.K X.mg X.base CX n g sp) (hr : Room n X.A) (hx : Passes CX X E) : OpR X (compareOp .Eq) (rEqO X.K C sp E) := by
  intro pins s σ H x y v u Q I rx ry h
  obtain ⟨a, dx, fs, rfl, ha, ⟨t, ht, hn⟩, q⟩ := h
  cases (show v = Value.ref a from rx)
  obtain ⟨mA, J, _⟩ := ins_get I.hok ha
  obtain ⟨od, J, _⟩ := J.look
  obtain ⟨m, hF⟩ := I.fr
  show wpAny (model X.prog X.w) X.A (richCompare .Eq (.ref a) u) (EP X pins σ Q) X.xe s
  refine PySem.W.cmp_K (op := .Eq) (tb := t) hr.units0 hF I.ok.mod.kin J (ty_looks I ry ht) hn hs hf ?_
  refine wpAny_mono (wpAny_call (run_fnR (us := [.ref a, u]) (vs := [.ref a, y]) F hr hx I (.cons rfl (.cons ry .nil)) q)) (fun w s' z => ?_) fun _ _ x => x
  obtain ⟨z', H', I', rz, b, eb, qz⟩ := z
  subst eb
  cases (show w = Value.bool b from rz)
  exact ⟨.bl b, H', I', rfl, qz⟩
end
end G2

set_option Elab.async false
set_option linter.all false
set_option maxRecDepth 100000
set_option maxHeartbeats 2000000
/-! != by an own __eq__, and == of another thing with an instance. -/
namespace G2
open PySem PySem.Spec PyProof.Rows L2 Builtin
section
variable {prog : Program} {w : World} {A : Around} {E : Value → Shared → Prop} {s : Shared} {K : PySem.W.Frag} {x C L f : Addr} {h₀ : Heap} {m : Str → Option Value} {ox : Obj} {od : Option Obj} {b tb : Value}
theorem ne_body {Q : Value → Shared → Prop} (hu : A.units < cLine) (X : K.In s.heap) (I : PySem.W.InstAt s.heap x ox C od) (hs : PySem.W.findIn K (.ref C) "__eq__" = some (some (.ref f))) (hf : PySem.W.isFn K (.ref f) = true)
    (h : wpAny (model prog w) A (call (.ref f) [.ref x, b]) (fun v s' => ∃ r, v = .bool r ∧ Q (.bool (!r)) s') E s) :
    wpAny (model prog w) A (Builtin.«object.__ne__» ⟨[.ref x, b], []⟩) (fun fin s' => ∃ v, fin = .done (.ret v) ∧ Q v s') E s := by
  unfold Builtin.«object.__ne__»
  refine wpAny_bind (wpAny_of_eq (a := ((Value.ref x : Value), [b])) (by first | rfl | (simp only [slotArgs]; rfl)) ?_)
  refine wpAny_bind (wpAny_cRoomFor hu ?_)
  refine wpAny_bind (m := callSpecialIfBound? (.ref x) (Str.ofString "__eq__") [b]) (PySem.W.ifBound_K X I hs hf (wpAny_mono h (fun v s' hv => ?_) fun _ _ e => e))
  obtain ⟨r, rfl, hq⟩ := hv
  exact wpAny_bind (wpAny_truthy_bool (wpAny_pure ⟨_, rfl, hq⟩))
theorem ne_try {Q : Option Value → Shared → Prop} (hu : A.units + 1 < cLine) (X : K.In s.heap) (I : PySem.W.InstAt s.heap x ox C od) (hn : PySem.W.findIn K (.ref C) "__ne__" = some (some (.builtin "object.__ne__")))
    (hob : PySem.W.mroIn K C (.type "object") = some true) (hs : PySem.W.findIn K (.ref C) "__eq__" = some (some (.ref f))) (hf : PySem.W.isFn K (.ref f) = true)
    (h : wpAny (model prog w) A.in1 (call (.ref f) [.ref x, b]) (fun v s' => ∃ r, v = .bool r ∧ Q (some (.bool (!r))) s') E s) :
    wpAny (model prog w) A (tryCompare (.ref x) "__ne__" b) Q E s := by
  have isO : PySem.W.Looks (model prog w) s.heap (isInstance (.ref x) (.type "object")) true := I.type.andThen (PySem.W.looks_mroIn X hob)
  have FB := PySem.F.cmp_object
  unfold tryCompare
  refine wpAny_bind ?_
  simp only [callSpecialIfBound?, bindSpecialIfBound?]
  refine wpAny_holding (wpAny_bind (wpAny_bind (wpAny_bind (I.type.here ((PySem.W.looks_findIn X hn).here ?_)))))
  simp only [FB.ne.bind]
  refine wpAny_bind (wpAny_askSetting (wpAny_ite ?_))
  have key : wpAny (model prog w) A (call (.builtin "object.__ne__") ([.ref x] ++ [b])) (fun v s' => ∃ r, v = .bool r ∧ Q (some (.bool r)) s') E s := by
    refine wpAny_call (codeAny_call_builtin FB.ne.plain PySem.F.cmpEntry_ne ?_)
    refine @PySem.W.check_slot (model prog w) _ _ s "object.__ne__" "object" "__ne__" (.ref x) [b] [] _ PySem.F.cmpKind_ne PySem.F.cmpSplit_ne isO (PySem.F.cmpArgs_ne _ _) ?_
    refine wpAny_mono (ne_body (A := A.in1) (Q := fun v s' => ∃ r, v = .bool r ∧ Q (some (.bool r)) s') hu X I hs hf (wpAny_mono h (fun v s' hv => ?_) fun _ _ e => e)) (fun fin s' hv => ?_) fun _ _ e => e
    · obtain ⟨r, rfl, hq⟩ := hv
      exact ⟨r, rfl, _, rfl, hq⟩
    · obtain ⟨v, rfl, hq⟩ := hv
      exact hq
  have fin : wpAny (model prog w) A (call (.builtin "object.__ne__") ([.ref x] ++ [b]) >>= fun v => pure (some v)) (fun r s' => ∃ q, r = some (.bool q) ∧ Q (some (.bool q)) s') E s :=
    wpAny_bind (wpAny_mono key (fun v s' h' => by obtain ⟨r, rfl, hq⟩ := h'; exact wpAny_pure ⟨r, rfl, hq⟩) fun _ _ h' => h')
  have fin2 := wpAny_mono fin (Q' := fun r s' => wpAny (model prog w) A (match r with | some .notImplemented => pure none | none => pure none | some v => pure (some v)) Q E s') (fun r s' h' => by
    obtain ⟨q, rfl, hq⟩ := h'
    exact wpAny_pure hq) fun _ _ h' => h'
  split
  · exact wpAny_bind (wpAny_pure (wpAny_pure fin2))
  · exact wpAny_tryCatch (wpAny_bind (wpAny_pure (wpAny_pure fin2)))
theorem ne_K {Q : Value → Shared → Prop} (hu : A.units + 1 < cLine) (X : K.In s.heap) (I : PySem.W.InstAt s.heap x ox C od) (hb : PySem.W.Looks (model prog w) s.heap (typeOf b) tb) (hnf : PySem.W.notFirst K C tb = true)
    (hn : PySem.W.findIn K (.ref C) "__ne__" = some (some (.builtin "object.__ne__"))) (hob : PySem.W.mroIn K C (.type "object") = some true)
    (hs : PySem.W.findIn K (.ref C) "__eq__" = some (some (.ref f))) (hf : PySem.W.isFn K (.ref f) = true)
    (h : wpAny (model prog w) A.in1 (call (.ref f) [.ref x, b]) (fun v s' => ∃ r, v = .bool r ∧ Q (.bool (!r)) s') E s) : wpAny (model prog w) A (richCompare .NotEq (.ref x) b) Q E s := by
  have one : wpAny (model prog w) A (tryCompare (.ref x) "__ne__" b) (fun r s' => ∃ v, r = some v ∧ Q v s') E s :=
    ne_try hu X I hn hob hs hf (wpAny_mono h (fun v s' hv => by obtain ⟨r, rfl, hq⟩ := hv; exact ⟨r, rfl, _, rfl, hq⟩) fun _ _ e => e)
  unfold richCompare
  simp only [oneThing_ref]
  refine wpAny_holding (wpAny_bind (wpAny_cRoomFor (Nat.lt_of_succ_lt hu) ?_))
  rw [cmpInfo_NotEq]
  dsimp only
  refine wpAny_bind (I.type.here (wpAny_bind (hb.here ?_)))
  split
  · rename_i q
    have e : PySem.W.subIn K tb (.ref C) = some false := by
      rcases Bool.or_eq_true_iff.mp hnf with e | e
      · rw [beq_iff_eq.mp e] at q; simp at q
      · exact beq_iff_eq.mp e
    refine wpAny_bind ((PySem.W.looks_subIn X e).here ?_)
    simp only [Bool.false_eq_true, if_false]
    refine wpAny_bind (wpAny_mono one (fun r s' z => ?_) fun _ _ e => e)
    obtain ⟨v, rfl, hq⟩ := z
    exact wpAny_pure hq
  · refine wpAny_bind (wpAny_pure ?_)
    simp only [Bool.false_eq_true, if_false]
    refine wpAny_bind (wpAny_mono one (fun r s' z => ?_) fun _ _ e => e)
    obtain ⟨v, rfl, hq⟩ := z
    exact wpAny_pure hq
/-- v == x, v of a built-in type that says nothing of it -/
theorem refl_K {v : Value} {T id : String} {Q : Value → Shared → Prop} (hu : A.units < cLine) (X : K.In s.heap) (I : PySem.W.InstAt s.heap x ox C od) (hT : s.TypeIs v T) (slot : Slot T "__eq__" id) (ho : oneThing? .Eq v (.ref x) = none)
    (hsub : PySem.W.subIn K (.ref C) (.type T) = some false) (hs : PySem.W.findIn K (.ref C) "__eq__" = some (some (.ref f))) (hf : PySem.W.isFn K (.ref f) = true)
    (first : wpAny (model prog w) A (call (.builtin id) [v, .ref x]) (fun r s' => r = .notImplemented ∧ s' = s) E s)
    (h : wpAny (model prog w) A (call (.ref f) [.ref x, v]) (fun v s' => ∃ r, v = .bool r ∧ Q (.bool r) s') E s) : wpAny (model prog w) A (richCompare .Eq v (.ref x)) Q E s := by
  unfold richCompare
  simp only [ho]
  refine wpAny_holding (wpAny_bind (wpAny_cRoomFor hu ?_))
  rw [cmpInfo_Eq]
  dsimp only
  refine wpAny_bind (wpAny_typeOf hT (wpAny_bind (I.type.here ?_)))
  rw [if_pos (by rfl)]
  refine wpAny_bind ((PySem.W.looks_subIn X hsub).here ?_)
  simp only [Bool.false_eq_true, if_false]
  have one : wpAny (model prog w) A (tryCompare v "__eq__" (.ref x)) (fun r s' => r = none ∧ s' = s) E s := by
    unfold tryCompare
    refine wpAny_bind (wpAny_callSpecialIfBound?_slot hT slot (wpAny_mono first (fun r s' z => ?_) fun _ _ e => e))
    obtain ⟨rfl, rfl⟩ := z
    exact wpAny_pure ⟨rfl, rfl⟩
  refine wpAny_bind (wpAny_mono one (fun r s' z => ?_) fun _ _ e => e)
  obtain ⟨rfl, rfl⟩ := z
  dsimp only
  rw [if_pos (by rfl)]
  have two : wpAny (model prog w) A (tryCompare (.ref x) "__eq__" v) (fun r s' => ∃ v, r = some v ∧ Q v s') E s' := by
    unfold tryCompare
    refine wpAny_bind (PySem.W.ifBound_K X I hs hf (wpAny_mono h (fun v s' hv => ?_) fun _ _ e => e))
    obtain ⟨r, rfl, hq⟩ := hv
    exact wpAny_pure ⟨_, rfl, hq⟩
  refine wpAny_bind (wpAny_mono two (fun r s' z => ?_) fun _ _ e => e)
  obtain ⟨v, rfl, hq⟩ := z
  exact wpAny_pure hq
end
section
variable {X : Cx} {CX : CXT} {n : Nat} {C g : Addr} {sp : Sp} {E : XK}
def rNeO (K : PySem.W.Frag) (C : Addr) (sp : Sp) (E : XK) : R2 := fun x y H Q => ∃ a dx fs, x = .ref a ∧ H a = some (.ins C dx fs) ∧ Beside K C H y ∧ sp [x, y] H (fun z H' => ∃ b, z = .bl b ∧ Q (.bl (!b)) H') E
theorem op_neO (hn : PySem.W.findIn X.K (.ref C) "__ne__" = some (some (.builtin "object.__ne__"))) (hob : PySem.W.mroIn X.K C (.type "object") = some true)
    (hs : PySem.W.findIn X.K (.ref C) "__eq__" = some (some (.ref g))) (hf : PySem.W.isFn X.K (.ref g) = true) (F : FnR X.prog X.w X.K X.mg X.base CX n g sp) (hr : Room (n + 1) X.A) (hx : Passes CX X E) : OpR X (compareOp .NotEq) (rNeO X.K C sp E) := by
  intro pins s σ H x y v u Q I rx ry h
  obtain ⟨a, dx, fs, rfl, ha, ⟨t, ht, hnf⟩, q⟩ := h
  cases (show v = Value.ref a from rx)
  obtain ⟨mA, J, _⟩ := ins_get I.hok ha
  obtain ⟨od, J, _⟩ := J.look
  have hr1 : Room n X.A.in1 := Room.in1 hr
  show wpAny (model X.prog X.w) X.A (richCompare .NotEq (.ref a) u) (EP X pins σ Q) X.xe s
  refine ne_K (tb := t) hr1.units0 I.kIn J (ty_looks I ry ht) hnf hn hob hs hf ?_
  refine wpAny_mono (wpAny_call (SlX.run_at (us := [.ref a, u]) (ws := [.ref a, y]) F hr1 I.env0.in1 hx I (.cons rfl (.cons ry .nil)) q)) (fun w s' z => ?_) fun _ _ x => x
  obtain ⟨z', H', I', rz, b, eb, qz⟩ := z
  subst eb
  cases (show w = Value.bool b from rz)
  exact ⟨b, rfl, .bl (!b), H', I', rfl, qz⟩
end
end G2

set_option Elab.async false
set_option linter.all false
set_option maxRecDepth 100000
set_option maxHeartbeats 2000000
namespace G2
open PySem PySem.Spec PyProof.Rows L2 Builtin
section
variable {prog : Program} {w : World} {A : Around} {E : Value → Shared → Prop} {s : Shared} {K : PySem.W.Frag} {x C L f a : Addr} {ox : Obj} {od : Option Obj}
theorem none_first (hx : s.heap.get? x = some ox) : wpAny (model prog w) A (call (.builtin "NoneType.__eq__") [.none, .ref x]) (fun r s' => r = .notImplemented ∧ s' = s) E s := by
  refine GQ.call_here PySem.F.slot_NoneType_eq rfl PySem.F.entry_NoneType_eq (PySem.F.args_NoneType_eq_2 _ _) ?_
  obtain ⟨hp, g, d, tk, os⟩ := s
  unfold Builtin.«NoneType.__eq__»
  repeat (first | with_reducible refine wpAny_loadPart_at hx ?_ | wp_step)
  all_goals first | exact ⟨rfl, rfl⟩ | skip
theorem int_first {i : Int} {t : Tok} (hx : s.heap.get? x = some ox) (hd : ox.data = .plain) : wpAny (model prog w) A (call (.builtin "int.__eq__") [.int i t, .ref x]) (fun r s' => r = .notImplemented ∧ s' = s) E s := by
  refine GQ.call_here PySem.F.slot_int_eq rfl PySem.F.entry_int_eq (PySem.F.args_int_eq_2 _ _) ?_
  obtain ⟨hp, g, d, tk, os⟩ := s
  obtain ⟨oc, odd, oda, osl⟩ := ox
  dsimp only at hd
  subst hd
  unfold Builtin.«int.__eq__»
  repeat (first | with_reducible refine wpAny_loadPart_at hx ?_ | with_reducible refine wpAny_load hx ?_ | wp_step)
  all_goals first | exact ⟨rfl, rfl⟩ | skip
theorem bool_first {b : Bool} (hx : s.heap.get? x = some ox) (hd : ox.data = .plain) : wpAny (model prog w) A (call (.builtin "int.__eq__") [.bool b, .ref x]) (fun r s' => r = .notImplemented ∧ s' = s) E s := by
  refine GQ.call_here PySem.F.slot_bool_eq rfl PySem.F.entry_int_eq (PySem.F.args_int_eq_2 _ _) ?_
  obtain ⟨hp, g, d, tk, os⟩ := s
  obtain ⟨oc, odd, oda, osl⟩ := ox
  dsimp only at hd
  subst hd
  unfold Builtin.«int.__eq__»
  repeat (first | with_reducible refine wpAny_loadPart_at hx ?_ | with_reducible refine wpAny_load hx ?_ | wp_step)
  all_goals first | exact ⟨rfl, rfl⟩ | skip
theorem str_first {z : Str} {t : Tok} (hx : s.heap.get? x = some ox) (hd : ox.data = .plain) : wpAny (model prog w) A (call (.builtin "str.__eq__") [.str z t, .ref x]) (fun r s' => r = .notImplemented ∧ s' = s) E s := by
  refine GQ.call_here PySem.F.slot_str_eq rfl PySem.F.entry_str_eq (PySem.F.args_str_eq_2 _ _) ?_
  obtain ⟨hp, g, d, tk, os⟩ := s
  obtain ⟨oc, odd, oda, osl⟩ := ox
  dsimp only at hd
  subst hd
  unfold Builtin.«str.__eq__»
  repeat (first | with_reducible refine wpAny_loadPart_at hx ?_ | with_reducible refine wpAny_load hx ?_ | wp_step)
  all_goals first | exact ⟨rfl, rfl⟩ | skip
theorem tup_first {o : Obj} (ha : s.heap.get? a = some o) (hc : o.cls = .type "tuple") (X : K.In s.heap) (I : PySem.W.InstAt s.heap x ox C od) (hs : PySem.W.subIn K (.ref C) (.type "tuple") = some false) :
    wpAny (model prog w) A (call (.builtin "tuple.__eq__") [.ref a, .ref x]) (fun r s' => r = .notImplemented ∧ s' = s) E s := by
  refine GQ.call_here PySem.F.slot_tuple_eq ⟨o, ha, hc⟩ PySem.F.entry_tuple_eq (PySem.F.args_tuple_eq_2 _ _) ?_
  have isO : PySem.W.Looks (model prog w) s.heap (isInstance (.ref x) (.type "tuple")) false := I.type.andThen (PySem.W.looks_subIn X hs)
  unfold Builtin.«tuple.__eq__»
  refine wpAny_bind (wpAny_of_eq (a := ((Value.ref a : Value), [Value.ref x])) (by first | rfl | (simp only [slotArgs]; rfl)) ?_)
  refine wpAny_bind (isO.here ?_)
  exact wpAny_pure ⟨rfl, rfl⟩
theorem lst_first {o : Obj} (ha : s.heap.get? a = some o) (hc : o.cls = .type "list") (X : K.In s.heap) (I : PySem.W.InstAt s.heap x ox C od) (hs : PySem.W.subIn K (.ref C) (.type "list") = some false) :
    wpAny (model prog w) A (call (.builtin "list.__eq__") [.ref a, .ref x]) (fun r s' => r = .notImplemented ∧ s' = s) E s := by
  refine GQ.call_here PySem.F.slot_list_eq ⟨o, ha, hc⟩ PySem.F.entry_list_eq (PySem.F.args_list_eq_2 _ _) ?_
  have isO : PySem.W.Looks (model prog w) s.heap (isInstance (.ref x) (.type "list")) false := I.type.andThen (PySem.W.looks_subIn X hs)
  unfold Builtin.«list.__eq__»
  refine wpAny_bind (wpAny_of_eq (a := ((Value.ref a : Value), [Value.ref x])) (by first | rfl | (simp only [slotArgs]; rfl)) ?_)
  refine wpAny_bind (isO.here ?_)
  exact wpAny_pure ⟨rfl, rfl⟩
end
/-- the class is none of the built-in ones -/
structure NoSub (K : PySem.W.Frag) (C : Addr) : Prop where
  non : PySem.W.subIn K (.ref C) (.type "NoneType") = some false
  bl : PySem.W.subIn K (.ref C) (.type "bool") = some false
  int : PySem.W.subIn K (.ref C) (.type "int") = some false
  str : PySem.W.subIn K (.ref C) (.type "str") = some false
  tup : PySem.W.subIn K (.ref C) (.type "tuple") = some false
  lst : PySem.W.subIn K (.ref C) (.type "list") = some false
/-- a thing that is no instance -/
inductive Bare (K : PySem.W.Frag) (H : Hp) : V → Prop
  | non : Bare K H .non
  | bl (b : Bool) : Bare K H (.bl b)
  | int (i : Int) : Bare K H (.int i)
  | str (x : Str) : Bare K H (.str x)
  | tup {a : Addr} {xs : List V} (h : SqT K H a xs) : Bare K H (.ref a)
  | lst {a : Addr} {xs : List V} (h : SqL K H a xs) : Bare K H (.ref a)
section
variable {X : Cx} {CX : CXT} {n : Nat} {C g : Addr} {sp : Sp} {E : XK}
def rEqR (K : PySem.W.Frag) (C : Addr) (sp : Sp) (E : XK) : R2 := fun x y H Q => ∃ a dx fs, y = .ref a ∧ H a = some (.ins C dx fs) ∧ Bare K H x ∧ sp [y, x] H (fun z H' => ∃ b, z = .bl b ∧ Q z H') E
theorem op_eqR (N : NoSub X.K C) (hs : PySem.W.findIn X.K (.ref C) "__eq__" = some (some (.ref g))) (hf : PySem.W.isFn X.K (.ref g) = true) (F : FnR X.prog X.w X.K X.mg X.base CX n g sp) (hr : Room n X.A) (hx : Passes CX X E) : OpR X (compareOp .Eq) (rEqR X.K C sp E) := by
  intro pins s σ H x y v u Q I rx ry h
  obtain ⟨a, dx, fs, rfl, ha, hb, q⟩ := h
  cases (show u = Value.ref a from ry)
  obtain ⟨mA, O, _⟩ := ins_get I.hok ha
  obtain ⟨od, J, _⟩ := O.look
  have hd : (PySem.W.instObj C dx).data = .plain := rfl
  have call2 : wpAny (model X.prog X.w) X.A (call (.ref g) [.ref a, v]) (fun v s' => ∃ r, v = .bool r ∧ EP X pins σ Q (.bool r) s') X.xe s := by
    refine wpAny_mono (wpAny_call (run_fnR (us := [.ref a, v]) (vs := [.ref a, x]) F hr hx I (.cons rfl (.cons rx .nil)) q)) (fun w s' z => ?_) fun _ _ x => x
    obtain ⟨z', H', I', rz, b, eb, qz⟩ := z
    subst eb
    cases (show w = Value.bool b from rz)
    exact ⟨b, rfl, .bl b, H', I', rfl, qz⟩
  show wpAny (model X.prog X.w) X.A (richCompare .Eq v (.ref a)) (EP X pins σ Q) X.xe s
  cases hb with
  | non =>
    cases (show v = Value.none from rx)
    exact refl_K hr.units0 I.kIn J rfl PySem.F.slot_NoneType_eq rfl N.non hs hf (none_first O.obj) call2
  | bl b =>
    cases (show v = Value.bool b from rx)
    exact refl_K hr.units0 I.kIn J rfl PySem.F.slot_bool_eq rfl N.bl hs hf (bool_first O.obj hd) call2
  | int i =>
    obtain ⟨t, e⟩ := (show ∃ t, v = Value.int i t from rx)
    cases e
    exact refl_K hr.units0 I.kIn J rfl PySem.F.slot_int_eq rfl N.int hs hf (int_first O.obj hd) call2
  | str z =>
    obtain ⟨t, e⟩ := (show ∃ t, v = Value.str z t from rx)
    cases e
    exact refl_K hr.units0 I.kIn J rfl PySem.F.slot_str_eq rfl N.str hs hf (str_first O.obj hd) call2
  | @tup b xs hq =>
    cases (show v = Value.ref b from rx)
    obtain ⟨its, rv, ⟨o, ho, hc, _⟩, hz⟩ := I.tuple hq
    exact refl_K hr.units0 I.kIn J ⟨o, ho, hc⟩ PySem.F.slot_tuple_eq rfl N.tup hs hf (tup_first ho hc I.kIn J N.tup) call2
  | @lst b xs hq =>
    cases (show v = Value.ref b from rx)
    obtain ⟨its, rv, pl, hz⟩ := I.list hq
    obtain ⟨o, m, ho, hc, d, q⟩ := pl
    exact refl_K hr.units0 I.kIn J ⟨o, ho, hc⟩ PySem.F.slot_list_eq rfl N.lst hs hf (lst_first ho hc I.kIn J N.lst) call2
end
end G2

set_option Elab.async false
set_option linter.all false
set_option maxRecDepth 100000
set_option maxHeartbeats 2000000
/-! Calls: C(k = v, ..), cls(..), C.m(k = v, ..). -/
namespace G2
open PySem PySem.Spec PyProof.Rows L2 Builtin ClX
section
variable {X : Cx} {CX : CXT} {k i : Nat} {f C p g : Addr} {mc : Value} {fd : FuncData} {ps ks : List Str} {sp : Sp} {dvs : List V} {ds : List Value} {E : XK} {x m : Str} {pp pos apos : Pos} {o e : Expr} {es : List Expr} {kws : List Keyword} {ta : TE} {t tk : TA}
  {gg : List Value → List Value → List Value} {gV : List V → List V → List V}
theorem pe_makeK (M : Mk X.K C f) (F : FnOk X.prog X.w X.K X.mg X.base CX k f fd ps sp) (hr : Room (k + 1) X.A) (hg : Gl X x) (hm : X.mg x = some (.ref C)) (hb : KBn X.K fd ps 1 ks gg gV) (hx : Passes CX X E)
    (hkw : PK X kws tk) (hall : (backToKw pos (keywordEach kws X.env)).all (·.1.isSome) = true := by rfl) (hks : (backToKw pos (keywordEach kws X.env)).filterMap (·.1) = ks := by rfl)
    (hdb : (x == ("__debug__" : Str)) = false := by decide)
    (hpl : ((backTo pos (starEach [] X.env)).any (·.1) || (backToKw pos (keywordEach kws X.env)).any (·.1.isNone)) = false := by rfl) :
    PE X (.Call (.Name x pp) [] kws pos) (tMakeN C 0 ks.length sp gV E tNil tk) := by
  refine ⟨fun pins s σ H Q I h => ?_⟩
  refine wpAny_Call_Name_kw (ld_glob I hg hm ?_ hdb)
  refine PySem.W.callWith_KW0 (h₀ := X.base) I.ok.mod.kin M.kp hall (thn (hkw.run pos pins s σ H _ I h) fun ws s2 ⟨zs, H2, I2, rz, l1, l2, q2⟩ => ⟨I2.kIn, ?_⟩) hpl
  rw [hks]
  exact run_makeN (us := []) (vs := []) M F hr hb hx I2 .nil rz l1 l2 q2
/-- cls(e, ..), cls a local that holds the class at C -/
def tMakeV (i : Nat) (C : Addr) (sp : Sp) (dvs : List V) (E : XK) (t : TA) : TE := fun σ H Q => σ[i]? = some (some (.ref C)) ∧ tMake C sp dvs E t σ H Q
theorem pe_makeV (i : Nat) (M : Mk X.K C f) (F : FnOk X.prog X.w X.K X.mg X.base CX k f fd ps sp) (hr : Room (k + 1) X.A) (hN : X.N[i]? = some x) (hv : Vis X.env.scope x) (hb : Binds X.K fd ps ds) (hd : Vals dvs ds) (hx : Passes CX X E)
    (ha : PA X (e :: es) t) (hdb : (x == ("__debug__" : Str)) = false := by decide) (hcd : (x == ("__classdict__" : Str)) = false := by decide)
    (he : starEach (e :: es) X.env = (false, eval e X.env) :: starEach es X.env := by rfl) (hpl : (backTo pos (starEach es X.env)).any (·.1) = false := by rfl) :
    PE X (.Call (.Name x pp) (e :: es) [] pos) (tMakeV i C sp dvs E t) := by
  refine ⟨fun pins s σ H Q I h => ?_⟩
  obtain ⟨hs, ht⟩ := h
  refine wpAny_Call_Name_kw (thn ((pe_var (pos := pp) hN hv hdb hcd).run pins s σ H (fun v H1 => v = .ref C ∧ H1 = H) I ⟨.ref C, hs, rfl, rfl⟩) fun u s1 ⟨v, H1, I1, r1, q1⟩ => ?_)
  obtain ⟨rfl, rfl⟩ := q1
  cases r1
  refine PySem.W.callWith_K (h₀ := X.base) I.ok.mod.kin M.kp (thn (ha.run pos pins s1 σ _ _ I1 ht) fun us s2 ⟨vs, H2, I2, r, q⟩ => ⟨I2.kIn, ?_⟩) he hpl
  exact run_make M F hr hb hd hx I2 r q
/-- C.m(k = v, ..), m a classmethod -/
def tCMethK (C : Addr) (n : Nat) (sp : Sp) (gV : List V → List V → List V) (E : XK) (ta : TE) (tk : TA) : TE := fun σ H Q => ta σ H fun x H1 => x = .ref C ∧ tk σ H1 fun zs H2 => zs.length = n ∧ sp (gV [.ref C] zs) H2 Q E
theorem pe_cmethK {pl : Sem Bool} (he : PE X o ta) (r : CRead X.K C mc) (c : CMet X.K C mc m p g) (F : FnOk X.prog X.w X.K X.mg X.base CX k g fd ps sp) (hr : Room k X.A) (hb : KBn X.K fd ps 1 ks gg gV) (hx : Passes CX X E) (hkw : PK X kws tk)
    (hall : (backToKw pos (keywordEach kws X.env)).all (·.1.isSome) = true := by rfl) (hks : (backToKw pos (keywordEach kws X.env)).filterMap (·.1) = ks := by rfl)
    (hpl : ((backTo pos (starEach [] X.env)).any (·.1) || (backToKw pos (keywordEach kws X.env)).any (·.1.isNone)) = false := by rfl)
    (ht : eval (.Call (.Attribute o m apos) [] kws pos) X.env = (do
      let ov ← eval o X.env
      standAt apos.atName
      let (f, first) ← holding [ov] (getMethod ov m pl)
      callWith pos f first (backTo pos (starEach [] X.env)) (backToKw pos (keywordEach kws X.env))) := by rfl) :
    PE X (.Call (.Attribute o m apos) [] kws pos) (tCMethK C ks.length sp gV E ta tk) := by
  refine ⟨fun pins s σ H Q I h => ?_⟩
  refine PySem.W.methodCall_KW (pl := pl) (thn (he.run pins s σ H _ I h) fun u s1 ⟨x, H1, I1, rx, ex, q⟩ => ?_) ht
  subst ex
  obtain rfl : u = Value.ref C := rx
  refine getmethcm_ok I1 r c fun s2 I2 => ?_
  refine PySem.W.callWith_of hpl (PySem.W.keeps_M (q := s1.heap.objs.size) (self := .ref C) c.fi) (evalArgs_kw2_nil hall (thn (hkw.run pos _ s2 σ H1 _ I2 q) fun ws s3 ⟨zs, H2, I3, rz, l2, q2⟩ => ⟨⟨pin_at I3, I3.kIn⟩, ?_⟩))
  rw [hks]
  have rr : Vals (gV [V.ref C] zs) (gg [Value.ref C] ws) := hb.rel (.cons rfl .nil) rz
  have e2 : ws.length = ks.length := rz.length.symm.trans l2
  refine thn (Q := EP X ((s1.heap.objs.size, PySem.W.methodObj (.ref g) (.ref C)) :: pins) σ Q) (wpAny_call (PySem.W.method_call (pin_at I3) (codeAny_mono (F.run X.A X.stack s3 H2 ⟨.ref C :: [], ks.zip ws⟩ (gg [Value.ref C] ws) (gV [V.ref C] zs) Q E hr I3.env0 (hb.to s3 [.ref C] ws I3.kIn rfl e2) rr q2) fun r s' hq => ?_))) fun _ _ y => unpinE y
  cases r with
  | error e => exact hx _ σ H2 s3 e s' I3 hq
  | ok fl =>
    cases fl with
    | ret u => exact I3.after hq
    | next => exact False.elim hq
    | brk => exact False.elim hq
    | cont => exact False.elim hq
end
end G2

set_option Elab.async false
set_option linter.all false
set_option maxRecDepth 100000
set_option maxHeartbeats 2000000
/-! head, *lines = a list; xs[1::2] of a list of seven. -/
namespace G2
open PySem PySem.Spec PyProof.Rows L2 Builtin
theorem star1 {prog : Program} {w : World} {A : Around} {E : Value → Shared → Prop} {s : Shared} {l : Addr} {items : Array Value} {Q : List Value → Shared → Prop} (hl : s.heap.IsList l items) (hh : A.handled = none) (hn : 1 ≤ items.size) (hz : items.size ≤ 16384)
    (h : ∀ h₂ tk, (∀ b o, s.heap.get? b = some o → h₂.get? b = some o) → wpAny (model prog w) A (newList (items.toList.drop 1) >>= fun d => pure (items.toList.take 1 ++ [d] ++ [])) Q E { s with heap := h₂, toks := tk }) :
    wpAny (model prog w) A (unpackItems (.ref l) 2 (some 1)) Q E s := by
  have hlt : l ≠ s.heap.objs.size := by obtain ⟨o, ho, _⟩ := hl; exact Nat.ne_of_lt (Heap.lt_size ho)
  unfold unpackItems
  refine wpAny_bind ?_
  unfold notIterableAtAll
  refine wpAny_bind (wpAny_specialOf hl.typeIs slot_list_iter.lookup ?_)
  refine wpAny_pure ?_
  simp only [Bool.false_eq_true, if_false]
  refine wpAny_bind (wpAny_holding (wpAny_pyIter_list hl ?_))
  refine wpAny_bind (wpAny_holding (PySem.W.kun_draw hlt 1 0 _ _ ⟨_, Heap.get?_push_size _ rfl, rfl, rfl⟩ (hl.push _) (by omega) fun h₁ hit₁ hs₁ => ?_))
  have hl₁ : h₁.IsList l items := (hl.push _).extBut hs₁.extBut hlt
  rw [Nat.zero_add] at hit₁
  have hit₁' := hit₁
  obtain ⟨oi, hoi, _⟩ := hit₁'
  have hl₁' := hl₁
  obtain ⟨ol, hol, _⟩ := hl₁'
  rw [List.drop_zero]
  have hfl : (items.toList.take 1).length = 1 := by rw [List.length_take, Array.length_toList]; omega
  rw [if_neg (show ¬ ((items.toList.take 1).length < 1) by rw [hfl]; omega)]
  refine wpAny_bind (wpAny_holding (PySem.W.kun_collect (s := { s with heap := h₁ }) (T := "list_iterator") (.inr (.inr (.inl rfl))) (Walks.list (A := A.in1) hh s.heap.objs.size l hlt items) (fun j u st => st.1.typeIs) (k := 1) (by omega) ⟨hit₁, hl₁⟩ (Heap.lt_size hoi) (Heap.lt_size hol) (fun h₂ tk hk => ?_) (by rw [sizeLine_eq]; omega)))
  show wpAny _ _ (if (items.toList.drop 1).length < 2 - 1 - 1 then _ else _) _ _ _
  rw [if_neg (by omega)]
  show wpAny _ _ (newList ((items.toList.drop 1).take ((items.toList.drop 1).length - (2 - 1 - 1))) >>= fun d => pure (items.toList.take 1 ++ [d] ++ (items.toList.drop 1).drop ((items.toList.drop 1).length - (2 - 1 - 1)))) _ _ _
  rw [show (items.toList.drop 1).length - (2 - 1 - 1) = (items.toList.drop 1).length from rfl, List.take_length, List.drop_length]
  exact h h₂ tk fun b o e => hk b o (Nat.ne_of_lt (Heap.lt_size e)) (hs₁.extBut b o (Nat.ne_of_lt (Heap.lt_size e)) (Heap.get?_push_of_some _ e))
section
variable {X : Cx}
/-- a, *b = a list -/
def gStar (K : PySem.W.Frag) (g1 g2 : TG) : TG := fun v σ H Q => ∃ l x xs, v = .ref l ∧ SqL K H l (x :: xs) ∧ xs.length ≤ 16000 ∧ ∀ p, H p = none → g1 x σ (upd H p (.lst xs)) fun σ1 H1 => g2 (.ref p) σ1 H1 Q
theorem pg_star {a b : Expr} {p1 pos : Pos} {k : Nat} {g1 g2 : TG} (hc : X.calm = true) (h1 : PG X a g1) (h2 : PG X b g2) (hn : (assignEach [a, .Starred b p1] X.env).length = 2 := by rfl)
    (hst : (assignEach [a, .Starred b p1] X.env).findIdx? (·.1) = some 1 := by rfl) (hs : (assignEach [a, .Starred b p1] X.env).map (·.2) = [assign a X.env, assign b X.env] := by rfl) : PG X (.Tuple [a, .Starred b p1] k pos) (gStar X.K g1 g2) := by
  refine ⟨fun pins s σ H v u Q I r hw => ?_⟩
  obtain ⟨l, x, xs, e1, hq, hz, hw⟩ := hw
  subst e1
  cases r
  obtain ⟨its, rv, pl, hz'⟩ := I.list hq
  have hl' : s.heap.IsList l its.toArray := by
    obtain ⟨o, m, e, c, d, q⟩ := pl
    exact ⟨o, e, c, m, q⟩
  cases rv with
  | @cons _ u1 _ us r1 rr =>
    have hlen := rr.length
    rw [PyProof.Rows.assign_Tuple]
    refine wpAny_bind (wpAny_standAt ?_)
    unfold unpack
    rw [hn, hst, hs]
    refine wpAny_bind (wpAny_holding (star1 hl' (I.ok.hd hc) (by simp) (by simp; omega) fun h₂ tk hk => ?_))
    have I1 : Inv X pins σ H { s with heap := h₂, toks := tk } := I.kept (t' := tk) hk
    show wpAny _ _ (newList us >>= fun d => pure ([u1] ++ [d] ++ [])) _ _ _
    refine wpAny_bind (wpAny_newObj_type ?_)
    refine wpAny_pure ?_
    have ok : ObjOk X.prog X.w (upd H h₂.objs.size (.lst xs)) (h₂.push { cls := .type "list", data := .seq us.toArray }) h₂.objs.size (.lst xs) := ⟨by rw [sizeLine_eq]; omega, us, 0, rr, Heap.get?_push_size _ rfl⟩
    have I2 : Inv X pins σ (upd H h₂.objs.size (.lst xs)) { s with heap := h₂.push { cls := .type "list", data := .seq us.toArray }, toks := tk } := I1.laid (t' := tk) (fun b o e => Heap.get?_push_of_some _ e) (Nat.le_refl _) ok
    show wpAny _ _ (assignInOrder [assign a X.env, assign b X.env] [u1, .ref h₂.objs.size]) _ _ _
    refine assignInOrder_cons (thn (h1.run pins _ σ _ _ _ _ I2 r1 (hw _ (I1.hok.fresh (Nat.le_refl _)))) fun _ s1 ⟨σ1, H1, I3, q1⟩ => ?_)
    refine assignInOrder_cons (thn (h2.run pins s1 σ1 H1 (.ref h₂.objs.size) _ Q I3 rfl q1) fun _ s2 ⟨σ2, H2, I4, q2⟩ => ?_)
    exact assignInOrder_nil ⟨σ2, H2, I4, q2⟩
/-- xs[1::2], xs of seven items -/
def tOdd (K : PySem.W.Frag) (te : TE) : TE := fun σ H Q => te σ H fun x H1 => ∃ l a b c d e f g, x = .ref l ∧ SqL K H1 l [a, b, c, d, e, f, g] ∧ ∀ p, H1 p = none → Q (.ref p) (upd H1 p (.lst [b, d, f]))
theorem pick7 (a b c d e f g : Value) : slicePick #[a, b, c, d, e, f, g] (some 1) none (some 2) = #[b, d, f] := by
  unfold slicePick
  show ((sliceRange _ _ _).filterMap (#[a, b, c, d, e, f, g][·]?)).toArray = _
  have h : sliceRange 1 7 2 = [1, 3, 5] := by decide +kernel
  show ((sliceRange 1 7 2).filterMap (#[a, b, c, d, e, f, g][·]?)).toArray = _
  rw [h]
  rfl
theorem pe_odd {e : Expr} {te : TE} {k1 k2 : Nat} {p1 p2 p3 pos : Pos} (he : PE X e te) : PE X (.Subscript e (.Slice (some (.Constant (.int 1) k1 p1)) none (some (.Constant (.int 2) k2 p2)) p3) pos) (tOdd X.K te) := by
  refine ⟨fun pins s σ H Q I h => ?_⟩
  refine Subscript_ (thn (he.run pins s σ H _ I h) fun v s1 ⟨x, H1, I1, r1, q1⟩ => ?_)
  obtain ⟨a, x1, x2, x3, x4, x5, x6, x7, ex, hx, q⟩ := q1
  subst ex
  cases r1
  have hst : ∀ (j : Int) (k : Nat) (p : Pos), PO X (some (.Constant (.int j) k p)) (tPart (tC (.int j))) := fun j k p => po_some pe_int
  refine wpAny_Slice (thn ((hst 1 k1 p1).run pins s1 σ H1 (fun o H2 => o = some 1 ∧ H2 = H1) I1 ⟨1, rfl, rfl, rfl⟩) fun vl s2 ⟨l, H2, I2, pl, el, e2⟩ => ?_)
  subst el e2
  refine thn (po_none.run pins s2 σ H2 (fun o H3 => o = none ∧ H3 = H2) I2 ⟨rfl, rfl⟩) fun vu s3 ⟨u, H3, I3, pu, eu, e3⟩ => ?_
  subst eu e3
  refine thn ((hst 2 k2 p2).run pins s3 σ H3 (fun o H4 => o = some 2 ∧ H4 = H3) I3 ⟨2, rfl, rfl, rfl⟩) fun vs s4 ⟨o, H4, I4, ps, eo, e4⟩ => ?_
  subst eo e4
  have I5 : Inv X pins σ H4 { s4 with heap := s4.heap.push { cls := .type "slice", data := .fields #[vl, vu, vs] } } := I4.kept (t' := s4.toks) fun b ob q => Heap.get?_push_of_some _ q
  obtain ⟨its, r, ht, hz⟩ := I5.list hx
  show wpAny (model X.prog X.w) X.A (subscriptTail e (.Slice (some (.Constant (.int 1) k1 p1)) none (some (.Constant (.int 2) k2 p2)) p3) (.ref a) (.ref s4.heap.objs.size)) (EP X pins σ Q) X.xe { s4 with heap := s4.heap.push { cls := .type "slice", data := .fields #[vl, vu, vs] } }
  refine tail_any (ops := [.ref a, .ref s4.heap.objs.size]) ht.isList.typeIs (PySem.slot_list_getitem.lookup) ?_ (by with_unfolding_all rfl)
  have hlen := r.length
  refine wpAny_getItem_list_slice ht.isList (Heap.IsSliceOf.new _ vl vu vs) pl pu ps (by decide) ?_ (by rw [List.size_toArray, ← hlen, sizeLine_eq]; show 7 ≤ _; omega)
  cases r with | cons r1 t => cases t with | cons r2 t => cases t with | cons r3 t => cases t with | cons r4 t => cases t with | cons r5 t => cases t with | cons r6 t => cases t with | cons r7 t => cases t with | nil =>
  rw [pick7]
  refine ⟨.ref _, _, I5.laid (t' := s4.toks) (o := .lst [x2, x4, x6]) (fun b ob q => Heap.get?_push_of_some _ q) (Nat.le_refl _) ?_, rfl, q _ (I5.hok.fresh (Nat.le_refl _))⟩
  exact ⟨by rw [sizeLine_eq]; show 3 ≤ _; omega, _, 0, .cons r2 (.cons r4 (.cons r6 .nil)), Heap.get?_push_size _ rfl⟩
end
end G2

set_option Elab.async false
set_option linter.all false
set_option maxRecDepth 100000
set_option maxHeartbeats 2000000
/-! for i, x in enumerate(a tuple). -/
namespace PySem
open Builtin
open AutoSeq1 (wpAny_loadPart')
set_option maxHeartbeats 4000000 in
theorem meets_enum_tup (l : Addr) (items : Array Value) (n : Nat) (dct : Option Addr) (sl : Array (Option Value)) :
    Meets (Builtin.«enumerate.__new__» ⟨[.type "enumerate", .ref l], []⟩) (fun _ R s => s.heap.get? l = some { cls := .type "tuple", dict := dct, data := .seq items n, slots := sl } ∧
      R (.ok (.ret (.ref (s.heap.push { cls := .type "tuple_iterator", data := .fields #[.ref l, .int 0 0] }).objs.size)))
        { s with heap := (s.heap.push { cls := .type "tuple_iterator", data := .fields #[.ref l, .int 0 0] }).push { cls := .type "enumerate", data := .fields #[.none, .bool false, .ref s.heap.objs.size, rawInt 0, .none, .none] } }) :=
  .of_wp fun prog w A R s h => by
    obtain ⟨hp, g, d, tk, os⟩ := s; obtain ⟨hl, h⟩ := h
    have hsub := sub_enumerate
    have hL : Heap.IsTuple (Shared.heap ⟨hp, g, d, tk, os⟩) l items := ⟨_, hl, rfl, n, rfl⟩
    wp_walk using wpAny_loadPart' hl
    refine wpAny_stack_any fun st => wpAny_pure ?_
    split
    · rename_i c _ _ _ _ _
      cases (c == Value.type "enumerate")
      · wp_walk using wpAny_loadPart' hl, wpAny_pyIter_tuple hL
        exact ⟨_, rfl, h⟩
      · wp_walk using wpAny_loadPart' hl, wpAny_pyIter_tuple hL
        exact ⟨_, rfl, h⟩
    · wp_walk using wpAny_loadPart' hl, wpAny_pyIter_tuple hL
      exact ⟨_, rfl, h⟩
theorem call_enum_tup {prog : Program} {w : World} {A : Around} {E : Value → Shared → Prop} {s : Shared} {l : Addr} {items : Array Value} {Q : Value → Shared → Prop} (hL : s.heap.IsTuple l items)
    (h : ∀ h', IsEnum h' (s.heap.objs.size + 1) s.heap.objs.size 0 .none → h'.IsTupleIter s.heap.objs.size l 0 → h'.objs.size = s.heap.objs.size + 2 →
      (∀ b o, s.heap.get? b = some o → h'.get? b = some o) → Q (.ref (s.heap.objs.size + 1)) { s with heap := h' }) :
    wpAny (model prog w) A (call (.type "enumerate") [.ref l]) Q E s := by
  obtain ⟨⟨c, dct, dt, sl⟩, hl, hc, n, hd⟩ := hL
  replace hc : c = .type "tuple" := hc
  replace hd : dt = .seq items n := hd
  subst hc hd
  refine callType_new F.called_enumerate (by decide) (F.typeCall_enumerate_1 _) (F.newCall_enumerate_1 _) (fun obj => F.args_object_init_2 obj _) F.entry_enumerate_new
    (meets_enum_tup l items n dct sl) ⟨hl, ?_⟩
  have hz : (s.heap.push { cls := .type "tuple_iterator", data := .fields #[.ref l, .int 0 0] }).objs.size = s.heap.objs.size + 1 := Heap.size_push ..
  show _ ∧ _
  rw [hz]
  have he : IsEnum ((s.heap.push { cls := .type "tuple_iterator", data := .fields #[.ref l, .int 0 0] }).push
      { cls := .type "enumerate", data := .fields #[.none, .bool false, .ref s.heap.objs.size, rawInt 0, .none, .none] }) (s.heap.objs.size + 1) s.heap.objs.size 0 .none := by
    have := Heap.get?_push_size (s.heap.push { cls := .type "tuple_iterator", data := .fields #[.ref l, .int 0 0] })
      (o := { cls := .type "enumerate", data := .fields #[.none, .bool false, .ref s.heap.objs.size, rawInt 0, .none, .none] }) rfl
    rw [hz] at this; exact this
  refine ⟨⟨_, he, rfl⟩, h _ he ⟨_, Heap.get?_push_of_some _ (Heap.get?_push_size _ rfl), rfl, rfl⟩ (by rw [Heap.size_push, hz]) fun b o x => Heap.get?_push_of_some _ (Heap.get?_push_of_some _ x)⟩
end PySem
namespace G2
open PySem PySem.Spec PyProof.Rows L2 Builtin
def ItT (K : PySem.W.Frag) (a : Addr) : It :=
  ⟨fun i H => ∃ (xs : List V) (x : V), SqT K H a xs ∧ xs[i]? = some x, fun i H v H' => ∃ T x, v = .ref T ∧ H T = none ∧ H' = upd H T (.tup [.int (i : Nat), x]) ∧ ∀ xs, SqT K H a xs → xs[i]? = some x, fun i H => ∃ xs : List V, SqT K H a xs ∧ xs.length = i⟩
theorem turn_enumT {P : Program} {w : World} {K : PySem.W.Frag} {elts : List Expr} {kk : Nat} {tpos : Pos} (a e it : Addr) (hea : e ≠ a) (hia : a ≠ it) :
    Turn P w K (.Tuple elts kk tpos) (ItT K a) [e, it] e (fun i h => (∃ old, IsEnum h e it ((i : Nat) : Int) old) ∧ h.IsTupleIter it a i ∧ e ≠ it) where
  mem := by simp
  obj := fun i h st b hb => by
    obtain ⟨⟨old, he⟩, ⟨o, ho, hc, hd⟩, _⟩ := st
    have e' : b = e ∨ b = it := by simpa using hb
    rcases e' with z | z
    · rw [z]; exact ⟨_, he, fun v q => nomatch q⟩
    · rw [z]; exact ⟨o, ho, fun v q => by rw [hd] at q; cases q⟩
  keep := fun i h h' st k => let ⟨⟨old, he⟩, hi, hne⟩ := st; ⟨⟨old, k e (by simp) _ he⟩, hi.at fun o q => k it (by simp) o q, hne⟩
  item := by
    intro X hP hw hK hc i pins s σ H E I hf st hg
    subst hP hw hK
    obtain ⟨⟨old, he⟩, hit, hne⟩ := st
    obtain ⟨xs, x, hq, hx⟩ := hg
    obtain ⟨its, rv, p, hz⟩ := I.tuple hq
    obtain ⟨u, hu, ru⟩ := rv.get hx
    have hel : e < s.heap.objs.size := Heap.lt_size he
    have hil : it < s.heap.objs.size := by obtain ⟨_, q, _⟩ := hit; exact Heap.lt_size q
    have hlt : i < its.toArray.size := by
      have z := (List.getElem?_eq_some_iff.mp hu).1
      simpa using z
    refine wpAny_pyNext_enum_itemD (Draws.tuple (A := X.A.in1) (I.ok.hd hc) it a hia its.toArray) he ⟨hit, p⟩ hlt hne (by simp [hne, hea]) fun x' h' tk hPx ho hst' hT hsz hk => ?_
    obtain ⟨hit', p'⟩ := hst'
    have ex : x' = u := by
      have z : its[i]? = some x' := by simpa using hPx
      rw [hu] at z
      exact (Option.some.inj z).symm
    subst ex
    refine ⟨_, rfl, wpAny_letOwnedTupleGo_enum (s := { s with heap := h', toks := tk + 1 }) ho fun h'' he' sb => ?_⟩
    have hT2 : h''.get? s.heap.objs.size = some { cls := .type "tuple", data := .seq #[.int i tk, x'] } := (sb.2 _ (Nat.ne_of_gt hel)).trans hT
    have new : ObjOk X.prog X.w (upd H s.heap.objs.size (.tup [.int (i : Nat), x])) h'' s.heap.objs.size (.tup [.int (i : Nat), x]) :=
      ⟨by show 2 ≤ sizeLine; decide, [.int i tk, x'], .cons ⟨_, rfl⟩ (.cons ru .nil), ⟨_, hT2, rfl, _, rfl⟩⟩
    have I1 : Inv X pins σ (upd H s.heap.objs.size (.tup [.int (i : Nat), x])) { s with heap := h'', toks := tk + 1 } :=
      I.turnedNew (ch := [e, it]) (fun b ob hb q => (sb.2 b (fun z => hb (by simp [z]))).trans (hk b ob (fun z => hb (by simp [z])) (fun z => hb (by simp [z])) q)) hf (Nat.le_refl _) new
    refine ⟨.ref s.heap.objs.size, _, I1, rfl, ⟨_, x, rfl, I.hok.fresh (Nat.le_refl _), rfl, fun ys hy => by rw [I.tuple_inj hy hq]; exact hx⟩, ⟨⟨x', ?_⟩, hit'.at fun o q => (sb.2 it (Ne.symm hne)).trans q, hne⟩, fun b hb => ?_⟩
    · have e1 : ((i + 1 : Nat) : Int) = (i : Int) + 1 := by omega
      rw [e1]; exact he'
    · have hb' : b < s.heap.objs.size := by
        have e' : b = e ∨ b = it := by simpa using hb
        rcases e' with z | z
        · rw [z]; exact hel
        · rw [z]; exact hil
      rw [upd_ne (Nat.ne_of_lt hb')]
      exact (hf b hb).1
  done := by
    intro X hP hw hK hc i pins s σ H E I hf st hg
    subst hP hw hK
    obtain ⟨⟨old, he⟩, hit, hne⟩ := st
    obtain ⟨xs, hq, hx⟩ := hg
    obtain ⟨its, rv, p, hz⟩ := I.tuple hq
    obtain ⟨f0, f1, f2, f3, f4, f5⟩ := hf it (by simp)
    have hl := rv.length
    have hn : i = its.toArray.size := by rw [List.size_toArray, ← hl, hx]
    rw [hn] at hit
    exact wpAny_pyNext_enum_endD (Draws.tuple (A := X.A.in1) (I.ok.hd hc) it a hia its.toArray) he ⟨hit, p⟩ fun h' eb => ⟨rfl, I.turned (t' := s.toks) (fun b o hb q => eb b o hb q) f0 f1 f3 f4 f5⟩
  self := fun A i s Q E st h => let ⟨⟨_, he⟩, _⟩ := st; wpAny_pyIter_enum he h
def iEnumT (K : PySem.W.Frag) (ta : TA) : TI := fun σ H R => ta σ H fun vs H1 => ∃ a xs, vs = [.ref a] ∧ SqT K H1 a xs ∧ R (ItT K a) H1
theorem pi_enumT {X : Cx} {e : Expr} {ta : TA} {p pos tpos : Pos} {elts : List Expr} {kk : Nat} (hg : Gl X "enumerate") (hm : X.mg "enumerate" = none) (ha : PA X [e] ta) (hs : starEach [e] X.env = [(false, eval e X.env)] := by rfl) :
    PI X (.Tuple elts kk tpos) (.Call (.Name "enumerate" p) [e] [] pos) (iEnumT X.K ta) := by
  refine ⟨fun pins s σ H R I h => ?_⟩
  refine Call_ (ld_blt I hg hm boot_enumerate (PyProof.Rows.callWith_type1 (thn (ha.run pos pins s σ H _ I h) fun us s1 ⟨vs, H1, I1, r1, q1⟩ => ?_) hs rfl))
  obtain ⟨a, xs, ex, hq, q⟩ := q1
  subst ex
  cases r1 with
  | cons r rr =>
    cases rr
    cases r
    obtain ⟨its, rv, p', hz⟩ := I1.tuple hq
    have hal : a < s1.heap.objs.size := by obtain ⟨o, ho, _⟩ := id p'; exact Heap.lt_size ho
    refine call_enum_tup p' fun h' he hit hsz hk => wpAny_pyIter_enum he ?_
    have I2 : Inv X pins σ H1 { s1 with heap := h' } := I1.kept (t' := s1.toks) hk
    refine ⟨s1.heap.objs.size + 1, [s1.heap.objs.size + 1, s1.heap.objs.size], _, _, H1, rfl, I2, turn_enumT a (s1.heap.objs.size + 1) s1.heap.objs.size (Nat.ne_of_gt (Nat.lt_succ_of_lt hal)) (Nat.ne_of_lt hal), ⟨⟨.none, he⟩, hit, Nat.succ_ne_self _⟩, fun b hb => ?_, q⟩
    have e' : b = s1.heap.objs.size + 1 ∨ b = s1.heap.objs.size := by simpa using hb
    have hle : s1.heap.objs.size ≤ b := by
      rcases e' with z | z
      · rw [z]; exact Nat.le_add_right _ _
      · rw [z]; exact Nat.le_refl _
    exact I1.fpOk hle (I1.hok.fresh hle)
/-- a loop over enumerate(a tuple) that is run through -/
theorem for_enumT {K : PySem.W.Frag} {a : Addr} {xs : List V} {g : TG} {tb : TS} {D : Ends} {σ : L2.St} {H : Hp} (Pv : Nat → L2.St → Hp → Prop) (h0 : Pv 0 σ H) (hl : ∀ i σ H, Pv i σ H → SqT K H a xs)
    (hs : ∀ i x T σ H, xs[i]? = some x → Pv i σ H → H T = none → g (.ref T) σ (upd H T (.tup [.int (i : Nat), x])) fun σ2 H2 => tb { D with nx := Pv (i + 1), ct := Pv (i + 1), bk := D.nx } σ2 H2)
    (hd : ∀ σ H, Pv xs.length σ H → D.nx σ H) :
    ∃ W : Nat → Nat → L2.St → Hp → Prop, (∃ m, W 0 m σ H) ∧ ∀ i m σ H, W i m σ H →
      ((ItT K a).stop i H ∧ D.nx σ H) ∨ ((ItT K a).go i H ∧ ∃ N : L2.St → Hp → Prop, (∀ σ' H', N σ' H' → ∃ m', m' < m ∧ W (i + 1) m' σ' H') ∧
        ∀ x H', (ItT K a).yld i H x H' → g x σ H' fun σ2 H2 => tb { D with nx := N, ct := N, bk := D.nx } σ2 H2) := by
  refine ⟨fun i m σ H => i + m = xs.length ∧ Pv i σ H, ⟨xs.length, by omega, h0⟩, fun i m σ H hW => ?_⟩
  obtain ⟨e, p⟩ := hW
  by_cases hm : m = 0
  · subst hm
    have e' : i = xs.length := by omega
    subst e'
    exact .inl ⟨⟨xs, hl _ _ _ p, rfl⟩, hd _ _ p⟩
  · have hi : i < xs.length := by omega
    refine .inr ⟨⟨xs, xs[i], hl _ _ _ p, List.getElem?_eq_getElem hi⟩, Pv (i + 1), fun σ' H' q => ⟨m - 1, by omega, by omega, q⟩, fun x H' y => ?_⟩
    obtain ⟨T, x', rfl, hT, rfl, hx⟩ := y
    exact hs i x' T σ H (hx xs (hl _ _ _ p)) p hT
end G2

set_option Elab.async false
set_option linter.all false
set_option maxRecDepth 100000
set_option maxHeartbeats 4000000
/-! sum of a tuple, a tuple once, how often a text stands in a list. -/
namespace G2
open PySem PySem.Spec PyProof.Rows L2 Builtin
section
variable {X : Cx}
def rSumT (K : PySem.W.Frag) : List V → Hp → VK → Prop := fun vs H Q => ∃ (a : Addr) (ns : List Int), vs = [V.ref a] ∧ SqT K H a (ns.map V.int) ∧ Q (.int ns.sum) H
theorem cr_sumT (hc : X.calm = true) : CallR X (.builtin "sum") (rSumT X.K) := by
  intro pins s σ H vs us Q I r h
  obtain ⟨a, ns, rfl, hs, q⟩ := h
  obtain ⟨its, rv, hl, _⟩ := I.tuple hs
  rw [Vals.ref1 r]
  have hi := rv.ints
  obtain ⟨xs, hx⟩ := hi.allInts.items
  have hn : numsOf its.toArray.toList = ns := by rw [show its.toArray.toList = its from rfl, hi.numsOf]
  rw [hx] at hl hn
  rw [nums_intItems] at hn
  refine PySem.W.ktm_sumG (I.ok.hd hc) hl fun h' tk t' hk => ?_
  refine ⟨.int _, H, I.kept hk, ⟨_, rfl⟩, ?_⟩
  rw [preSum_eq, List.take_of_length_le (by simp), hn]
  exact q
def rCntS (K : PySem.W.Frag) : V → List V → Hp → VK → Prop := fun x xs H Q => ∃ (p : Addr) (ys : List Str) (k : Str), x = .ref p ∧ xs = [.str k] ∧ SqL K H p (ys.map V.str) ∧ Q (.int (countIn (.str k) (ys.map PyData.str))) H
theorem mt_scount : MtR X "list.count" (rCntS X.K) := by
  intro pins s σ H x xs v us Q I rx rxs h
  obtain ⟨p, ys, k, rfl, rfl, hs, q⟩ := h
  cases rx
  obtain ⟨u, rfl, ru⟩ := rxs.one
  obtain ⟨t, rfl⟩ := ru
  obtain ⟨its, rv, hl, hlen⟩ := I.list hs
  exact count_list_strs hl.isList rv.strs ⟨.int _, H, I.tok _, ⟨_, rfl⟩, q⟩
theorem count_all (k : Str) : ∀ n : Nat, countIn (.str k) ((List.replicate n k).map PyData.str) = (n : Int)
  | 0 => rfl
  | n + 1 => by
    rw [List.replicate_succ, List.map_cons, countIn, count_all k n]
    simp [same]
    omega
theorem tuple_mul1 (l : Addr) (items : Array Value) (n : Nat) (dd : Option Addr) (sl : Array (Option Value)) (u : Tok) :
    Meets (Builtin.«tuple.__mul__» ⟨[.ref l, .int 1 u], []⟩) (fun _ R s => s.heap.get? l = some { cls := .type "tuple", dict := dd, data := .seq items n, slots := sl } ∧ R (.ok (.ret (Value.ref l))) s) :=
  .of_wp fun prog w A R s h => by
    obtain ⟨hp, g, d, tk, os⟩ := s
    obtain ⟨hl, h⟩ := h
    have f1 := AutoSeq1.idx_int
    wp_walk using wpAny_loadPart' hl
    exact ⟨_, rfl, h⟩
def rRepA (K : PySem.W.Frag) : R2 := fun x y H Q => ∃ l k xs, x = .ref l ∧ y = .int k ∧ SqT K H l xs ∧ xs ≠ [] ∧ 1 ≤ k ∧ k ≤ 1000 ∧ xs.length ≤ 1000 ∧ (k = 1 → Q (.ref l) H) ∧ (2 ≤ k → ∀ p, H p = none → Q (.ref p) (upd H p (.tup (List.replicate k.toNat xs).flatten)))
theorem op_repA : OpR X (binaryOp .Mult) (rRepA X.K) := by
  intro pins s σ H x y v u Q I rx ry h
  obtain ⟨l, k, xs, rfl, rfl, hT, hne, h1, h2, hz, q1, q2⟩ := h
  by_cases hk : 2 ≤ k
  · exact op_repT pins s σ H _ _ v u Q I rx ry ⟨l, k, xs, rfl, rfl, hT, hne, hk, h2, hz, q2 hk⟩
  have e1 : k = 1 := by omega
  subst e1
  cases rx
  obtain ⟨t, rfl⟩ := ry
  obtain ⟨its, r, ⟨⟨cls, dd, data, sl⟩, ho, hc, n, hd⟩, hs⟩ := I.tuple hT
  simp only at hc hd
  subst hc hd
  refine wpAny_binaryOp_repeat_ref (T := "tuple") (U := "int") (by decide) ⟨_, ho, rfl⟩ (fun s' => typeIs_int s' 1 t) noFill_tuple_mul F.fills_int_mul F.slot_int_rmul repeat_tuple F.slot_int_index.lookup
    (call_meets F.slot_int_rmul (typeIs_int s 1 t) F.entry_int_rmul (F.args_int_rmul_2 _ _) (int_rmul_tuple 1 t l its.toArray n dd sl)
      ⟨ho, rfl, ⟨_, ho, rfl⟩, call_meets F.slot_tuple_mul ⟨_, ho, rfl⟩ F.entry_tuple_mul (F.args_tuple_mul_2 _ _) (tuple_mul1 l its.toArray n dd sl t) ⟨ho, ?_⟩⟩)
  exact ⟨.ref l, H, I, rfl, q1 rfl⟩
end
end G2

set_option Elab.async false
set_option linter.all false
set_option maxRecDepth 100000
set_option maxHeartbeats 2000000
namespace K2
open PySem PySem.Spec PyProof.Rows L2 G1 G2
def topS (i : Nat) : Stmt := PySem.Challenge.pw_spareblocks_k15_sticking_by_own_walk.main.body.getD i (.Pass ⟨0, 0, 0, 0⟩)
abbrev sCell : Stmt := topS 51
abbrev sPool : Stmt := topS 52
abbrev sDraw : Stmt := topS 53
/-- the built-in names are still the built-ins -/
structure Bl (mg : Str → Option Value) : Prop where
  len : mg "len" = none
  int : mg "int" = none
  abs : mg "abs" = none
  repr : mg "repr" = none
  isi : mg "isinstance" = none
  range : mg "range" = none
  max : mg "max" = none
  min : mg "min" = none
  all : mg "all" = none
  sum : mg "sum" = none
  enm : mg "enumerate" = none
  tup : mg "tuple" = none
  boo : mg "bool" = none
  str : mg "str" = none
theorem bInt : bootBuiltins "int" = some (.type "int") := by decide +kernel
theorem bAbs : bootBuiltins "abs" = some (.builtin "abs") := by decide +kernel
theorem scCell : FnScope ["_law_cells", "_law_k", "_law_found", "_law_cell_here"] ["_law_cells", "_law_k"] (defScope sCell) :=
  ⟨rfl, rfl, rfl, by decide +kernel, rfl, by decide +kernel, by decide +kernel⟩
theorem scPool : FnScope ["_law_cell_here", "_law_left"] ["_law_cell_here"] (defScope sPool) :=
  ⟨rfl, rfl, rfl, by decide +kernel, rfl, by decide +kernel, by decide +kernel⟩
theorem scDraw : FnScope ["_law_pool_here", "_law_many", "_law_seed", "_law_digit"] ["_law_pool_here", "_law_many"] (defScope sDraw) :=
  ⟨rfl, rfl, rfl, by decide +kernel, rfl, by decide +kernel, by decide +kernel⟩
/-- the number at an index, or a mixed one: some int -/
def spCell (K : PySem.W.Frag) : Sp := fun vs H Q _ => ∃ (l : Addr) (ns : List Int) (k : Nat), vs = [.ref l, .int (k : Int)] ∧ SqL K H l (ns.map V.int) ∧ ns.length ≤ 63 ∧ k ≤ 10 ∧ ∀ (H' : Hp) (i : Int), Same H H' → Q (.int i) H'
def spPool : Sp := fun vs H Q _ => ∃ c : Int, vs = [.int c] ∧ ∀ (p : Addr) (i j n : Int), H p = none → 0 ≤ i → i < 2 ^ 31 → Q (.ref p) (upd H p (.lst [.int i, .int j, .int n]))
/-- a draw changes the pool alone -/
def spDraw : Sp := fun vs H Q _ => ∃ (p : Addr) (m i j n : Int), vs = [.ref p, .int m] ∧ H p = some (.lst [.int i, .int j, .int n]) ∧ 0 ≤ i ∧ i < 2 ^ 31 ∧ 0 < m ∧ m < 2 ^ 60 ∧
  ∀ i' j' n' r : Int, 0 ≤ i' → i' < 2 ^ 31 → 0 ≤ r → r < m → Q (.int r) (upd H p (.lst [.int i', .int j', .int n']))
section
variable {P : Program} {w : World} {K : PySem.W.Frag} {mg : Str → Option Value} {base : Heap}
theorem ok_pool {f : Addr} {fd : FuncData} (F : Fun K "_law_pool" "_law_pool" sPool f fd) (B : Bl mg) : FnOk P w K mg base CX0 1 f fd ["_law_cell_here"] spPool := by
  refine F.ok scPool (fun vs H Q E h => ?_) (fun cdv A outer s H vs Q E hr h => ?_)
  · obtain ⟨c, rfl, _⟩ := h
    rfl
  obtain ⟨c, rfl, k⟩ := h
  refine ⟨_, pss_cons (ps_set (i := 1) scPool.nd rfl (.inl rfl) (pe_ifExp (PW.pt (pw_or (pt_cmpR op_lt (pv 0) pe_int (nomark _)) (pw_or1 (pt_cmpR op_ge (pv 0) (pe_op op_pow pe_int pe_int) (nomark _)))))
      (pe_callB call_abs (by rfl) B.abs bAbs (pa_cons (pv 0) pa_nil)) pe_int))
    (pss_one (ps_ret (pe_lst (pa_cons (pe_op op_mod (pe_callTy call_int1 (by rfl) B.int bInt (pa_cons (pv 0) pa_nil)) pe_int) (pa_cons (pv 1) (pa_cons pe_int pa_nil)))))), ?_⟩
  have rest : ∀ j : Int, tRet (tLst (tCons (tOp (rI (fun _ j => 0 < j) fun i j => .int (i % j)) (tCB (fun xs H Q => (∃ i, xs = [.int i] ∧ Q (.int i) H) ∨ ∃ k, xs = [.bl k] ∧ Q (.int (if k then 1 else 0)) H) (tCons (tVar 0) tNil)) (tC (.int 2147481949)))
      (tCons (tVar 1) (tCons (tC (.int 0)) tNil)))) { nx := fun _ H' => Q .non H', rt := Q } [some (.int c), some (.int j)] H := by
    intro j
    refine ⟨_, rfl, .inl ⟨c, rfl, _, _, rfl, rfl, (by show (0 : Int) < 2147481949; decide), _, rfl, by show 3 ≤ sizeLine; decide, fun p hp => k p _ _ _ hp (Int.emod_nonneg _ (by decide)) ?_⟩⟩
    have := Int.emod_lt_of_pos c (show (0 : Int) < 2147481949 by decide)
    omega
  refine ⟨_, rfl, _, _, rfl, rfl, _, rfl, ite2 (fun _ => ?_) (fun _ => ?_)⟩
  · exact iteT ⟨_, rfl, c, rfl, rest _⟩
  · refine ⟨_, rfl, _, _, rfl, rfl, ⟨by decide, by decide, by decide⟩, _, _, rfl, rfl, _, rfl, ite2 (fun _ => ?_) (fun _ => ?_)⟩
    · exact ⟨_, rfl, c, rfl, rest _⟩
    · exact rest _
theorem emod_box (x m : Int) (h : 0 < m) : 0 ≤ x % m ∧ x % m < m := ⟨Int.emod_nonneg _ (by omega), Int.emod_lt_of_pos _ h⟩
theorem ok_draw {f : Addr} {fd : FuncData} (F : Fun K "_law_draw" "_law_draw" sDraw f fd) (B : Bl mg) : FnOk P w K mg base CX0 1 f fd ["_law_pool_here", "_law_many"] spDraw := by
  refine F.ok scDraw (fun vs H Q E h => ?_) (fun cdv A outer s H vs Q E hr h => ?_)
  · obtain ⟨p, m, i, j, n, rfl, _⟩ := h
    rfl
  obtain ⟨p, m, i, j, n, rfl, hp, i0, i1, m0, m1, k⟩ := h
  refine ⟨_, pss_cons (ps_asg (pe_op op_add (pe_ix ix_list (pv 0) pe_int (fun _ _ => rfl)) pe_int) (pg_sub (pv 0) pe_int set_list))
    (pss_cons (ps_set (i := 2) scDraw.nd rfl (.inl rfl) (pe_op op_mod (pe_callTy call_int1 (by rfl) B.int bInt (pa_cons
        (pe_op op_add (pe_op op_add (pe_op op_mul (pe_ix ix_list (pv 0) pe_int (fun _ _ => rfl)) pe_int) (pe_op op_mul pe_int (pe_ix ix_list (pv 0) pe_int (fun _ _ => rfl)))) pe_int) pa_nil)) pe_int))
    (pss_cons (ps_asg (pe_op op_mod (pe_callTy call_int1 (by rfl) B.int bInt (pa_cons (pe_op op_add (pe_op op_mul (pv 2) (pv 2)) (pe_op op_mul pe_int (pe_ix ix_list (pv 0) pe_int (fun _ _ => rfl)))) pa_nil)) pe_int)
        (pg_sub (pv 0) pe_int set_list))
    (pss_cons (ps_if (pt_cmpR op_gt (pe_ix ix_list (pv 0) pe_int (fun _ _ => rfl)) pe_int (nomark _))
      (pss_cons (ps_set (i := 3) scDraw.nd rfl (.inl rfl) (pe_op op_mod (pe_callTy call_int1 (by rfl) B.int bInt (pa_cons (pe_ix ix_list (pv 0) pe_int (fun _ _ => rfl)) pa_nil)) (pv 1)))
        (pss_cons (ps_asg (pe_op op_fdivW (pe_ix ix_list (pv 0) pe_int (fun _ _ => rfl)) (pv 1)) (pg_sub (pv 0) pe_int set_list))
        (pss_one (ps_ret (pv 3))))) pss_nil)
    (pss_one (ps_ret (pe_op op_mod (pe_callTy call_int1 (by rfl) B.int bInt (pa_cons (pe_op op_fdiv (pe_ix ix_list (pv 0) pe_int (fun _ _ => rfl)) pe_int) pa_nil)) (pv 1))))))), ?_⟩
  -- pool[2] = pool[2] + 1
  refine ⟨_, rfl, p, _, _, .int n, rfl, rfl, SqL.of hp, rfl, _, _, rfl, rfl, _, rfl, p, _, _, 2, rfl, rfl, hp, rfl, ?_⟩
  have h1 : (upd H p (.lst [.int i, .int j, .int (n + 1)])) p = some (.lst [.int i, .int j, .int (n + 1)]) := upd_same
  show tSeq _ _ _ _ (upd H p (.lst [.int i, .int j, .int (n + 1)]))
  generalize e1 : upd H p (.lst [.int i, .int j, .int (n + 1)]) = H1 at h1 ⊢
  -- seed
  refine ⟨_, rfl, p, _, _, .int i, rfl, rfl, SqL.of h1, rfl, _, _, rfl, rfl, .inl ⟨by omega, by omega⟩, _, rfl, p, _, _, .int (n + 1), rfl, rfl, SqL.of h1, rfl, _, _, rfl, rfl, .inl ⟨by decide, by decide⟩,
    _, _, rfl, rfl, _, _, rfl, rfl, .inl ⟨_, rfl, _, _, rfl, rfl, (by show (0 : Int) < 2147481937; decide), ?_⟩⟩
  obtain ⟨s0, s1⟩ := emod_box (i * 46349 + 70001 * (n + 1) + 11) 2147481937 (by decide)
  show tSeq _ _ _ [some (.ref p), some (.int m), some (.int ((i * 46349 + 70001 * (n + 1) + 11) % 2147481937)), none] H1
  generalize (i * 46349 + 70001 * (n + 1) + 11) % 2147481937 = sd at s0 s1 ⊢
  -- pool[0]
  refine ⟨_, rfl, _, rfl, _, _, rfl, rfl, .inl ⟨by omega, by omega⟩, _, rfl, p, _, _, .int (n + 1), rfl, rfl, SqL.of h1, rfl, _, _, rfl, rfl, .inl ⟨by decide, by decide⟩, _, _, rfl, rfl,
    .inl ⟨_, rfl, _, _, rfl, rfl, (by show (0 : Int) < 2147481907; decide), _, rfl, p, _, _, 0, rfl, rfl, h1, rfl, ?_⟩⟩
  obtain ⟨t0, t1⟩ := emod_box (sd * sd + 46301 * (n + 1)) 2147481907 (by decide)
  show tSeq _ _ _ _ (upd H1 p (.lst [.int ((sd * sd + 46301 * (n + 1)) % 2147481907), .int j, .int (n + 1)]))
  generalize (sd * sd + 46301 * (n + 1)) % 2147481907 = i' at t0 t1 ⊢
  have e2 : upd H1 p (.lst [.int i', .int j, .int (n + 1)]) = upd H p (.lst [.int i', .int j, .int (n + 1)]) := by rw [← e1, upd_upd]
  rw [e2]
  have h2 : (upd H p (.lst [.int i', .int j, .int (n + 1)])) p = some (.lst [.int i', .int j, .int (n + 1)]) := upd_same
  refine ⟨_, rfl, p, _, _, .int j, rfl, rfl, SqL.of h2, rfl, _, _, rfl, rfl, _, rfl, ite2 (fun _ => ?_) (fun _ => ?_)⟩
  · refine ⟨_, rfl, p, _, _, .int j, rfl, rfl, SqL.of h2, rfl, .inl ⟨_, rfl, _, rfl, _, _, rfl, rfl, m0, ?_⟩⟩
    obtain ⟨r0, r1⟩ := emod_box j m m0
    refine ⟨_, rfl, p, _, _, .int j, rfl, rfl, SqL.of h2, rfl, _, rfl, _, _, rfl, rfl, wide_div (b := 60) m0 (by omega) (by decide) (by decide), _, rfl, p, _, _, 1, rfl, rfl, h2, rfl, _, rfl, ?_⟩
    have e3 : upd (upd H p (.lst [.int i', .int j, .int (n + 1)])) p (.lst [.int i', .int (j / m), .int (n + 1)]) = upd H p (.lst [.int i', .int (j / m), .int (n + 1)]) := upd_upd
    show Q _ (upd (upd H p (.lst [.int i', .int j, .int (n + 1)])) p (.lst [.int i', .int (j / m), .int (n + 1)]))
    rw [e3]
    exact k _ _ _ _ t0 (by omega) r0 r1
  · refine ⟨_, rfl, p, _, _, .int i', rfl, rfl, SqL.of h2, rfl, _, _, rfl, rfl, ⟨by decide, by decide⟩, .inl ⟨_, rfl, _, rfl, _, _, rfl, rfl, m0, ?_⟩⟩
    obtain ⟨r0, r1⟩ := emod_box (i' / 128) m m0
    exact k _ _ _ _ t0 (by omega) r0 r1
theorem ok_cell {f : Addr} {fd : FuncData} (F : Fun K "_law_cell" "_law_cell" sCell f fd) (B : Bl mg) : FnOk P w K mg base CX0 1 f fd ["_law_cells", "_law_k"] (spCell K) := by
  refine F.ok scCell (fun vs H Q E h => ?_) (fun cdv A outer s H vs Q E hr h => ?_)
  · obtain ⟨l, ns, k, rfl, _⟩ := h
    rfl
  obtain ⟨l, ns, k, rfl, hS, hlen, hk, q⟩ := h
  refine ⟨_, pss_cons (ps_if (pt_cmpR op_lt (pv 1) (pe_callB call_len_seq (by rfl) B.len PySem.boot_len (pa_cons (pv 0) pa_nil)) (nomark _))
      (pss_one (ps_ret (pe_callTy call_int1 (by rfl) B.int bInt (pa_cons (pe_ix ix_list (pv 0) (pv 1) (fun _ _ => rfl)) pa_nil)))) pss_nil)
    (pss_cons (ps_set (i := 2) scCell.nd rfl (.inl rfl) (pe_op op_add pe_int (pe_op op_mul pe_int (pv 1))))
    (pss_cons (ps_for PassesOwn.never rfl (pi_list (pe_slice sl_list (pv 0) po_none (po_some pe_int))) (pg_name (i := 3) scCell.nd rfl (.inl rfl))
      (pss_one (ps_set (i := 2) scCell.nd rfl (.inl rfl) (pe_op op_mod (pe_callTy call_int1 (by rfl) B.int bInt (pa_cons
        (pe_op op_add (pe_op op_mul (pv 2) pe_int) (pe_callTy call_int1 (by rfl) B.int bInt (pa_cons (pv 3) pa_nil))) pa_nil)) pe_int))))
    (pss_one (ps_ret (pe_op op_mod (pe_callTy call_int1 (by rfl) B.int bInt (pa_cons (pe_op op_add (pe_op op_mul (pv 2) (pv 2)) (pe_op op_mul pe_int (pv 1))) pa_nil)) pe_int))))), ?_⟩
  refine ⟨_, rfl, _, rfl, l, _, rfl, .inl hS, _, _, rfl, rfl, _, rfl, ite2 (fun c => ?_) (fun c => ?_)⟩
  · have c' : k < ns.length := by
      have z := of_decide_eq_true c
      rw [List.length_map] at z
      omega
    refine ⟨_, rfl, _, rfl, l, _, _, .int ns[k], rfl, rfl, hS, atI_nat (j := k) ?_, .inl ⟨_, rfl, q H _ (Same.refl H)⟩⟩
    rw [List.getElem?_map, List.getElem?_eq_getElem c']
    rfl
  · refine ⟨_, rfl, _, _, rfl, rfl, .inl ⟨by decide, by decide⟩, _, _, rfl, rfl, ?_⟩
    refine ⟨_, rfl, 5, rfl, l, _, rfl, hS, fun t ht => ?_⟩
    have hT : SqL K (upd H t (.lst (cutV (ns.map V.int) none (some 5)))) t (cutV (ns.map V.int) none (some 5)) := SqL.of upd_same
    have sm : Same H (upd H t (.lst (cutV (ns.map V.int) none (some 5)))) := fun b o e => by
      rw [upd_ne (ne_of_none e ht)]
      exact e
    refine ⟨t, rfl, ⟨_, hT⟩, for_list (K := K) (a := t) (xs := cutV (ns.map V.int) none (some 5))
      (fun i σ H' => ∃ (f : Int) (y : Option V), σ = [some (.ref l), some (.int (k : Int)), some (.int f), y] ∧ 0 ≤ f ∧ f < 2 ^ 31 ∧ H' = upd H t (.lst (cutV (ns.map V.int) none (some 5))))
      ⟨46021 + 733 * (k : Int), none, rfl, by omega, by omega, rfl⟩ (fun i σ H' _ hh => ?_) ?_ ?_⟩
    · obtain ⟨_, _, _, _, _, rfl⟩ := hh
      exact hT
    · rintro i y σ H' hi ⟨f, y0, rfl, f0, f1, rfl⟩
      obtain ⟨z, rfl⟩ : ∃ z, y = V.int z := by
        have hm := List.mem_of_getElem? hi
        unfold cutV at hm
        obtain ⟨z, _, e⟩ := List.mem_map.mp (List.mem_of_mem_drop (List.mem_of_mem_take hm))
        exact ⟨z, e.symm⟩
      refine ⟨_, rfl, _, _, rfl, rfl, .inl ⟨by omega, by omega⟩, _, rfl, .inl ⟨z, rfl, _, _, rfl, rfl, .inl ⟨_, rfl, _, _, rfl, rfl, (by show (0 : Int) < 2147481997; decide), ?_⟩⟩⟩
      obtain ⟨r0, r1⟩ := emod_box (f * 46327 + z) 2147481997 (by decide)
      exact ⟨_, _, rfl, r0, by omega, rfl⟩
    · rintro σ H' ⟨f, y0, rfl, f0, f1, rfl⟩
      refine ⟨_, rfl, _, rfl, _, _, rfl, rfl, .inl ⟨by omega, by omega⟩, _, rfl, _, _, rfl, rfl, .inl ⟨by decide, by decide⟩, _, _, rfl, rfl, .inl ⟨_, rfl, _, _, rfl, rfl, (by show (0 : Int) < 2147481967; decide), ?_⟩⟩
      exact q _ _ sm
end
end K2

set_option Elab.async false
set_option linter.all false
set_option maxRecDepth 100000
set_option maxHeartbeats 2000000
namespace K2
open PySem PySem.Spec PyProof.Rows L2 G1 G2
abbrev sSpr : Stmt := topS 5
abbrev sCnt : Stmt := topS 6
theorem scSpr : FnScope ["before", "pages", "total"] ["before", "pages"] (defScope sSpr) := ⟨rfl, rfl, rfl, by decide +kernel, rfl, by decide +kernel, by decide +kernel⟩
theorem scCnt : FnScope ["blocks", "pages", "names", "lasts", "written", "room", "before", "many", "used", "total", "ways"] ["blocks", "pages", "names"] (defScope sCnt) := ⟨rfl, rfl, rfl, by decide +kernel, rfl, by decide +kernel, by decide +kernel⟩
theorem bSum : bootBuiltins "sum" = some (.builtin "sum") := by decide +kernel
theorem bMax : bootBuiltins "max" = some (.builtin "max") := by decide +kernel
theorem bMin : bootBuiltins "min" = some (.builtin "min") := by decide +kernel
/-! openers -/
theorem seq_asg {te : TE} {g : TG} {t2 : TS} {D : Ends} {σ : L2.St} {H : Hp} (h : te σ H fun x H1 => g x σ H1 (t2 D)) : tSeq (tAsg te g) t2 D σ H := h
theorem lst_read {ta : TA} {σ : L2.St} {H : Hp} {Q : VK} (h : ta σ H fun xs H1 => xs.length ≤ sizeLine ∧ ∀ p, H1 p = none → Q (.ref p) (upd H1 p (.lst xs))) : tLst ta σ H Q := h
theorem tup_read {ta : TA} {σ : L2.St} {H : Hp} {Q : VK} (h : ta σ H fun xs H1 => xs.length ≤ sizeLine ∧ ∀ p, H1 p = none → Q (.ref p) (upd H1 p (.tup xs))) : tTup ta σ H Q := h
theorem cons_read {te : TE} {ta : TA} {σ : L2.St} {H : Hp} {Q : List V → Hp → Prop} (h : te σ H fun x H1 => ta σ H1 fun xs H2 => Q (x :: xs) H2) : tCons te ta σ H Q := h
theorem nil_read {σ : L2.St} {H : Hp} {Q : List V → Hp → Prop} (h : Q [] H) : tNil σ H Q := h
theorem op_read {r : R2} {ta tb : TE} {σ : L2.St} {H : Hp} {Q : VK} (h : ta σ H fun x H1 => tb σ H1 fun y H2 => r x y H2 Q) : tOp r ta tb σ H Q := h
theorem ret_read {te : TE} {D : Ends} {σ : L2.St} {H : Hp} (h : te σ H D.rt) : tRet te D σ H := h
theorem c_read {v : V} {σ : L2.St} {H : Hp} {Q : VK} (h : Q v H) : tC v σ H Q := h
theorem cb_read {r : List V → Hp → VK → Prop} {ta : TA} {σ : L2.St} {H : Hp} {Q : VK} (h : ta σ H fun vs H1 => r vs H1 Q) : tCB r ta σ H Q := h
theorem call_read {sp : Sp} {dvs : List V} {E : XK} {ta : TA} {σ : L2.St} {H : Hp} {Q : VK} (h : ta σ H fun vs H1 => sp (vs ++ dvs) H1 Q E) : tCall sp dvs E ta σ H Q := h
theorem seq_for {wi : TI} {g : TG} {tb t2 : TS} {D : Ends} {σ : L2.St} {H : Hp}
    (h : ∀ D' : Ends, D'.nx = t2 D → D'.rt = D.rt → wi σ H fun J H1 => ∃ W : Nat → Nat → L2.St → Hp → Prop, (∃ m, W 0 m σ H1) ∧ ∀ i m σ H, W i m σ H →
      (J.stop i H ∧ D'.nx σ H) ∨ (J.go i H ∧ ∃ N : L2.St → Hp → Prop, (∀ σ' H', N σ' H' → ∃ m', m' < m ∧ W (i + 1) m' σ' H') ∧
        ∀ x H', J.yld i H x H' → g x σ H' fun σ2 H2 => tb { D' with nx := N, ct := N, bk := D'.nx } σ2 H2)) : tSeq (tFor wi g tb) t2 D σ H := h { D with nx := t2 D } rfl rfl
theorem seq_aug {i : Nat} {te : TE} {ti : TIp} {t2 : TS} {D : Ends} {σ : L2.St} {H : Hp} (h : ∃ x, σ[i]? = some (some x) ∧ te σ H fun y H1 => ti x y H1 fun z H2 => t2 D (σ.set i (some z)) H2) : tSeq (tAug i te ti) t2 D σ H := h
theorem asg_read {te : TE} {g : TG} {D : Ends} {σ : L2.St} {H : Hp} (h : te σ H fun x H1 => g x σ H1 D.nx) : tAsg te g D σ H := h
/-- the cut of a list of ints, its sum -/
def cutI (l : List Int) (lo hi : Int) : List Int := (l.drop (HT.sIx l.length 0 (some lo))).take (HT.sIx l.length l.length (some hi) - HT.sIx l.length 0 (some lo))
theorem cut_map (l : List Int) (lo hi : Int) : cutV (l.map V.int) (some lo) (some hi) = (cutI l lo hi).map V.int := by
  unfold cutV cutI
  rw [List.length_map, List.map_take, List.map_drop]
def sprM (l : List Int) (p : Int) : List Int := (List.range l.length).map fun (t : Nat) => (cutI l (if (t : Int) - p > 0 then (t : Int) - p else 0) ((t : Int) + 1)).sum
def spSpr (K : PySem.W.Frag) : Sp := fun vs H Q _ => ∃ (a : Addr) (l : List Int) (p : Int), vs = [.ref a, .int p] ∧ SqL K H a (l.map V.int) ∧ l.length ≤ 1000 ∧ ∀ (H' : Hp) (q : Addr), Same H H' → H q = none → H' q = some (.lst ((sprM l p).map V.int)) → Q (.ref q) H'
abbrev rMax2 : List V → Hp → VK → Prop := fun xs H Q => ∃ i j, xs = [.int i, .int j] ∧ Q (.int (if j > i then j else i)) H
abbrev rMin2 : List V → Hp → VK → Prop := fun xs H Q => ∃ i j, xs = [.int i, .int j] ∧ Q (.int (if j < i then j else i)) H
abbrev rLen (K : PySem.W.Frag) : List V → Hp → VK → Prop := fun xs H Q => ∃ p ys, xs = [.ref p] ∧ (SqL K H p ys ∨ SqT K H p ys) ∧ Q (.int ys.length) H
abbrev rAdd : R2 := rI0 fun i j => .int (i + j)
abbrev rSub : R2 := rI0 fun i j => .int (i - j)
theorem same_lay {H : Hp} {p : Addr} {o : HO} (h : H p = none) : Same H (upd H p o) := fun b u e => by rw [upd_ne (ne_of_none e h)]; exact e
/-- a comprehension's list grows -/
theorem same_grow {H H1 H2 : Hp} {D : Addr} {o : HO} (hD : H D = none) (s1 : Same H H1) (s2 : Same H1 H2) : Same H (upd H2 D o) := fun b u e => by rw [upd_ne (ne_of_none e hD)]; exact s2 _ _ (s1 _ _ e)
section
variable {P : Program} {w : World} {K : PySem.W.Frag} {mg : Str → Option Value} {base : Heap}
theorem ok_spr {f : Addr} {fd : FuncData} (F : Fun K "spread" "spread" sSpr f fd) (B : Bl mg) : FnOk P w K mg base CX0 1 f fd ["before", "pages"] (spSpr K) := by
  refine F.ok scSpr (fun vs H Q E h => ?_) (fun cdv A outer s H vs Q E hr h => ?_)
  · obtain ⟨a, l, p, rfl, _⟩ := h
    rfl
  obtain ⟨a, l, p, rfl, hS, hlen, k⟩ := h
  refine ⟨_, pss_one (ps_ret (pe_lc (own := [("total", 2)]) (g := gName 2) (tt := tYes) (te := tCB (rSum K) (tCons (tSl (rSlL K) (tVar 0) (tPart (tCB rMax2 (tCons (tC (.int 0)) (tCons (tOp rSub (tVar 2) (tVar 1)) tNil)))) (tPart (tOp rAdd (tVar 2) (tC (.int 1))))) tNil)) rfl scSpr.nd
    (pi_range1 (by rfl) B.range (pa_cons (pe_callB call_len_seq (by rfl) B.len PySem.boot_len (pa_cons (pv 0) pa_nil)) pa_nil))
    (blkOk_by (own := [("total", 2)]) (N := ["before", "pages", "total"]) (sc := defScope sSpr) (by decide +kernel))
    (fun _ _ _ _ _ => pg_name (i := 2) scSpr.nd rfl (Or.inl rfl)) (fun _ _ _ _ _ => pts_nil)
    (fun _ _ _ _ _ => pe_callB (cr_sum rfl) (by rfl) B.sum bSum (pa_cons (pe_slice sl_list (pv 0) (po_some (pe_callB (call_max2 rfl) (by rfl) B.max bMax (pa_cons pe_int (pa_cons (pe_op op_sub (pv 2) (pv 1)) pa_nil)))) (po_some (pe_op op_add (pv 2) pe_int))) pa_nil)))), ?_⟩
  refine ⟨_, rfl, a, _, rfl, .inl hS, _, rfl, ?_, ?_, fun D hD => ?_⟩
  · rw [List.length_map]; omega
  · rw [List.length_map]; omega
  have e0 : (((l.map V.int).length : Int)).toNat = l.length := by rw [List.length_map]; omega
  rw [e0]
  refine lc_range (lo := 0) (n := l.length) (fun i H' => Same H H' ∧ H' D = some (.lst (((sprM l p).take i).map V.int))) ⟨same_lay hD, by rw [upd_same]; rfl⟩ ?_ ?_
  · rintro i H' hi ⟨s1, hy⟩
    refine ⟨rfl, ?_⟩
    unfold tYes
    dsimp only
    rw [if_pos rfl]
    refine ⟨_, rfl, _, rfl, _, rfl, _, _, rfl, rfl, _, _, rfl, _, rfl, _, rfl, _, _, rfl, rfl, _, rfl, a, _, rfl, s1.seq hS, fun t ht => ?_⟩
    refine ⟨t, cutI l (if 0 + (i : Int) - p > 0 then 0 + (i : Int) - p else 0) (0 + (i : Int) + 1), rfl, SqL.of (by rw [upd_same, cut_map]), ?_⟩
    refine ⟨((sprM l p).take i).map V.int, ?_, ?_, ?_, ?_⟩
    · rw [upd_ne (ne_of_none hy ht)]; exact hy
    · rw [List.length_map, List.length_take, sizeLine_eq]; omega
    · exact same_grow hD s1 (same_lay ht)
    · rw [upd_same]
      have hl : i < (sprM l p).length := by unfold sprM; rw [List.length_map, List.length_range]; exact hi
      rw [List.take_add_one, List.getElem?_eq_getElem hl, List.map_append]
      congr 3
      unfold sprM
      simp
  · rintro H' ⟨s1, hy⟩
    have el : (sprM l p).length = l.length := by unfold sprM; rw [List.length_map, List.length_range]
    rw [← el, List.take_length] at hy
    exact k H' D s1 hD hy
end
end K2

set_option Elab.async false
set_option linter.all false
set_option maxRecDepth 100000
set_option maxHeartbeats 2000000
namespace K2
open PySem PySem.Spec PyProof.Rows L2 G1 G2
/-- a comprehension over enumerate(a list) -/
theorem lc_enum {K : PySem.W.Frag} {a : Addr} {xs : List V} {g : TG} {tt : TT} {te : TE} {vs : List Nat} {σ : L2.St} {H1 : Hp} {D : Addr} {Qd : Hp → Prop} (Pv : Nat → Hp → Prop) (h0 : Pv 0 (upd H1 D (.lst []))) (hl : ∀ i H, Pv i H → SqL K H a xs)
    (hs : ∀ i x T H, xs[i]? = some x → Pv i H → H T = none → g (.ref T) (wipe σ vs) (upd H T (.tup [.int (i : Nat), x])) fun σ2 H2 => wipe σ2 vs = wipe σ vs ∧ tt σ2 H2 fun b H3 =>
      if b = true then te σ2 H3 fun y H4 => ∃ acc, H4 D = some (.lst acc) ∧ acc.length < sizeLine ∧ Pv (i + 1) (upd H4 D (.lst (acc ++ [y]))) else Pv (i + 1) H3) (hd : ∀ H, Pv xs.length H → Qd H) :
    ∃ W : Nat → Nat → Hp → Prop, (∃ m, W 0 m (upd H1 D (.lst []))) ∧ ∀ i m H, W i m H →
      ((Ite K a).stop i H ∧ Qd H) ∨ ((Ite K a).go i H ∧ ∃ Nx : Hp → Prop, (∀ H', Nx H' → ∃ m', m' < m ∧ W (i + 1) m' H') ∧ ∀ x H', (Ite K a).yld i H x H' → g x (wipe σ vs) H' fun σ2 H2 => wipe σ2 vs = wipe σ vs ∧ tt σ2 H2 fun b H3 =>
        if b = true then te σ2 H3 fun y H4 => ∃ acc, H4 D = some (.lst acc) ∧ acc.length < sizeLine ∧ Nx (upd H4 D (.lst (acc ++ [y]))) else Nx H3) := by
  refine ⟨fun i m H => i + m = xs.length ∧ Pv i H, ⟨xs.length, by omega, h0⟩, ?_⟩
  rintro i m H ⟨e, p⟩
  by_cases hm : m = 0
  · subst hm
    have e' : i = xs.length := by omega
    subst e'
    exact .inl ⟨⟨xs, hl _ _ p, Nat.le_refl _⟩, hd _ p⟩
  · have hi : i < xs.length := by omega
    refine .inr ⟨⟨xs, xs[i], hl _ _ p, List.getElem?_eq_getElem hi⟩, Pv (i + 1), fun H' q => ⟨m - 1, by omega, by omega, q⟩, fun x H' y => ?_⟩
    obtain ⟨T, x', rfl, hT, rfl, hx⟩ := y
    exact hs i x' T H (hx xs (hl _ _ p)) p hT
/-! ### the mirror -/
def rowM (p : Nat) (r : Int) : List Int := (List.range p).map fun (w : Nat) => (if r < 1 + (w : Int) then r else 1 + (w : Int)) + 1
def lastsM (p n : Nat) : List Int := (List.range (n + 1)).map fun (r : Nat) => (rowM p (r : Int)).sum
def waysM (lasts : List Int) (n : Nat) (before : List Int) : List Int := (List.range before.length).map fun (t : Nat) => before.getD t 0 * lasts.getD (n - t) 0
def stepM (p n : Nat) (s : Int × List Int) : Int × List Int := (s.1 + (waysM (lastsM p n) n s.2).sum, sprM s.2 (p : Int))
def loopM (p n : Nat) : Nat → Int × List Int → Int × List Int
  | 0, s => s
  | k + 1, s => stepM p n (loopM p n k s)
def startM (n : Nat) : List Int := 1 :: List.replicate (n - 1) 0
def cntM (b p n : Nat) : Int := (loopM p n (b - 1) (1, startM n)).1
theorem spr_len (l : List Int) (p : Int) : (sprM l p).length = l.length := by unfold sprM; rw [List.length_map, List.length_range]
theorem loop_len (p n : Nat) (h : 1 ≤ n) : ∀ k, (loopM p n k (1, startM n)).2.length = n
  | 0 => by show (startM n).length = n; unfold startM; rw [List.length_cons, List.length_replicate]; omega
  | k + 1 => by show (sprM _ _).length = n; rw [spr_len]; exact loop_len p n h k
theorem lasts_small : ∀ p, p < 6 → ∀ n, n < 26 → ((lastsM p n).all fun x => decide (-1000 < x ∧ x < 1000)) = true := by decide +kernel
theorem cnt_small : ∀ q ∈ [(3, 2), (3, 3), (3, 4), (3, 5), (4, 2), (4, 3), (5, 2)], ∀ n, n < 11 → cntM q.1 q.2 n ≤ 2000 := by decide +kernel
end K2

set_option Elab.async false
set_option linter.all false
set_option maxRecDepth 100000
set_option maxHeartbeats 4000000
namespace K2
open PySem PySem.Spec PyProof.Rows L2 G1 G2
abbrev rMul : R2 := rI CMul fun i j => .int (i * j)
def spCnt : Sp := fun vs H Q _ => ∃ b p n : Nat, vs = [.int (b : Int), .int (p : Int), .int (n : Int)] ∧ p < 6 ∧ 1 ≤ n ∧ n < 26 ∧ 1 ≤ b ∧ b < 7 ∧ ∀ H' : Hp, Same H H' → Q (.int (cntM b p n)) H'
abbrev NC : List Str := ["blocks", "pages", "names", "lasts", "written", "room", "before", "many", "used", "total", "ways"]
abbrev teIn : TE := tOp rAdd (tCB rMin2 (tCons (tVar 4) (tCons (tVar 5) tNil))) (tC (.int 1))
abbrev teRow (K : PySem.W.Frag) : TE := tCB (rSum K) (tCons (tLc (iRng2 (tCons (tC (.int 1)) (tCons (tOp rAdd (tVar 1) (tC (.int 1))) tNil))) (gName 4) tYes teIn [4]) tNil)
abbrev teWay (K : PySem.W.Frag) : TE := tOp rMul (tVar 10) (tOp (rIxL K) (tVar 3) (tOp rSub (tVar 2) (tVar 9)))
abbrev scRoom : Scope := { kind := ScopeKind.function, names := [(Str.ofString ".0", NameKind.local), (Str.ofString "room", NameKind.cell), (Str.ofString "sum", NameKind.globalImplicit), (Str.ofString "range", NameKind.globalImplicit), (Str.ofString "pages", NameKind.cell)], isGenerator := false, isCoroutine := false }
theorem grow_map (f : Nat → Int) (m i : Nat) (hi : i < m) : (((List.range m).map f).take (i + 1)).map V.int = (((List.range m).map f).take i).map V.int ++ [V.int (f i)] := by
  rw [List.take_add_one, List.map_append]
  congr 1
  rw [List.getElem?_map, List.getElem?_range hi]
  rfl
theorem row_read {K : PySem.W.Frag} {H : Hp} {Q : VK} {b n : Int} {p : Nat} {r : Int} {x3 x4 x6 x7 x8 x9 x10 : Option V} (hp : p < 6) (k : ∀ H', Same H H' → Q (.int (rowM p r).sum) H') :
    teRow K [some (.int b), some (.int (p : Int)), some (.int n), x3, x4, some (.int r), x6, x7, x8, x9, x10] H Q := by
  refine ⟨_, rfl, _, _, rfl, rfl, 1, (p : Int) + 1, rfl, ⟨by omega, by omega, by omega, by omega⟩, fun D hD => ?_⟩
  have e0 : ((p : Int) + 1 - 1).toNat = p := by omega
  rw [e0]
  refine lc_range (lo := 1) (n := p) (fun i H' => Same H H' ∧ H' D = some (.lst (((rowM p r).take i).map V.int))) ⟨same_lay hD, by rw [upd_same]; rfl⟩ ?_ ?_
  · rintro i H' hi ⟨s1, hy⟩
    refine ⟨rfl, ?_⟩
    unfold tYes
    dsimp only
    rw [if_pos rfl]
    refine ⟨_, rfl, _, rfl, _, _, rfl, _, _, rfl, rfl, ((rowM p r).take i).map V.int, hy, ?_, ?_, ?_⟩
    · rw [List.length_map, List.length_take, sizeLine_eq]; omega
    · exact same_grow hD s1 (Same.refl _)
    · rw [upd_same]
      exact congrArg (fun z => some (HO.lst z)) (grow_map (fun (w : Nat) => (if r < 1 + (w : Int) then r else 1 + (w : Int)) + 1) p i hi).symm
  · rintro H' ⟨s1, hy⟩
    have el : (rowM p r).length = p := by unfold rowM; rw [List.length_map, List.length_range]
    have e1 : (rowM p r).take p = rowM p r := List.take_of_length_le (by omega)
    rw [e1] at hy
    exact ⟨D, rowM p r, rfl, SqL.of hy, k H' s1⟩
theorem lasts_read {K : PySem.W.Frag} {H : Hp} {Q : VK} {b : Int} {p n : Nat} (hp : p < 6) (hn : n < 26) (k : ∀ (H' : Hp) (D : Addr), Same H H' → H' D = some (.lst ((lastsM p n).map V.int)) → Q (.ref D) H') :
    tLc (iRng1 (tCons (tOp rAdd (tVar 2) (tC (.int 1))) tNil)) (gName 5) tYes (teRow K) [5] [some (.int b), some (.int (p : Int)), some (.int (n : Int)), none, none, none, none, none, none, none, none] H Q := by
  refine ⟨_, rfl, _, _, rfl, rfl, (n : Int) + 1, rfl, by omega, by omega, fun D hD => ?_⟩
  have e0 : ((n : Int) + 1).toNat = n + 1 := by omega
  rw [e0]
  refine lc_range (lo := 0) (n := n + 1) (fun i H' => Same H H' ∧ H' D = some (.lst (((lastsM p n).take i).map V.int))) ⟨same_lay hD, by rw [upd_same]; rfl⟩ ?_ ?_
  · rintro i H' hi ⟨s1, hy⟩
    refine ⟨rfl, ?_⟩
    unfold tYes
    dsimp only
    rw [if_pos rfl]
    refine row_read (r := 0 + (i : Int)) hp fun H2 s2 => ⟨((lastsM p n).take i).map V.int, s2 _ _ hy, ?_, ?_, ?_⟩
    · rw [List.length_map, List.length_take, sizeLine_eq]; omega
    · exact same_grow hD s1 s2
    · rw [upd_same]
      rw [Int.zero_add]
      exact congrArg (fun z => some (HO.lst z)) (grow_map (fun (r : Nat) => (rowM p (r : Int)).sum) (n + 1) i hi).symm
  · rintro H' ⟨s1, hy⟩
    have el : (lastsM p n).length = n + 1 := by unfold lastsM; rw [List.length_map, List.length_range]
    have e1 : (lastsM p n).take (n + 1) = lastsM p n := List.take_of_length_le (by omega)
    rw [e1] at hy
    exact k H' D s1 hy
theorem ways_read {K : PySem.W.Frag} {H : Hp} {Q : VK} {b : Int} {p n : Nat} {l B6 : Addr} {bef : List Int} {x4 x5 x7 x8 x9 x10 : Option V} (hp : p < 6) (hn : n < 26) (hl : H l = some (.lst ((lastsM p n).map V.int))) (hb : H B6 = some (.lst (bef.map V.int))) (hlen : bef.length = n)
    (k : ∀ (H' : Hp) (D : Addr), Same H H' → H' D = some (.lst ((waysM (lastsM p n) n bef).map V.int)) → Q (.ref D) H') :
    tLc (iEnum K (tCons (tVar 6) tNil)) (gTup K 2 (gCons (gName 9) (gCons (gName 10) gNil))) tYes (teWay K) [9, 10] [some (.int b), some (.int (p : Int)), some (.int (n : Int)), some (.ref l), x4, x5, some (.ref B6), x7, x8, x9, x10] H Q := by
  refine ⟨_, rfl, B6, _, rfl, SqL.of hb, fun D hD => ?_⟩
  refine lc_enum (K := K) (xs := bef.map V.int) (fun i H' => Same H H' ∧ H' D = some (.lst (((waysM (lastsM p n) n bef).take i).map V.int))) ⟨same_lay hD, by rw [upd_same]; rfl⟩ (fun i H' q => SqL.of (q.1 _ _ hb)) ?_ ?_
  · rintro i x T H' hi ⟨s1, hy⟩ hT
    have hi' : i < bef.length := by
      have z := (List.getElem?_eq_some_iff.mp hi).1
      rwa [List.length_map] at z
    have ex : x = .int (bef.getD i 0) := by
      rw [List.getElem?_map, List.getElem?_eq_getElem hi'] at hi
      rw [List.getD_eq_getElem?_getD, List.getElem?_eq_getElem hi']
      exact (Option.some.inj hi).symm
    subst ex
    refine ⟨T, _, rfl, SqT.of upd_same, rfl, _, _, rfl, _, _, rfl, rfl, rfl, ?_⟩
    unfold tYes
    dsimp only
    rw [if_pos rfl]
    have hj : n - i < (lastsM p n).length := by unfold lastsM; rw [List.length_map, List.length_range]; omega
    have sT : Same H' (upd H' T (.tup [.int (i : Nat), .int (bef.getD i 0)])) := same_lay hT
    have hv : -1000 < (lastsM p n).getD (n - i) 0 ∧ (lastsM p n).getD (n - i) 0 < 1000 := by
      have z := lasts_small p hp n hn
      rw [List.all_eq_true] at z
      have q := z ((lastsM p n).getD (n - i) 0) (by rw [List.getD_eq_getElem?_getD, List.getElem?_eq_getElem hj]; exact List.getElem_mem _)
      exact of_decide_eq_true q
    refine ⟨_, rfl, _, rfl, _, rfl, _, rfl, _, _, rfl, rfl, l, _, _, .int ((lastsM p n).getD (n - i) 0), rfl, rfl, SqL.of (sT _ _ (s1 _ _ hl)), ?_, _, _, rfl, rfl, .inr ⟨by omega, by omega⟩, ?_⟩
    · have e2 : (n : Int) - ((i : Nat) : Int) = ((n - i : Nat) : Int) := by omega
      show atI _ ((n : Int) - ((i : Nat) : Int)) = _
      rw [e2]
      refine atI_nat ?_
      rw [List.getElem?_map, List.getElem?_eq_getElem hj, List.getD_eq_getElem?_getD, List.getElem?_eq_getElem hj]
      rfl
    refine ⟨((waysM (lastsM p n) n bef).take i).map V.int, sT _ _ hy, ?_, ?_, ?_⟩
    · rw [List.length_map, List.length_take, sizeLine_eq]; omega
    · exact same_grow hD s1 sT
    · rw [upd_same]
      exact congrArg (fun z => some (HO.lst z)) (grow_map (fun (t : Nat) => bef.getD t 0 * (lastsM p n).getD (n - t) 0) bef.length i hi').symm
  · rintro H' ⟨s1, hy⟩
    have el : (waysM (lastsM p n) n bef).length = (bef.map V.int).length := by unfold waysM; rw [List.length_map, List.length_range, List.length_map]
    rw [← el, List.take_length] at hy
    exact k H' D s1 hy
section
variable {P : Program} {w : World} {K : PySem.W.Frag} {mg : Str → Option Value} {base : Heap}
theorem ok_cnt {f fS : Addr} {fd fdS : FuncData} (F : Fun K "count_stands" "count_stands" sCnt f fd) (B : Bl mg) (GS : FnOk P w K mg base CX0 1 fS fdS ["before", "pages"] (spSpr K)) (kS : PySem.W.keepIn K (.ref fS) = true) (bS : Binds K fdS ["before", "pages"] []) (gS : mg "spread" = some (.ref fS)) :
    FnOk P w K mg base CX0 2 f fd ["blocks", "pages", "names"] spCnt := by
  refine F.ok scCnt (fun vs H Q E h => ?_) (fun cdv A outer s H vs Q E hr h => ?_)
  · obtain ⟨b, p, n, rfl, _⟩ := h
    rfl
  obtain ⟨b, p, n, rfl, hp, hn1, hn2, hb1, hb2, k⟩ := h
  refine ⟨_, pss_cons (ps_set (i := 3) scCnt.nd rfl (.inr rfl) (pe_lc (own := [("room", 5)]) (g := gName 5) (tt := tYes) (te := teRow K) rfl scCnt.nd
      (pi_range1 (by rfl) B.range (pa_cons (pe_op op_add (pv 2) pe_int) pa_nil)) (blkOk_by (own := [("room", 5)]) (N := NC) (sc := defScope sCnt) (by decide +kernel))
      (fun _ _ _ _ _ => pg_name (i := 5) scCnt.nd rfl (Or.inr rfl)) (fun _ _ _ _ _ => pts_nil)
      (fun _ _ _ _ _ => pe_callB (cr_sum rfl) (by rfl) B.sum bSum (pa_cons (pe_lc (own := [("written", 4)]) (g := gName 4) (tt := tYes) (te := teIn) rfl scCnt.nd
        (pi_range2 (by rfl) B.range (pa_cons pe_int (pa_cons (pe_op op_add (pv 1) pe_int) pa_nil))) (blkOk_by (own := [("written", 4)]) (N := NC) (sc := scRoom) (by decide +kernel))
        (fun _ _ _ _ _ => pg_name (i := 4) scCnt.nd rfl (Or.inl rfl)) (fun _ _ _ _ _ => pts_nil)
        (fun _ _ _ _ _ => pe_op op_add (pe_callB (call_min2 rfl) (by rfl) B.min bMin (pa_cons (pv 4) (pa_cons (pv 5) pa_nil))) pe_int)) pa_nil))))
    (pss_cons (ps_set (i := 6) scCnt.nd rfl (.inl rfl) (pe_op op_cat (pe_lst (pa_cons pe_int pa_nil)) (pe_op op_rep (pe_lst (pa_cons pe_int pa_nil)) (pe_op op_sub (pv 2) pe_int))))
    (pss_cons (ps_set (i := 7) scCnt.nd rfl (.inl rfl) pe_int)
    (pss_cons (ps_for PassesOwn.never rfl (pi_range2 (by rfl) B.range (pa_cons pe_int (pa_cons (pv 0) pa_nil))) (pg_name (i := 8) scCnt.nd rfl (.inl rfl))
      (pss_cons (ps_aug (i := 7) scCnt.nd rfl (.inl rfl) (pe_callB (cr_sum rfl) (by rfl) B.sum bSum (pa_cons (pe_lc (own := [("total", 9), ("ways", 10)]) (g := gTup K 2 (gCons (gName 9) (gCons (gName 10) gNil))) (tt := tYes) (te := teWay K) rfl scCnt.nd
          (pi_enum (by rfl) B.enm (pa_cons (pv 6) pa_nil)) (blkOk_by (own := [("total", 9), ("ways", 10)]) (N := NC) (sc := defScope sCnt) (by decide +kernel))
          (fun _ _ _ _ _ => pg_tup rfl (pgs_cons (pg_name (i := 9) scCnt.nd rfl (Or.inl rfl)) (pgs_cons (pg_name (i := 10) scCnt.nd rfl (Or.inl rfl)) pgs_nil))) (fun _ _ _ _ _ => pts_nil)
          (fun _ _ _ _ _ => pe_op op_mul (pv 10) (pe_ix ix_list (pv 3) (pe_op op_sub (pv 2) (pv 9)) (fun _ _ => rfl)))) pa_nil)) ip_add)
      (pss_one (ps_set (i := 6) scCnt.nd rfl (.inl rfl) (pe_call GS hr (by rfl) gS kS bS .nil pass0 (pa_cons (pv 6) (pa_cons (pv 1) pa_nil)))))))
    (pss_one (ps_ret (pv 7)))))), ?_⟩
  refine seq_asg (lasts_read (K := K) hp hn2 fun H1 l s1 hl => ?_)
  refine seq_asg ?_
  refine ⟨by show 1 ≤ sizeLine; decide, fun q1 h1 => ⟨by show 1 ≤ sizeLine; decide, fun q2 h2 => ⟨_, rfl, _, _, rfl, rfl, q2, (n : Int) - 1, _, rfl, rfl, upd_same, by omega, by omega, ?_, fun q3 h3 => ?_⟩⟩⟩
  · show 1 * ((n : Int) - 1).toNat ≤ sizeLine
    rw [sizeLine_eq]; omega
  have s2 := s1.trans ((same_lay (o := .lst [.int 1]) h1).trans ((same_lay (o := .lst [.int 0]) h2).trans (same_lay (o := .lst (List.replicate ((n : Int) - 1).toNat [V.int 0]).flatten) h3)))
  have hl2 := ((same_lay (o := .lst [.int 1]) h1).trans ((same_lay (o := .lst [.int 0]) h2).trans (same_lay (o := .lst (List.replicate ((n : Int) - 1).toNat [V.int 0]).flatten) h3))) _ _ hl
  have hq1 := ((same_lay (o := .lst [.int 0]) h2).trans (same_lay (o := .lst (List.replicate ((n : Int) - 1).toNat [V.int 0]).flatten) h3)) q1 _ upd_same
  have hq3 : (upd (upd (upd H1 q1 (.lst [.int 1])) q2 (.lst [.int 0])) q3 (.lst (List.replicate ((n : Int) - 1).toNat [V.int 0]).flatten)) q3 = some (.lst ((List.replicate (n - 1) (0 : Int)).map V.int)) := by
    rw [upd_same]
    have e1 : ((n : Int) - 1).toNat = n - 1 := by omega
    rw [e1, List.map_replicate]
    congr 2
    generalize n - 1 = m
    induction m with
    | zero => rfl
    | succ m ih => rw [List.replicate_succ, List.flatten_cons, ih, List.replicate_succ]; rfl
  generalize upd (upd (upd H1 q1 (.lst [.int 1])) q2 (.lst [.int 0])) q3 (.lst (List.replicate ((n : Int) - 1).toNat [V.int 0]).flatten) = H3 at s2 hl2 hq1 hq3 ⊢
  refine ⟨q1, q3, _, _, rfl, rfl, hq1, hq3, ?_, fun B6 h6 => ?_⟩
  · rw [List.length_map, List.length_replicate, sizeLine_eq]
    show 1 + (n - 1) ≤ _
    omega
  refine seq_asg ?_
  refine c_read ?_
  refine seq_for fun D' hD1 hD2 => ?_
  refine ⟨_, rfl, 1, (b : Int), rfl, ⟨by omega, by omega, by omega, by omega⟩, ?_⟩
  have e0 : ((b : Int) - 1).toNat = b - 1 := by omega
  rw [e0]
  refine for_range (lo := 1) (n := b - 1) (fun i σ H' => ∃ (B : Addr) (x8 : Option V), σ = [some (.int (b : Int)), some (.int (p : Int)), some (.int (n : Int)), some (.ref l), none, none, some (.ref B), some (.int (loopM p n i (1, startM n)).1), x8, none, none] ∧ Same H H' ∧
      H' l = some (.lst ((lastsM p n).map V.int)) ∧ H' B = some (.lst ((loopM p n i (1, startM n)).2.map V.int))) ⟨B6, none, rfl, s2.trans (same_lay h6), same_lay h6 _ _ hl2, by rw [upd_same]; rfl⟩ ?_ ?_
  · rintro i σ H' hi ⟨B, x8, rfl, s3, hl3, hB⟩
    refine seq_aug ⟨_, rfl, ?_⟩
    refine cb_read (cons_read ?_)
    refine ways_read (K := K) hp hn2 hl3 hB (loop_len p n hn1 i) fun H4 D4 s4 h4 => ⟨D4, _, rfl, SqL.of h4, _, _, rfl, rfl, ?_⟩
    refine asg_read (call_read (cons_read ⟨_, rfl, cons_read ⟨_, rfl, ?_⟩⟩))
    refine ⟨B, (loopM p n i (1, startM n)).2, (p : Int), rfl, SqL.of (s4 _ _ hB), by rw [loop_len p n hn1 i]; omega, fun H5 q5 s5 n5 h5 => ?_⟩
    exact ⟨q5, _, rfl, s3.trans (s4.trans s5), s5 _ _ (s4 _ _ hl3), h5⟩
  · rintro σ H' ⟨B, x8, rfl, s3, hl3, hB⟩
    rw [hD1]
    exact ⟨_, rfl, k H' s3⟩
end
end K2

set_option Elab.async false
set_option linter.all false
set_option maxRecDepth 100000
set_option maxHeartbeats 4000000
namespace K2
open PySem PySem.Spec PyProof.Rows L2 G1 G2
abbrev sIsI : Stmt := topS 19
abbrev sWit : Stmt := topS 20
abbrev sRow : Stmt := topS 29
abbrev sChk : Stmt := topS 30
abbrev sSiz : Stmt := topS 39
theorem scIsI : FnScope ["value"] ["value"] (defScope sIsI) := ⟨rfl, rfl, rfl, by decide +kernel, rfl, by decide +kernel, by decide +kernel⟩
theorem scWit : FnScope ["value", "least", "most"] ["value", "least", "most"] (defScope sWit) := ⟨rfl, rfl, rfl, by decide +kernel, rfl, by decide +kernel, by decide +kernel⟩
theorem scRow : FnScope ["value", "pages", "limit", "word"] ["value", "pages"] (defScope sRow) := ⟨rfl, rfl, rfl, by decide +kernel, rfl, by decide +kernel, by decide +kernel⟩
theorem scChk : FnScope ["rows", "pages", "index", "row", "last"] ["rows", "pages"] (defScope sChk) := ⟨rfl, rfl, rfl, by decide +kernel, rfl, by decide +kernel, by decide +kernel⟩
theorem scSiz : FnScope ["blocks", "pages", "names"] ["blocks", "pages", "names"] (defScope sSiz) := ⟨rfl, rfl, rfl, by decide +kernel, rfl, by decide +kernel, by decide +kernel⟩
theorem bIsi : bootBuiltins "isinstance" = some (.builtin "isinstance") := by decide +kernel
theorem bBool : bootBuiltins "bool" = some (.type "bool") := by decide +kernel
theorem bTup : bootBuiltins "tuple" = some (.type "tuple") := by decide +kernel
theorem bStr : bootBuiltins "str" = some (.type "str") := by decide +kernel
theorem nx_read {D : Ends} {σ : L2.St} {H : Hp} (h : D.nx σ H) : tNext D σ H := h
theorem paired_get {α β : Type} {F : α → β → Prop} : ∀ {l₁ : List α} {l₂ : List β}, Paired F l₁ l₂ → ∀ {i : Nat} {a : α}, l₁[i]? = some a → ∃ b, l₂[i]? = some b ∧ F a b
  | _, _, .nil, i, a, h => by simp at h
  | _, _, .cons r t, 0, a, h => by
    simp at h
    subst h
    exact ⟨_, rfl, r⟩
  | _, _, .cons r t, i + 1, a, h => paired_get t (i := i) (by simpa using h)
/-! ### rows -/
abbrev RowD := Int × Str
def wordsL : List Str := ["oldest", "youngest", "least", "most"]
/-- a row of a drive with p pages -/
def RowOk (p : Nat) (r : RowD) : Prop := 0 ≤ r.1 ∧ r.1 ≤ (p : Int) ∧ r.2 ∈ wordsL
theorem Same.tup {K : PySem.W.Frag} {H H' : Hp} {a : Addr} {xs : List V} (e : Same H H') (h : SqT K H a xs) : SqT K H' a xs :=
  h.elim (fun h => .inl (h.elim (fun h => .inl (e _ _ h)) fun ⟨o, h⟩ => .inr ⟨o, e _ _ h⟩)) fun h => .inr h
/-- the tuple at t holds these rows -/
def RowsAt (K : PySem.W.Frag) (H : Hp) (t : Addr) (rows : List RowD) : Prop := ∃ rs : List Addr, SqT K H t (rs.map V.ref) ∧ Paired (fun (a : Addr) (r : RowD) => SqT K H a [.int r.1, .str r.2]) rs rows
theorem RowsAt.same {K : PySem.W.Frag} {H H' : Hp} {t : Addr} {rows : List RowD} (h : RowsAt K H t rows) (e : Same H H') : RowsAt K H' t rows := by
  obtain ⟨rs, h1, h2⟩ := h
  exact ⟨rs, K2.Same.tup e h1, Paired.mapP h2 fun _ _ z => K2.Same.tup e z⟩
/-! ### promises -/
def spIsI : Sp := fun vs H Q _ => ∃ i : Int, vs = [.int i] ∧ Q (.bl true) H
def spWit : Sp := fun vs H Q _ => ∃ v lo hi : Int, vs = [.int v, .int lo, .int hi] ∧ lo ≤ v ∧ v ≤ hi ∧ Q (.bl true) H
section
variable {P : Program} {w : World} {K : PySem.W.Frag} {mg : Str → Option Value} {base : Heap}
theorem ok_isI {f : Addr} {fd : FuncData} (F : Fun K "is_integer" "is_integer" sIsI f fd) (B : Bl mg) : FnOk P w K mg base CX0 1 f fd ["value"] spIsI := by
  refine F.ok scIsI (fun vs H Q E h => ?_) (fun cdv A outer s H vs Q E hr h => ?_)
  · obtain ⟨i, rfl, _⟩ := h
    rfl
  obtain ⟨i, rfl, k⟩ := h
  refine ⟨_, pss_one (ps_ret (pe_and (pe_callB call_isi (by rfl) B.isi bIsi (pa_cons (pv 0) (pa_cons (pe_bltn (v := .ty "int") (by rfl) B.int bInt rfl) pa_nil)))
    (pe_one (pe_not (pe_callB call_isi (by rfl) B.isi bIsi (pa_cons (pv 0) (pa_cons (pe_bltn (v := .ty "bool") (by rfl) B.boo bBool rfl) pa_nil))))))), ?_⟩
  refine ⟨_, rfl, _, _, _, _, true, rfl, .ty _, .base (.int i), kit_ty (by decide +kernel), true, rfl, iteT ?_⟩
  exact ⟨_, rfl, _, _, _, _, false, rfl, .ty _, .base (.int i), kit_ty (by decide +kernel), false, rfl, k⟩
theorem ok_wit {f fI : Addr} {fd fdI : FuncData} (F : Fun K "is_within" "is_within" sWit f fd) (GI : FnOk P w K mg base CX0 1 fI fdI ["value"] spIsI) (kI : PySem.W.keepIn K (.ref fI) = true) (bI : Binds K fdI ["value"] []) (gI : mg "is_integer" = some (.ref fI)) :
    FnOk P w K mg base CX0 2 f fd ["value", "least", "most"] spWit := by
  refine F.ok scWit (fun vs H Q E h => ?_) (fun cdv A outer s H vs Q E hr h => ?_)
  · obtain ⟨v, lo, hi, rfl, _⟩ := h
    rfl
  obtain ⟨v, lo, hi, rfl, h1, h2, k⟩ := h
  refine ⟨_, pss_one (ps_ret (pe_and (pe_call GI hr (by rfl) gI kI bI .nil pass0 (pa_cons (pv 0) pa_nil)) (pe_one (pe_chain op_le op_le (pv 1) (pv 0) (pv 2))))), ?_⟩
  refine ⟨_, rfl, v, rfl, true, rfl, iteT ?_⟩
  refine ⟨_, rfl, _, rfl, _, _, rfl, rfl, _, rfl, ?_⟩
  rw [decide_eq_true h1]
  refine iteT ⟨_, rfl, _, _, rfl, rfl, ?_⟩
  show Q (.bl (decide (v ≤ hi))) H
  rw [decide_eq_true h2]
  exact k
def WordsAt (K : PySem.W.Frag) (aW : Addr) : Prop := ∀ H : Hp, SqT K H aW (wordsL.map V.str)
def spRow (K : PySem.W.Frag) : Sp := fun vs H Q _ => ∃ (a : Addr) (p : Nat) (r : RowD), vs = [.ref a, .int (p : Int)] ∧ SqT K H a [.int r.1, .str r.2] ∧ RowOk p r ∧ Q (.bl true) H
def spChk (K : PySem.W.Frag) : Sp := fun vs H Q _ => ∃ (t : Addr) (p : Nat) (rows : List RowD), vs = [.ref t, .int (p : Int)] ∧ RowsAt K H t rows ∧ (∀ r ∈ rows, RowOk p r) ∧ rows.length ≤ 4 ∧ (∃ x y, rows = x ++ [((p : Int), y)]) ∧ ∀ H' : Hp, Same H H' → Q .non H'
theorem tup_ty {K : PySem.W.Frag} {H : Hp} {a : Addr} {xs : List V} (h : SqT K H a xs) : TyX K H (.ref a) (.type "tuple") := by
  rcases h with (h | ⟨o, h⟩) | ⟨o, its, n, hk, hc, _⟩
  · exact .base (.tup h)
  · exact .fTuple h
  · exact .kTuple hk hc
theorem inW : ∀ w ∈ wordsL, flatV (.str w) = true ∧ inV (.str w) (wordsL.map V.str) = true := by decide +kernel
theorem flatW : (wordsL.map V.str).all flatV = true := by decide +kernel
theorem ok_row {f fI aW : Addr} {fd fdI : FuncData} (F : Fun K "is_row" "is_row" sRow f fd) (B : Bl mg) (GI : FnOk P w K mg base CX0 2 fI fdI ["value", "least", "most"] spWit) (kI : PySem.W.keepIn K (.ref fI) = true) (bI : Binds K fdI ["value", "least", "most"] []) (gI : mg "is_within" = some (.ref fI))
    (gW : mg "WORDS" = some (.ref aW)) (hW : WordsAt K aW) : FnOk P w K mg base CX0 3 f fd ["value", "pages"] (spRow K) := by
  refine F.ok scRow (fun vs H Q E h => ?_) (fun cdv A outer s H vs Q E hr h => ?_)
  · obtain ⟨a, p, r, rfl, _⟩ := h
    rfl
  obtain ⟨a, p, ⟨l, x⟩, rfl, hT, ⟨h1, h2, h3⟩, k⟩ := h
  refine ⟨_, pss_cons (ps_if (PW.pt (pw_or (pt_not (pt_val (pe_callB call_isi (by rfl) B.isi bIsi (pa_cons (pv 0) (pa_cons (pe_bltn (v := .ty "tuple") (by rfl) B.tup bTup rfl) pa_nil)))))
      (pw_or1 (pt_cmpR op_ne (pe_callB call_len_seq (by rfl) B.len PySem.boot_len (pa_cons (pv 0) pa_nil)) pe_int (nomark _))))) (pss_one (ps_ret pe_bl)) pss_nil)
    (pss_cons (ps_asg (pv 0) (pg_tup rfl (pgs_cons (pg_name (i := 2) scRow.nd rfl (.inl rfl)) (pgs_cons (pg_name (i := 3) scRow.nd rfl (.inl rfl)) pgs_nil))))
    (pss_one (ps_ret (pe_and (pe_call GI hr (by rfl) gI kI bI .nil pass0 (pa_cons (pv 2) (pa_cons pe_int (pa_cons (pv 1) pa_nil))))
      (pe_and (pe_callB call_isi (by rfl) B.isi bIsi (pa_cons (pv 3) (pa_cons (pe_bltn (v := .ty "str") (by rfl) B.str bStr rfl) pa_nil)))
      (pe_one (pe_cmpR op_in_seq (pv 3) (pe_glob (v := .ref aW) rfl gW rfl) (by rfl)))))))), ?_⟩
  refine ⟨_, rfl, _, _, _, _, true, rfl, .ty _, tup_ty hT, kit_ty (by decide +kernel), true, rfl, iteF ?_⟩
  refine ⟨_, rfl, a, _, rfl, .inr hT, rfl, _, rfl, iteF ?_⟩
  refine ⟨_, rfl, a, _, rfl, hT, rfl, _, _, rfl, _, _, rfl, rfl, ?_⟩
  refine ⟨_, rfl, _, rfl, l, 0, (p : Int), rfl, h1, h2, true, rfl, iteT ?_⟩
  refine ⟨_, rfl, _, _, _, _, true, rfl, .ty _, .base (.str x), kit_ty (by decide +kernel), true, rfl, iteT ?_⟩
  refine ⟨_, rfl, aW, _, rfl, .inr (hW H), (inW x h3).1, flatW, ?_⟩
  show Q (.bl (inV (.str x) (wordsL.map V.str))) H
  rw [(inW x h3).2]
  exact k
theorem ok_chk {f fI : Addr} {fd fdI : FuncData} (F : Fun K "check_rows" "check_rows" sChk f fd) (B : Bl mg) (GI : FnOk P w K mg base CX0 3 fI fdI ["value", "pages"] (spRow K)) (kI : PySem.W.keepIn K (.ref fI) = true) (bI : Binds K fdI ["value", "pages"] []) (gI : mg "is_row" = some (.ref fI))
    (gM : ∃ t, mg "MOST_ROWS" = some (.int 4 t)) : FnOk P w K mg base CX0 4 f fd ["rows", "pages"] (spChk K) := by
  refine F.ok scChk (fun vs H Q E h => ?_) (fun cdv A outer s H vs Q E hr h => ?_)
  · obtain ⟨a, p, r, rfl, _⟩ := h
    rfl
  obtain ⟨t, p, rows, rfl, ⟨rs, hT, hP⟩, hok, h4, ⟨ini, y, e⟩, k⟩ := h
  obtain ⟨tM, cM⟩ := gM
  refine ⟨_, pss_cons (ps_if (PW.pt (pw_or (pt_not (pt_val (pe_callB call_isi (by rfl) B.isi bIsi (pa_cons (pv 0) (pa_cons (pe_bltn (v := .ty "tuple") (by rfl) B.tup bTup rfl) pa_nil)))))
      (pw_or1 (pt_not (pt_truth (pv 0) (by intro _; rfl)))))) (pss_one ps_never) pss_nil)
    (pss_cons (ps_for PassesOwn.never rfl (pi_enumT (by rfl) B.enm (pa_cons (pv 0) pa_nil)) (pg_tup rfl (pgs_cons (pg_name (i := 2) scChk.nd rfl (.inl rfl)) (pgs_cons (pg_name (i := 3) scChk.nd rfl (.inl rfl)) pgs_nil)))
      (pss_one (ps_if (PW.pt (pw_or (pt_cmpR op_eq (pv 2) (pe_glob (v := .int 4) rfl cM ⟨_, rfl⟩) (nomark _)) (pw_or1 (pt_not (pt_val (pe_call GI hr (by rfl) gI kI bI .nil pass0 (pa_cons (pv 3) (pa_cons (pv 1) pa_nil)))))))) (pss_one ps_never) pss_nil)))
    (pss_cons (ps_set (i := 4) scChk.nd rfl (.inl rfl) (pe_op op_sub (pe_callB call_len_seq (by rfl) B.len PySem.boot_len (pa_cons (pv 0) pa_nil)) pe_int))
    (pss_one (ps_if (pt_cmpR op_ne (pe_ix ix_tup (pe_ix ix_tup (pv 0) (pv 4) (fun _ _ => rfl)) pe_int (fun _ _ => rfl)) (pv 1) (nomark _)) (pss_one ps_never) pss_nil)))), ?_⟩
  have hlen : rs.length = rows.length := Paired.length hP
  have hne : rs.map V.ref ≠ [] := by
    intro z
    have : rows.length = 0 := by rw [← hlen, ← List.length_map (f := V.ref), z]; rfl
    rw [e] at this
    simp at this
  refine ⟨_, rfl, _, _, _, _, true, rfl, .ty _, tup_ty hT, kit_ty (by decide +kernel), true, rfl, iteF ?_⟩
  refine ⟨_, rfl, true, .inr (.inl ⟨_, hT, ?_⟩), iteF ?_⟩
  · cases hq : rs.map V.ref with
    | nil => exact absurd hq hne
    | cons _ _ => rfl
  unfold tNext
  dsimp only
  refine seq_for fun D' hD1 hD2 => ?_
  refine ⟨_, rfl, t, _, rfl, hT, ?_⟩
  refine for_enumT (K := K) (xs := rs.map V.ref) (fun i σ H' => ∃ x2 x3, σ = [some (.ref t), some (.int (p : Int)), x2, x3, none] ∧ Same H H') ⟨none, none, rfl, Same.refl _⟩ (fun i σ H' q => ?_) ?_ ?_
  · obtain ⟨_, _, _, s1⟩ := q
    exact K2.Same.tup s1 hT
  · rintro i x T σ H' hi ⟨x2, x3, rfl, s1⟩ hN
    rw [List.getElem?_map] at hi
    obtain ⟨a, ha, rfl⟩ : ∃ a, rs[i]? = some a ∧ V.ref a = x := by
      cases hq : rs[i]? with
      | none => rw [hq] at hi; cases hi
      | some a => rw [hq] at hi; exact ⟨a, rfl, Option.some.inj hi⟩
    have hi4 : i < 4 := by
      have z := (List.getElem?_eq_some_iff.mp ha).1
      omega
    obtain ⟨r, hr1, hr2⟩ := paired_get hP ha
    have s2 : Same H (upd H' T (.tup [.int (i : Nat), .ref a])) := s1.trans (same_lay hN)
    refine ⟨T, _, rfl, SqT.of upd_same, rfl, _, _, rfl, _, _, rfl, rfl, ?_⟩
    refine ⟨_, rfl, rfl, _, rfl, ?_⟩
    have ne4 : decide (V.int (i : Nat) = V.int 4) = false := decide_eq_false (fun z => by injection z with z; omega)
    show (if decide (V.int ((i : Nat) : Int) = V.int 4) = true then _ else _)
    rw [ne4]
    refine iteF ⟨_, rfl, _, rfl, a, p, r, rfl, K2.Same.tup s2 hr2, hok r (List.mem_of_getElem? hr1), true, rfl, ?_⟩
    exact iteF ⟨_, _, rfl, s2⟩
  · rintro σ H' ⟨x2, x3, rfl, s1⟩
    rw [hD1]
    refine ⟨_, rfl, t, _, rfl, .inr (K2.Same.tup s1 hT), _, _, rfl, rfl, ?_⟩
    have hl : rs.length = ini.length + 1 := by rw [hlen, e, List.length_append]; rfl
    obtain ⟨a, ha⟩ : ∃ a, rs[ini.length]? = some a := ⟨rs[ini.length], List.getElem?_eq_getElem (by omega)⟩
    obtain ⟨r, hr1, hr2⟩ := paired_get hP ha
    have er : r = ((p : Int), y) := by
      rw [e, List.getElem?_append_right (Nat.le_refl _), Nat.sub_self] at hr1
      exact (Option.some.inj hr1).symm
    subst er
    refine ⟨_, rfl, _, rfl, t, _, _, .ref a, rfl, rfl, K2.Same.tup s1 hT, ?_, a, _, _, .int (p : Int), rfl, rfl, K2.Same.tup s1 hr2, rfl, _, rfl, rfl, _, rfl, ?_⟩
    · have e2 : (((rs.map V.ref).length : Nat) : Int) - 1 = ((ini.length : Nat) : Int) := by rw [List.length_map]; omega
      show atI _ ((((rs.map V.ref).length : Nat) : Int) - 1) = _
      rw [e2]
      exact atI_nat (by rw [List.getElem?_map, ha]; rfl)
    · have z : (!decide (V.int (p : Int) = V.int (p : Int))) = false := by rw [decide_eq_true rfl]; rfl
      show (if (!decide (V.int (p : Int) = V.int (p : Int))) = true then _ else _)
      rw [z]
      exact iteF (k H' s1)
end
end K2

set_option Elab.async false
set_option linter.all false
set_option maxRecDepth 100000
set_option maxHeartbeats 4000000
namespace K2
open PySem PySem.Spec PyProof.Rows L2 G1 G2
abbrev sTxt : Stmt := topS 34
theorem scTxt : FnScope ["blocks", "pages", "names", "rows", "lines", "limit", "word"] ["blocks", "pages", "names", "rows"] (defScope sTxt) := ⟨rfl, rfl, rfl, by decide +kernel, rfl, by decide +kernel, by decide +kernel⟩
structure Cn (mg : Str → Option Value) : Prop where
  lb : ∃ t, mg "LEAST_BLOCKS" = some (.int 3 t)
  mb : ∃ t, mg "MOST_BLOCKS" = some (.int 6 t)
  lp : ∃ t, mg "LEAST_PAGES" = some (.int 2 t)
  mp : ∃ t, mg "MOST_PAGES" = some (.int 5 t)
  mr : ∃ t, mg "MOST_ROWS" = some (.int 4 t)
  ms : ∃ t, mg "MOST_STANDS" = some (.int 2000 t)
  wh : ∃ t, mg "WORDS_OF_HEAD" = some (.int 7 t)
  md : ∃ t, mg "MOST_DIGITS" = some (.int 2 t)
/-- sizes of a drive -/
structure Sz (b p n : Nat) : Prop where
  b0 : 3 ≤ b
  b1 : b ≤ 6
  p0 : 2 ≤ p
  p1 : p ≤ 5
  n0 : 1 ≤ n
  n1 : n ≤ p * (b - 1)
theorem Sz.n25 {b p n : Nat} (h : Sz b p n) : n < 26 := by
  have z : p * (b - 1) ≤ 5 * 5 := Nat.mul_le_mul h.p1 (by have := h.b1; omega)
  have := h.n1
  omega
def spSiz : Sp := fun vs H Q _ => ∃ b p n : Nat, vs = [.int (b : Int), .int (p : Int), .int (n : Int)] ∧ Sz b p n ∧ Q .non H
/-! ### the mirror of the text -/
def numS (i : Int) : Str := toString i
def headM (b p n : Int) : Str := ((((((Str.empty ++ ("drive " : Str)) ++ numS b) ++ (" blocks " : Str)) ++ numS p) ++ (" pages " : Str)) ++ numS n) ++ (" names" : Str)
def lineM (r : RowD) : Str := (((Str.empty ++ ("at most " : Str)) ++ numS r.1) ++ (": " : Str)) ++ r.2
def anyM (w : Str) : Str := ("any: " : Str) ++ w
def linesM (b p n : Int) (ini : List RowD) (w : Str) : List Str := headM b p n :: (ini.map lineM ++ [anyM w])
def textM (b p n : Int) (ini : List RowD) (w : Str) : Str := Txt.join ("\n" : Str) (linesM b p n ini w)
section
variable {P : Program} {w : World} {K : PySem.W.Frag} {mg : Str → Option Value} {base : Heap}
theorem ok_siz {f fI : Addr} {fd fdI : FuncData} (F : Fun K "check_sizes" "check_sizes" sSiz f fd) (C : Cn mg) (GI : FnOk P w K mg base CX0 2 fI fdI ["value", "least", "most"] spWit) (kI : PySem.W.keepIn K (.ref fI) = true) (bI : Binds K fdI ["value", "least", "most"] []) (gI : mg "is_within" = some (.ref fI)) :
    FnOk P w K mg base CX0 3 f fd ["blocks", "pages", "names"] spSiz := by
  refine F.ok scSiz (fun vs H Q E h => ?_) (fun cdv A outer s H vs Q E hr h => ?_)
  · obtain ⟨a, p, r, rfl, _⟩ := h
    rfl
  obtain ⟨b, p, n, rfl, hz, k⟩ := h
  obtain ⟨t1, c1⟩ := C.lb
  obtain ⟨t2, c2⟩ := C.mb
  obtain ⟨t3, c3⟩ := C.lp
  obtain ⟨t4, c4⟩ := C.mp
  have b0 := hz.b0
  have b1 := hz.b1
  have p0 := hz.p0
  have p1 := hz.p1
  have n0 := hz.n0
  have n1 : (n : Int) ≤ (p : Int) * ((b : Int) - 1) := by
    have z := hz.n1
    have e : ((p * (b - 1) : Nat) : Int) = (p : Int) * ((b : Int) - 1) := by
      rw [Int.natCast_mul, Int.natCast_sub (by omega)]; rfl
    omega
  refine ⟨_, pss_cons (ps_if (pt_not (pt_val (pe_call GI hr (by rfl) gI kI bI .nil pass0 (pa_cons (pv 0) (pa_cons (pe_glob (v := .int 3) rfl c1 ⟨_, rfl⟩) (pa_cons (pe_glob (v := .int 6) rfl c2 ⟨_, rfl⟩) pa_nil)))))) (pss_one ps_never) pss_nil)
    (pss_cons (ps_if (pt_not (pt_val (pe_call GI hr (by rfl) gI kI bI .nil pass0 (pa_cons (pv 1) (pa_cons (pe_glob (v := .int 2) rfl c3 ⟨_, rfl⟩) (pa_cons (pe_glob (v := .int 5) rfl c4 ⟨_, rfl⟩) pa_nil)))))) (pss_one ps_never) pss_nil)
    (pss_one (ps_if (pt_not (pt_val (pe_call GI hr (by rfl) gI kI bI .nil pass0 (pa_cons (pv 2) (pa_cons pe_int (pa_cons (pe_op op_mul (pv 1) (pe_op op_sub (pv 0) pe_int)) pa_nil)))))) (pss_one ps_never) pss_nil))), ?_⟩
  refine ⟨_, rfl, (b : Int), 3, 6, rfl, by omega, by omega, true, rfl, iteF ?_⟩
  refine ⟨_, rfl, (p : Int), 2, 5, rfl, by omega, by omega, true, rfl, iteF ?_⟩
  exact ⟨_, rfl, _, rfl, _, rfl, _, _, rfl, rfl, _, _, rfl, rfl, .inl ⟨by omega, by omega⟩, (n : Int), 1, _, rfl, by omega, n1, true, rfl, iteF k⟩
end
end K2

set_option Elab.async false
set_option linter.all false
set_option maxRecDepth 100000
set_option maxHeartbeats 4000000
namespace K2
open PySem PySem.Spec PyProof.Rows L2 G1 G2
theorem num_len : ∀ i : Nat, i < 26 → (numS (i : Int)).length ≤ 2 := by decide +kernel
theorem word_len : ∀ w ∈ wordsL, w.length ≤ 8 := by decide +kernel
theorem log_small (i : Nat) (h : i < 26) : (i : Int).natAbs.log2 < 1920 := by
  have z : ∀ j : Nat, j < 26 → (j : Int).natAbs.log2 < 1920 := by decide +kernel
  exact z i h
theorem small_line {k : Nat} (h : k ≤ 1000) : k ≤ sizeLine := by rw [sizeLine_eq]; omega
theorem six_last (xs : List V) (x : V) : HT.sIx (xs ++ [x]).length (xs ++ [x]).length (some (-1)) = xs.length := by
  unfold HT.sIx
  dsimp only
  rw [if_pos (by decide), List.length_append, List.length_singleton]
  omega
theorem cut_last (xs : List V) (x : V) : cutV (xs ++ [x]) none (some (-1)) = xs := by
  unfold cutV
  rw [HT.sIx_none, six_last, List.drop_zero, Nat.sub_zero]
  simp
theorem cut_not (xs : List V) (x : V) : ¬ (HT.sIx (xs ++ [x]).length 0 none = 0 ∧ HT.sIx (xs ++ [x]).length (xs ++ [x]).length (some (-1)) = (xs ++ [x]).length) := by
  rintro ⟨_, h⟩
  rw [six_last, List.length_append] at h
  simp at h
theorem at_last (xs : List V) (x : V) : atI (xs ++ [x]) (-1) = some x := by
  have e : ixN (xs ++ [x]).length (-1) = some xs.length := by
    unfold ixN
    rw [if_neg (by decide), List.length_append, List.length_singleton, if_pos (by omega)]
    exact congrArg some (by omega)
  unfold atI
  rw [e]
  simp
/-- the rows, but for the last one -/
def IniOk (p : Nat) (ini : List RowD) : Prop := (∀ r ∈ ini, RowOk p r) ∧ ini.length ≤ 3
theorem len_head (b p n : Nat) (hb : b < 26) (hp : p < 26) (hn : n < 26) : (headM (b : Int) (p : Int) (n : Int)).length ≤ 40 := by
  have h1 := num_len b hb
  have h2 := num_len p hp
  have h3 := num_len n hn
  unfold headM
  simp only [Str.length_append]
  have e1 : (Str.ofString "drive ").length = 6 := by decide +kernel
  have e2 : (Str.ofString " blocks ").length = 8 := by decide +kernel
  have e3 : (Str.ofString " pages ").length = 7 := by decide +kernel
  have e4 : (Str.ofString " names").length = 6 := by decide +kernel
  have e5 : Str.empty.length = 0 := by decide +kernel
  rw [e1, e2, e3, e4, e5]
  omega
theorem len_line (r : RowD) (p : Nat) (hp : p < 26) (h : RowOk p r) : (lineM r).length ≤ 40 := by
  obtain ⟨h1, h2, h3⟩ := h
  have e0 : r.1 = ((r.1.toNat : Nat) : Int) := by omega
  have n1 : (numS r.1).length ≤ 2 := by rw [e0]; exact num_len _ (by omega)
  have n2 := word_len r.2 h3
  unfold lineM
  simp only [Str.length_append]
  have e1 : (Str.ofString "at most ").length = 8 := by decide +kernel
  have e2 : (Str.ofString ": ").length = 2 := by decide +kernel
  have e5 : Str.empty.length = 0 := by decide +kernel
  rw [e1, e2, e5]
  omega
theorem len_any (w : Str) (h : w ∈ wordsL) : (anyM w).length ≤ 40 := by
  have n2 := word_len w h
  unfold anyM
  simp only [Str.length_append]
  have e1 : (Str.ofString "any: ").length = 5 := by decide +kernel
  rw [e1]
  omega
theorem empty_app (x : Str) : Str.empty ++ x = x := by
  show (⟨#[] ++ x.cps⟩ : Str) = x
  rw [Array.empty_append]
def spTxt (K : PySem.W.Frag) : Sp := fun vs H Q _ => ∃ (b p n : Nat) (t : Addr) (ini : List RowD) (y : Str), vs = [.int (b : Int), .int (p : Int), .int (n : Int), .ref t] ∧ b < 26 ∧ p < 26 ∧ n < 26 ∧ RowsAt K H t (ini ++ [((p : Int), y)]) ∧ IniOk p ini ∧ y ∈ wordsL ∧
  ∀ H' : Hp, Same H H' → Q (.str (textM (b : Int) (p : Int) (n : Int) ini y)) H'
theorem paired_split {α β : Type} {F : α → β → Prop} : ∀ {l : List α} {m : List β} {y : β}, Paired F l (m ++ [y]) → ∃ l' x, l = l' ++ [x] ∧ Paired F l' m ∧ F x y
  | [], [], y, h => nomatch h
  | [], _ :: _, y, h => nomatch h
  | _ :: _, [], y, .cons r .nil => ⟨[], _, rfl, .nil, r⟩
  | _ :: _, _ :: _, y, .cons r t => by
    obtain ⟨l', x, e, h1, h2⟩ := paired_split t
    exact ⟨_ :: l', x, by rw [e]; rfl, .cons r h1, h2⟩
theorem sum_le (l : List Str) (h : ∀ x ∈ l, x.length ≤ 40) : (l.map (·.length)).sum ≤ l.length * 40 := by
  induction l with
  | nil => exact Nat.le_refl _
  | cons a l ih =>
    have h1 := h a (List.mem_cons_self ..)
    have h2 := ih fun x hx => h x (List.mem_cons_of_mem _ hx)
    rw [List.map_cons, List.sum_cons, List.length_cons]
    omega
theorem lines_len (b p n : Nat) (hb : b < 26) (hp : p < 26) (hn : n < 26) (ini : List RowD) (hi : IniOk p ini) (y : Str) (hy : y ∈ wordsL) : (∀ x ∈ linesM (b : Int) (p : Int) (n : Int) ini y, x.length ≤ 40) ∧ (linesM (b : Int) (p : Int) (n : Int) ini y).length ≤ 5 := by
  unfold linesM
  refine ⟨fun x hx => ?_, ?_⟩
  · rcases List.mem_cons.mp hx with rfl | hx
    · exact len_head b p n hb hp hn
    rcases List.mem_append.mp hx with hx | hx
    · obtain ⟨r, hr, rfl⟩ := List.mem_map.mp hx
      exact len_line r p hp (hi.1 r hr)
    · rw [List.mem_singleton.mp hx]
      exact len_any y hy
  · have := hi.2
    simp
    omega
theorem join_fits (l : List Str) (h : (∀ x ∈ l, x.length ≤ 40) ∧ l.length ≤ 5) : (l.map (·.length)).sum + l.length * (Str.ofString "\n").length ≤ 16777216 := by
  have z := sum_le l h.1
  have e : (Str.ofString "\n").length = 1 := by decide +kernel
  have := h.2
  rw [e]
  omega
end K2

set_option Elab.async false
set_option linter.all false
set_option maxRecDepth 100000
set_option maxHeartbeats 4000000
namespace K2
open PySem PySem.Spec PyProof.Rows L2 G1 G2
theorem js_c {x acc : Str} {ts : List TE} {σ : L2.St} {H : Hp} {Q : Str → Hp → Prop} (h1 : (acc ++ x).length ≤ sizeLine) (h2 : tJs ts (acc ++ x) σ H Q) : tJs (tC (.str x) :: ts) acc σ H Q := ⟨x, rfl, h1, h2⟩
theorem js_i {te : TE} {acc : Str} {ts : List TE} {σ : L2.St} {H : Hp} {Q : Str → Hp → Prop} {i : Int} (ht : ∀ R : VK, R (.int i) H → te σ H R) (h0 : i.natAbs.log2 < 1920) (h1 : (acc ++ numS i).length ≤ sizeLine) (h2 : tJs ts (acc ++ numS i) σ H Q) : tJs (tFmt te :: ts) acc σ H Q :=
  ht _ (.inr ⟨i, rfl, h0, _, rfl, h1, h2⟩)
theorem js_s {te : TE} {acc : Str} {ts : List TE} {σ : L2.St} {H : Hp} {Q : Str → Hp → Prop} {x : Str} (ht : ∀ R : VK, R (.str x) H → te σ H R) (h0 : x.length ≤ sizeLine) (h1 : (acc ++ x).length ≤ sizeLine) (h2 : tJs ts (acc ++ x) σ H Q) : tJs (tFmt te :: ts) acc σ H Q :=
  ht _ (.inl ⟨x, rfl, h0, _, rfl, h1, h2⟩)
theorem js_0 {acc : Str} {σ : L2.St} {H : Hp} {Q : Str → Hp → Prop} (h : Q acc H) : tJs [] acc σ H Q := h
theorem head_read {t1 t2 t3 : TE} {σ : L2.St} {H : Hp} {Q : Str → Hp → Prop} {b p n : Nat} (hb : b < 26) (hp : p < 26) (hn : n < 26) (h1 : ∀ R : VK, R (.int (b : Int)) H → t1 σ H R) (h2 : ∀ R : VK, R (.int (p : Int)) H → t2 σ H R) (h3 : ∀ R : VK, R (.int (n : Int)) H → t3 σ H R)
    (k : Q (headM (b : Int) (p : Int) (n : Int)) H) : tJs [tC (.str (Str.ofString "drive ")), tFmt t1, tC (.str (Str.ofString " blocks ")), tFmt t2, tC (.str (Str.ofString " pages ")), tFmt t3, tC (.str (Str.ofString " names"))] Str.empty σ H Q := by
  have z := len_head b p n hb hp hn
  unfold headM at z
  simp only [Str.length_append] at z
  refine js_c ?_ (js_i h1 (log_small b hb) ?_ (js_c ?_ (js_i h2 (log_small p hp) ?_ (js_c ?_ (js_i h3 (log_small n hn) ?_ (js_c ?_ (js_0 k)))))))
  all_goals
    refine small_line ?_
    simp only [Str.length_append]
    omega
theorem line_read {t1 t2 : TE} {σ : L2.St} {H : Hp} {Q : Str → Hp → Prop} {r : RowD} {p : Nat} (hp : p < 26) (hr : RowOk p r) (h1 : ∀ R : VK, R (.int r.1) H → t1 σ H R) (h2 : ∀ R : VK, R (.str r.2) H → t2 σ H R)
    (k : Q (lineM r) H) : tJs [tC (.str (Str.ofString "at most ")), tFmt t1, tC (.str (Str.ofString ": ")), tFmt t2] Str.empty σ H Q := by
  have z := len_line r p hp hr
  unfold lineM at z
  simp only [Str.length_append] at z
  have hl : r.1.natAbs.log2 < 1920 := by
    obtain ⟨a1, a2, _⟩ := hr
    have e0 : r.1 = ((r.1.toNat : Nat) : Int) := by omega
    rw [e0]
    exact log_small _ (by omega)
  refine js_c ?_ (js_i h1 hl ?_ (js_c ?_ (js_s h2 ?_ ?_ (js_0 k))))
  all_goals
    refine small_line ?_
    (try simp only [Str.length_append])
    omega
theorem any_read {t1 : TE} {σ : L2.St} {H : Hp} {Q : Str → Hp → Prop} {x : Str} (hx : x ∈ wordsL) (h1 : ∀ R : VK, R (.str x) H → t1 σ H R) (k : Q (anyM x) H) : tJs [tC (.str (Str.ofString "any: ")), tFmt t1] Str.empty σ H Q := by
  have z := len_any x hx
  unfold anyM at z
  simp only [Str.length_append] at z
  refine js_c ?_ (js_s h1 ?_ ?_ (js_0 ?_))
  · rw [empty_app]; exact small_line (by omega)
  · exact small_line (by omega)
  · rw [empty_app]; simp only [Str.length_append]; exact small_line (by omega)
  · rw [empty_app]; exact k
section
variable {P : Program} {w : World} {K : PySem.W.Frag} {mg : Str → Option Value} {base : Heap}
theorem ok_txt {f : Addr} {fd : FuncData} (F : Fun K "text_of" "text_of" sTxt f fd) (B : Bl mg) : FnOk P w K mg base CX0 1 f fd ["blocks", "pages", "names", "rows"] (spTxt K) := by
  refine F.ok scTxt (fun vs H Q E h => ?_) (fun cdv A outer s H vs Q E hr h => ?_)
  · obtain ⟨b, p, n, t, ini, y, rfl, _⟩ := h
    rfl
  obtain ⟨b, p, n, t, ini, y, rfl, hb, hp, hn, ⟨rs0, hT0, hP0⟩, hini, hy, k⟩ := h
  obtain ⟨rs, rl, rfl, hP, hl⟩ := paired_split hP0
  have hT : SqT K H t (rs.map V.ref ++ [V.ref rl]) := by
    have e : (rs ++ [rl]).map V.ref = rs.map V.ref ++ [V.ref rl] := by simp
    rwa [e] at hT0
  refine ⟨_, pss_cons (ps_set (i := 4) scTxt.nd rfl (.inl rfl) (pe_lst (pa_cons (pe_joined (.cons pe_str (.cons (pe_fmt (pv 0)) (.cons pe_str (.cons (pe_fmt (pv 1)) (.cons pe_str (.cons (pe_fmt (pv 2)) (.cons pe_str .nil)))))))) pa_nil)))
    (pss_cons (ps_for PassesOwn.never rfl (pi_tup (pe_slice sl_tup (pv 3) po_none (po_some (pe_un un_neg pe_int)))) (pg_tup rfl (pgs_cons (pg_name (i := 5) scTxt.nd rfl (.inl rfl)) (pgs_cons (pg_name (i := 6) scTxt.nd rfl (.inl rfl)) pgs_nil)))
      (pss_one (ps_expr (pe_bm PySem.F.plainAttrs_list PySem.F.slot_list_append PySem.F.type_list_append mt_append (pv 4) (pa_cons (pe_joined (.cons pe_str (.cons (pe_fmt (pv 5)) (.cons pe_str (.cons (pe_fmt (pv 6)) .nil))))) pa_nil)))))
    (pss_cons (ps_expr (pe_bm PySem.F.plainAttrs_list PySem.F.slot_list_append PySem.F.type_list_append mt_append (pv 4) (pa_cons (pe_joined (.cons pe_str (.cons (pe_fmt (pe_ix ix_tup (pe_ix ix_tup (pv 3) (pe_un un_neg pe_int) (fun _ _ => rfl)) pe_int (fun _ _ => rfl))) .nil))) pa_nil)))
    (pss_one (ps_ret (pe_join pe_str (pv 4)))))), ?_⟩
  refine seq_asg (lst_read (cons_read ?_))
  refine head_read hb hp hn (fun R q => ⟨_, rfl, q⟩) (fun R q => ⟨_, rfl, q⟩) (fun R q => ⟨_, rfl, q⟩) ?_
  refine nil_read ⟨by show 1 ≤ sizeLine; decide, fun l nl => ?_⟩
  refine seq_for fun D' hD1 hD2 => ?_
  have s1 : Same H (upd H l (.lst [.str (headM (b : Int) (p : Int) (n : Int))])) := same_lay nl
  refine ⟨_, rfl, _, rfl, _, rfl, t, _, rfl, K2.Same.tup s1 hT, cut_not _ _, fun u nu => ?_⟩
  rw [show (-(1 : Int)) = -1 from rfl, cut_last]
  have hu : (upd (upd H l (.lst [.str (headM (b : Int) (p : Int) (n : Int))])) u (.tup (rs.map V.ref))) u = some (.tup (rs.map V.ref)) := upd_same
  refine ⟨u, rfl, ⟨_, SqT.of hu⟩, ?_⟩
  have nul : u ≠ l := fun z => by rw [z, upd_same] at nu; cases nu
  refine for_tup (K := K) (xs := rs.map V.ref) (fun i σ H' => ∃ x5 x6, σ = [some (.int (b : Int)), some (.int (p : Int)), some (.int (n : Int)), some (.ref t), some (.ref l), x5, x6] ∧ Same H H' ∧ H' u = some (.tup (rs.map V.ref)) ∧
      H' l = some (.lst ((headM (b : Int) (p : Int) (n : Int) :: (ini.take i).map lineM).map V.str))) ⟨none, none, rfl, s1.trans (same_lay nu), hu, ?_⟩ (fun i σ H' _ q => ?_) ?_ ?_
  · rw [upd_ne (Ne.symm nul), upd_same]; rfl
  · obtain ⟨_, _, _, _, q, _⟩ := q
    exact SqT.of q
  · rintro i x σ H' hi ⟨x5, x6, rfl, s2, q1, q2⟩
    rw [List.getElem?_map] at hi
    obtain ⟨a, ha, rfl⟩ : ∃ a, rs[i]? = some a ∧ V.ref a = x := by
      cases hq : rs[i]? with
      | none => rw [hq] at hi; cases hi
      | some a => rw [hq] at hi; exact ⟨a, rfl, Option.some.inj hi⟩
    obtain ⟨r, hr1, hr2⟩ := paired_get hP ha
    have hrok : RowOk p r := hini.1 r (List.mem_of_getElem? hr1)
    refine ⟨a, _, rfl, K2.Same.tup s2 hr2, rfl, _, _, rfl, _, _, rfl, rfl, ?_⟩
    refine ⟨_, rfl, .inl ⟨rfl, _, SqL.of q2⟩, ?_⟩
    refine line_read hp hrok (fun R q => ⟨_, rfl, q⟩) (fun R q => ⟨_, rfl, q⟩) ?_
    refine ⟨l, _, _, rfl, rfl, q2, ?_, _, _, rfl, fun b o e => ?_, ?_, ?_⟩
    · rw [List.length_map, List.length_cons, List.length_map, List.length_take, sizeLine_eq]
      have := hini.2
      omega
    · rw [upd_ne (ne_of_none e nl)]; exact s2 _ _ e
    · rw [upd_ne nul]; exact q1
    · rw [upd_same, List.take_add_one, hr1]
      simp
  · rintro σ H' ⟨x5, x6, rfl, s2, q1, q2⟩
    rw [hD1]
    have el : (rs.map V.ref).length = ini.length := by rw [List.length_map]; exact Paired.length hP
    rw [el, List.take_length] at q2
    refine ⟨_, rfl, .inl ⟨rfl, _, SqL.of q2⟩, ?_⟩
    refine any_read hy (fun R q => ⟨_, rfl, _, rfl, t, _, _, .ref rl, rfl, rfl, K2.Same.tup s2 hT, at_last _ _, rl, _, _, .str y, rfl, rfl, K2.Same.tup s2 hl, rfl, q⟩) ?_
    refine ⟨l, _, _, rfl, rfl, q2, ?_, ?_⟩
    · rw [List.length_map, List.length_cons, List.length_map, sizeLine_eq]
      have := hini.2
      omega
    have q3 : (upd H' l (.lst ((headM (b : Int) (p : Int) (n : Int) :: ini.map lineM).map V.str ++ [.str (anyM y)]))) l = some (.lst ((linesM (b : Int) (p : Int) (n : Int) ini y).map V.str)) := by
      rw [upd_same]
      unfold linesM
      simp
    refine ⟨⟨_, rfl⟩, _, rfl, _, l, linesM (b : Int) (p : Int) (n : Int) ini y, rfl, rfl, .inl (SqL.of q3), join_fits _ (lines_len b p n hb hp hn ini hini y hy), k _ fun c o e => ?_⟩
    rw [upd_ne (ne_of_none e nl)]; exact s2 _ _ e
end
end K2

set_option Elab.async false
set_option linter.all false
set_option maxRecDepth 100000
set_option maxHeartbeats 4000000
namespace K2
open PySem PySem.Spec PyProof.Rows L2 G1 G2
abbrev sDrv : Stmt := topS 40
abbrev sIni : Stmt := inClass sDrv 0
theorem scIni : FnScope ["self", "blocks", "pages", "names", "rows"] ["self", "blocks", "pages", "names", "rows"] (defScope sIni) := ⟨rfl, rfl, rfl, by decide +kernel, rfl, by decide +kernel, by decide +kernel⟩
/-- what the written part says of the class -/
structure DCls (K : PySem.W.Frag) (C : Addr) : Prop where
  cl : Cls K C
  nb : NoAttr K C "kept_blocks"
  np : NoAttr K C "kept_pages"
  nn : NoAttr K C "kept_names"
  nr : NoAttr K C "kept_rows"
  nt : NoAttr K C "kept_text"
def drvF (b p n : Nat) (t : Addr) (x : Str) : List (Str × V) := [("kept_blocks", .int (b : Int)), ("kept_pages", .int (p : Int)), ("kept_names", .int (n : Int)), ("kept_rows", .ref t), ("kept_text", .str x)]
def Keep (x : Addr) (H H' : Hp) : Prop := ∀ a o, H a = some o → a ≠ x → H' a = some o
theorem Keep.tup {K : PySem.W.Frag} {x a C dx : Addr} {H H' : Hp} {fs : List (Str × V)} {xs : List V} (k : Keep x H H') (hx : H x = some (.ins C dx fs)) (h : SqT K H a xs) : SqT K H' a xs := by
  rcases h with (h | ⟨o, h⟩) | h
  · exact .inl (.inl (k _ _ h (ne_of h hx (by intro z; cases z))))
  · exact .inl (.inr ⟨o, k _ _ h (ne_of h hx (by intro z; cases z))⟩)
  · exact .inr h
theorem Keep.rows {K : PySem.W.Frag} {x t C dx : Addr} {H H' : Hp} {fs : List (Str × V)} {rows : List RowD} (k : Keep x H H') (hx : H x = some (.ins C dx fs)) (h : RowsAt K H t rows) : RowsAt K H' t rows := by
  obtain ⟨rs, h1, h2⟩ := h
  exact ⟨rs, k.tup hx h1, Paired.mapP h2 fun _ _ z => k.tup hx z⟩
theorem Keep.refl (x : Addr) (H : Hp) : Keep x H H := fun _ _ h _ => h
theorem Keep.trans {x : Addr} {H H1 H2 : Hp} (a : Keep x H H1) (b : Keep x H1 H2) : Keep x H H2 := fun c o h n => b c o (a c o h n) n
theorem Keep.of {x : Addr} {H H' : Hp} (s : Same H H') : Keep x H H' := fun a o h _ => s a o h
theorem Keep.upd (x : Addr) (H : Hp) (o : HO) : Keep x H (L2.upd H x o) := fun a u h n => by rw [upd_ne n]; exact h
/-- what a drive is made of -/
structure DP (b p n : Nat) (ini : List RowD) (y : Str) : Prop where
  sz : Sz b p n
  few : cntM b p n ≤ 2000
  ini : IniOk p ini
  y : y ∈ wordsL
def spIni (K : PySem.W.Frag) (C : Addr) : Sp := fun vs H Q _ => ∃ (x dx t : Addr) (b p n : Nat) (ini : List RowD) (y : Str), vs = [.ref x, .int (b : Int), .int (p : Int), .int (n : Int), .ref t] ∧ H x = some (.ins C dx []) ∧ DP b p n ini y ∧ RowsAt K H t (ini ++ [((p : Int), y)]) ∧
  ∀ H' : Hp, Keep x H H' → H' x = some (.ins C dx (drvF b p n t (textM (b : Int) (p : Int) (n : Int) ini y))) → Q .non H'
/-- the defs that a drive is made with -/
structure Base (P : Program) (w : World) (K : PySem.W.Frag) (mg : Str → Option Value) (base : Heap) (fZ fR fT fC : Addr) (dZ dR dT dC : FuncData) : Prop where
  Z : FnOk P w K mg base CX0 3 fZ dZ ["blocks", "pages", "names"] spSiz
  kZ : PySem.W.keepIn K (.ref fZ) = true
  bZ : Binds K dZ ["blocks", "pages", "names"] []
  gZ : mg "check_sizes" = some (.ref fZ)
  R : FnOk P w K mg base CX0 4 fR dR ["rows", "pages"] (spChk K)
  kR : PySem.W.keepIn K (.ref fR) = true
  bR : Binds K dR ["rows", "pages"] []
  gR : mg "check_rows" = some (.ref fR)
  T : FnOk P w K mg base CX0 1 fT dT ["blocks", "pages", "names", "rows"] (spTxt K)
  kT : PySem.W.keepIn K (.ref fT) = true
  bT : Binds K dT ["blocks", "pages", "names", "rows"] []
  gT : mg "text_of" = some (.ref fT)
  C : FnOk P w K mg base CX0 2 fC dC ["blocks", "pages", "names"] spCnt
  kC : PySem.W.keepIn K (.ref fC) = true
  bC : Binds K dC ["blocks", "pages", "names"] []
  gC : mg "count_stands" = some (.ref fC)
theorem rows_ok {p : Nat} {ini : List RowD} {y : Str} (h : IniOk p ini) (hy : y ∈ wordsL) : (∀ r ∈ ini ++ [((p : Int), y)], RowOk p r) ∧ (ini ++ [((p : Int), y)]).length ≤ 4 := by
  refine ⟨fun r hr => ?_, ?_⟩
  · rcases List.mem_append.mp hr with hr | hr
    · exact h.1 r hr
    · rw [List.mem_singleton.mp hr]
      exact ⟨by omega, by omega, hy⟩
  · rw [List.length_append]
    have := h.2
    simp
    omega
section
variable {P : Program} {w : World} {K : PySem.W.Frag} {mg : Str → Option Value} {base : Heap}
theorem ok_ini {f C fZ fR fT fC : Addr} {fd dZ dR dT dC : FuncData} (F : Fun K "__init__" "Drive.__init__" sIni f fd) (T : DCls K C) (Cm : Cn mg) (G : Base P w K mg base fZ fR fT fC dZ dR dT dC) :
    FnOk P w K mg base CX0 5 f fd ["self", "blocks", "pages", "names", "rows"] (spIni K C) := by
  refine F.ok scIni (fun vs H Q E h => ?_) (fun cdv A outer s H vs Q E hr h => ?_)
  · obtain ⟨x, dx, t, b, p, n, ini, y, rfl, _⟩ := h
    rfl
  obtain ⟨x, dx, t, b, p, n, ini, y, rfl, hx, ⟨hz, hfew, hini, hy⟩, hR, k⟩ := h
  obtain ⟨tm, cm⟩ := Cm.ms
  have hr1 : Room 1 _ := hr.mono (by decide)
  have hr2 : Room 2 _ := hr.mono (by decide)
  have hr3 : Room 3 _ := hr.mono (by decide)
  refine ⟨_, pss_cons (ps_expr (pe_call G.Z hr3 (by rfl) G.gZ G.kZ G.bZ .nil pass0 (pa_cons (pv 1) (pa_cons (pv 2) (pa_cons (pv 3) pa_nil)))))
    (pss_cons (ps_expr (pe_call G.R hr (by rfl) G.gR G.kR G.bR .nil pass0 (pa_cons (pv 4) (pa_cons (pv 2) pa_nil))))
    (pss_cons (ps_fld (pv 0) (pv 1) rfl) (pss_cons (ps_fld (pv 0) (pv 2) rfl) (pss_cons (ps_fld (pv 0) (pv 3) rfl) (pss_cons (ps_fld (pv 0) (pv 4) rfl)
    (pss_cons (ps_fld (pv 0) (pe_call G.T hr1 (by rfl) G.gT G.kT G.bT .nil pass0 (pa_cons (pv 1) (pa_cons (pv 2) (pa_cons (pv 3) (pa_cons (pv 4) pa_nil))))) rfl)
    (pss_one (ps_if (pt_cmpR op_gt (pe_call G.C hr2 (by rfl) G.gC G.kC G.bC .nil pass0 (pa_cons (pv 1) (pa_cons (pv 2) (pa_cons (pv 3) pa_nil)))) (pe_glob (v := .int 2000) rfl cm ⟨_, rfl⟩) (nomark _)) (pss_one ps_never) pss_nil)))))))), ?_⟩
  refine ⟨_, rfl, _, rfl, _, rfl, b, p, n, rfl, hz, ?_⟩
  refine ⟨_, rfl, _, rfl, t, p, _, rfl, hR, (rows_ok hini hy).1, (rows_ok hini hy).2, ⟨ini, y, rfl⟩, fun H1 s1 => ?_⟩
  have hx1 := s1 _ _ hx
  refine ⟨_, rfl, _, rfl, x, C, dx, _, rfl, hx1, T.cl, T.nb, by decide, ?_⟩
  refine ⟨_, rfl, _, rfl, x, C, dx, _, rfl, upd_same, T.cl, T.np, by show 1 < 1000; decide, ?_⟩
  rw [upd_upd]
  refine ⟨_, rfl, _, rfl, x, C, dx, _, rfl, upd_same, T.cl, T.nn, by show 2 < 1000; decide, ?_⟩
  rw [upd_upd]
  refine ⟨_, rfl, _, rfl, x, C, dx, _, rfl, upd_same, T.cl, T.nr, by show 3 < 1000; decide, ?_⟩
  rw [upd_upd]
  have k1 := Keep.upd x H1 (.ins C dx [("kept_blocks", .int (b : Int)), ("kept_pages", .int (p : Int)), ("kept_names", .int (n : Int)), ("kept_rows", .ref t)])
  have e1 : (upd H1 x (.ins C dx [("kept_blocks", .int (b : Int)), ("kept_pages", .int (p : Int)), ("kept_names", .int (n : Int)), ("kept_rows", .ref t)])) x = some (.ins C dx [("kept_blocks", .int (b : Int)), ("kept_pages", .int (p : Int)), ("kept_names", .int (n : Int)), ("kept_rows", .ref t)]) := upd_same
  show tSeq _ _ _ _ (upd H1 x (.ins C dx [("kept_blocks", .int (b : Int)), ("kept_pages", .int (p : Int)), ("kept_names", .int (n : Int)), ("kept_rows", .ref t)]))
  generalize upd H1 x (.ins C dx [("kept_blocks", .int (b : Int)), ("kept_pages", .int (p : Int)), ("kept_names", .int (n : Int)), ("kept_rows", .ref t)]) = H2 at k1 e1 ⊢
  have kA : Keep x H H2 := (Keep.of s1).trans k1
  have n25 := hz.n25
  have hp1 := hz.p1
  have hb1 := hz.b1
  refine ⟨_, rfl, _, rfl, _, rfl, _, rfl, b, p, n, t, ini, y, rfl, by omega, by omega, n25, kA.rows hx hR, hini, hy, fun H3 s3 => ?_⟩
  refine ⟨_, rfl, x, C, dx, _, rfl, s3 _ _ e1, T.cl, T.nt, by show 4 < 1000; decide, ?_⟩
  have hb0 := hz.b0
  have hn0 := hz.n0
  refine ⟨_, rfl, _, rfl, _, rfl, b, p, n, rfl, by omega, hn0, n25, by omega, by omega, fun H4 s4 => ?_⟩
  refine ⟨_, _, rfl, rfl, _, rfl, ?_⟩
  have z : decide ((2000 : Int) < cntM b p n) = false := decide_eq_false (by omega)
  show (if decide ((2000 : Int) < cntM b p n) = true then _ else _)
  rw [z]
  refine iteF (k H4 ?_ ?_)
  · exact kA.trans ((Keep.of s3).trans ((Keep.upd x H3 _).trans (Keep.of s4)))
  · exact s4 _ _ upd_same
end
end K2

set_option Elab.async false
set_option linter.all false
set_option maxRecDepth 100000
set_option maxHeartbeats 4000000
namespace K2
open PySem PySem.Spec PyProof.Rows L2 G1 G2
def DrvAt (K : PySem.W.Frag) (C : Addr) (H : Hp) (x : Addr) (b p n : Nat) (ini : List RowD) (y : Str) : Prop := ∃ dx t, H x = some (.ins C dx (drvF b p n t (textM (b : Int) (p : Int) (n : Int) ini y))) ∧ RowsAt K H t (ini ++ [((p : Int), y)])
theorem DrvAt.same {K : PySem.W.Frag} {C x : Addr} {H H' : Hp} {b p n : Nat} {ini : List RowD} {y : Str} (h : DrvAt K C H x b p n ini y) (s : Same H H') : DrvAt K C H' x b p n ini y := by
  obtain ⟨dx, t, h1, h2⟩ := h
  exact ⟨dx, t, s _ _ h1, h2.same s⟩
/-- what follows the making of a drive -/
def Made (K : PySem.W.Frag) (C : Addr) (H : Hp) (Q : VK) (b p n : Nat) (ini : List RowD) (y : Str) : Prop := ∀ (H' : Hp) (x : Addr), Same H H' → H x = none → DrvAt K C H' x b p n ini y → Q (.ref x) H'
theorem make_read {K : PySem.W.Frag} {C : Addr} {H : Hp} {Q : VK} {E : XK} {b p n : Nat} {ini : List RowD} {y : Str} {t : Addr} (d : DP b p n ini y) (hR : RowsAt K H t (ini ++ [((p : Int), y)])) (k : Made K C H Q b p n ini y) :
    ∀ x dx, H x = none → H dx = none → dx ≠ x → spIni K C (.ref x :: ([.int (b : Int), .int (p : Int), .int (n : Int), .ref t] ++ [])) (upd (upd H dx (.own x)) x (.ins C dx [])) (fun v H2 => v = .non ∧ Q (.ref x) H2) E := by
  intro x dx nx nd ne
  have sm : Same H (upd (upd H dx (.own x)) x (.ins C dx [])) := fun c o e => by rw [upd_ne (ne_of_none e nx), upd_ne (ne_of_none e nd)]; exact e
  refine ⟨x, dx, t, b, p, n, ini, y, rfl, upd_same, d, hR.same sm, fun H' kp e => ⟨rfl, ?_⟩⟩
  have sm2 : Same H H' := fun c o e => kp c o (sm c o e) (ne_of_none e nx)
  exact k H' x sm2 nx ⟨dx, t, e, hR.same sm2⟩
/-- isinstance(.., Drive) -/
structure DKit (K : PySem.W.Frag) (C : Addr) : Prop where
  own : PySem.W.kitOne K (.ref C) (.ref C) = some true
  non : PySem.W.kitOne K (.type "NoneType") (.ref C) = some false
  bl : PySem.W.kitOne K (.type "bool") (.ref C) = some false
  int : PySem.W.kitOne K (.type "int") (.ref C) = some false
  str : PySem.W.kitOne K (.type "str") (.ref C) = some false
  tup : PySem.W.kitOne K (.type "tuple") (.ref C) = some false
  lst : PySem.W.kitOne K (.type "list") (.ref C) = some false
  ha : PySem.W.findIn K (.ref C) "__class__" = some (some (.builtin "object.__class__"))
  hn : PySem.W.specialIn K (.builtin "object.__class__") "__get__" = some (some (.builtin "getset_descriptor.__get__"))
  htk : PySem.W.takesIn K (.builtin "object.__class__") = some true
  hm : PySem.W.mroIn K C (.type "object") = some true
theorem paired_snoc {α β : Type} {F : α → β → Prop} : ∀ {l : List α} {m : List β} {a : α} {b : β}, Paired F l m → F a b → Paired F (l ++ [a]) (m ++ [b])
  | _, _, _, _, .nil, h => .cons h .nil
  | _, _, _, _, .cons r t, h => .cons r (paired_snoc t h)
end K2

set_option Elab.async false
set_option linter.all false
set_option maxRecDepth 100000
set_option maxHeartbeats 4000000
namespace K2
open PySem PySem.Spec PyProof.Rows L2 G1 G2
abbrev sShp : Stmt := topS 54
abbrev sTab : Stmt := topS 55
theorem scShp : FnScope ["_law_pool_here", "_law_many", "_law_size", "_law_room"] ["_law_pool_here"] (defScope sShp) := ⟨rfl, rfl, rfl, by decide +kernel, rfl, by decide +kernel, by decide +kernel⟩
theorem scTab : FnScope ["_law_pool_here", "_law_size", "_law_tones", "_law_some", "_law_k"] ["_law_pool_here", "_law_size"] (defScope sTab) := ⟨rfl, rfl, rfl, by decide +kernel, rfl, by decide +kernel, by decide +kernel⟩
/-- the pool at p, and nothing else of what was there, has changed -/
def Stp (p : Addr) (H H' : Hp) : Prop := (∃ i j n : Int, H' p = some (.lst [.int i, .int j, .int n]) ∧ 0 ≤ i ∧ i < 2 ^ 31) ∧ ∀ b o, b ≠ p → H b = some o → H' b = some o
def PoolAt (H : Hp) (p : Addr) : Prop := ∃ i j n : Int, H p = some (.lst [.int i, .int j, .int n]) ∧ 0 ≤ i ∧ i < 2 ^ 31
theorem Stp.trans {p : Addr} {H H1 H2 : Hp} (a : Stp p H H1) (b : Stp p H1 H2) : Stp p H H2 := ⟨b.1, fun c o n e => b.2 c o n (a.2 c o n e)⟩
theorem Stp.upd {p : Addr} {H : Hp} {i j n : Int} (h0 : 0 ≤ i) (h1 : i < 2 ^ 31) : Stp p H (L2.upd H p (.lst [.int i, .int j, .int n])) := ⟨⟨i, j, n, upd_same, h0, h1⟩, fun b o hb e => by rw [upd_ne hb]; exact e⟩
theorem Stp.of {p : Addr} {H H' : Hp} (hp : PoolAt H p) (s : Same H H') : Stp p H H' := by
  obtain ⟨i, j, n, e, h0, h1⟩ := hp
  exact ⟨⟨i, j, n, s _ _ e, h0, h1⟩, fun b o _ z => s _ _ z⟩
theorem Stp.tup {K : PySem.W.Frag} {p a : Addr} {H H' : Hp} {xs : List V} (s : Stp p H H') (hp : PoolAt H p) (h : SqT K H a xs) : SqT K H' a xs := by
  obtain ⟨i, j, n, e, _⟩ := hp
  rcases h with (h | ⟨o, h⟩) | h
  · exact .inl (.inl (s.2 _ _ (ne_of h e (by intro z; cases z)) h))
  · exact .inl (.inr ⟨o, s.2 _ _ (ne_of h e (by intro z; cases z)) h⟩)
  · exact .inr h
theorem Stp.rows {K : PySem.W.Frag} {p t : Addr} {H H' : Hp} {rows : List RowD} (s : Stp p H H') (hp : PoolAt H p) (h : RowsAt K H t rows) : RowsAt K H' t rows := by
  obtain ⟨rs, h1, h2⟩ := h
  exact ⟨rs, s.tup hp h1, Paired.mapP h2 fun _ _ z => s.tup hp z⟩
theorem draw_read {H : Hp} {Q : VK} {E : XK} {p : Addr} {m : Int} (hp : PoolAt H p) (m0 : 0 < m) (m1 : m < 2 ^ 60) (k : ∀ (H' : Hp) (r : Int), Stp p H H' → 0 ≤ r → r < m → Q (.int r) H') : spDraw [.ref p, .int m] H Q E := by
  obtain ⟨i, j, n, e, h0, h1⟩ := hp
  exact ⟨p, m, i, j, n, rfl, e, h0, h1, m0, m1, fun i' j' n' r a0 a1 r0 r1 => k _ r (Stp.upd a0 a1) r0 r1⟩
theorem draw_c {σ : L2.St} {H : Hp} {Q : VK} {p : Addr} {i : Nat} {m : Int} (hσ : σ[i]? = some (some (.ref p))) (hp : PoolAt H p) (m0 : 0 < m) (m1 : m < 2 ^ 60) (k : ∀ (H' : Hp) (r : Int), Stp p H H' → 0 ≤ r → r < m → Q (.int r) H') :
    tCall spDraw [] E0 (tCons (tVar i) (tCons (tC (.int m)) tNil)) σ H Q := ⟨_, hσ, draw_read (E := E0) (m := m) hp m0 m1 k⟩
theorem draw_v {σ : L2.St} {H : Hp} {Q : VK} {p : Addr} {i j : Nat} {m : Int} (hσ : σ[i]? = some (some (.ref p))) (hj : σ[j]? = some (some (.int m))) (hp : PoolAt H p) (m0 : 0 < m) (m1 : m < 2 ^ 60) (k : ∀ (H' : Hp) (r : Int), Stp p H H' → 0 ≤ r → r < m → Q (.int r) H') :
    tCall spDraw [] E0 (tCons (tVar i) (tCons (tVar j) tNil)) σ H Q := ⟨_, hσ, _, hj, draw_read (E := E0) (m := m) hp m0 m1 k⟩
theorem draw_t {σ : L2.St} {H : Hp} {Q : VK} {p : Addr} {i : Nat} {m : Int} {te : TE} (hσ : σ[i]? = some (some (.ref p))) (ht : ∀ R : VK, R (.int m) H → te σ H R) (hp : PoolAt H p) (m0 : 0 < m) (m1 : m < 2 ^ 60) (k : ∀ (H' : Hp) (r : Int), Stp p H H' → 0 ≤ r → r < m → Q (.int r) H') :
    tCall spDraw [] E0 (tCons (tVar i) (tCons te tNil)) σ H Q := ⟨_, hσ, ht _ (draw_read (E := E0) (m := m) hp m0 m1 k)⟩
/-! ### displays of pairs -/
def tPair (q : Int × Int) : TE := tTup (tCons (tC (.int q.1)) (tCons (tC (.int q.2)) tNil))
def taPairs : List (Int × Int) → TA
  | [] => tNil
  | q :: l => tCons (tPair q) (taPairs l)
theorem pairs_read {σ : L2.St} : ∀ (l : List (Int × Int)) (H : Hp) (Q : List V → Hp → Prop), (∀ (H' : Hp) (as : List Addr), Same H H' → Paired (fun (a : Addr) (q : Int × Int) => H' a = some (.tup [.int q.1, .int q.2])) as l → Q (as.map V.ref) H') → taPairs l σ H Q
  | [], H, Q, k => k H [] (Same.refl H) .nil
  | q :: l, H, Q, k => by
    refine cons_read (tup_read (cons_read (c_read (cons_read (c_read (nil_read ⟨by show 2 ≤ sizeLine; decide, fun a na => ?_⟩))))))
    refine pairs_read l _ _ fun H' as s h => ?_
    refine k H' (a :: as) ((same_lay na).trans s) (.cons (s _ _ upd_same) h)
def shapesL : List (Int × Int) := [(3, 2), (3, 3), (4, 2), (3, 4), (4, 3), (3, 5), (5, 2), (4, 2)]
/-- a shape that the law draws -/
def Shp (b p n : Nat) : Prop := (b, p) ∈ [(3, 2), (3, 3), (3, 4), (3, 5), (4, 2), (4, 3), (5, 2)] ∧ 1 ≤ n ∧ n ≤ p * (b - 1)
theorem Shp.sz {b p n : Nat} (h : Shp b p n) : Sz b p n := by
  obtain ⟨h1, h2, h3⟩ := h
  simp only [List.mem_cons, List.mem_nil_iff, or_false, Prod.mk.injEq] at h1
  rcases h1 with ⟨rfl, rfl⟩ | ⟨rfl, rfl⟩ | ⟨rfl, rfl⟩ | ⟨rfl, rfl⟩ | ⟨rfl, rfl⟩ | ⟨rfl, rfl⟩ | ⟨rfl, rfl⟩ <;> exact ⟨by omega, by omega, by omega, by omega, h2, h3⟩
theorem Shp.few {b p n : Nat} (h : Shp b p n) : cntM b p n ≤ 2000 := by
  obtain ⟨h1, h2, h3⟩ := h
  refine cnt_small (b, p) h1 n ?_
  simp only [List.mem_cons, List.mem_nil_iff, or_false, Prod.mk.injEq] at h1
  rcases h1 with ⟨rfl, rfl⟩ | ⟨rfl, rfl⟩ | ⟨rfl, rfl⟩ | ⟨rfl, rfl⟩ | ⟨rfl, rfl⟩ | ⟨rfl, rfl⟩ | ⟨rfl, rfl⟩ <;> omega
theorem shape_at : ∀ q ∈ shapesL, ∃ b p : Nat, q = ((b : Int), (p : Int)) ∧ (b, p) ∈ [(3, 2), (3, 3), (3, 4), (3, 5), (4, 2), (4, 3), (5, 2)] := by
  intro q hq
  simp only [shapesL, List.mem_cons, List.mem_nil_iff, or_false] at hq
  rcases hq with rfl | rfl | rfl | rfl | rfl | rfl | rfl | rfl
  · exact ⟨3, 2, rfl, by decide⟩
  · exact ⟨3, 3, rfl, by decide⟩
  · exact ⟨4, 2, rfl, by decide⟩
  · exact ⟨3, 4, rfl, by decide⟩
  · exact ⟨4, 3, rfl, by decide⟩
  · exact ⟨3, 5, rfl, by decide⟩
  · exact ⟨5, 2, rfl, by decide⟩
  · exact ⟨4, 2, rfl, by decide⟩
def spShp (K : PySem.W.Frag) : Sp := fun vs H Q _ => ∃ pl : Addr, vs = [.ref pl] ∧ PoolAt H pl ∧ ∀ (H' : Hp) (q : Addr) (b p n : Nat), Stp pl H H' → Shp b p n → H' q = some (.tup [.int (b : Int), .int (p : Int), .int (n : Int)]) → Q (.ref q) H'
section
variable {P : Program} {w : World} {K : PySem.W.Frag} {mg : Str → Option Value} {base : Heap}
theorem ok_shp {f fD : Addr} {fd fdD : FuncData} (F : Fun K "_law_shape" "_law_shape" sShp f fd) (GD : FnOk P w K mg base CX0 1 fD fdD ["_law_pool_here", "_law_many"] spDraw) (kD : PySem.W.keepIn K (.ref fD) = true) (bD : Binds K fdD ["_law_pool_here", "_law_many"] [])
    (gD : mg "_law_draw" = some (.ref fD)) : FnOk P w K mg base CX0 2 f fd ["_law_pool_here"] (spShp K) := by
  refine F.ok scShp (fun vs H Q E h => ?_) (fun cdv A outer s H vs Q E hr h => ?_)
  · obtain ⟨pl, rfl, _⟩ := h
    rfl
  obtain ⟨pl, rfl, hp, k⟩ := h
  refine ⟨_, pss_cons (ps_asg (pe_ix ix_list (pe_lst (pa_cons (pe_tup (pa_cons pe_int (pa_cons pe_int pa_nil))) (pa_cons (pe_tup (pa_cons pe_int (pa_cons pe_int pa_nil))) (pa_cons (pe_tup (pa_cons pe_int (pa_cons pe_int pa_nil))) (pa_cons (pe_tup (pa_cons pe_int (pa_cons pe_int pa_nil)))
      (pa_cons (pe_tup (pa_cons pe_int (pa_cons pe_int pa_nil))) (pa_cons (pe_tup (pa_cons pe_int (pa_cons pe_int pa_nil))) (pa_cons (pe_tup (pa_cons pe_int (pa_cons pe_int pa_nil))) (pa_cons (pe_tup (pa_cons pe_int (pa_cons pe_int pa_nil))) pa_nil)))))))))
      (pe_call GD hr (by rfl) gD kD bD .nil pass0 (pa_cons (pv 0) (pa_cons pe_int pa_nil))) (fun _ _ => rfl)) (pg_tup rfl (pgs_cons (pg_name (i := 1) scShp.nd rfl (.inl rfl)) (pgs_cons (pg_name (i := 2) scShp.nd rfl (.inl rfl)) pgs_nil))))
    (pss_cons (ps_set (i := 3) scShp.nd rfl (.inl rfl) (pe_op op_mul (pv 2) (pe_op op_sub (pv 1) pe_int)))
    (pss_cons (ps_if (pt_cmpR op_eq (pe_call GD hr (by rfl) gD kD bD .nil pass0 (pa_cons (pv 0) (pa_cons pe_int pa_nil))) pe_int (nomark _)) (pss_one (ps_ret (pe_tup (pa_cons (pv 1) (pa_cons (pv 2) (pa_cons (pv 3) pa_nil)))))) pss_nil)
    (pss_one (ps_ret (pe_tup (pa_cons (pv 1) (pa_cons (pv 2) (pa_cons (pe_op op_add pe_int (pe_call GD hr (by rfl) gD kD bD .nil pass0 (pa_cons (pv 0) (pa_cons (pv 3) pa_nil)))) pa_nil)))))))), ?_⟩
  refine seq_asg (op_read (lst_read ?_))
  refine pairs_read shapesL H _ fun H1 as s1 hP => ⟨by rw [List.length_map, Paired.length hP, sizeLine_eq]; decide, fun l nl => ?_⟩
  have s2 : Same H1 (upd H1 l (.lst (as.map V.ref))) := same_lay nl
  have S2 : Stp pl H (upd H1 l (.lst (as.map V.ref))) := Stp.of hp (s1.trans s2)
  have hl : (upd H1 l (.lst (as.map V.ref))) l = some (.lst (as.map V.ref)) := upd_same
  have hP2 : Paired (fun (a : Addr) (q : Int × Int) => (upd H1 l (.lst (as.map V.ref))) a = some (.tup [.int q.1, .int q.2])) as shapesL := Paired.mapP hP fun _ _ z => s2 _ _ z
  have npl : l ≠ pl := by
    obtain ⟨i, j, n, e, _⟩ := hp
    exact fun z => by rw [z] at nl; rw [s1 _ _ e] at nl; cases nl
  generalize upd H1 l (.lst (as.map V.ref)) = H2 at s2 S2 hl hP2 ⊢
  refine draw_c (p := pl) rfl S2.1 (by decide) (by decide) fun H3 r S3 r0 r1 => ?_
  have hlen : as.length = 8 := Paired.length hP
  obtain ⟨a, ha⟩ : ∃ a, as[r.toNat]? = some a := ⟨as[r.toNat]'(by omega), List.getElem?_eq_getElem (by omega)⟩
  obtain ⟨q, hq1, hq2⟩ := paired_get hP2 ha
  obtain ⟨b, p, rfl, hbp⟩ := shape_at q (List.mem_of_getElem? hq1)
  have hl3 := S3.2 _ _ npl hl
  have ea : r = ((r.toNat : Nat) : Int) := by omega
  refine ⟨l, _, r, .ref a, rfl, rfl, SqL.of hl3, ?_, ?_⟩
  · rw [ea]
    exact atI_nat (by rw [List.getElem?_map, ha]; rfl)
  have ha3 : H3 a = some (.tup [.int (b : Int), .int (p : Int)]) := by
    refine S3.2 _ _ ?_ hq2
    obtain ⟨i, j, n, e, _⟩ := S2.1
    exact ne_of hq2 e (by intro z; cases z)
  refine ⟨a, _, rfl, SqT.of ha3, rfl, _, _, rfl, _, _, rfl, rfl, ?_⟩
  have S4 := S2.trans S3
  have hz : 3 ≤ b ∧ b ≤ 6 ∧ 2 ≤ p ∧ p ≤ 5 := by
    simp only [List.mem_cons, List.mem_nil_iff, or_false, Prod.mk.injEq] at hbp
    omega
  obtain ⟨z1, z2, z3, z4⟩ := hz
  have eroom : (p : Int) * ((b : Int) - 1) = ((p * (b - 1) : Nat) : Int) := by rw [Int.natCast_mul, Int.natCast_sub (by omega)]; rfl
  have hroom : 1 ≤ p * (b - 1) := Nat.mul_pos (by omega) (by omega)
  have hroom2 : p * (b - 1) ≤ 5 * 5 := Nat.mul_le_mul z4 (by omega)
  refine ⟨_, rfl, _, rfl, _, _, rfl, rfl, _, _, rfl, rfl, .inl ⟨by omega, by omega⟩, ?_⟩
  refine draw_c (p := pl) rfl S4.1 (by decide) (by decide) fun H5 r2 S5 r20 r21 => ?_
  refine ⟨rfl, _, rfl, ite2 (fun _ => ?_) (fun _ => ?_)⟩
  · refine ⟨_, rfl, _, rfl, _, rfl, by show 3 ≤ sizeLine; decide, fun q nq => ?_⟩
    refine k _ q b p (p * (b - 1)) ((S4.trans S5).trans (Stp.of S5.1 (same_lay nq))) ⟨hbp, hroom, Nat.le_refl _⟩ ?_
    rw [upd_same, ← eroom]
  · refine ⟨_, rfl, _, rfl, ?_⟩
    refine draw_v (p := pl) rfl rfl S5.1 (by rw [eroom]; omega) (by rw [eroom]; omega) fun H6 r3 S6 r30 r31 => ?_
    rw [eroom] at r31
    refine ⟨_, _, rfl, rfl, by show 3 ≤ sizeLine; decide, fun q nq => ?_⟩
    refine k _ q b p (1 + r3.toNat) ((S4.trans S5).trans (S6.trans (Stp.of S6.1 (same_lay nq)))) ⟨hbp, by omega, by omega⟩ ?_
    rw [upd_same]
    have e : ((1 + r3.toNat : Nat) : Int) = 1 + r3 := by omega
    rw [e]
end
end K2

set_option Elab.async false
set_option linter.all false
set_option maxRecDepth 100000
set_option maxHeartbeats 4000000
namespace K2
open PySem PySem.Spec PyProof.Rows L2 G1 G2
def spTab (K : PySem.W.Frag) : Sp := fun vs H Q _ => ∃ (pl : Addr) (p : Nat), vs = [.ref pl, .int (p : Int)] ∧ PoolAt H pl ∧ p < 26 ∧ ∀ (H' : Hp) (t : Addr) (ini : List RowD) (y : Str), Stp pl H H' → RowsAt K H' t (ini ++ [((p : Int), y)]) → IniOk p ini → y ∈ wordsL → Q (.ref t) H'
theorem tone_at (r : Int) (h0 : 0 ≤ r) (h1 : r < 4) : ∃ w ∈ wordsL, atI (wordsL.map V.str) r = some (.str w) := by
  have c : r = 0 ∨ r = 1 ∨ r = 2 ∨ r = 3 := by omega
  rcases c with rfl | rfl | rfl | rfl
  · exact ⟨Str.ofString "oldest", by decide, rfl⟩
  · exact ⟨Str.ofString "youngest", by decide, rfl⟩
  · exact ⟨Str.ofString "least", by decide, rfl⟩
  · exact ⟨Str.ofString "most", by decide, rfl⟩
theorem pool_ne {H : Hp} {pl a : Addr} {xs : List V} (hp : PoolAt H pl) (ha : H a = some (.tup xs)) : a ≠ pl := by
  obtain ⟨i, j, n, e, _⟩ := hp
  exact ne_of ha e (by intro z; cases z)
theorem pool_new {H : Hp} {pl a : Addr} (hp : PoolAt H pl) (ha : H a = none) : a ≠ pl := by
  obtain ⟨i, j, n, e, _⟩ := hp
  exact fun z => by rw [z, e] at ha; cases ha
section
variable {P : Program} {w : World} {K : PySem.W.Frag} {mg : Str → Option Value} {base : Heap}
theorem ok_tab {f fD : Addr} {fd fdD : FuncData} (F : Fun K "_law_table" "_law_table" sTab f fd) (B : Bl mg) (GD : FnOk P w K mg base CX0 1 fD fdD ["_law_pool_here", "_law_many"] spDraw) (kD : PySem.W.keepIn K (.ref fD) = true) (bD : Binds K fdD ["_law_pool_here", "_law_many"] [])
    (gD : mg "_law_draw" = some (.ref fD)) : FnOk P w K mg base CX0 2 f fd ["_law_pool_here", "_law_size"] (spTab K) := by
  refine F.ok scTab (fun vs H Q E h => ?_) (fun cdv A outer s H vs Q E hr h => ?_)
  · obtain ⟨pl, p, rfl, _⟩ := h
    rfl
  obtain ⟨pl, p, rfl, hp, hp26, k⟩ := h
  refine ⟨_, pss_cons (ps_set (i := 2) scTab.nd rfl (.inl rfl) (pe_lst (pa_cons pe_str (pa_cons pe_str (pa_cons pe_str (pa_cons pe_str pa_nil))))))
    (pss_cons (ps_set (i := 3) scTab.nd rfl (.inl rfl) (pe_lst pa_nil))
    (pss_cons (ps_for PassesOwn.never rfl (pi_range1 (by rfl) B.range (pa_cons (pe_call GD hr (by rfl) gD kD bD .nil pass0 (pa_cons (pv 0) (pa_cons pe_int pa_nil))) pa_nil)) (pg_name (i := 4) scTab.nd rfl (.inl rfl))
      (pss_one (ps_expr (pe_bm PySem.F.plainAttrs_list PySem.F.slot_list_append PySem.F.type_list_append mt_append (pv 3) (pa_cons (pe_tup (pa_cons (pe_call GD hr (by rfl) gD kD bD .nil pass0 (pa_cons (pv 0) (pa_cons (pe_op op_add (pv 1) pe_int) pa_nil)))
        (pa_cons (pe_ix ix_list (pv 2) (pe_call GD hr (by rfl) gD kD bD .nil pass0 (pa_cons (pv 0) (pa_cons pe_int pa_nil))) (fun _ _ => rfl)) pa_nil))) pa_nil)))))
    (pss_cons (ps_expr (pe_bm PySem.F.plainAttrs_list PySem.F.slot_list_append PySem.F.type_list_append mt_append (pv 3) (pa_cons (pe_tup (pa_cons (pv 1)
        (pa_cons (pe_ix ix_list (pv 2) (pe_call GD hr (by rfl) gD kD bD .nil pass0 (pa_cons (pv 0) (pa_cons pe_int pa_nil))) (fun _ _ => rfl)) pa_nil))) pa_nil)))
    (pss_one (ps_ret (pe_callTy call_tuple_of (by rfl) B.tup bTup (pa_cons (pv 3) pa_nil))))))), ?_⟩
  refine seq_asg ⟨by show 4 ≤ sizeLine; decide, fun tn ntn => ?_⟩
  have s1 : Same H (upd H tn (.lst (wordsL.map V.str))) := same_lay ntn
  have e1 : (upd H tn (.lst (wordsL.map V.str))) tn = some (.lst (wordsL.map V.str)) := upd_same
  show tSeq _ _ _ _ (upd H tn (.lst (wordsL.map V.str)))
  generalize upd H tn (.lst (wordsL.map V.str)) = H1 at s1 e1 ⊢
  refine seq_asg ⟨by show 0 ≤ sizeLine; decide, fun sm nsm => ?_⟩
  have nts : tn ≠ sm := ne_of_none e1 nsm
  have s2 : Same H (upd H1 sm (.lst [])) := s1.trans (same_lay nsm)
  have e2 : (upd H1 sm (.lst [])) sm = some (.lst (([] : List Addr).map V.ref)) := upd_same
  have e3 : (upd H1 sm (.lst [])) tn = some (.lst (wordsL.map V.str)) := by rw [upd_ne nts]; exact e1
  have nH : H sm = none := s1.free nsm
  generalize upd H1 sm (.lst []) = H2 at s2 e2 e3 ⊢
  have ntp : tn ≠ pl := pool_new hp ntn
  have nsp : sm ≠ pl := pool_new hp nH
  refine seq_for fun D' hD1 hD2 => ?_
  refine draw_c (p := pl) rfl (Stp.of hp s2).1 (by decide) (by decide) fun H3 m S3 m0 m1 => ⟨m, rfl, by omega, by omega, ?_⟩
  have S0 : Stp pl H H3 := (Stp.of hp s2).trans S3
  refine for_range (lo := 0) (n := m.toNat) (fun i σ H' => ∃ (x4 : Option V) (rs : List Addr) (rows : List RowD), σ = [some (.ref pl), some (.int (p : Int)), some (.ref tn), some (.ref sm), x4] ∧ Stp pl H H' ∧ H' tn = some (.lst (wordsL.map V.str)) ∧ H' sm = some (.lst (rs.map V.ref)) ∧
      Paired (fun (a : Addr) (r : RowD) => H' a = some (.tup [.int r.1, .str r.2])) rs rows ∧ rows.length = i ∧ ∀ r ∈ rows, RowOk p r) ⟨none, [], [], rfl, S0, S3.2 _ _ ntp e3, S3.2 _ _ nsp e2, .nil, rfl, fun _ z => nomatch z⟩ ?_ ?_
  · rintro i σ H' hi ⟨x4, rs, rows, rfl, S4, q1, q2, q3, q4, q5⟩
    refine ⟨_, rfl, .inl ⟨rfl, _, SqL.of q2⟩, ?_⟩
    refine cons_read (tup_read (cons_read ?_))
    refine draw_t (p := pl) (m := (p : Int) + 1) rfl (fun R q => ⟨_, rfl, _, _, rfl, rfl, q⟩) S4.1 (by omega) (by omega) fun H5 l S5 l0 l1 => ?_
    refine cons_read (op_read ⟨_, rfl, ?_⟩)
    refine draw_c (p := pl) rfl S5.1 (by decide) (by decide) fun H6 r S6 r0 r1 => ?_
    have S56 := S5.trans S6
    obtain ⟨x, hx, ex⟩ := tone_at r r0 r1
    refine ⟨tn, _, r, _, rfl, rfl, SqL.of (S56.2 _ _ ntp q1), ex, ?_⟩
    refine nil_read ⟨by show 2 ≤ sizeLine; decide, fun a na => ?_⟩
    have s7 : Same H6 (upd H6 a (.tup [.int l, .str x])) := same_lay na
    have hs6 := S56.2 _ _ nsp q2
    refine ⟨sm, _, _, rfl, rfl, s7 _ _ hs6, ?_, _, rs ++ [a], rows ++ [(l, x)], rfl, ?_, ?_, ?_, ?_, ?_, ?_⟩
    · have hl2 := Paired.length q3
      rw [List.length_map, sizeLine_eq]
      omega
    · have S7 : Stp pl H (upd H6 a (.tup [.int l, .str x])) := S4.trans (S56.trans (Stp.of S56.1 s7))
      obtain ⟨i1, j1, n1, z1, z2, z3⟩ := S7.1
      refine ⟨⟨i1, j1, n1, by rw [upd_ne (Ne.symm nsp)]; exact z1, z2, z3⟩, fun c o hc e => ?_⟩
      rw [upd_ne (ne_of_none e nH)]
      exact S7.2 c o hc e
    · rw [upd_ne nts]; exact s7 _ _ (S56.2 _ _ ntp q1)
    · rw [upd_same]; simp
    · have nas : a ≠ sm := fun z => by rw [z, hs6] at na; cases na
      refine paired_snoc (Paired.mapP q3 fun c r z => ?_) (by rw [upd_ne nas, upd_same])
      have hcp := pool_ne S4.1 z
      have hcs : c ≠ sm := ne_of z q2 (by intro z; cases z)
      rw [upd_ne hcs]
      exact s7 _ _ (S56.2 _ _ hcp z)
    · rw [List.length_append, q4]; rfl
    · intro r' hr'
      rcases List.mem_append.mp hr' with hr' | hr'
      · exact q5 r' hr'
      · rw [List.mem_singleton.mp hr']
        exact ⟨l0, by omega, hx⟩
  · rintro σ H' ⟨x4, rs, rows, rfl, S4, q1, q2, q3, q4, q5⟩
    rw [hD1]
    refine ⟨_, rfl, .inl ⟨rfl, _, SqL.of q2⟩, ?_⟩
    refine cons_read (tup_read (cons_read ⟨_, rfl, cons_read (op_read ⟨_, rfl, ?_⟩)⟩))
    refine draw_c (p := pl) rfl S4.1 (by decide) (by decide) fun H6 r S6 r0 r1 => ?_
    obtain ⟨x, hx, ex⟩ := tone_at r r0 r1
    refine ⟨tn, _, r, _, rfl, rfl, SqL.of (S6.2 _ _ ntp q1), ex, ?_⟩
    refine nil_read ⟨by show 2 ≤ sizeLine; decide, fun a na => ?_⟩
    have s7 : Same H6 (upd H6 a (.tup [.int (p : Int), .str x])) := same_lay na
    have hs6 := S6.2 _ _ nsp q2
    have hl2 := Paired.length q3
    refine ⟨sm, _, _, rfl, rfl, s7 _ _ hs6, ?_, ?_⟩
    · rw [List.length_map, sizeLine_eq]
      omega
    have S7 : Stp pl H (upd H6 a (.tup [.int (p : Int), .str x])) := S4.trans (S6.trans (Stp.of S6.1 s7))
    have hsm : (upd (upd H6 a (.tup [.int (p : Int), .str x])) sm (.lst (rs.map V.ref ++ [.ref a]))) sm = some (.lst ((rs ++ [a]).map V.ref)) := by rw [upd_same]; simp
    have S8 : Stp pl H (upd (upd H6 a (.tup [.int (p : Int), .str x])) sm (.lst (rs.map V.ref ++ [.ref a]))) := by
      obtain ⟨i1, j1, n1, z1, z2, z3⟩ := S7.1
      refine ⟨⟨i1, j1, n1, by rw [upd_ne (Ne.symm nsp)]; exact z1, z2, z3⟩, fun c o hc e => ?_⟩
      rw [upd_ne (ne_of_none e nH)]
      exact S7.2 c o hc e
    have hPr : Paired (fun (c : Addr) (r : RowD) => (upd (upd H6 a (.tup [.int (p : Int), .str x])) sm (.lst (rs.map V.ref ++ [.ref a]))) c = some (.tup [.int r.1, .str r.2])) (rs ++ [a]) (rows ++ [((p : Int), x)]) := by
      have nas : a ≠ sm := fun z => by rw [z, hs6] at na; cases na
      refine paired_snoc (Paired.mapP q3 fun c r z => ?_) (by rw [upd_ne nas, upd_same])
      have hcp := pool_ne S4.1 z
      have hcs : c ≠ sm := ne_of z q2 (by intro z; cases z)
      rw [upd_ne hcs]
      exact s7 _ _ (S6.2 _ _ hcp z)
    generalize upd (upd H6 a (.tup [.int (p : Int), .str x])) sm (.lst (rs.map V.ref ++ [.ref a])) = H8 at hsm S8 hPr ⊢
    refine ⟨_, rfl, sm, _, rfl, .inl ⟨SqL.of hsm, fun t nt => ?_⟩⟩
    refine k _ t rows x (S8.trans (Stp.of S8.1 (same_lay nt))) ⟨rs ++ [a], SqT.of upd_same, Paired.mapP hPr fun c r z => SqT.of (same_lay nt _ _ z)⟩ ⟨q5, by omega⟩ hx
end
end K2

set_option Elab.async false
set_option linter.all false
set_option maxRecDepth 100000
set_option maxHeartbeats 4000000
namespace K2
open PySem PySem.Spec PyProof.Rows L2 G1 G2
abbrev sMad : Stmt := topS 56
theorem scMad : FnScope ["_law_shape_here", "_law_table_here"] ["_law_shape_here", "_law_table_here"] (defScope sMad) := ⟨rfl, rfl, rfl, by decide +kernel, rfl, by decide +kernel, by decide +kernel⟩
def ShpAt (K : PySem.W.Frag) (H : Hp) (s : Addr) (b p n : Nat) : Prop := SqT K H s [.int (b : Int), .int (p : Int), .int (n : Int)]
def spMad (K : PySem.W.Frag) (C : Addr) : Sp := fun vs H Q _ => ∃ (s t : Addr) (b p n : Nat) (ini : List RowD) (y : Str), vs = [.ref s, .ref t] ∧ ShpAt K H s b p n ∧ DP b p n ini y ∧ RowsAt K H t (ini ++ [((p : Int), y)]) ∧ Made K C H Q b p n ini y
section
variable {P : Program} {w : World} {K : PySem.W.Frag} {mg : Str → Option Value} {base : Heap}
theorem ok_mad {f C fI : Addr} {fd fdI : FuncData} (F : Fun K "_law_made" "_law_made" sMad f fd) (M : Mk K C fI) (GI : FnOk P w K mg base CX0 5 fI fdI ["self", "blocks", "pages", "names", "rows"] (spIni K C)) (bI : Binds K fdI ["self", "blocks", "pages", "names", "rows"] []) (gD : mg "Drive" = some (.ref C)) :
    FnOk P w K mg base CX0 7 f fd ["_law_shape_here", "_law_table_here"] (spMad K C) := by
  refine F.ok scMad (fun vs H Q E h => ?_) (fun cdv A outer s H vs Q E hr h => ?_)
  · obtain ⟨s, t, b, p, n, ini, y, rfl, _⟩ := h
    rfl
  obtain ⟨s, t, b, p, n, ini, y, rfl, hs, hd, hR, k⟩ := h
  refine ⟨_, pss_one (ps_ret (pe_make M GI hr (by rfl) gD bI .nil pass0 (pa_cons (pe_ix ix_tup (pv 0) pe_int (fun _ _ => rfl)) (pa_cons (pe_ix ix_tup (pv 0) pe_int (fun _ _ => rfl)) (pa_cons (pe_ix ix_tup (pv 0) pe_int (fun _ _ => rfl)) (pa_cons (pv 1) pa_nil)))))), ?_⟩
  refine ⟨_, rfl, s, _, _, _, rfl, rfl, hs, rfl, _, rfl, s, _, _, _, rfl, rfl, hs, rfl, _, rfl, s, _, _, _, rfl, rfl, hs, rfl, _, rfl, ?_⟩
  exact make_read hd hR k
end
end K2

set_option Elab.async false
set_option linter.all false
set_option maxRecDepth 100000
set_option maxHeartbeats 4000000
namespace K2
open PySem PySem.Spec PyProof.Rows L2 G1 G2
abbrev sTak : Stmt := topS 2
abbrev sStk : Stmt := topS 3
theorem scTak : FnScope ["drive", "floor", "limit", "word"] ["drive"] (defScope sTak) := ⟨rfl, rfl, rfl, by decide +kernel, rfl, by decide +kernel, by decide +kernel⟩
theorem scStk : FnScope ["drive", "floor", "word", "stuck"] ["drive"] (defScope sStk) := ⟨rfl, rfl, rfl, by decide +kernel, rfl, by decide +kernel, by decide +kernel⟩
structure PrpOk (P : Program) (w : World) (K : PySem.W.Frag) (mg : Str → Option Value) (base : Heap) (C : Addr) (nm fld : Str) : Prop where
  ex : ∃ (p g : Addr) (fd : FuncData), PropOf K C nm p g ∧ FnOk P w K mg base CX0 1 g fd ["self"] (getSp C fld) ∧ Binds K fd ["self"] []
/-- a drive's properties -/
structure DD (P : Program) (w : World) (K : PySem.W.Frag) (mg : Str → Option Value) (base : Heap) (C : Addr) : Prop where
  T : DCls K C
  D : DKit K C
  pb : PrpOk P w K mg base C "blocks" "kept_blocks"
  pp : PrpOk P w K mg base C "pages" "kept_pages"
  pn : PrpOk P w K mg base C "names" "kept_names"
  pr : PrpOk P w K mg base C "rows" "kept_rows"
  gD : mg "Drive" = some (.ref C)
structure GAt (P : Program) (w : World) (K : PySem.W.Frag) (mg : Str → Option Value) (base : Heap) (k : Nat) (x : Str) (ps : List Str) (sp : Sp) : Prop where
  ex : ∃ (f : Addr) (fd : FuncData), FnG P w K mg base k f fd ps sp ∧ PySem.W.keepIn K (.ref f) = true ∧ Binds K fd ps [] ∧ mg x = some (.ref f)
structure FAt (P : Program) (w : World) (K : PySem.W.Frag) (mg : Str → Option Value) (base : Heap) (k : Nat) (x : Str) (ps : List Str) (sp : Sp) : Prop where
  ex : ∃ (f : Addr) (fd : FuncData), FnOk P w K mg base CX0 k f fd ps sp ∧ PySem.W.keepIn K (.ref f) = true ∧ Binds K fd ps [] ∧ mg x = some (.ref f)
/-! ### the mirror -/
def maxI (i j : Int) : Int := if j > i then j else i
/-- the row that takes all blocks, and what lives in each when it comes to it -/
def takM (p : Nat) : Int → List RowD → Int × Str
  | f, [] => (f, Str.empty)
  | f, (l, x) :: rs => if l = (p : Int) then (f, x) else takM p (maxI f (l + 1)) rs
theorem tak_cons (p : Nat) (f l : Int) (x : Str) (rs : List RowD) : takM p f ((l, x) :: rs) = if l = (p : Int) then (f, x) else takM p (maxI f (l + 1)) rs := rfl
def fullW : List Str := ["youngest", "most"]
def stM (b p : Nat) (f : Int) : List Int := List.replicate (b - 2) f ++ [(p : Int)]
def stkM (b p n : Nat) (rows : List RowD) : Option (List Int) :=
  if (takM p 0 rows).2 ∈ fullW ∧ (stM b p (takM p 0 rows).1).sum < (n : Int) then some (stM b p (takM p 0 rows).1) else none
theorem tak_box (p : Nat) : ∀ (rows : List RowD) (f : Int), 0 ≤ f → f ≤ (p : Int) → (∀ r ∈ rows, RowOk p r) → 0 ≤ (takM p f rows).1 ∧ (takM p f rows).1 ≤ (p : Int)
  | [], f, h0, h1, _ => ⟨h0, h1⟩
  | (l, x) :: rs, f, h0, h1, h => by
    obtain ⟨a0, a1, _⟩ := h _ (List.mem_cons_self ..)
    dsimp only at a0 a1
    unfold takM
    split
    · exact ⟨h0, h1⟩
    · refine tak_box p rs _ ?_ ?_ fun r hr => h r (List.mem_cons_of_mem _ hr)
      · unfold maxI; split <;> omega
      · unfold maxI; split <;> omega
theorem tak_last (p : Nat) (y : Str) : ∀ (ini : List RowD) (f : Int), (∀ r ∈ ini, r.1 ≠ (p : Int)) → (takM p f (ini ++ [((p : Int), y)])).2 = y
  | [], f, _ => by
    show (takM p f [((p : Int), y)]).2 = y
    unfold takM
    rw [if_pos rfl]
  | (l, x) :: rs, f, h => by
    rw [List.cons_append]
    unfold takM
    rw [if_neg (h _ (List.mem_cons_self ..))]
    exact tak_last p y rs _ fun r hr => h r (List.mem_cons_of_mem _ hr)
theorem st_sum (b p : Nat) (f : Int) (hb : 2 ≤ b) : (stM b p f).sum = ((b : Int) - 2) * f + (p : Int) := by
  unfold stM
  rw [List.sum_append, List.sum_replicate_int, Int.natCast_sub hb]
  simp
def spTak (K : PySem.W.Frag) (C : Addr) : Sp := fun vs H Q _ => ∃ (x : Addr) (b p n : Nat) (ini : List RowD) (y : Str), vs = [.ref x] ∧ DrvAt K C H x b p n ini y ∧ DP b p n ini y ∧
  ∀ (H' : Hp) (q : Addr), Same H H' → H' q = some (.tup [.int (takM p 0 (ini ++ [((p : Int), y)])).1, .str (takM p 0 (ini ++ [((p : Int), y)])).2]) → Q (.ref q) H'
section
variable {P : Program} {w : World} {K : PySem.W.Frag} {mg : Str → Option Value} {base : Heap} {C : Addr}
theorem ok_tak {f : Addr} {fd : FuncData} (F : Fun K "find_taker" "find_taker" sTak f fd) (B : Bl mg) (M : DD P w K mg base C) : FnOk P w K mg base CX0 3 f fd ["drive"] (spTak K C) := by
  refine F.ok scTak (fun vs H Q E h => ?_) (fun cdv A outer s H vs Q E hr h => ?_)
  · obtain ⟨x, b, p, n, ini, y, rfl, _⟩ := h
    rfl
  obtain ⟨x, b, p, n, ini, y, rfl, ⟨dx, t, hx, rs, hT, hP⟩, hd, k⟩ := h
  have hr2 : Room 2 _ := hr.mono (by decide)
  obtain ⟨pp, gp, fp, P2, F2, B2⟩ := M.pp.ex
  obtain ⟨pr, gr, fr, P4, F4, B4⟩ := M.pr.ex
  refine ⟨_, pss_cons (ps_set (i := 1) scTak.nd rfl (.inl rfl) pe_int)
    (pss_one (ps_for PassesOwn.never rfl (pi_tup (pe_prop (pv 0) M.T.cl P4 F4 hr2 B4 .nil pass0 rfl)) (pg_tup rfl (pgs_cons (pg_name (i := 2) scTak.nd rfl (.inl rfl)) (pgs_cons (pg_name (i := 3) scTak.nd rfl (.inl rfl)) pgs_nil)))
      (pss_cons (ps_if (pt_cmpR op_eq (pv 2) (pe_prop (pv 0) M.T.cl P2 F2 hr2 B2 .nil pass0 rfl) (nomark _)) (pss_one (ps_ret (pe_tup (pa_cons (pv 1) (pa_cons (pv 3) pa_nil))))) pss_nil)
      (pss_one (ps_set (i := 1) scTak.nd rfl (.inl rfl) (pe_callB (call_max2 rfl) (by rfl) B.max bMax (pa_cons (pv 1) (pa_cons (pe_op op_add (pv 2) pe_int) pa_nil)))))))), ?_⟩
  generalize hrows : ini ++ [((p : Int), y)] = rows at hP k
  refine seq_asg (c_read ?_)
  refine ⟨_, rfl, x, dx, _, rfl, hx, x, dx, _, _, rfl, hx, rfl, t, rfl, ⟨_, hT⟩, ?_⟩
  refine for_tup (K := K) (xs := rs.map V.ref) (fun i σ H' => ∃ (fl : Int) (x2 x3 : Option V), σ = [some (.ref x), some (.int fl), x2, x3] ∧ Same H H' ∧ takM p 0 rows = takM p fl (rows.drop i) ∧ ∀ r ∈ rows.take i, r.1 ≠ (p : Int))
    ⟨0, none, none, rfl, Same.refl H, rfl, fun r hr => by simp at hr⟩ (fun i σ H' _ q => ?_) ?_ ?_
  · obtain ⟨_, _, _, _, s1, _⟩ := q
    exact K2.Same.tup s1 hT
  · rintro i v σ H' hi ⟨fl, x2, x3, rfl, s1, e1, e2⟩
    rw [List.getElem?_map] at hi
    obtain ⟨a, ha, rfl⟩ : ∃ a, rs[i]? = some a ∧ V.ref a = v := by
      cases hq : rs[i]? with
      | none => rw [hq] at hi; cases hi
      | some a => rw [hq] at hi; exact ⟨a, rfl, Option.some.inj hi⟩
    obtain ⟨⟨l, wd⟩, hr1, hr2'⟩ := paired_get hP ha
    have hdrop : rows.drop i = (l, wd) :: rows.drop (i + 1) := by
      obtain ⟨hlt, e⟩ := List.getElem?_eq_some_iff.mp hr1
      rw [List.drop_eq_getElem_cons hlt, e]
    rw [hdrop, tak_cons] at e1
    refine ⟨a, _, rfl, K2.Same.tup s1 hr2', rfl, _, _, rfl, _, _, rfl, rfl, ?_⟩
    refine ⟨_, rfl, _, rfl, x, dx, _, rfl, s1 _ _ hx, x, dx, _, _, rfl, s1 _ _ hx, rfl, rfl, _, rfl, ite2 (fun c => ?_) (fun c => ?_)⟩
    · have hl : l = (p : Int) := by
        have z := of_decide_eq_true c
        injection z
      rw [if_pos hl] at e1
      refine ⟨_, rfl, _, rfl, by show 2 ≤ sizeLine; decide, fun q nq => ?_⟩
      refine k _ q (s1.trans (same_lay nq)) ?_
      rw [upd_same, e1]
    · have hl : l ≠ (p : Int) := fun z => by
        exact c (decide_eq_true (by rw [z]))
      rw [if_neg hl] at e1
      refine ⟨_, rfl, _, rfl, _, _, rfl, rfl, _, _, rfl, _, _, _, rfl, s1, e1, ?_⟩
      intro r hr
      rw [List.take_add_one, hr1] at hr
      rcases List.mem_append.mp hr with hr | hr
      · exact e2 r hr
      · rw [show r = (l, wd) from by simpa using hr]
        exact hl
  · rintro σ H' ⟨fl, x2, x3, rfl, s1, e1, e2⟩
    exfalso
    refine e2 ((p : Int), y) ?_ rfl
    have hl : (rs.map V.ref).length = rows.length := by rw [List.length_map]; exact Paired.length hP
    rw [hl, List.take_length, ← hrows]
    simp
end
end K2

set_option Elab.async false
set_option linter.all false
set_option maxRecDepth 100000
set_option maxHeartbeats 4000000
namespace K2
open PySem PySem.Spec PyProof.Rows L2 G1 G2
def spStk (K : PySem.W.Frag) (C : Addr) : Sp := fun vs H Q _ => ∃ (x : Addr) (b p n : Nat) (ini : List RowD) (y : Str), vs = [.ref x] ∧ DrvAt K C H x b p n ini y ∧ DP b p n ini y ∧
  (stkM b p n (ini ++ [((p : Int), y)]) = none → ∀ H' : Hp, Same H H' → Q .non H') ∧
  ∀ (st : List Int) (H' : Hp) (q : Addr), stkM b p n (ini ++ [((p : Int), y)]) = some st → Same H H' → H' q = some (.tup (st.map V.int)) → Q (.ref q) H'
theorem in_full (x : Str) (h : x ∈ wordsL) : flatV (.str x) = true ∧ inV (.str x) (fullW.map V.str) = decide (x ∈ fullW) := by
  have z : ∀ x ∈ wordsL, flatV (.str x) = true ∧ inV (.str x) (fullW.map V.str) = decide (x ∈ fullW) := by decide +kernel
  exact z x h
theorem flatF : (fullW.map V.str).all flatV = true := by decide +kernel
theorem tak_word (p : Nat) (y : Str) (hy : y ∈ wordsL) : ∀ (ini : List RowD) (f : Int), (∀ r ∈ ini, RowOk p r) → (takM p f (ini ++ [((p : Int), y)])).2 ∈ wordsL
  | [], f, _ => by
    show (takM p f [((p : Int), y)]).2 ∈ wordsL
    rw [tak_cons, if_pos rfl]
    exact hy
  | (l, x) :: rs, f, h => by
    rw [List.cons_append, tak_cons]
    split
    · exact (h _ (List.mem_cons_self ..)).2.2
    · exact tak_word p y hy rs _ fun r hr => h r (List.mem_cons_of_mem _ hr)
theorem flat1 (m : Nat) (v : V) : (List.replicate m [v]).flatten = List.replicate m v := by
  induction m with
  | zero => rfl
  | succ m ih => rw [List.replicate_succ, List.flatten_cons, ih, List.replicate_succ]; rfl
theorem seq_if0 {tt : TT} {t t2 : TS} {D : Ends} {σ : L2.St} {H : Hp} (h : tt σ H fun c H1 => if c = true then t { D with nx := t2 D } σ H1 else t2 D σ H1) : tSeq (tIfS tt t tNext) t2 D σ H := h
section
variable {P : Program} {w : World} {K : PySem.W.Frag} {mg : Str → Option Value} {base : Heap} {C : Addr}
theorem rep_cat {ta tb tc : TE} {σ : L2.St} {H : Hp} {Q : VK} {fl p : Int} {m : Nat} (h1 : ∀ R : VK, R (.int fl) H → ta σ H R) (h2 : ∀ (H' : Hp) (R : VK), Same H H' → R (.int (m : Int)) H' → tb σ H' R) (h3 : ∀ (H' : Hp) (R : VK), Same H H' → R (.int p) H' → tc σ H' R)
    (m1 : 1 ≤ m) (m2 : m ≤ 10) (k : ∀ (H' : Hp) (u : Addr), Same H H' → H' u = some (.tup ((List.replicate m fl ++ [p]).map V.int)) → Q (.ref u) H') : tOp (rCatT K) (tOp (rRepA K) (tTup (tCons ta tNil)) tb) (tTup (tCons tc tNil)) σ H Q := by
  refine op_read (op_read (tup_read (cons_read (h1 _ (nil_read ⟨by show 1 ≤ sizeLine; decide, fun a na => ?_⟩)))))
  have sa : Same H (upd H a (.tup [.int fl])) := same_lay na
  have ea : (upd H a (.tup [.int fl])) a = some (.tup [.int fl]) := upd_same
  generalize upd H a (.tup [.int fl]) = H1 at sa ea ⊢
  refine h2 _ _ sa ⟨a, (m : Int), [.int fl], rfl, rfl, SqT.of ea, by simp, by omega, by omega, by show 1 ≤ 1000; decide, fun hm => ?_, fun hm q nq => ?_⟩
  · have e1 : m = 1 := by omega
    subst e1
    refine tup_read (cons_read (h3 _ _ sa (nil_read ⟨by show 1 ≤ sizeLine; decide, fun c nc => ?_⟩)))
    have sc : Same H1 (upd H1 c (.tup [.int p])) := same_lay nc
    refine ⟨a, c, [.int fl], [.int p], rfl, rfl, SqT.of (sc _ _ ea), SqT.of upd_same, by simp, by show 2 ≤ sizeLine; decide, fun z => by simp at z, fun _ u nu => ?_⟩
    exact k _ u (sa.trans (sc.trans (same_lay nu))) upd_same
  · have sq : Same H1 (upd H1 q (.tup (List.replicate ((m : Int)).toNat [V.int fl]).flatten)) := same_lay nq
    have eq : (upd H1 q (.tup (List.replicate ((m : Int)).toNat [V.int fl]).flatten)) q = some (.tup (List.replicate m (V.int fl))) := by rw [upd_same, flat1, Int.toNat_natCast]
    generalize upd H1 q (.tup (List.replicate ((m : Int)).toNat [V.int fl]).flatten) = H2 at sq eq ⊢
    refine tup_read (cons_read (h3 _ _ (sa.trans sq) (nil_read ⟨by show 1 ≤ sizeLine; decide, fun c nc => ?_⟩)))
    have sc : Same H2 (upd H2 c (.tup [.int p])) := same_lay nc
    refine ⟨q, c, List.replicate m (.int fl), [.int p], rfl, rfl, SqT.of (sc _ _ eq), SqT.of upd_same, fun z => ?_, ?_, fun z => by simp at z, fun _ u nu => ?_⟩
    · have := congrArg List.length z
      simp at this
      omega
    · rw [List.length_replicate, sizeLine_eq]
      show m + 1 ≤ _
      omega
    refine k _ u (sa.trans (sq.trans (sc.trans (same_lay nu)))) ?_
    rw [upd_same, List.map_append, List.map_replicate]
    rfl
theorem ok_stk {f : Addr} {fd : FuncData} (F : Fun K "find_stuck" "find_stuck" sStk f fd) (B : Bl mg) (M : DD P w K mg base C) (GT : FAt P w K mg base 3 "find_taker" ["drive"] (spTak K C)) : FnOk P w K mg base CX0 4 f fd ["drive"] (spStk K C) := by
  refine F.ok scStk (fun vs H Q E h => ?_) (fun cdv A outer s H vs Q E hr h => ?_)
  · obtain ⟨x, b, p, n, ini, y, rfl, _⟩ := h
    rfl
  obtain ⟨x, b, p, n, ini, y, rfl, hx0, hd, k0, k1⟩ := h
  have hr2 : Room 2 _ := hr.mono (by decide)
  obtain ⟨fT, dT, GT, kT, bT, gT⟩ := GT.ex
  obtain ⟨pb, gb, fb, P1, F1, B1⟩ := M.pb.ex
  obtain ⟨pp, gp, fp, P2, F2, B2⟩ := M.pp.ex
  obtain ⟨pn, gn, fn, P3, F3, B3⟩ := M.pn.ex
  refine ⟨_, pss_cons (ps_asg (pe_call GT hr (by rfl) gT kT bT .nil pass0 (pa_cons (pv 0) pa_nil)) (pg_tup rfl (pgs_cons (pg_name (i := 1) scStk.nd rfl (.inl rfl)) (pgs_cons (pg_name (i := 2) scStk.nd rfl (.inl rfl)) pgs_nil))))
    (pss_cons (ps_set (i := 3) scStk.nd rfl (.inl rfl) (pe_op op_catT (pe_op op_repA (pe_tup (pa_cons (pv 1) pa_nil)) (pe_op op_sub (pe_prop (pv 0) M.T.cl P1 F1 hr2 B1 .nil pass0 rfl) pe_int)) (pe_tup (pa_cons (pe_prop (pv 0) M.T.cl P2 F2 hr2 B2 .nil pass0 rfl) pa_nil))))
    (pss_cons (ps_if (PW.pt (pw_and (pt_cmpR op_in_seq (pv 2) (pe_tup (pa_cons pe_str (pa_cons pe_str pa_nil))) (by rfl))
        (pw_and1 (pt_cmpR op_lt (pe_callB (cr_sumT rfl) (by rfl) B.sum bSum (pa_cons (pv 3) pa_nil)) (pe_prop (pv 0) M.T.cl P3 F3 hr2 B3 .nil pass0 rfl) (nomark _))))) (pss_one (ps_ret (pv 3))) pss_nil)
    (pss_one (ps_ret pe_non)))), ?_⟩
  have hx0' := hx0
  obtain ⟨dx, t, hx, hR⟩ := hx0
  have hz := hd.sz
  have b0 := hz.b0
  have b1 := hz.b1
  have p1 := hz.p1
  have hrows := rows_ok hd.ini hd.y
  have hbox := tak_box p (ini ++ [((p : Int), y)]) 0 (by omega) (by omega) hrows.1
  have hword := tak_word p y hd.y ini 0 hd.ini.1
  refine ⟨_, rfl, x, b, p, n, ini, y, rfl, hx0', hd, fun H1 q s1 hq => ?_⟩
  have hst : stkM b p n (ini ++ [((p : Int), y)]) = if (takM p 0 (ini ++ [((p : Int), y)])).2 ∈ fullW ∧ (stM b p (takM p 0 (ini ++ [((p : Int), y)])).1).sum < (n : Int) then some (stM b p (takM p 0 (ini ++ [((p : Int), y)])).1) else none := rfl
  generalize takM p 0 (ini ++ [((p : Int), y)]) = tk at *
  obtain ⟨fl, wd⟩ := tk
  dsimp only at hbox hword hst hq
  refine ⟨q, _, rfl, SqT.of hq, rfl, _, _, rfl, _, _, rfl, rfl, ?_⟩
  have hx1 := s1 _ _ hx
  dsimp only
  refine seq_asg (rep_cat (K := K) (fl := fl) (m := b - 2) (p := (p : Int)) (fun R r => ⟨_, rfl, r⟩) (fun H2 R s2 r => ⟨_, rfl, x, dx, _, rfl, s2 _ _ hx1, x, dx, _, _, rfl, s2 _ _ hx1, rfl, _, _, rfl, rfl, ?_⟩) (fun H2 R s2 r => ⟨_, rfl, x, dx, _, rfl, s2 _ _ hx1, x, dx, _, _, rfl, s2 _ _ hx1, rfl, r⟩) (by omega) (by omega) fun H5 u s5 hu => ?_)
  · have e : ((b - 2 : Nat) : Int) = (b : Int) - 2 := by omega
    rw [e] at r
    exact r
  have s6 := s1.trans s5
  have hx5 := s6 _ _ hx
  refine seq_if0 ?_
  refine ⟨_, rfl, by show 2 ≤ sizeLine; decide, fun v nv => ?_⟩
  have sv : Same H5 (upd H5 v (.tup (fullW.map V.str))) := same_lay nv
  obtain ⟨f1, f2⟩ := in_full wd hword
  refine ⟨v, _, rfl, .inr (SqT.of upd_same), f1, flatF, _, rfl, ?_⟩
  show (if inV (.str wd) (fullW.map V.str) = true then _ else _)
  rw [f2]
  refine ite2 (fun c => ?_) (fun c => ?_)
  · have c' := of_decide_eq_true c
    refine ⟨_, rfl, u, _, rfl, SqT.of (sv _ _ hu), _, rfl, x, dx, _, rfl, sv _ _ hx5, x, dx, _, _, rfl, sv _ _ hx5, rfl, _, _, rfl, rfl, _, rfl, ite2 (fun e => ?_) (fun e => ?_)⟩
    · exact ⟨_, rfl, k1 _ _ _ (by rw [hst, if_pos ⟨c', of_decide_eq_true e⟩]; rfl) (s6.trans sv) (sv _ _ hu)⟩
    · exact k0 (by rw [hst, if_neg fun z => e (decide_eq_true z.2)]) _ (s6.trans sv)
  · exact k0 (by rw [hst, if_neg fun z => c (decide_eq_true z.1)]) _ (s6.trans sv)
end
end K2

set_option Elab.async false
set_option linter.all false
set_option maxRecDepth 100000
set_option maxHeartbeats 4000000
namespace K2
open PySem PySem.Spec PyProof.Rows L2 G1 G2
abbrev sFil : Stmt := topS 49
theorem scFil : FnScope ["drive", "closed", "load", "place", "living", "page"] ["drive", "closed"] (defScope sFil) := ⟨rfl, rfl, rfl, by decide +kernel, rfl, by decide +kernel, by decide +kernel⟩
abbrev wWr : Str := Str.ofString "write"
abbrev wSc : Str := Str.ofString "s"
/-- the events at these addresses are writes -/
def Wr (H : Hp) (rs : List Addr) : Prop := ∀ a ∈ rs, ∃ nm : Str, H a = some (.tup [.str wWr, .str nm])
theorem Wr.same {H H' : Hp} {rs : List Addr} (h : Wr H rs) (s : Same H H') : Wr H' rs := fun a ha => let ⟨nm, e⟩ := h a ha; ⟨nm, s _ _ e⟩
theorem Wr.app {H : Hp} {rs qs : List Addr} (h : Wr H rs) (g : Wr H qs) : Wr H (rs ++ qs) := fun a ha => (List.mem_append.mp ha).elim (h a) (g a)
/-- the list that grows is no event -/
theorem Wr.upd {H : Hp} {rs : List Addr} {l : Addr} {xs ys : List V} (h : Wr H rs) (hl : H l = some (.lst xs)) : Wr (L2.upd H l (.lst ys)) rs := fun a ha => by
  obtain ⟨nm, e⟩ := h a ha
  exact ⟨nm, by rw [upd_ne (ne_of e hl (by intro z; cases z))]; exact e⟩
structure Gw (mg : Str → Option Value) : Prop where
  wr : ∃ t, mg "WRITE" = some (.str wWr t)
  sc : ∃ t, mg "SCRATCH" = some (.str wSc t)
def spFil (K : PySem.W.Frag) (C : Addr) : Sp := fun vs H Q _ => ∃ (x q : Addr) (b p n : Nat) (ini : List RowD) (y : Str) (st : List Int), vs = [.ref x, .ref q] ∧ DrvAt K C H x b p n ini y ∧ DP b p n ini y ∧ SqT K H q (st.map V.int) ∧ st.length ≤ 10 ∧ (∀ i ∈ st, 0 ≤ i ∧ i ≤ (p : Int)) ∧
  ∀ (H' : Hp) (t : Addr) (rs : List Addr), Same H H' → H' t = some (.tup (rs.map V.ref)) → rs.length = p * st.length → Wr H' rs → Q (.ref t) H'
theorem rep_ref (m : Nat) (a : Addr) : (List.replicate m [V.ref a]).flatten = (List.replicate m a).map V.ref := by
  rw [flat1, List.map_replicate]
theorem name_read {t1 t2 : TE} {σ : L2.St} {H : Hp} {Q : Str → Hp → Prop} {i j : Nat} (hi : i < 26) (hj : j < 26) (h1 : ∀ R : VK, R (.int (i : Int)) H → t1 σ H R) (h2 : ∀ R : VK, R (.int (j : Int)) H → t2 σ H R)
    (k : ∀ nm : Str, Q nm H) : tJs [tC (.str (Str.ofString "n")), tFmt t1, tC (.str (Str.ofString "x")), tFmt t2] Str.empty σ H Q := by
  have z1 := num_len i hi
  have z2 := num_len j hj
  have e1 : (Str.ofString "n").length = 1 := by decide +kernel
  have e2 : (Str.ofString "x").length = 1 := by decide +kernel
  have e5 : Str.empty.length = 0 := by decide +kernel
  refine js_c ?_ (js_i h1 (log_small i hi) ?_ (js_c ?_ (js_i h2 (log_small j hj) ?_ (js_0 (k _)))))
  all_goals
    refine small_line ?_
    simp only [Str.length_append]
    omega
section
variable {P : Program} {w : World} {K : PySem.W.Frag} {mg : Str → Option Value} {base : Heap} {C : Addr}
theorem ok_fil {f : Addr} {fd : FuncData} (F : Fun K "fill_blocks" "fill_blocks" sFil f fd) (B : Bl mg) (M : DD P w K mg base C) (W : Gw mg) : FnOk P w K mg base CX0 3 f fd ["drive", "closed"] (spFil K C) := by
  refine F.ok scFil (fun vs H Q E h => ?_) (fun cdv A outer s H vs Q E hr h => ?_)
  · obtain ⟨x, q, b, p, n, ini, y, st, rfl, _⟩ := h
    rfl
  obtain ⟨x, q, b, p, n, ini, y, st, rfl, ⟨dx, t, hx, hR⟩, hd, hq, hlen, hst, k⟩ := h
  obtain ⟨tw, cw⟩ := W.wr
  obtain ⟨tc, cc⟩ := W.sc
  have hr2 : Room 2 _ := hr.mono (by decide)
  obtain ⟨pp, gp, fp, P2, F2, B2⟩ := M.pp.ex
  refine ⟨_, pss_cons (ps_set (i := 2) scFil.nd rfl (.inl rfl) (pe_lst pa_nil))
    (pss_cons (ps_for PassesOwn.never rfl (pi_enumT (by rfl) B.enm (pa_cons (pv 1) pa_nil)) (pg_tup rfl (pgs_cons (pg_name (i := 3) scFil.nd rfl (.inr rfl)) (pgs_cons (pg_name (i := 4) scFil.nd rfl (.inl rfl)) pgs_nil)))
      (pss_cons (ps_expr (pe_bm PySem.F.plainAttrs_list PySem.F.slot_list_extend PySem.F.type_list_extend mt_extend (pv 2) (pa_cons (pe_op op_rep (pe_lst (pa_cons (pe_tup (pa_cons (pe_glob (v := .str wWr) rfl cw ⟨_, rfl⟩) (pa_cons (pe_glob (v := .str wSc) rfl cc ⟨_, rfl⟩) pa_nil))) pa_nil))
          (pe_op op_sub (pe_prop (pv 0) M.T.cl P2 F2 hr2 B2 .nil pass0 rfl) (pv 4))) pa_nil)))
      (pss_one (ps_expr (pe_bm PySem.F.plainAttrs_list PySem.F.slot_list_extend PySem.F.type_list_extend mt_extend (pv 2) (pa_cons (pe_lc (own := [("page", 5)]) (g := gName 5) (tt := tYes)
          (te := tTup (tCons (tC (.str wWr)) (tCons (fun σ H Q => tJs [tC (.str (Str.ofString "n")), tFmt (tVar 3), tC (.str (Str.ofString "x")), tFmt (tVar 5)] Str.empty σ H fun out H1 => Q (.str out) H1) tNil))) rfl scFil.nd
          (pi_range1 (by rfl) B.range (pa_cons (pv 4) pa_nil))
          (blkOk_by (own := [("page", 5)]) (N := ["drive", "closed", "load", "place", "living", "page"]) (sc := defScope sFil) (by decide +kernel))
          (fun _ _ _ _ _ => pg_name (i := 5) scFil.nd rfl (Or.inl rfl)) (fun _ _ _ _ _ => pts_nil)
          (fun _ _ _ _ _ => pe_tup (pa_cons (pe_glob (v := .str wWr) rfl cw ⟨_, rfl⟩) (pa_cons (pe_joined (.cons pe_str (.cons (pe_fmt (pv 3)) (.cons pe_str (.cons (pe_fmt (pv 5)) .nil))))) pa_nil)))) pa_nil))))))
    (pss_one (ps_ret (pe_callTy call_tuple_of (by rfl) B.tup bTup (pa_cons (pv 2) pa_nil))))), ?_⟩
  have p1 := hd.sz.p1
  refine seq_asg (lst_read (nil_read ⟨by show 0 ≤ sizeLine; decide, fun l nl => ?_⟩))
  have s0 : Same H (upd H l (.lst [])) := same_lay nl
  refine seq_for fun D' hD1 hD2 => ?_
  refine ⟨_, rfl, q, _, rfl, K2.Same.tup s0 hq, ?_⟩
  refine for_enumT (K := K) (xs := st.map V.int) (fun i σ H' => ∃ (x3 x4 : Option V) (rs : List Addr), σ = [some (.ref x), some (.ref q), some (.ref l), x3, x4, none] ∧ Same H H' ∧ H' l = some (.lst (rs.map V.ref)) ∧ rs.length = p * i ∧ Wr H' rs)
    ⟨none, none, [], rfl, s0, by rw [upd_same]; rfl, by simp, fun a ha => by simp at ha⟩ (fun i σ H' z => ?_) ?_ ?_
  · obtain ⟨_, _, _, _, s1, _⟩ := z
    exact K2.Same.tup s1 hq
  · rintro i v T σ H' hi ⟨x3, x4, rs, rfl, s1, hl, hn, hw⟩ hT
    obtain ⟨li, hli, rfl⟩ : ∃ li, st[i]? = some li ∧ V.int li = v := by
      rw [List.getElem?_map] at hi
      cases hq2 : st[i]? with
      | none => rw [hq2] at hi; cases hi
      | some a => rw [hq2] at hi; exact ⟨a, rfl, Option.some.inj hi⟩
    obtain ⟨l0, l1⟩ := hst li (List.mem_of_getElem? hli)
    have hi10 : i < st.length := (List.getElem?_eq_some_iff.mp hli).1
    have sT : Same H' (upd H' T (.tup [.int (i : Nat), .int li])) := same_lay hT
    refine ⟨T, _, rfl, SqT.of upd_same, rfl, _, _, rfl, _, _, rfl, rfl, ?_⟩
    have s2 := s1.trans sT
    have hl2 := sT _ _ hl
    have hw2 := hw.same sT
    generalize upd H' T (.tup [.int (i : Nat), .int li]) = H1 at s2 hl2 hw2 ⊢
    have hpi : p * i ≤ 5 * 10 := Nat.mul_le_mul p1 (by omega)
    refine ⟨_, rfl, .inl ⟨rfl, _, SqL.of hl2⟩, ?_⟩
    refine cons_read (op_read (lst_read (cons_read (tup_read (cons_read (c_read (cons_read (c_read (nil_read ⟨by show 2 ≤ sizeLine; decide, fun a na => nil_read ⟨by show 1 ≤ sizeLine; decide, fun c nc => ?_⟩⟩)))))))))
    have s3 : Same H1 (upd (upd H1 a (.tup [.str wWr, .str wSc])) c (.lst [.ref a])) := (same_lay na).trans (same_lay nc)
    have ha3 : (upd (upd H1 a (.tup [.str wWr, .str wSc])) c (.lst [.ref a])) a = some (.tup [.str wWr, .str wSc]) := same_lay nc _ _ upd_same
    have hc3 : (upd (upd H1 a (.tup [.str wWr, .str wSc])) c (.lst [.ref a])) c = some (.lst [.ref a]) := upd_same
    generalize upd (upd H1 a (.tup [.str wWr, .str wSc])) c (.lst [.ref a]) = H3 at s3 ha3 hc3 ⊢
    have hx3 := s3 _ _ (s2 _ _ hx)
    refine ⟨_, rfl, x, dx, _, rfl, hx3, x, dx, _, _, rfl, hx3, rfl, _, rfl, _, _, rfl, rfl, c, (p : Int) - li, _, rfl, rfl, hc3, by omega, by omega, ?_, fun d nd => nil_read ?_⟩
    · rw [sizeLine_eq]
      show 1 * ((p : Int) - li).toNat ≤ _
      omega
    have s4 : Same H3 (upd H3 d (.lst (List.replicate ((p : Int) - li).toNat [V.ref a]).flatten)) := same_lay nd
    have hd4 : (upd H3 d (.lst (List.replicate ((p : Int) - li).toNat [V.ref a]).flatten)) d = some (.lst ((List.replicate ((p : Int) - li).toNat a).map V.ref)) := by rw [upd_same, rep_ref]
    generalize upd H3 d (.lst (List.replicate ((p : Int) - li).toNat [V.ref a]).flatten) = H4 at s4 hd4 ⊢
    have s24 := s3.trans s4
    have hl4 := s24 _ _ hl2
    have hw4 := hw2.same s24
    have hwa : Wr H4 (List.replicate ((p : Int) - li).toNat a) := fun z hz => by
      rw [(List.mem_replicate.mp hz).2]
      exact ⟨_, s4 _ _ ha3⟩
    refine ⟨l, d, _, _, rfl, rfl, hl4, hd4, ?_, ?_⟩
    · rw [List.length_map, List.length_map, List.length_replicate, sizeLine_eq]
      omega
    have hl5 : (upd H4 l (.lst (rs.map V.ref ++ (List.replicate ((p : Int) - li).toNat a).map V.ref))) l = some (.lst ((rs ++ List.replicate ((p : Int) - li).toNat a).map V.ref)) := by rw [upd_same, List.map_append]
    have hw5 : Wr (upd H4 l (.lst (rs.map V.ref ++ (List.replicate ((p : Int) - li).toNat a).map V.ref))) (rs ++ List.replicate ((p : Int) - li).toNat a) := (hw4.app hwa).upd hl4
    have s5 : Same H (upd H4 l (.lst (rs.map V.ref ++ (List.replicate ((p : Int) - li).toNat a).map V.ref))) := fun z o e => by
      rw [upd_ne (ne_of_none e nl)]
      exact s24 _ _ (s2 _ _ e)
    have hn5 : (rs ++ List.replicate ((p : Int) - li).toNat a).length = p * i + ((p : Int) - li).toNat := by rw [List.length_append, List.length_replicate, hn]
    generalize rs ++ List.replicate ((p : Int) - li).toNat a = rs5 at hl5 hw5 hn5
    generalize upd H4 l (.lst (rs.map V.ref ++ (List.replicate ((p : Int) - li).toNat a).map V.ref)) = H5 at hl5 hw5 s5 ⊢
    dsimp only
    refine ⟨_, rfl, .inl ⟨rfl, _, SqL.of hl5⟩, ?_⟩
    refine cons_read ?_
    refine ⟨_, rfl, li, rfl, by omega, by omega, fun D hD => ?_⟩
    refine lc_range (lo := 0) (n := li.toNat) (fun j H' => ∃ qs : List Addr, Same H5 H' ∧ H' D = some (.lst (qs.map V.ref)) ∧ qs.length = j ∧ Wr H' qs) ⟨[], same_lay hD, upd_same, rfl, fun _ z => nomatch z⟩ ?_ ?_
    · rintro j H6 hj ⟨qs, s6, h6, hn6, hw6⟩
      refine ⟨rfl, ?_⟩
      unfold tYes
      dsimp only
      rw [if_pos rfl]
      refine tup_read (cons_read (c_read (cons_read ?_)))
      refine name_read (i := i) (j := j) (by omega) (by omega) (fun R r => ⟨_, rfl, r⟩) (fun R r => ⟨_, rfl, by rw [Int.zero_add]; exact r⟩) fun nm => ?_
      refine nil_read ⟨by show 2 ≤ sizeLine; decide, fun e ne => ?_⟩
      have s7 : Same H6 (upd H6 e (.tup [.str wWr, .str nm])) := same_lay ne
      have nD : e ≠ D := fun z => by rw [z, h6] at ne; cases ne
      refine ⟨qs.map V.ref, s7 _ _ h6, by rw [List.length_map, sizeLine_eq]; omega, qs ++ [e], ?_, ?_, ?_, ?_⟩
      · intro z o hz
        rw [upd_ne (ne_of_none hz hD)]
        exact s7 _ _ (s6 _ _ hz)
      · rw [upd_same, List.map_append]; rfl
      · rw [List.length_append, hn6]; rfl
      · refine Wr.app ((hw6.same s7).upd (s7 _ _ h6)) fun z hz => ?_
        rw [List.mem_singleton.mp hz]
        exact ⟨nm, by rw [upd_ne nD, upd_same]⟩
    · rintro H6 ⟨qs, s6, h6, hn6, hw6⟩
      refine nil_read ⟨l, D, _, _, rfl, rfl, s6 _ _ hl5, h6, ?_, ?_⟩
      · rw [List.length_map, List.length_map, sizeLine_eq]
        omega
      refine ⟨_, _, rs5 ++ qs, rfl, ?_, ?_, ?_, ?_⟩
      · intro z o hz
        rw [upd_ne (ne_of_none hz nl)]
        exact s6 _ _ (s5 _ _ hz)
      · rw [upd_same, List.map_append]
      · rw [List.length_append, hn5, hn6, Nat.mul_add]
        omega
      · exact Wr.upd ((hw5.same s6).app hw6) (s6 _ _ hl5)
  · rintro σ H' ⟨x3, x4, rs, rfl, s1, hl, hn, hw⟩
    rw [hD1]
    refine ⟨_, rfl, l, _, rfl, .inl ⟨SqL.of hl, fun u nu => ?_⟩⟩
    rw [List.length_map] at hn
    exact k _ u rs (s1.trans (same_lay nu)) upd_same hn (hw.same (same_lay nu))
end
end K2

set_option Elab.async false
set_option linter.all false
set_option maxRecDepth 100000
set_option maxHeartbeats 4000000
namespace K2
open PySem PySem.Spec PyProof.Rows L2 G1 G2
abbrev sCkd : Stmt := topS 42
abbrev sCkt : Stmt := topS 43
abbrev sSti : Stmt := topS 47
abbrev sStl : Stmt := topS 48
theorem scCkd : FnScope ["drive"] ["drive"] (defScope sCkd) := ⟨rfl, rfl, rfl, by decide +kernel, rfl, by decide +kernel, by decide +kernel⟩
theorem scCkt : FnScope ["trims"] ["trims"] (defScope sCkt) := ⟨rfl, rfl, rfl, by decide +kernel, rfl, by decide +kernel, by decide +kernel⟩
theorem scSti : FnScope ["drive", "trims"] ["drive", "trims"] (defScope sSti) := ⟨rfl, rfl, rfl, by decide +kernel, rfl, by decide +kernel, by decide +kernel⟩
theorem scStl : FnScope ["drive", "trims", "stuck"] ["drive", "trims"] (defScope sStl) := ⟨rfl, rfl, rfl, by decide +kernel, rfl, by decide +kernel, by decide +kernel⟩
def spCkd (K : PySem.W.Frag) (C : Addr) : Sp := fun vs H Q _ => ∃ (x : Addr) (b p n : Nat) (ini : List RowD) (y : Str), vs = [.ref x] ∧ DrvAt K C H x b p n ini y ∧ Q .non H
def spCkt : Sp := fun vs H Q _ => ∃ t : Bool, vs = [.bl t] ∧ Q .non H
def spSti (K : PySem.W.Frag) (C : Addr) : Sp := fun vs H Q _ => ∃ (x : Addr) (tr : Bool) (b p n : Nat) (ini : List RowD) (y : Str), vs = [.ref x, .bl tr] ∧ DrvAt K C H x b p n ini y ∧ DP b p n ini y ∧
  ∀ H' : Hp, Same H H' → Q (.bl (stkM b p n (ini ++ [((p : Int), y)])).isSome) H'
def spStl (K : PySem.W.Frag) (C : Addr) : Sp := fun vs H Q _ => ∃ (x : Addr) (tr : Bool) (b p n : Nat) (ini : List RowD) (y : Str), vs = [.ref x, .bl tr] ∧ DrvAt K C H x b p n ini y ∧ DP b p n ini y ∧
  (stkM b p n (ini ++ [((p : Int), y)]) = none → ∀ H' : Hp, Same H H' → Q .non H') ∧
  ∀ (H' : Hp) (q t : Addr) (rs : List Addr), (stkM b p n (ini ++ [((p : Int), y)])).isSome = true → Same H H' → H' q = some (.tup [.ref t, .str wSc]) → H' t = some (.tup (rs.map V.ref)) → rs.length = p * (b - 1) → Wr H' rs → Q (.ref q) H'
theorem stk_box {b p n : Nat} {ini : List RowD} {y : Str} {st : List Int} (d : DP b p n ini y) (h : stkM b p n (ini ++ [((p : Int), y)]) = some st) : st.length = b - 1 ∧ ∀ i ∈ st, 0 ≤ i ∧ i ≤ (p : Int) := by
  have hbox := tak_box p (ini ++ [((p : Int), y)]) 0 (by omega) (by omega) (rows_ok d.ini d.y).1
  have b0 := d.sz.b0
  unfold stkM at h
  split at h
  · injection h with h
    rw [← h]
    unfold stM
    refine ⟨?_, fun i hi => ?_⟩
    · rw [List.length_append, List.length_replicate]
      show b - 2 + 1 = b - 1
      omega
    · rcases List.mem_append.mp hi with hi | hi
      · rw [(List.mem_replicate.mp hi).2]
        exact hbox
      · rw [List.mem_singleton.mp hi]
        omega
  · cases h
section
variable {P : Program} {w : World} {K : PySem.W.Frag} {mg : Str → Option Value} {base : Heap} {C : Addr}
theorem ok_ckd {f : Addr} {fd : FuncData} (F : Fun K "check_drive" "check_drive" sCkd f fd) (B : Bl mg) (M : DD P w K mg base C) : FnOk P w K mg base CX0 1 f fd ["drive"] (spCkd K C) := by
  refine F.ok scCkd (fun vs H Q E h => ?_) (fun cdv A outer s H vs Q E hr h => ?_)
  · obtain ⟨x, b, p, n, ini, y, rfl, _⟩ := h
    rfl
  obtain ⟨x, b, p, n, ini, y, rfl, ⟨dx, t, hx, hR⟩, k⟩ := h
  have D := M.D
  have T := M.T
  refine ⟨_, pss_one (ps_if (pt_not (pt_val (pe_callB call_isi (by rfl) B.isi bIsi (pa_cons (pv 0) (pa_cons (pe_glob (v := .ref C) rfl M.gD rfl) pa_nil))))) (pss_one ps_never) pss_nil), ?_⟩
  exact ⟨_, rfl, _, _, _, _, true, rfl, .own C, .base (.ins hx T.cl D.ha D.hn D.htk D.hm), D.own, true, rfl, iteF k⟩
theorem ok_ckt {f : Addr} {fd : FuncData} (F : Fun K "check_trims" "check_trims" sCkt f fd) : FnOk P w K mg base CX0 1 f fd ["trims"] spCkt := by
  refine F.ok scCkt (fun vs H Q E h => ?_) (fun cdv A outer s H vs Q E hr h => ?_)
  · obtain ⟨t, rfl, _⟩ := h
    rfl
  obtain ⟨t, rfl, k⟩ := h
  refine ⟨_, pss_one (ps_if (PW.pt (pw_and (pt_cmpR op_isnot_bl (pv 0) pe_bl (nomark _)) (pw_and1 (pt_cmpR op_isnot_bl (pv 0) pe_bl (nomark _))))) (pss_one ps_never) pss_nil), ?_⟩
  cases t with
  | true => exact ⟨_, rfl, _, _, rfl, rfl, _, rfl, iteF (iteF k)⟩
  | false => exact ⟨_, rfl, _, _, rfl, rfl, _, rfl, iteT ⟨_, rfl, _, _, rfl, rfl, _, rfl, iteF k⟩⟩
abbrev kwT : List (Str × V) := [("trims", .bl true)]
theorem ok_sti {f : Addr} {fd : FuncData} (F : FunD K "sticks" "sticks" (defArgs sSti) (defBody sSti) (defScope sSti) [] kwT f fd) (GD : FAt P w K mg base 1 "check_drive" ["drive"] (spCkd K C)) (GT : FAt P w K mg base 1 "check_trims" ["trims"] spCkt) (GS : FAt P w K mg base 4 "find_stuck" ["drive"] (spStk K C)) :
    FnOk P w K mg base CX0 5 f fd ["drive", "trims"] (spSti K C) := by
  refine F.ok (CX := CX0) scSti (fun vs H Q E h => ?_) (fun cdv A outer s H vs Q E hr h => ?_)
  · obtain ⟨x, tr, b, p, n, ini, y, rfl, _⟩ := h
    rfl
  obtain ⟨x, tr, b, p, n, ini, y, rfl, hx, hd, k⟩ := h
  have hr1 : Room 1 _ := hr.mono (by decide)
  obtain ⟨fD, dD, GD, kD, bD, gD⟩ := GD.ex
  obtain ⟨fT, dT, GT, kT, bT, gT⟩ := GT.ex
  obtain ⟨fS, dS, GS, kS, bS, gS⟩ := GS.ex
  refine ⟨_, pss_cons (ps_expr (pe_call GD hr1 (by rfl) gD kD bD .nil pass0 (pa_cons (pv 0) pa_nil))) (pss_cons (ps_expr (pe_call GT hr1 (by rfl) gT kT bT .nil pass0 (pa_cons (pv 1) pa_nil)))
    (pss_one (ps_ret (pe_cmpR op_notN (pe_call GS hr (by rfl) gS kS bS .nil pass0 (pa_cons (pv 0) pa_nil)) pe_non (nomark _))))), ?_⟩
  refine ⟨_, rfl, x, b, p, n, ini, y, rfl, hx, ?_⟩
  refine ⟨_, rfl, tr, rfl, ?_⟩
  refine ⟨_, rfl, x, b, p, n, ini, y, rfl, hx, hd, fun e H1 s1 => ⟨rfl, ?_⟩, fun st H1 q e s1 hq => ⟨rfl, ?_⟩⟩
  · have z := k H1 s1
    rw [e] at z
    exact z
  · have z := k H1 s1
    rw [e] at z
    exact z
theorem ok_stl {f : Addr} {fd : FuncData} (F : FunD K "stick_load" "stick_load" (defArgs sStl) (defBody sStl) (defScope sStl) [] kwT f fd) (W : Gw mg) (GD : FAt P w K mg base 1 "check_drive" ["drive"] (spCkd K C)) (GT : FAt P w K mg base 1 "check_trims" ["trims"] spCkt) (GS : FAt P w K mg base 4 "find_stuck" ["drive"] (spStk K C))
    (GF : FAt P w K mg base 3 "fill_blocks" ["drive", "closed"] (spFil K C)) : FnOk P w K mg base CX0 5 f fd ["drive", "trims"] (spStl K C) := by
  refine F.ok (CX := CX0) scStl (fun vs H Q E h => ?_) (fun cdv A outer s H vs Q E hr h => ?_)
  · obtain ⟨x, tr, b, p, n, ini, y, rfl, _⟩ := h
    rfl
  obtain ⟨x, tr, b, p, n, ini, y, rfl, hx, hd, k0, k1⟩ := h
  have hr1 : Room 1 _ := hr.mono (by decide)
  have hr3 : Room 3 _ := hr.mono (by decide)
  obtain ⟨tc, cc⟩ := W.sc
  obtain ⟨fD, dD, GD, kD, bD, gD⟩ := GD.ex
  obtain ⟨fT, dT, GT, kT, bT, gT⟩ := GT.ex
  obtain ⟨fS, dS, GS, kS, bS, gS⟩ := GS.ex
  obtain ⟨fF, dF, GF, kF, bF, gF⟩ := GF.ex
  refine ⟨_, pss_cons (ps_expr (pe_call GD hr1 (by rfl) gD kD bD .nil pass0 (pa_cons (pv 0) pa_nil))) (pss_cons (ps_expr (pe_call GT hr1 (by rfl) gT kT bT .nil pass0 (pa_cons (pv 1) pa_nil)))
    (pss_cons (ps_set (i := 2) scStl.nd rfl (.inl rfl) (pe_call GS hr (by rfl) gS kS bS .nil pass0 (pa_cons (pv 0) pa_nil)))
    (pss_one (ps_ret (pe_ifExp (pt_cmpR op_isN (pv 2) pe_non (nomark _)) pe_non (pe_tup (pa_cons (pe_call GF hr3 (by rfl) gF kF bF .nil pass0 (pa_cons (pv 0) (pa_cons (pv 2) pa_nil))) (pa_cons (pe_glob (v := .str wSc) rfl cc ⟨_, rfl⟩) pa_nil)))))))), ?_⟩
  refine ⟨_, rfl, x, b, p, n, ini, y, rfl, hx, ?_⟩
  refine ⟨_, rfl, tr, rfl, ?_⟩
  refine ⟨_, rfl, x, b, p, n, ini, y, rfl, hx, hd, fun e H1 s1 => ?_, fun st H1 q e s1 hq => ?_⟩
  · exact ⟨_, rfl, rfl, _, rfl, iteT (k0 e H1 s1)⟩
  · obtain ⟨h1, h2⟩ := stk_box hd e
    have b1 := hd.sz.b1
    refine ⟨_, rfl, rfl, _, rfl, iteF ?_⟩
    refine ⟨_, rfl, _, rfl, x, q, b, p, n, ini, y, st, rfl, hx.same s1, hd, SqT.of hq, by omega, h2, fun H2 t rs s2 ht hn hw => ⟨by show 2 ≤ sizeLine; decide, fun u nu => ?_⟩⟩
    have s3 : Same H2 (upd H2 u (.tup [.ref t, .str wSc])) := same_lay nu
    exact k1 _ u t rs (by rw [e]; rfl) (s1.trans (s2.trans s3)) upd_same (s3 _ _ ht) (by rw [hn, h1]) (hw.same s3)
/-- f(x), f(x, trims = v) -/
theorem b_kw {x : Str} {st : Stmt} {f : Addr} {fd : FuncData} (F : FunD K x x (defArgs st) (defBody st) (defScope st) [] kwT f fd)
    (h : ∀ (D : Addr) (doc pm : Value) (an : Option Addr) (cdv ct : Value) (us ks : List Value), us.length = 1 → ks.length = 1 → KwChain D ((kwT.map (·.1)).zip ks) (bindArgs (PySem.W.fnOf x x (defArgs st) (defBody st) (defScope st) .none (.ref D) doc pm an cdv ct) ⟨us, []⟩) ((["drive", "trims"] : List Str).zip (us ++ ks))) :
    ∃ ds, Vals [V.bl true] ds ∧ Binds K fd ["drive", "trims"] ds := F.binds0 (ps := ["drive", "trims"]) 1 (by simp) rfl h
theorem b_sti {f : Addr} {fd : FuncData} (F : FunD K "sticks" "sticks" (defArgs sSti) (defBody sSti) (defScope sSti) [] kwT f fd) : ∃ ds, Vals [V.bl true] ds ∧ Binds K fd ["drive", "trims"] ds := b_kw F fun D doc pm an cdv ct us ks l1 l2 => by
  match us, l1, ks, l2 with
  | [a], _, [z], _ => exact ⟨_, _, _, _, _, _, rfl, rfl, rfl⟩
theorem b_stl {f : Addr} {fd : FuncData} (F : FunD K "stick_load" "stick_load" (defArgs sStl) (defBody sStl) (defScope sStl) [] kwT f fd) : ∃ ds, Vals [V.bl true] ds ∧ Binds K fd ["drive", "trims"] ds := b_kw F fun D doc pm an cdv ct us ks l1 l2 => by
  match us, l1, ks, l2 with
  | [a], _, [z], _ => exact ⟨_, _, _, _, _, _, rfl, rfl, rfl⟩
abbrev gApp {α : Type} (us ws : List α) : List α := us ++ ws
theorem k_sti {f : Addr} {fd : FuncData} (F : FunD K "sticks" "sticks" (defArgs sSti) (defBody sSti) (defScope sSti) [] kwT f fd) : KBn K fd ["drive", "trims"] 1 ["trims"] gApp gApp := by
  obtain ⟨oc, od, dV, kV, doc, pm, an, cdv, ct, osl, rfl, lk, hcd, hD, hK⟩ := F.ex
  rcases hD with ⟨_, rfl⟩ | ⟨e, _⟩
  · refine ⟨fun s us ws X l1 l2 => BindsTo.of_eq ?_, fun r1 r2 => r1.append r2⟩
    match us, l1, ws, l2 with
    | [a], _, [b], _ => rfl
  · exact absurd rfl e
theorem k_stl {f : Addr} {fd : FuncData} (F : FunD K "stick_load" "stick_load" (defArgs sStl) (defBody sStl) (defScope sStl) [] kwT f fd) : KBn K fd ["drive", "trims"] 1 ["trims"] gApp gApp := by
  obtain ⟨oc, od, dV, kV, doc, pm, an, cdv, ct, osl, rfl, lk, hcd, hD, hK⟩ := F.ex
  rcases hD with ⟨_, rfl⟩ | ⟨e, _⟩
  · refine ⟨fun s us ws X l1 l2 => BindsTo.of_eq ?_, fun r1 r2 => r1.append r2⟩
    match us, l1, ws, l2 with
    | [a], _, [b], _ => rfl
  · exact absurd rfl e
end
end K2

set_option Elab.async false
set_option linter.all false
set_option maxRecDepth 100000
set_option maxHeartbeats 4000000
namespace K2
open PySem PySem.Spec PyProof.Rows L2 G1 G2
/-! ### the rule's pick -/
def someM (bd : Int) (ls : List Int) : List Nat := (List.range ls.length).filter fun k => decide (ls.getD k 0 ≤ bd)
def TakeS (t : Str) (s : List Nat) (ls : List Int) (k : Nat) : Prop :=
  k ∈ s ∧ (t = "oldest" → ∀ j ∈ s, k ≤ j) ∧ (t = "youngest" → ∀ j ∈ s, j ≤ k) ∧ (t = "least" → ∀ j ∈ s, ls.getD k 0 ≤ ls.getD j 0) ∧ (t = "most" → ∀ j ∈ s, ls.getD j 0 ≤ ls.getD k 0)
def RuleR : List RowD → List Int → Nat → Prop
  | [], _, k => k = 0
  | (bd, t) :: rs, ls, k => if someM bd ls = [] then RuleR rs ls k else TakeS t (someM bd ls) ls k
def TakeA (t : Str) (ls : List Int) (k : Nat) : Prop :=
  (t = "oldest" → k = 0) ∧ (t = "youngest" → k = ls.length - 1) ∧ (t = "least" → ∀ x ∈ ls, ls.getD k 0 ≤ x) ∧ (t = "most" → ∀ x ∈ ls, x ≤ ls.getD k 0)
theorem mem_some {bd : Int} {ls : List Int} {k : Nat} : k ∈ someM bd ls ↔ k < ls.length ∧ ls.getD k 0 ≤ bd := by
  unfold someM
  rw [List.mem_filter, List.mem_range]
  simp
theorem getD_mem {ls : List Int} {k : Nat} (h : k < ls.length) : ls.getD k 0 ∈ ls := by
  rw [List.getD_eq_getElem?_getD, List.getElem?_eq_getElem h]
  exact List.getElem_mem h
theorem mem_getD {ls : List Int} {x : Int} (h : x ∈ ls) : ∃ k, k < ls.length ∧ ls.getD k 0 = x := by
  obtain ⟨k, hk, e⟩ := List.getElem_of_mem h
  exact ⟨k, hk, by rw [List.getD_eq_getElem?_getD, List.getElem?_eq_getElem hk]; exact e⟩
theorem some_nil {bd : Int} {ls : List Int} (h : someM bd ls = []) : ∀ x ∈ ls, bd + 1 ≤ x := by
  intro x hx
  obtain ⟨k, hk, e⟩ := mem_getD hx
  by_cases c : x ≤ bd
  · have : k ∈ someM bd ls := mem_some.mpr ⟨hk, by rw [e]; exact c⟩
    rw [h] at this
    exact nomatch this
  · omega
theorem tak_ge (p : Nat) : ∀ (rows : List RowD) (f : Int), f ≤ (takM p f rows).1
  | [], f => by unfold takM; exact Int.le_refl _
  | (l, x) :: rs, f => by
    rw [tak_cons]
    split
    · exact Int.le_refl _
    · have := tak_ge p rs (maxI f (l + 1))
      have h : f ≤ maxI f (l + 1) := by unfold maxI; split <;> omega
      omega
theorem rule_split {p : Nat} {ls : List Int} {k : Nat} (hp : ∀ x ∈ ls, x ≤ (p : Int)) (hne : ls ≠ []) : ∀ (rows : List RowD) (f : Int), (∀ r ∈ rows, r.1 ≤ (p : Int)) → (∃ r ∈ rows, r.1 = (p : Int)) → RuleR rows ls k → (∀ x ∈ ls, f ≤ x) →
    k < ls.length ∧ ((ls.getD k 0 < (p : Int) ∧ ¬ ∀ x ∈ ls, (takM p f rows).1 ≤ x) ∨ ((∀ x ∈ ls, (takM p f rows).1 ≤ x) ∧ TakeA (takM p f rows).2 ls k))
  | [], f, _, hex, _, _ => by obtain ⟨r, hr, _⟩ := hex; exact nomatch hr
  | (l, x) :: rs, f, hl, hex, hR, hf => by
    have l1 := hl _ (List.mem_cons_self ..)
    dsimp only at l1
    rw [tak_cons]
    unfold RuleR at hR
    by_cases hlp : l = (p : Int)
    · rw [if_pos hlp]
      have hs : ∀ j, j ∈ someM l ls ↔ j < ls.length := fun j => by
        rw [mem_some]
        exact ⟨fun z => z.1, fun z => ⟨z, by rw [hlp]; exact hp _ (getD_mem z)⟩⟩
      have hlen : 0 < ls.length := by
        cases ls with
        | nil => exact absurd rfl hne
        | cons a l => simp
      have hn : someM l ls ≠ [] := fun z => by
        have := (hs 0).mpr hlen
        rw [z] at this
        exact nomatch this
      rw [if_neg hn] at hR
      obtain ⟨t0, t1, t2, t3, t4⟩ := hR
      have hk := (hs k).mp t0
      refine ⟨hk, .inr ⟨hf, fun e => ?_, fun e => ?_, fun e y hy => ?_, fun e y hy => ?_⟩⟩
      · have := t1 e 0 ((hs 0).mpr hlen)
        omega
      · have := t2 e (ls.length - 1) ((hs _).mpr (by omega))
        omega
      · obtain ⟨j, hj, ej⟩ := mem_getD hy
        rw [← ej]
        exact t3 e j ((hs j).mpr hj)
      · obtain ⟨j, hj, ej⟩ := mem_getD hy
        rw [← ej]
        exact t4 e j ((hs j).mpr hj)
    · rw [if_neg hlp]
      have hlt : l < (p : Int) := by omega
      by_cases hs : someM l ls = []
      · rw [if_pos hs] at hR
        refine rule_split hp hne rs (maxI f (l + 1)) (fun r hr => hl r (List.mem_cons_of_mem _ hr)) ?_ hR ?_
        · obtain ⟨r, hr, e⟩ := hex
          rcases List.mem_cons.mp hr with rfl | hr
          · exact absurd e hlp
          · exact ⟨r, hr, e⟩
        · intro y hy
          have a1 := hf y hy
          have a2 := some_nil hs y hy
          unfold maxI
          split <;> omega
      · rw [if_neg hs] at hR
        obtain ⟨hk, hkl⟩ := mem_some.mp hR.1
        refine ⟨hk, .inl ⟨by omega, fun z => ?_⟩⟩
        have a1 := z _ (getD_mem hk)
        have a2 := tak_ge p rs (maxI f (l + 1))
        have a3 : l + 1 ≤ maxI f (l + 1) := by unfold maxI; split <;> omega
        omega
/-! ### cleaning that never ends -/
def StuckC (fl : Int) (wd : Str) (p : Nat) (c : List Int) : Prop := (∀ x ∈ c, fl ≤ x) ∧ ((wd = "youngest" ∧ c.getD (c.length - 1) 0 = (p : Int)) ∨ (wd = "most" ∧ (p : Int) ∈ c))
def rotM (c : List Int) (k : Nat) : List Int := c.eraseIdx k ++ [c.getD k 0]
theorem erase_perm : ∀ (c : List Int) (k : Nat), k < c.length → (c.getD k 0 :: c.eraseIdx k).Perm c
  | [], _, h => by simp at h
  | x :: c, 0, _ => by simp
  | x :: c, k + 1, h => by
    have ih := erase_perm c k (by simpa using h)
    have e : (x :: c).getD (k + 1) 0 = c.getD k 0 := by simp [List.getD_eq_getElem?_getD]
    rw [e, List.eraseIdx_cons_succ]
    exact (List.Perm.swap _ _ _).trans (ih.cons x)
theorem perm_sum {l m : List Int} (h : l.Perm m) : l.sum = m.sum := by
  induction h with
  | nil => rfl
  | cons x _ ih => rw [List.sum_cons, List.sum_cons, ih]
  | swap x y l => rw [List.sum_cons, List.sum_cons, List.sum_cons, List.sum_cons]; omega
  | trans _ _ a b => exact a.trans b
theorem rot_perm {c : List Int} {k : Nat} (h : k < c.length) : (rotM c k).Perm c := by
  unfold rotM
  refine List.perm_append_comm.trans ?_
  exact erase_perm c k h
def leadM (p : Int) : List Int → Nat
  | [] => 0
  | x :: l => if x = p then leadM p l + 1 else 0
theorem lead_app (p : Int) : ∀ (l : List Int), (∃ x ∈ l, x ≠ p) → leadM p (l ++ [p]) = leadM p l
  | [], h => by obtain ⟨x, hx, _⟩ := h; exact nomatch hx
  | y :: l, h => by
    rw [List.cons_append]
    unfold leadM
    by_cases e : y = p
    · rw [if_pos e, if_pos e, lead_app p l]
      obtain ⟨x, hx, ne⟩ := h
      rcases List.mem_cons.mp hx with rfl | hx
      · exact absurd e ne
      · exact ⟨x, hx, ne⟩
    · rw [if_neg e, if_neg e]
theorem least_sum {fl p : Int} : ∀ (c : List Int), (∀ x ∈ c, fl ≤ x) → p ∈ c → fl * ((c.length : Int) - 1) + p ≤ c.sum
  | [], _, h => nomatch h
  | x :: c, h, hp => by
    have hall : ∀ (l : List Int), (∀ x ∈ l, fl ≤ x) → fl * (l.length : Int) ≤ l.sum := by
      intro l
      induction l with
      | nil => intro _; simp
      | cons a l ih =>
        intro hl
        have h1 := hl a (List.mem_cons_self ..)
        have h2 := ih fun x hx => hl x (List.mem_cons_of_mem _ hx)
        rw [List.sum_cons, List.length_cons, Int.natCast_add, Int.mul_add]
        have : fl * ((1 : Nat) : Int) = fl := by simp
        omega
    rw [List.sum_cons, List.length_cons, Int.natCast_add]
    have e : ((c.length : Int) + ((1 : Nat) : Int) - 1) = (c.length : Int) := by omega
    rw [e]
    rcases List.mem_cons.mp hp with rfl | hp
    · have := hall c fun x hx => h x (List.mem_cons_of_mem _ hx)
      omega
    · have h1 := least_sum c (fun x hx => h x (List.mem_cons_of_mem _ hx)) hp
      have h2 := h x (List.mem_cons_self ..)
      have h3 : fl * (c.length : Int) = fl * ((c.length : Int) - 1) + fl := by rw [Int.mul_sub]; simp
      omega
theorem some_less {p : Int} : ∀ (c : List Int), (∀ x ∈ c, x ≤ p) → c.sum < p * (c.length : Int) → ∃ x ∈ c, x ≠ p
  | [], _, h => by simp at h
  | x :: c, hp, h => by
    by_cases e : x = p
    · rw [List.sum_cons, List.length_cons, Int.natCast_add, Int.mul_add] at h
      have : p * ((1 : Nat) : Int) = p := by simp
      obtain ⟨y, hy, ne⟩ := some_less c (fun x hx => hp x (List.mem_cons_of_mem _ hx)) (by omega)
      exact ⟨y, List.mem_cons_of_mem _ hy, ne⟩
    · exact ⟨x, List.mem_cons_self .., e⟩
/-- what stands when cleaning is due -/
structure Due (b p n : Nat) (c : List Int) : Prop where
  len : c.length = b - 1
  box : ∀ x ∈ c, 0 ≤ x ∧ x ≤ (p : Int)
  sum : c.sum < (n : Int)
structure Rls (p : Nat) (rows : List RowD) : Prop where
  ok : ∀ r ∈ rows, RowOk p r
  ex : ∃ r ∈ rows, r.1 = (p : Int)
  wd : (takM p 0 rows).2 ∈ wordsL
section
variable {b p n : Nat} {rows : List RowD} {c : List Int} {k : Nat}
theorem Due.rot (h : Due b p n c) (hk : k < c.length) : Due b p n (rotM c k) := by
  have hp := rot_perm hk
  refine ⟨hp.length_eq.trans h.len, fun x hx => h.box x (hp.mem_iff.mp hx), ?_⟩
  rw [perm_sum hp]
  exact h.sum
theorem due_split (hb : 3 ≤ b) (h : Due b p n c) (R : Rls p rows) (hR : RuleR rows c k) :
    k < c.length ∧ ((c.getD k 0 < (p : Int) ∧ ¬ ∀ x ∈ c, (takM p 0 rows).1 ≤ x) ∨ ((∀ x ∈ c, (takM p 0 rows).1 ≤ x) ∧ TakeA (takM p 0 rows).2 c k)) := by
  refine rule_split (fun x hx => (h.box x hx).2) (fun z => ?_) rows 0 (fun r hr => (R.ok r hr).2.1) R.ex hR fun x hx => (h.box x hx).1
  have := h.len
  rw [z] at this
  simp at this
  omega
theorem due_less (hb : 3 ≤ b) (hn : n ≤ p * (b - 1)) (h : Due b p n c) : ∃ x ∈ c, x ≠ (p : Int) := by
  refine some_less c (fun x hx => (h.box x hx).2) ?_
  have h1 := h.sum
  rw [h.len]
  have : ((p * (b - 1) : Nat) : Int) = (p : Int) * ((b - 1 : Nat) : Int) := Int.natCast_mul _ _
  omega
theorem stuck_on (hb : 3 ≤ b) (h : Due b p n c) (R : Rls p rows) (hR : RuleR rows c k) (hs : StuckC (takM p 0 rows).1 (takM p 0 rows).2 p c) :
    c.getD k 0 = (p : Int) ∧ StuckC (takM p 0 rows).1 (takM p 0 rows).2 p (rotM c k) := by
  obtain ⟨hk, hc⟩ := due_split hb h R hR
  obtain ⟨h1, h2⟩ := hs
  rcases hc with ⟨_, z⟩ | ⟨_, t1, t2, t3, t4⟩
  · exact absurd h1 z
  have hp := rot_perm hk
  have e : c.getD k 0 = (p : Int) := by
    rcases h2 with ⟨w, e⟩ | ⟨w, e⟩
    · rw [t2 w]; exact e
    · have := t4 w _ e
      have := (h.box _ (getD_mem hk)).2
      omega
  refine ⟨e, fun x hx => h1 x (hp.mem_iff.mp hx), ?_⟩
  rcases h2 with ⟨w, _⟩ | ⟨w, e2⟩
  · refine .inl ⟨w, ?_⟩
    unfold rotM
    rw [e, List.length_append, List.getD_eq_getElem?_getD]
    simp
  · exact .inr ⟨w, hp.mem_iff.mpr e2⟩
theorem stuck_off (hb : 3 ≤ b) (hn : n ≤ p * (b - 1)) (h : Due b p n c) (R : Rls p rows) (hR : RuleR rows c k) (hs : ¬ StuckC (takM p 0 rows).1 (takM p 0 rows).2 p c) (e : c.getD k 0 = (p : Int)) :
    ¬ StuckC (takM p 0 rows).1 (takM p 0 rows).2 p (rotM c k) ∧ leadM (p : Int) (rotM c k) < leadM (p : Int) c := by
  obtain ⟨hk, hc⟩ := due_split hb h R hR
  obtain ⟨z, hz, ne⟩ := due_less hb hn h
  rcases hc with ⟨e2, _⟩ | ⟨h1, t1, t2, t3, t4⟩
  · omega
  have hw := R.wd
  simp only [wordsL, List.mem_cons, List.not_mem_nil, or_false] at hw
  rcases hw with w | w | w | w
  · have k0 := t1 w
    refine ⟨fun q => ?_, ?_⟩
    · rcases q.2 with ⟨q, _⟩ | ⟨q, _⟩ <;> (rw [w] at q; exact absurd q (by decide))
    · subst k0
      cases c with
      | nil => simp at hk
      | cons a l =>
        have ea : a = (p : Int) := by simpa using e
        subst ea
        have : rotM ((p : Int) :: l) 0 = l ++ [(p : Int)] := by unfold rotM; simp
        rw [this, lead_app]
        · show leadM (p : Int) l < leadM (p : Int) ((p : Int) :: l)
          have : leadM (p : Int) ((p : Int) :: l) = leadM (p : Int) l + 1 := by
            show (if (p : Int) = (p : Int) then leadM (p : Int) l + 1 else 0) = _
            rw [if_pos rfl]
          omega
        · rcases List.mem_cons.mp hz with rfl | hz
          · exact absurd rfl ne
          · exact ⟨z, hz, ne⟩
  · exact absurd ⟨h1, .inl ⟨w, by rw [← t2 w]; exact e⟩⟩ hs
  · have := t3 w z hz
    have := (h.box z hz).2
    omega
  · exact absurd ⟨h1, .inr ⟨w, by rw [← e]; exact getD_mem hk⟩⟩ hs
theorem stuck_stk (hb : 3 ≤ b) (h : Due b p n c) (hs : StuckC (takM p 0 rows).1 (takM p 0 rows).2 p c) : (stkM b p n rows).isSome = true := by
  obtain ⟨h1, h2⟩ := hs
  have hl := h.len
  have hm : (p : Int) ∈ c ∧ (takM p 0 rows).2 ∈ fullW := by
    rcases h2 with ⟨w, e⟩ | ⟨w, e⟩
    · exact ⟨by rw [← e]; exact getD_mem (by omega), by rw [w]; decide⟩
    · exact ⟨e, by rw [w]; decide⟩
  have h3 := least_sum c h1 hm.1
  have h4 := h.sum
  unfold stkM
  rw [if_pos]
  · rfl
  refine ⟨hm.2, ?_⟩
  rw [st_sum _ _ _ (by omega), Int.mul_comm]
  rw [hl] at h3
  have e : (((b - 1 : Nat) : Int) - 1) = (b : Int) - 2 := by omega
  rw [e] at h3
  omega
end
end K2

set_option Elab.async false
set_option linter.all false
set_option maxRecDepth 100000
set_option maxHeartbeats 4000000
namespace K2
open PySem PySem.Spec PyProof.Rows L2 G1 G2
/-! ### stands -/
abbrev Spot := List Int × List Int
def sumS (s : Spot) : Int := s.1.sum + (s.2.drop 1).sum
def addM (p : Nat) (s : Spot) : Spot := if s.2.getD 0 0 + 1 = (p : Int) then (s.1 ++ [s.2.getD 1 0 + 1], []) else (s.1, [s.2.getD 0 0 + 1, s.2.getD 1 0 + 1])
def dieAt (s : Spot) (k : Nat) : Spot := (s.1.set k (s.1.getD k 0 - 1), s.2)
def diesM (c : List Int) : List Nat := (List.range c.length).filter fun k => decide (c.getD k 0 > 0)
def deadM (s : Spot) : List Spot := (diesM s.1).map (dieAt s) ++ (if s.2 ≠ [] ∧ 0 < s.2.getD 1 0 then [(s.1, [s.2.getD 0 0, s.2.getD 1 0 - 1])] else [])
def Clean (b : Nat) (s : Spot) : Prop := s.2 = [] ∧ s.1.length = b - 1
instance (b : Nat) (s : Spot) : Decidable (Clean b s) := inferInstanceAs (Decidable (_ ∧ _))
structure Good (b p n : Nat) (s : Spot) : Prop where
  len : s.1.length ≤ b - 1
  box : ∀ x ∈ s.1, 0 ≤ x ∧ x ≤ (p : Int)
  half : s.2 = [] ∨ ∃ w l : Int, s.2 = [w, l] ∧ 0 ≤ l ∧ l ≤ w ∧ w < (p : Int) ∧ s.1.length ≤ b - 2
  sum : sumS s ≤ (n : Int)
theorem set_sum : ∀ (c : List Int) (k : Nat) (x : Int), k < c.length → (c.set k x).sum = c.sum - c.getD k 0 + x
  | [], _, _, h => by simp at h
  | a :: c, 0, x, _ => by
    rw [List.set_cons_zero, List.sum_cons, List.sum_cons]
    have : (a :: c).getD 0 0 = a := rfl
    omega
  | a :: c, k + 1, x, h => by
    rw [List.set_cons_succ, List.sum_cons, List.sum_cons, set_sum c k x (by simpa using h)]
    have : (a :: c).getD (k + 1) 0 = c.getD k 0 := by simp [List.getD_eq_getElem?_getD]
    omega
section
variable {b p n : Nat} {s d : Spot}
theorem add_good (hp : 2 ≤ p) (hb : 3 ≤ b) (h1 : s.1.length ≤ b - 2) (h2 : ∀ x ∈ s.1, 0 ≤ x ∧ x ≤ (p : Int)) (h3 : s.2 = [] ∨ ∃ w l : Int, s.2 = [w, l] ∧ 0 ≤ l ∧ l ≤ w ∧ w < (p : Int)) (h4 : sumS s < (n : Int)) : Good b p n (addM p s) := by
  have key : 0 ≤ s.2.getD 1 0 ∧ s.2.getD 1 0 ≤ s.2.getD 0 0 ∧ s.2.getD 0 0 < (p : Int) ∧ sumS s = s.1.sum + s.2.getD 1 0 := by
    rcases h3 with e | ⟨w, l, e, a1, a2, a3⟩
    · unfold sumS
      rw [e]
      refine ⟨by decide, by decide, by simp; omega, by simp⟩
    · unfold sumS
      rw [e]
      exact ⟨a1, a2, a3, by simp⟩
  obtain ⟨k1, k2, k3, k4⟩ := key
  unfold addM
  split
  · rename_i e
    refine ⟨by rw [List.length_append]; simp; omega, fun x hx => ?_, .inl rfl, ?_⟩
    · rcases List.mem_append.mp hx with hx | hx
      · exact h2 x hx
      · rw [List.mem_singleton.mp hx]
        omega
    · show (s.1 ++ [s.2.getD 1 0 + 1]).sum + (([] : List Int).drop 1).sum ≤ _
      rw [List.sum_append, List.sum_cons, List.drop_nil, List.sum_nil]
      omega
  · rename_i e
    refine ⟨by show s.1.length ≤ _; omega, h2, .inr ⟨_, _, rfl, by omega, by omega, by omega, h1⟩, ?_⟩
    show s.1.sum + ([s.2.getD 0 0 + 1, s.2.getD 1 0 + 1].drop 1).sum ≤ _
    rw [List.drop_succ_cons, List.drop_zero, List.sum_cons, List.sum_nil]
    omega
theorem mem_dies {c : List Int} {k : Nat} : k ∈ diesM c ↔ k < c.length ∧ 0 < c.getD k 0 := by
  unfold diesM
  rw [List.mem_filter, List.mem_range]
  simp
theorem dead_good (h : Good b p n s) (hd : d ∈ deadM s) : Good b p n d ∧ sumS d < (n : Int) ∧ (d.2 = [] ↔ s.2 = []) ∧ d.1.length = s.1.length := by
  have hs := h.sum
  unfold deadM at hd
  rcases List.mem_append.mp hd with hd | hd
  · obtain ⟨k, hk, rfl⟩ := List.mem_map.mp hd
    obtain ⟨hk, h0⟩ := mem_dies.mp hk
    have e : sumS (dieAt s k) = sumS s - 1 := by
      unfold sumS dieAt
      dsimp only
      rw [set_sum _ _ _ hk]
      omega
    have el : (dieAt s k).1.length = s.1.length := by unfold dieAt; simp
    refine ⟨⟨by rw [el]; exact h.len, fun x hx => ?_, ?_, by omega⟩, by omega, Iff.rfl, el⟩
    · have bx := h.box _ (getD_mem hk)
      rcases List.mem_or_eq_of_mem_set hx with hx | hx
      · exact h.box x hx
      · omega
    · rcases h.half with e | ⟨w, l, e, a⟩
      · exact .inl e
      · exact .inr ⟨w, l, e, a.1, a.2.1, a.2.2.1, by rw [el]; exact a.2.2.2⟩
  · split at hd
    · rename_i c
      rw [List.mem_singleton.mp hd]
      rcases h.half with e | ⟨w, l, e, a1, a2, a3, a4⟩
      · exact absurd e c.1
      · have c2 := c.2
        have es : sumS s = s.1.sum + l := by unfold sumS; rw [e]; simp
        rw [e] at c2 ⊢
        have c3 : 0 < l := c2
        refine ⟨⟨h.len, h.box, .inr ⟨w, l - 1, rfl, by omega, by omega, a3, a4⟩, ?_⟩, ?_, ?_, rfl⟩
        · unfold sumS
          simp
          omega
        · unfold sumS
          simp
          omega
        · exact ⟨fun z => (by cases z), fun z => (by cases z)⟩
    · exact nomatch hd
theorem Good.open_ (hb : 3 ≤ b) (h : Good b p n s) (c : ¬ Clean b s) : s.1.length ≤ b - 2 ∧ (s.2 = [] ∨ ∃ w l : Int, s.2 = [w, l] ∧ 0 ≤ l ∧ l ≤ w ∧ w < (p : Int)) := by
  have hl := h.len
  rcases h.half with e | ⟨w, l, e, a1, a2, a3, a4⟩
  · refine ⟨?_, .inl e⟩
    have : s.1.length ≠ b - 1 := fun z => c ⟨e, z⟩
    omega
  · exact ⟨a4, .inr ⟨w, l, e, a1, a2, a3⟩⟩
end
/-! ### what a page's way ends with -/
def PageR (b p n : Nat) (rows : List RowD) (s : Spot) (r : Option Spot) : Prop :=
  (¬ Clean b s → r = some (addM p s)) ∧ (Clean b s → (r = none → StuckC (takM p 0 rows).1 (takM p 0 rows).2 p s.1) ∧ (StuckC (takM p 0 rows).1 (takM p 0 rows).2 p s.1 → r = none) ∧ ∀ s', r = some s' → Good b p n s')
structure NxOk (b p n : Nat) (rows : List RowD) (s : Spot) (os : List (Option Spot)) : Prop where
  stk : none ∈ os → (stkM b p n rows).isSome = true
  gd : ∀ s', some s' ∈ os → Good b p n s'
  add : sumS s < (n : Int) → ¬ Clean b s → some (addM p s) ∈ os
  die : ∀ d ∈ deadM s, ¬ Clean b d → some (addM p d) ∈ os
  stop : ∀ d ∈ deadM s, Clean b d → StuckC (takM p 0 rows).1 (takM p 0 rows).2 p d.1 → none ∈ os
section
variable {b p n : Nat} {rows : List RowD} {s d : Spot} {r : Option Spot}
theorem clean_due (h : Good b p n s) (hs : sumS s < (n : Int)) (c : Clean b s) : Due b p n s.1 := ⟨c.2, h.box, by
  have : sumS s = s.1.sum := by unfold sumS; rw [c.1]; simp
  omega⟩
theorem page_stk (hb : 3 ≤ b) (h : Good b p n s) (hs : sumS s < (n : Int)) (pr : PageR b p n rows s none) : (stkM b p n rows).isSome = true := by
  by_cases c : Clean b s
  · exact stuck_stk hb (clean_due h hs c) ((pr.2 c).1 rfl)
  · have := pr.1 c
    cases this
theorem page_good {s' : Spot} (hp : 2 ≤ p) (hb : 3 ≤ b) (h : Good b p n s) (hs : sumS s < (n : Int)) (pr : PageR b p n rows s (some s')) : Good b p n s' := by
  by_cases c : Clean b s
  · exact (pr.2 c).2.2 s' rfl
  · have := pr.1 c
    injection this with this
    rw [this]
    obtain ⟨h1, h2⟩ := h.open_ hb c
    exact add_good hp hb h1 h.box h2 hs
theorem nx_of (hp : 2 ≤ p) (hb : 3 ≤ b) (h : Good b p n s) {fs more : List (Option Spot)} {flag : Bool} (h1 : ∀ r ∈ fs, ∃ d ∈ deadM s, PageR b p n rows d r) (h2 : ∀ d ∈ deadM s, ∃ r ∈ fs, PageR b p n rows d r)
    (h3 : (sumS s < (n : Int) ∧ ∃ r, PageR b p n rows s r ∧ more = [r]) ∨ (¬ sumS s < (n : Int) ∧ more = [])) : NxOk b p n rows s (fs ++ more ++ (if flag = true then (deadM s).map some else [])) := by
  have hall : ∀ r, r ∈ fs ++ more ++ (if flag = true then (deadM s).map some else []) → (∃ d ∈ deadM s, PageR b p n rows d r) ∨ (sumS s < (n : Int) ∧ PageR b p n rows s r) ∨ ∃ d ∈ deadM s, r = some d := by
    intro r hr
    rcases List.mem_append.mp hr with hr | hr
    · rcases List.mem_append.mp hr with hr | hr
      · exact .inl (h1 r hr)
      · rcases h3 with ⟨a, r', pr, e⟩ | ⟨_, e⟩
        · rw [e] at hr
          rw [List.mem_singleton.mp hr]
          exact .inr (.inl ⟨a, pr⟩)
        · rw [e] at hr
          exact nomatch hr
    · split at hr
      · obtain ⟨d, hd, e⟩ := List.mem_map.mp hr
        exact .inr (.inr ⟨d, hd, e.symm⟩)
      · exact nomatch hr
  refine ⟨fun hn => ?_, fun s' hs' => ?_, fun hs c => ?_, fun d hd c => ?_, fun d hd c st => ?_⟩
  · rcases hall _ hn with ⟨d, hd, pr⟩ | ⟨hs, pr⟩ | ⟨d, _, e⟩
    · obtain ⟨g, a, _⟩ := dead_good h hd
      exact page_stk hb g a pr
    · exact page_stk hb h hs pr
    · cases e
  · rcases hall _ hs' with ⟨d, hd, pr⟩ | ⟨hs, pr⟩ | ⟨d, hd, e⟩
    · obtain ⟨g, a, _⟩ := dead_good h hd
      exact page_good hp hb g a pr
    · exact page_good hp hb h hs pr
    · injection e with e
      rw [e]
      exact (dead_good h hd).1
  · rcases h3 with ⟨_, r, pr, e⟩ | ⟨z, _⟩
    · rw [e, ← pr.1 c]
      simp
    · exact absurd hs z
  · obtain ⟨r, hr, pr⟩ := h2 d hd
    rw [← pr.1 c]
    exact List.mem_append_left _ (List.mem_append_left _ hr)
  · obtain ⟨r, hr, pr⟩ := h2 d hd
    rw [← (pr.2 c).2.1 st]
    exact List.mem_append_left _ (List.mem_append_left _ hr)
end
/-! ### a way to the place where a write sticks -/
section
variable {b p n : Nat} {rows : List RowD} {Kn : Spot → Prop}
structure Way (b p n : Nat) (rows : List RowD) (Kn : Spot → Prop) : Prop where
  add : ∀ s, Kn s → sumS s < (n : Int) → ¬ Clean b s → Kn (addM p s)
  die : ∀ s, Kn s → ∀ d ∈ deadM s, ¬ Clean b d → Kn (addM p d)
  stop : ∀ s, Kn s → ∀ d ∈ deadM s, Clean b d → ¬ StuckC (takM p 0 rows).1 (takM p 0 rows).2 p d.1
theorem open_not {S : List Int} {w l : Int} : ¬ Clean b (S, [w, l]) := fun c => by have := c.1; cases this
theorem fill_new (W : Way b p n rows Kn) : ∀ (m : Nat) (S : List Int) (w l : Int), Kn (S, [w, l]) → 1 ≤ m → w + (m : Int) = (p : Int) → S.sum + l + (m : Int) - 1 < (n : Int) → Kn (S ++ [l + (m : Int)], [])
  | 0, _, _, _, _, h, _, _ => by omega
  | 1, S, w, l, hk, _, h1, h2 => by
    have := W.add _ hk (by unfold sumS; simp; omega) open_not
    have e : addM p (S, [w, l]) = (S ++ [l + 1], []) := by
      unfold addM
      rw [if_pos (by show w + 1 = (p : Int); omega)]
      rfl
    rw [e] at this
    exact this
  | m + 2, S, w, l, hk, _, h1, h2 => by
    have := W.add _ hk (by unfold sumS; simp; omega) open_not
    have e : addM p (S, [w, l]) = (S, [w + 1, l + 1]) := by
      unfold addM
      rw [if_neg (by show ¬ w + 1 = (p : Int); omega)]
      rfl
    rw [e] at this
    have z := fill_new W (m + 1) S (w + 1) (l + 1) this (by omega) (by omega) (by omega)
    have e2 : l + 1 + ((m + 1 : Nat) : Int) = l + ((m + 2 : Nat) : Int) := by omega
    rw [e2] at z
    exact z
theorem die_open {S : List Int} {w l : Int} (h : 0 < l) : (S, [w, l - 1]) ∈ deadM (S, [w, l]) := by
  unfold deadM
  rw [if_pos ⟨by simp, h⟩]
  exact List.mem_append_right _ (List.mem_singleton.mpr rfl)
theorem fill_scr (W : Way b p n rows Kn) : ∀ (m : Nat) (S : List Int) (w : Int), Kn (S, [w, 1]) → w + (m : Int) < (p : Int) → Kn (S, [w + (m : Int), 1])
  | 0, S, w, hk, _ => by
    have e : w + ((0 : Nat) : Int) = w := by omega
    rw [e]
    exact hk
  | m + 1, S, w, hk, h => by
    have := W.die _ hk _ (die_open (by decide)) open_not
    have e : addM p (S, [w, 1 - 1]) = (S, [w + 1, 1]) := by
      unfold addM
      rw [if_neg (by show ¬ w + 1 = (p : Int); omega)]
      rfl
    rw [e] at this
    have z := fill_scr W m S (w + 1) this (by omega)
    have e2 : w + 1 + (m : Int) = w + ((m + 1 : Nat) : Int) := by omega
    rw [e2] at z
    exact z
theorem fill_block (hp : 2 ≤ p) (W : Way b p n rows Kn) {S : List Int} {fl : Nat} (hk : Kn (S, [1, 1])) (hf : fl < p) (hs : S.sum + (fl : Int) < (n : Int)) : Kn (S ++ [(fl : Int) + 1], []) := by
  by_cases c : fl = 0
  · subst c
    have z := fill_scr W (p - 2) S 1 hk (by omega)
    have e : (1 : Int) + ((p - 2 : Nat) : Int) = (p : Int) - 1 := by omega
    rw [e] at z
    have y := W.die _ z _ (die_open (by decide)) open_not
    have e2 : addM p (S, [(p : Int) - 1, 1 - 1]) = (S ++ [((0 : Nat) : Int) + 1], []) := by
      unfold addM
      rw [if_pos (by show (p : Int) - 1 + 1 = (p : Int); omega)]
      rfl
    rw [e2] at y
    exact y
  · have z := fill_scr W (p - fl - 1) S 1 hk (by omega)
    have y := fill_new W fl S _ 1 z (by omega) (by omega) (by omega)
    have e : (1 : Int) + (fl : Int) = (fl : Int) + 1 := by omega
    rw [e] at y
    exact y
def wayT (fl : Nat) : Nat → List Int
  | 0 => []
  | j + 1 => List.replicate j (fl : Int) ++ [(fl : Int) + 1]
theorem addNil (hp : 2 ≤ p) (S : List Int) : addM p (S, []) = (S, [1, 1]) := by
  unfold addM
  rw [if_neg (by show ¬ (0 : Int) + 1 = (p : Int); omega)]
  rfl
theorem set_end (S : List Int) (x y : Int) (T : List Int) : (S ++ x :: T).set S.length y = S ++ y :: T := by simp
theorem getD_end (S : List Int) (x : Int) (T : List Int) : (S ++ x :: T).getD S.length 0 = x := by
  rw [List.getD_eq_getElem?_getD]
  simp
theorem die_at {S T : List Int} {x : Int} (h : 0 < x) : (S ++ (x - 1) :: T, ([] : List Int)) ∈ deadM (S ++ x :: T, []) := by
  unfold deadM
  refine List.mem_append_left _ (List.mem_map.mpr ⟨S.length, mem_dies.mpr ⟨by simp, by rw [getD_end]; exact h⟩, ?_⟩)
  unfold dieAt
  dsimp only
  rw [getD_end, set_end]
theorem rep_sum (j fl : Nat) : (List.replicate j (fl : Int)).sum = (j : Int) * (fl : Int) := List.sum_replicate_int ..
theorem way_t (hb : 3 ≤ b) (hp : 2 ≤ p) (W : Way b p n rows Kn) (h0 : Kn ([], [])) {fl : Nat} (hf : fl < p) (hs : ((b : Int) - 2) * (fl : Int) + (p : Int) < (n : Int)) : ∀ j, j ≤ b - 2 → Kn (wayT fl j, [])
  | 0, _ => h0
  | j + 1, hj => by
    have ih := way_t hb hp W h0 hf hs j (by omega)
    have hm : ((j : Int) + 1) * (fl : Int) ≤ ((b : Int) - 2) * (fl : Int) := Int.mul_le_mul_of_nonneg_right (by omega) (by omega)
    have hm2 : ((j : Int) + 1) * (fl : Int) = (j : Int) * (fl : Int) + (fl : Int) := by rw [Int.add_mul]; omega
    have hn : (0 : Int) ≤ ((b : Int) - 2) * (fl : Int) := Int.mul_nonneg (by omega) (by omega)
    have hk : Kn (List.replicate j (fl : Int), [1, 1]) := by
      cases j with
      | zero =>
        have z := W.add _ ih (by unfold sumS wayT; simp; omega) (fun c => by have := c.2; simp [wayT] at this; omega)
        rw [addNil hp] at z
        exact z
      | succ i =>
        have hd : (List.replicate i (fl : Int) ++ ((fl : Int) + 1 - 1) :: [], ([] : List Int)) ∈ deadM (List.replicate i (fl : Int) ++ ((fl : Int) + 1) :: [], []) := die_at (by omega)
        have e : List.replicate i (fl : Int) ++ ((fl : Int) + 1 - 1) :: [] = List.replicate (i + 1) (fl : Int) := by
          rw [List.replicate_succ']
          have : (fl : Int) + 1 - 1 = (fl : Int) := by omega
          rw [this]
        rw [e] at hd
        have z := W.die _ ih _ hd (fun c => by have := c.2; simp at this; omega)
        rw [addNil hp] at z
        exact z
    refine fill_block hp W hk hf ?_
    rw [rep_sum]
    omega
theorem way_end (hb : 3 ≤ b) (hp : 2 ≤ p) (hn : n ≤ p * (b - 1)) (W : Way b p n rows Kn) (h0 : Kn ([], [])) (hfl : 0 ≤ (takM p 0 rows).1) (hfp : (takM p 0 rows).1 ≤ (p : Int)) (hst : (stkM b p n rows).isSome = true) : False := by
  unfold stkM at hst
  split at hst
  · rename_i c
    obtain ⟨c1, c2⟩ := c
    rw [st_sum _ _ _ (by omega)] at c2
    obtain ⟨fl, efl⟩ : ∃ fl : Nat, (takM p 0 rows).1 = (fl : Int) := ⟨(takM p 0 rows).1.toNat, by omega⟩
    have hstop := W.stop
    rw [efl] at c2 hfp hstop
    have hf : fl < p := by
      rcases Nat.lt_or_ge fl p with z | z
      · exact z
      · exfalso
        have e : fl = p := by omega
        subst e
        have e2 : ((fl * (b - 1) : Nat) : Int) = (fl : Int) * ((b : Int) - 1) := by rw [Int.natCast_mul, Int.natCast_sub (by omega)]; rfl
        have e3 : ((b : Int) - 2) * (fl : Int) + (fl : Int) = (fl : Int) * ((b : Int) - 1) := by
          rw [Int.mul_comm (fl : Int), show ((b : Int) - 1) = ((b : Int) - 2) + 1 from by omega, Int.add_mul]
          omega
        omega
    have z := way_t hb hp W h0 hf c2 (b - 2) (Nat.le_refl _)
    have eb : b - 2 = (b - 3) + 1 := by omega
    rw [eb] at z
    have hsum : (wayT fl ((b - 3) + 1)).sum = ((b : Int) - 2) * (fl : Int) + 1 := by
      show (List.replicate (b - 3) (fl : Int) ++ [(fl : Int) + 1]).sum = _
      rw [List.sum_append, rep_sum]
      simp
      rw [show ((b : Int) - 2) = ((b - 3 : Nat) : Int) + 1 from by omega, Int.add_mul]
      omega
    have hlen : (wayT fl ((b - 3) + 1)).length = b - 2 := by
      show (List.replicate (b - 3) (fl : Int) ++ [(fl : Int) + 1]).length = _
      rw [List.length_append, List.length_replicate]
      simp
      omega
    have y := W.add _ z (by unfold sumS; simp; omega) (fun c => by have := c.2; dsimp only at this; omega)
    rw [addNil hp] at y
    have x := fill_new W (p - 1) _ 1 1 y (by omega) (by omega) (by omega)
    have e1 : (1 : Int) + ((p - 1 : Nat) : Int) = (p : Int) := by omega
    rw [e1] at x
    have e2 : wayT fl ((b - 3) + 1) ++ [(p : Int)] = List.replicate (b - 3) (fl : Int) ++ ((fl : Int) + 1) :: [(p : Int)] := by
      show (List.replicate (b - 3) (fl : Int) ++ [(fl : Int) + 1]) ++ [(p : Int)] = _
      rw [List.append_assoc]
      rfl
    rw [e2] at x
    refine hstop _ x _ (die_at (by omega)) ⟨rfl, ?_⟩ ⟨fun y hy => ?_, ?_⟩
    · dsimp only
      rw [List.length_append, List.length_replicate]
      simp
      omega
    · dsimp only at hy
      rcases List.mem_append.mp hy with hy | hy
      · rw [(List.mem_replicate.mp hy).2]
        exact Int.le_refl _
      · simp at hy
        omega
    · simp only [fullW, List.mem_cons, List.not_mem_nil, or_false] at c1
      rcases c1 with c1 | c1
      · refine .inl ⟨c1, ?_⟩
        dsimp only
        rw [List.getD_eq_getElem?_getD]
        have : List.replicate (b - 3) (fl : Int) ++ ((fl : Int) + 1 - 1) :: [(p : Int)] = (List.replicate (b - 3) (fl : Int) ++ [(fl : Int) + 1 - 1]) ++ [(p : Int)] := by simp
        rw [this, List.length_append]
        simp
      · exact .inr ⟨c1, by simp⟩
  · cases hst
end
/-! ### there are few stands -/
theorem nodup_le {α : Type} [DecidableEq α] : ∀ (l U : List α), l.Nodup → (∀ x ∈ l, x ∈ U) → l.length ≤ U.length
  | [], _, _, _ => Nat.zero_le _
  | x :: l, U, hn, h => by
    have hx := h x (List.mem_cons_self ..)
    rw [List.nodup_cons] at hn
    have ih := nodup_le l (U.erase x) hn.2 fun y hy => (List.mem_erase_of_ne (fun (e : y = x) => hn.1 (e ▸ hy))).mpr (h y (List.mem_cons_of_mem _ hy))
    rw [List.length_erase_of_mem hx] at ih
    have : 0 < U.length := List.length_pos_of_mem hx
    rw [List.length_cons]
    omega
def listsN (p : Nat) : Nat → List (List Int)
  | 0 => [[]]
  | m + 1 => (listsN p m).flatMap fun l => (List.range (p + 1)).map fun (x : Nat) => (x : Int) :: l
theorem mem_lists {p : Nat} : ∀ (c : List Int), (∀ x ∈ c, 0 ≤ x ∧ x ≤ (p : Int)) → c ∈ listsN p c.length
  | [], _ => List.mem_singleton.mpr rfl
  | x :: c, h => by
    have hx := h x (List.mem_cons_self ..)
    refine List.mem_flatMap.mpr ⟨c, mem_lists c fun y hy => h y (List.mem_cons_of_mem _ hy), List.mem_map.mpr ⟨x.toNat, List.mem_range.mpr (by omega), ?_⟩⟩
    rw [Int.toNat_of_nonneg hx.1]
def halvesM (p : Nat) : List (List Int) := [] :: (List.range (p + 1)).flatMap fun (w : Nat) => (List.range (p + 1)).map fun (l : Nat) => [(w : Int), (l : Int)]
def allM (b p : Nat) : List Spot := (List.range b).flatMap fun m => (listsN p m).flatMap fun c => (halvesM p).map fun h => (c, h)
theorem mem_all {b p n : Nat} {s : Spot} (hb : 3 ≤ b) (h : Good b p n s) : s ∈ allM b p := by
  have hl := h.len
  refine List.mem_flatMap.mpr ⟨s.1.length, List.mem_range.mpr (by omega), List.mem_flatMap.mpr ⟨s.1, mem_lists _ h.box, List.mem_map.mpr ⟨s.2, ?_, rfl⟩⟩⟩
  rcases h.half with e | ⟨w, l, e, a1, a2, a3, _⟩
  · rw [e]
    exact List.mem_cons_self ..
  · rw [e]
    refine List.mem_cons_of_mem _ (List.mem_flatMap.mpr ⟨w.toNat, List.mem_range.mpr (by omega), List.mem_map.mpr ⟨l.toNat, List.mem_range.mpr (by omega), ?_⟩⟩)
    rw [Int.toNat_of_nonneg a1, Int.toNat_of_nonneg (by omega)]
theorem all_few : ∀ q ∈ [(3, 2), (3, 3), (3, 4), (3, 5), (4, 2), (4, 3), (5, 2)], (allM q.1 q.2).length ≤ 5000 := by decide +kernel
theorem lists_few : ∀ q ∈ [(3, 2), (3, 3), (3, 4), (3, 5), (4, 2), (4, 3), (5, 2)], (listsN q.2 (q.1 - 1)).length ≤ 5000 := by decide +kernel
end K2

set_option Elab.async false
set_option linter.all false
set_option maxRecDepth 100000
set_option maxHeartbeats 4000000
/-! dicts whose keys are pairs of tuples of whole numbers -/
namespace K2
open PySem PySem.Spec PyProof.Rows L2 G1 G2
def numsK (l : List Int) : NestedKey := .tup (l.map NestedKey.num)
def skey (s : Spot) : NestedKey := .tup [numsK s.1, numsK s.2]
theorem nums_inj : ∀ {l m : List Int}, l.map NestedKey.num = m.map NestedKey.num → l = m
  | [], [], _ => rfl
  | [], _ :: _, h => by simp at h
  | _ :: _, [], h => by simp at h
  | a :: l, b :: m, h => by
    rw [List.map_cons, List.map_cons] at h
    injection h with h1 h2
    injection h1 with h1
    rw [h1, nums_inj h2]
theorem skey_inj {s t : Spot} (h : skey s = skey t) : s = t := by
  unfold skey numsK at h
  injection h with h
  injection h with h1 h2
  injection h2 with h2
  injection h1 with h1
  injection h2 with h2
  exact Prod.ext (nums_inj h1) (nums_inj h2)
/-- the pair of two tuples of whole numbers -/
def SpotAt (H : Hp) (b : Addr) (s : Spot) : Prop := ∃ a1 a2, H b = some (.tup [.ref a1, .ref a2]) ∧ H a1 = some (.tup (s.1.map V.int)) ∧ H a2 = some (.tup (s.2.map V.int))
theorem SpotAt.same {H H' : Hp} {b : Addr} {s : Spot} (h : SpotAt H b s) (e : Same H H') : SpotAt H' b s := by
  obtain ⟨a1, a2, h0, h1, h2⟩ := h
  exact ⟨a1, a2, e _ _ h0, e _ _ h1, e _ _ h2⟩
theorem depth_nums : ∀ l : List Int, NestedKey.depthAll (l.map NestedKey.num) = 0
  | [] => rfl
  | a :: l => by
    rw [List.map_cons, NestedKey.depthAll, depth_nums l]
    rfl
theorem nums_is {h : Heap} : ∀ {l : List Int} {us : List Value}, Vals (l.map V.int) us → NestedAll h (l.map NestedKey.num) us
  | [], _, .nil => .nil
  | a :: l, _, .cons r t => by
    obtain ⟨t0, e⟩ := (show ∃ t0, _ = Value.int a t0 from r)
    rw [List.map_cons, e]
    exact .cons (.int a t0) (nums_is t)
section
variable {P : Program} {w : World} {H : Hp} {h : Heap} {a b : Addr} {s : Spot}
theorem nums_at (ok : HOk P w H h) {l : List Int} (e : H a = some (.tup (l.map V.int))) : NestedIs h (numsK l) (.ref a) := by
  obtain ⟨_, its, r, o, h1, h2, n, h3⟩ := (show ObjOk P w H h a (.tup (l.map V.int)) from ok a _ e)
  exact .tup h1 h2 h3 (by simpa using nums_is r)
theorem key_spot (ok : HOk P w H h) (e : SpotAt H b s) : (nestedKind P w).is h (skey s) b := by
  obtain ⟨a1, a2, h0, e1, e2⟩ := e
  refine ⟨?_, ?_⟩
  · obtain ⟨_, its, r, o, h1, h2, n, h3⟩ := (show ObjOk P w H h b (.tup [.ref a1, .ref a2]) from ok b _ h0)
    cases r with
    | cons r1 r =>
      cases r with
      | cons r2 r =>
        cases r
        cases (show _ = Value.ref a1 from r1)
        cases (show _ = Value.ref a2 from r2)
        exact .tup h1 h2 h3 (.cons (nums_at ok e1) (.cons (nums_at ok e2) .nil))
  · unfold skey numsK
    simp only [NestedKey.depth, NestedKey.depthAll, depth_nums]
    decide
end
/-- a pair of a dict, and what stands for it -/
abbrev NP : Spot × Addr × V → NestedKey × Addr × Value → Prop := fun p q => q.1 = skey p.1 ∧ q.2.1 = p.2.1 ∧ RelV p.2.2 q.2.2
def DNx (P : Program) (w : World) (a : Addr) (kvs : List (Spot × Addr × V)) : HO := .ext fun h => (a == sysModules) = false ∧ kvs.length ≤ sizeLine ∧ ∃ xs : List (NestedKey × Addr × Value), Paired NP kvs xs ∧
  ∃ o es ep, h.get? a = some o ∧ o.ExactDict ∧ o.data = .dict es ep ∧ es.toList = xs.map (entryOfKey (nestedKind P w)) ∧ (xs.map (·.1)).Nodup
/-- the keys stand -/
def KeysAt (H : Hp) (kvs : List (Spot × Addr × V)) : Prop := ∀ e ∈ kvs, SpotAt H e.2.1 e.1
theorem KeysAt.same {H H' : Hp} {kvs : List (Spot × Addr × V)} (h : KeysAt H kvs) (e : Same H H') : KeysAt H' kvs := fun x hx => (h x hx).same e
def valN (kvs : List (Spot × Addr × V)) (s : Spot) : Option V := (kvs.find? fun e => decide (e.1 = s)).map (·.2.2)
theorem val_rel {s : Spot} : ∀ {kvs : List (Spot × Addr × V)} {xs : List (NestedKey × Addr × Value)}, Paired NP kvs xs → RelO (valN kvs s) ((atKey xs (skey s)).map (·.2))
  | _, _, .nil => True.intro
  | _, _, .cons (a := p) (b := q) r t => by
    have ih := val_rel (s := s) t
    unfold valN atKey at ih ⊢
    rw [List.find?_cons, List.find?_cons]
    have e : decide (q.1 = skey s) = decide (p.1 = s) := by
      rw [r.1]
      by_cases c : p.1 = s
      · rw [c, decide_eq_true rfl, decide_eq_true rfl]
      · rw [decide_eq_false c, decide_eq_false fun z => c (skey_inj z)]
    rw [e]
    cases decide (p.1 = s) with
    | true => exact r.2.2
    | false => exact ih
section
variable {P : Program} {w : World} {H : Hp} {h : Heap} {a : Addr} {kvs : List (Spot × Addr × V)}
theorem keys_is (ok : HOk P w H h) : ∀ {kvs : List (Spot × Addr × V)} {xs : List (NestedKey × Addr × Value)}, Paired NP kvs xs → KeysAt H kvs → ∀ x ∈ xs, (nestedKind P w).is h x.1 x.2.1
  | _, _, .nil, _ => fun _ hx => nomatch hx
  | _, _, .cons (a := p) (b := q) r t, hk => fun x hx => by
    rcases List.mem_cons.mp hx with rfl | hx
    · rw [r.1, r.2.1]
      exact key_spot ok (hk p (List.mem_cons_self ..))
    · exact keys_is ok t (fun e he => hk e (List.mem_cons_of_mem _ he)) x hx
theorem dn_of (ok : HOk P w H h) (e : H a = some (DNx P w a kvs)) (hk : KeysAt H kvs) : (a == sysModules) = false ∧ kvs.length ≤ sizeLine ∧ ∃ xs, Paired NP kvs xs ∧ h.DictOfH (nestedKind P w) a xs := by
  obtain ⟨⟨h1, h2, xs, r, o, es, ep, z1, z2, z3, z4, z5⟩, _, _⟩ := (show ObjOk P w H h a (DNx P w a kvs) from ok a _ e)
  exact ⟨h1, h2, xs, r, o, es, ep, z1, z2, z3, z4, keys_is ok r hk, z5⟩
theorem dn_new {H' : Hp} {h' : Heap} {xs : List (NestedKey × Addr × Value)} (z : kvs.length ≤ sizeLine) (hd : (a == sysModules) = false) (r : Paired NP kvs xs) (dd : h'.DictOfH (nestedKind P w) a xs) : ObjOk P w H' h' a (DNx P w a kvs) := by
  obtain ⟨o, es, ep, z1, z2, z3, z4, _, z5⟩ := dd
  refine ⟨⟨hd, z, xs, r, o, es, ep, z1, z2, z3, z4, z5⟩, ⟨o, z1⟩, ?_⟩
  rintro h1 h2 ⟨a1, a2, ys, ry, oy, esy, epy, y1, y2, y3, y4, y5⟩ hs
  exact ⟨a1, a2, ys, ry, oy, esy, epy, hs _ y1, y2, y3, y4, y5⟩
end
/-! ### the rules -/
section
variable {X : Cx}
def rNotInN (P : Program) (w : World) : R2 := fun x y H Q => ∃ (b d : Addr) (s : Spot) (kvs : List (Spot × Addr × V)), x = .ref b ∧ y = .ref d ∧ SpotAt H b s ∧ H d = some (DNx P w d kvs) ∧ KeysAt H kvs ∧ Q (.bl (!(valN kvs s).isSome)) H
theorem op_notInN (hu : X.A.units + 64 < cLine) : OpR X (compareOp .NotIn) (rNotInN X.prog X.w) := by
  intro pins s σ H x y v u Q I rx ry h
  obtain ⟨b, d, sp, kvs, rfl, rfl, hb, hd, hk, q⟩ := h
  cases rx
  cases ry
  obtain ⟨z1, z2, xs, r, dd⟩ := dn_of I.hok hd hk
  refine wpAny_notIn_heap (knd := nestedKind X.prog X.w) (by show X.A.in1.units + 8 < cLine; show X.A.units + 1 + 8 < cLine; omega) (key_spot I.hok hb) z1 dd ?_
  have e := (val_rel (s := sp) r).isSome_eq
  rw [Option.isSome_map] at e
  rw [← e]
  exact ⟨.bl (!(valN kvs sp).isSome), H, I.tok _, rfl, q⟩
def tGetN (P : Program) (w : World) (td ty : TE) : TE := fun σ H Q => td σ H fun x H1 => ty σ H1 fun y H2 => ∃ (b d : Addr) (s : Spot) (kvs : List (Spot × Addr × V)) (v : V), x = .ref d ∧ y = .ref b ∧ SpotAt H2 b s ∧ H2 d = some (DNx P w d kvs) ∧ KeysAt H2 kvs ∧ valN kvs s = some v ∧ Q v H2
theorem pe_getN {o i : Expr} {pos : Pos} {td ty : TE} (hu : X.A.units + 64 < cLine) (ho : PE X o td) (hi : PE X i ty) (hs : NoSl i) : PE X (.Subscript o i pos) (tGetN X.prog X.w td ty) := by
  refine ⟨fun pins s σ H Q I h => ?_⟩
  refine subD_of PySem.F.slot_dict_getitem.lookup hs (thn (ho.run pins s σ H _ I h) fun u s1 ⟨x, H1, I1, rx, q1⟩ => thn (hi.run pins s1 σ H1 _ I1 q1) fun iv s2 ⟨y, H2, I2, ry, b, d, sp, kvs, v, ex, ey, hb, hd, hk, hv, q2⟩ => ?_)
  subst ex ey
  cases rx
  cases ry
  obtain ⟨z1, z2, xs, r, dd⟩ := dn_of I2.hok hd hk
  obtain ⟨w', hw, rw'⟩ := RelO.some_of (v := v) (o := (atKey xs (skey sp)).map (·.2)) (by rw [← hv]; exact val_rel r)
  obtain ⟨p, hp, hp2⟩ := Option.map_eq_some_iff.mp hw
  refine ⟨dd.typeIs, wpAny_getItem_heap (knd := nestedKind X.prog X.w) (by show X.A.units + 1 + 8 < cLine; omega) (key_spot I2.hok hb) dd hp ?_⟩
  rw [hp2]
  exact ⟨v, H2, I2.tok _, rw', q2⟩
theorem paired_snocN {kvs : List (Spot × Addr × V)} {xs : List (NestedKey × Addr × Value)} {p : Spot × Addr × V} {q : NestedKey × Addr × Value} (r : Paired NP kvs xs) (h : NP p q) : Paired NP (kvs ++ [p]) (xs ++ [q]) := paired_snoc r h
/-- d[k] = v, k not there -/
def rSetN (P : Program) (w : World) : TSet := fun x y v H Q => ∃ (b d : Addr) (s : Spot) (kvs : List (Spot × Addr × V)), x = .ref d ∧ y = .ref b ∧ SpotAt H b s ∧ H d = some (DNx P w d kvs) ∧ KeysAt H kvs ∧ kvs.length < sizeLine ∧ valN kvs s = none ∧ Q (upd H d (DNx P w d (kvs ++ [(s, b, v)])))
theorem set_N (hu : X.A.units + 64 < cLine) : PSet X (rSetN X.prog X.w) := by
  intro pins s σ H o i v ov iv u Q I ro ri rv h
  obtain ⟨b, d, sp, kvs, rfl, rfl, hb, hd, hk, hl, hv, q⟩ := h
  cases ro
  cases ri
  obtain ⟨z1, z2, xs, r, dd⟩ := dn_of I.hok hd hk
  have hz : xs.length ≤ sizeLine := by rw [← Paired.length r]; exact z2
  refine wpAny_setItem_heap (knd := nestedKind X.prog X.w) (hsz := hz) (by show X.A.units + 1 + 8 < cLine; omega) (key_spot I.hok hb) dd fun h' dd' hs => ⟨_, ?_, q⟩
  have hn : atKey xs (skey sp) = none := by
    have e := (val_rel (s := sp) r).isSome_eq
    rw [hv, Option.isSome_map] at e
    cases ha : atKey xs (skey sp) with
    | none => rfl
    | some z => rw [ha] at e; cases e
  rw [storedH_new hn] at dd'
  have he : ∃ q, h'.get? d = some q := let ⟨q, _, _, hq, _⟩ := dd'; ⟨q, hq⟩
  exact d_write I (by rw [hd]; exact True.intro) hs he (dn_new (by rw [List.length_append]; exact hl) z1 (paired_snocN r ⟨rfl, rfl, rv⟩) dd')
/-- {k: v} -/
def tDispN (P : Program) (w : World) (tk tv : TE) : TE := fun σ H Q => ∀ p, H p = none → tk σ (upd H p (DNx P w p [])) fun x H1 => tv σ H1 fun v H2 => ∃ (b : Addr) (s : Spot), x = .ref b ∧ SpotAt H2 b s ∧ H2 p = some (DNx P w p []) ∧ Q (.ref p) (upd H2 p (DNx P w p [(s, b, v)]))
theorem pe_dispN {k v : Expr} {pos : Pos} {tk tv : TE} (hu : X.A.units + 64 < cLine) (hk : PE X k tk) (hv : PE X v tv) : PE X (.Dict [some k] [v] pos) (tDispN X.prog X.w tk tv) := by
  refine ⟨fun pins s σ H Q I h => ?_⟩
  have hn := I.hok.fresh (Nat.le_refl s.heap.objs.size)
  have hne : (s.heap.objs.size == sysModules) = false := beq_eq_false_iff_ne.mpr (Ne.symm (Nat.ne_of_lt I.big))
  have I1 := I.laid (a := s.heap.objs.size) (o := DNx X.prog X.w s.heap.objs.size []) (h' := s.heap.push { cls := .type "dict", data := .dict #[] }) (t' := s.toks) (fun _ _ q => Heap.get?_push_of_some _ q) (Nat.le_refl _)
    (dn_new (Nat.zero_le _) hne .nil (Heap.DictOfH.new s.heap))
  rw [arm_eval_Dict, zip_pairTrees [some k] [v] X.env pos rfl rfl, dictDisplay_pairs (pairTrees [some k] [v] X.env pos) (by intro z; cases z) (show 1 < 17 by decide)]
  refine wpAny_bind (wpAny_standAt (wpAny_bind (wpAny_subDictH (knd := nestedKind X.prog X.w) (by show X.A.units + 8 < cLine; omega) (show 1 ≤ 15 by decide) ?_)))
  refine pairTrees_cons_walk (thn (hk.run pins _ σ _ _ I1 (h _ hn)) fun u s1 ⟨x, H1, I1', rx, q1⟩ => thn (hv.run pins s1 σ H1 _ I1' q1) fun w2 s2 ⟨y, H2, I2, ry, b, sp, ex, hb, hd, q2⟩ => pairTrees_nil_walk ?_)
  subst ex
  cases rx
  obtain ⟨z1, z2, xs, r, dd⟩ := dn_of I2.hok hd (fun _ z => nomatch z)
  cases r
  refine ⟨[(skey sp, b, w2)], ⟨rfl, rfl, key_spot I2.hok hb, True.intro⟩, dd, fun h' tk' dd' hs => wpAny_pure ⟨.ref s.heap.objs.size, _, ?_, rfl, q2⟩⟩
  have he : ∃ q, h'.get? s.heap.objs.size = some q := let ⟨q, _, _, hq, _⟩ := dd'; ⟨q, hq⟩
  exact d_write I2 (by rw [hd]; exact True.intro) hs he (dn_new (by show 1 ≤ sizeLine; decide) z1 (.cons ⟨rfl, rfl, ry⟩ .nil) dd')
end
end K2

set_option Elab.async false
set_option linter.all false
set_option maxRecDepth 100000
set_option maxHeartbeats 4000000
namespace K2
open PySem PySem.Spec PyProof.Rows L2 G1 G2
abbrev sRul : Stmt := topS 57
abbrev NRul : List Str := ["_law_table_here", "_law_lives", "_law_bound", "_law_tone", "_law_some", "_law_k", "_law_edge"]
theorem scRul : FnScope NRul ["_law_table_here", "_law_lives"] (defScope sRul) := ⟨rfl, rfl, rfl, by decide +kernel, rfl, by decide +kernel, by decide +kernel⟩
/-! ### lists of whole numbers as data -/
abbrev iV (k : Nat) : V := .int (k : Int)
theorem intsZ_lay : ∀ l : List Int, PyData.canLayAll0 (l.map PyData.int) = true ∧ PyData.depthAll (l.map PyData.int) ≤ 1
  | [] => ⟨rfl, by decide⟩
  | k :: l => by
    obtain ⟨a, b⟩ := intsZ_lay l
    rw [List.map_cons]
    simp only [PyData.canLayAll0, PyData.canLay0, PyData.depthAll, PyData.depth]
    exact ⟨by simp [a], by omega⟩
theorem intsZ_shaped (l : List Int) : SeqAt.shaped (.list (l.map PyData.int)) = true := by
  obtain ⟨a, b⟩ := intsZ_lay l
  unfold SeqAt.shaped
  simp only [PyData.canLay0, PyData.depth]
  rw [a]
  simp
  omega
theorem intsZ_dp {K : PySem.W.Frag} {H : Hp} : ∀ l : List Int, DpAll K H (l.map V.int) (l.map PyData.int)
  | [] => .nil
  | k :: l => .cons (.int _) (intsZ_dp l)
def someT (bd : Int) (ls : List Int) (i : Nat) : List Nat := (List.range i).filter fun k => decide (ls.getD k 0 ≤ bd)
theorem someT_succ (bd : Int) (ls : List Int) (i : Nat) : someT bd ls (i + 1) = someT bd ls i ++ (if ls.getD i 0 ≤ bd then [i] else []) := by
  unfold someT
  rw [List.range_succ, List.filter_append]
  congr 1
  by_cases c : ls.getD i 0 ≤ bd
  · rw [if_pos c, List.filter_cons_of_pos (by simpa using c)]; rfl
  · rw [if_neg c, List.filter_cons_of_neg (by simpa using c)]; rfl
theorem someT_len (bd : Int) (ls : List Int) (i : Nat) : (someT bd ls i).length ≤ i := Nat.le_trans (List.length_filter_le _ _) (by rw [List.length_range]; exact Nat.le_refl _)
theorem at_int {ls : List Int} {k : Nat} (h : k < ls.length) : atI (ls.map V.int) (k : Int) = some (.int (ls.getD k 0)) := by
  refine atI_nat ?_
  rw [List.getElem?_map, List.getElem?_eq_getElem h, List.getD_eq_getElem?_getD, List.getElem?_eq_getElem h]
  rfl
/-- in the order of the places -/
theorem some_sorted (bd : Int) (ls : List Int) : ∀ i, (someT bd ls i).Pairwise (· < ·) ∧ ∀ j ∈ someT bd ls i, j < i
  | 0 => ⟨List.Pairwise.nil, fun _ h => nomatch h⟩
  | i + 1 => by
    obtain ⟨h1, h2⟩ := some_sorted bd ls i
    rw [someT_succ]
    by_cases c : ls.getD i 0 ≤ bd
    · rw [if_pos c]
      refine ⟨List.pairwise_append.mpr ⟨h1, List.pairwise_singleton .., fun a ha b hb => ?_⟩, fun j hj => ?_⟩
      · rw [List.mem_singleton.mp hb]
        exact h2 a ha
      · rcases List.mem_append.mp hj with hj | hj
        · exact Nat.lt_succ_of_lt (h2 j hj)
        · rw [List.mem_singleton.mp hj]
          exact Nat.lt_succ_self _
    · rw [if_neg c, List.append_nil]
      exact ⟨h1, fun j hj => Nat.lt_succ_of_lt (h2 j hj)⟩
theorem some_head {a : Nat} {l : List Nat} (h : (a :: l).Pairwise (· < ·)) : ∀ j ∈ a :: l, a ≤ j := by
  intro j hj
  rcases List.mem_cons.mp hj with rfl | hj
  · exact Nat.le_refl _
  · exact Nat.le_of_lt (List.rel_of_pairwise_cons h hj)
theorem some_last : ∀ {l : List Nat} (h : l.Pairwise (· < ·)) (ne : l ≠ []), ∀ j ∈ l, j ≤ l.getLast ne
  | [], _, ne, _, _ => absurd rfl ne
  | [a], _, _, j, hj => by rw [List.mem_singleton.mp hj]; exact Nat.le_refl _
  | a :: b :: l, h, _, j, hj => by
    have h2 := List.Pairwise.of_cons h
    rw [List.getLast_cons (List.cons_ne_nil b l)]
    rcases List.mem_cons.mp hj with rfl | hj
    · exact Nat.le_trans (Nat.le_of_lt (List.rel_of_pairwise_cons h (List.mem_cons_self ..))) (some_last h2 (List.cons_ne_nil b l) b (List.mem_cons_self ..))
    · exact some_last h2 (List.cons_ne_nil b l) j hj
def spRul (K : PySem.W.Frag) : Sp := fun vs H Q _ => ∃ (t l : Addr) (rows : List RowD) (ls : List Int), vs = [.ref t, .ref l] ∧ RowsAt K H t rows ∧ H l = some (.lst (ls.map V.int)) ∧ ls.length ≤ 10 ∧ (∀ r ∈ rows, r.2 ∈ wordsL) ∧ ∀ (H' : Hp) (k : Nat), Same H H' → RuleR rows ls k → Q (.int (k : Int)) H'
abbrev tLives (K : PySem.W.Frag) : TE := tOp (rIxL K) (tVar 1) (tVar 5)
/-- [lives[k] for k in some] -/
theorem lives_read {K : PySem.W.Frag} {H : Hp} {σ : L2.St} {Q : VK} {l sm : Addr} {ls : List Int} {ss : List Nat} {y0 y2 y3 y5 y6 : Option V} (hσ : σ = [y0, some (.ref l), y2, y3, some (.ref sm), y5, y6]) (hl : H l = some (.lst (ls.map V.int))) (hs : H sm = some (.lst (ss.map iV))) (hss : ∀ j ∈ ss, j < ls.length) (hn : ss.length ≤ 100)
    (k : ∀ (H' : Hp) (q : Addr), Same H H' → H' q = some (.lst ((ss.map fun j => ls.getD j 0).map V.int)) → Q (.ref q) H') : tLc (iList K (tVar 4)) (gName 5) tYes (tLives K) [5] σ H Q := by
  subst hσ
  refine ⟨_, rfl, sm, rfl, ⟨_, SqL.of hs⟩, fun D hD => ?_⟩
  refine lc_list (K := K) (xs := ss.map iV) (fun i H' => Same H H' ∧ H' D = some (.lst (((ss.take i).map fun j => ls.getD j 0).map V.int))) ⟨same_lay hD, upd_same⟩ (fun i H' _ z => SqL.of (z.1 _ _ hs)) ?_ ?_
  · rintro i v H' hi ⟨s1, hy⟩
    rw [List.getElem?_map] at hi
    obtain ⟨j, hj, rfl⟩ : ∃ j, ss[i]? = some j ∧ iV j = v := by
      cases hq : ss[i]? with
      | none => rw [hq] at hi; cases hi
      | some j => rw [hq] at hi; exact ⟨j, rfl, Option.some.inj hi⟩
    have hjl := hss j (List.mem_of_getElem? hj)
    have hil : i < ss.length := (List.getElem?_eq_some_iff.mp hj).1
    refine ⟨rfl, ?_⟩
    unfold tYes
    dsimp only
    rw [if_pos rfl]
    refine ⟨_, rfl, _, rfl, l, _, _, _, rfl, rfl, SqL.of (s1 _ _ hl), at_int hjl, _, hy, ?_, fun b u e => ?_, ?_⟩
    · rw [List.length_map, List.length_map, List.length_take, sizeLine_eq]; omega
    · rw [upd_ne (ne_of_none e hD)]; exact s1 _ _ e
    · rw [upd_same, List.take_add_one, hj, List.map_append, List.map_append]
      rfl
  · rintro H' ⟨s1, hy⟩
    rw [List.length_map, List.take_length] at hy
    exact k H' D s1 hy
end K2

set_option Elab.async false
set_option linter.all false
set_option maxRecDepth 100000
set_option maxHeartbeats 4000000
namespace K2
open PySem PySem.Spec PyProof.Rows L2 G1 G2
theorem eqv_nil (l : List Int) : PyData.eqv (.list (l.map PyData.int)) (.list []) = decide (l = []) := by
  cases l with
  | nil => simp [PyData.eqv, PyData.eqvAll]
  | cons a l => simp [PyData.eqv, PyData.eqvAll]
theorem map_iV (ss : List Nat) : ss.map iV = (ss.map fun (k : Nat) => (k : Int)).map V.int := by
  rw [List.map_map]
  rfl
section
variable {P : Program} {w : World} {K : PySem.W.Frag} {mg : Str → Option Value} {base : Heap}
/-- some != [] -/
theorem ne_nil_read {H : Hp} {sm : Addr} {ss : List Nat} {Q : VK} (hs : H sm = some (.lst (ss.map iV))) (k : ∀ H' : Hp, Same H H' → Q (.bl (!decide (ss = []))) H') {σ : L2.St} {ta : TE} (ht : ∀ R : VK, R (.ref sm) H → ta σ H R) : tOp (rNeD K) ta (tLst tNil) σ H Q := by
  refine op_read (ht _ (lst_read (nil_read ⟨by show 0 ≤ sizeLine; decide, fun e ne => ?_⟩)))
  have s1 : Same H (upd H e (.lst [])) := same_lay ne
  have q := s1 _ _ hs
  rw [map_iV] at q
  refine ⟨_, _, .lst (SqL.of q) (intsZ_dp _), .lst (SqL.of upd_same) .nil, intsZ_shaped _, by decide +kernel, ?_⟩
  rw [eqv_nil]
  have e2 : decide ((ss.map fun (k : Nat) => (k : Int)) = []) = decide (ss = []) := by
    cases ss with
    | nil => rfl
    | cons a l => simp
  rw [e2]
  exact k _ s1
/-- [k for k in some if lives[k] == edge][0] -/
def edgeL (ls : List Int) (ss : List Nat) (e : Int) : List Nat := ss.filter fun k => decide (ls.getD k 0 = e)
theorem and_read {ta tb : TT} {σ : L2.St} {H : Hp} {Q : Bool → Hp → Prop} (h : ta σ H fun c H1 => if c = true then tb σ H1 Q else Q false H1) : tAnd ta tb σ H Q := h
theorem test_read {te : TE} {σ : L2.St} {H : Hp} {Q : Bool → Hp → Prop} (h : te σ H fun x H1 => ∃ k, x = .bl k ∧ Q k H1) : tTest te σ H Q := h
theorem one_if {tt : TT} {t : TS} {D : Ends} {σ : L2.St} {H : Hp} (h : tt σ H fun c H1 => if c = true then t D σ H1 else D.nx σ H1) : tIfS tt t tNext D σ H := h
theorem ifx_read {tt : TT} {ta tb : TE} {σ : L2.St} {H : Hp} {Q : VK} (h : tt σ H fun c H1 => if c = true then ta σ H1 Q else tb σ H1 Q) : tIf tt ta tb σ H Q := h
theorem in_two (x : Str) (h : x ∈ wordsL) : flatV (.str x) = true ∧ inV (.str x) [V.str (Str.ofString "oldest"), V.str (Str.ofString "youngest")] = decide (x ∈ [Str.ofString "oldest", Str.ofString "youngest"]) := by
  have z : ∀ x ∈ wordsL, flatV (.str x) = true ∧ inV (.str x) [V.str (Str.ofString "oldest"), V.str (Str.ofString "youngest")] = decide (x ∈ [Str.ofString "oldest", Str.ofString "youngest"]) := by decide +kernel
  exact z x h
theorem flat2 : [V.str (Str.ofString "oldest"), V.str (Str.ofString "youngest")].all flatV = true := by decide +kernel
theorem edge_read {H : Hp} {σ : L2.St} {Q : VK} {l sm : Addr} {ls : List Int} {ss : List Nat} {e : Int} {y0 y2 y3 y5 : Option V} (hσ : σ = [y0, some (.ref l), y2, y3, some (.ref sm), y5, some (.int e)]) (hl : H l = some (.lst (ls.map V.int))) (hs : H sm = some (.lst (ss.map iV))) (hss : ∀ j ∈ ss, j < ls.length) (hn : ss.length ≤ 100)
    (k : ∀ (H' : Hp) (q : Addr), Same H H' → H' q = some (.lst ((edgeL ls ss e).map iV)) → Q (.ref q) H') : tLc (iList K (tVar 4)) (gName 5) (tTest (tOp rEq (tLives K) (tVar 6))) (tVar 5) [5] σ H Q := by
  subst hσ
  refine ⟨_, rfl, sm, rfl, ⟨_, SqL.of hs⟩, fun D hD => ?_⟩
  refine lc_list (K := K) (xs := ss.map iV) (fun i H' => Same H H' ∧ H' D = some (.lst ((edgeL ls (ss.take i) e).map iV))) ⟨same_lay hD, upd_same⟩ (fun i H' _ z => SqL.of (z.1 _ _ hs)) ?_ ?_
  · rintro i v H' hi ⟨s1, hy⟩
    rw [List.getElem?_map] at hi
    obtain ⟨j, hj, rfl⟩ : ∃ j, ss[i]? = some j ∧ iV j = v := by
      cases hq : ss[i]? with
      | none => rw [hq] at hi; cases hi
      | some j => rw [hq] at hi; exact ⟨j, rfl, Option.some.inj hi⟩
    have hjl := hss j (List.mem_of_getElem? hj)
    have hil : i < ss.length := (List.getElem?_eq_some_iff.mp hj).1
    have hst : edgeL ls (ss.take (i + 1)) e = edgeL ls (ss.take i) e ++ (if ls.getD j 0 = e then [j] else []) := by
      unfold edgeL
      rw [List.take_add_one, hj, List.filter_append]
      congr 1
      by_cases c : ls.getD j 0 = e
      · rw [if_pos c]
        show List.filter _ [j] = [j]
        rw [List.filter_cons_of_pos (by simpa using c)]; rfl
      · rw [if_neg c]
        show List.filter _ [j] = []
        rw [List.filter_cons_of_neg (by simpa using c)]; rfl
    refine ⟨rfl, _, rfl, _, rfl, l, _, _, _, rfl, rfl, SqL.of (s1 _ _ hl), at_int hjl, _, rfl, rfl, _, rfl, ?_⟩
    by_cases c : ls.getD j 0 = e
    · rw [decide_eq_true (by rw [c])]
      refine iteT ⟨_, rfl, _, hy, ?_, fun b u z => ?_, ?_⟩
      · have : (edgeL ls (ss.take i) e).length ≤ (ss.take i).length := List.length_filter_le _ _
        rw [List.length_take] at this
        rw [List.length_map, sizeLine_eq]; omega
      · rw [upd_ne (ne_of_none z hD)]; exact s1 _ _ z
      · rw [upd_same, hst, if_pos c, List.map_append]
        rfl
    · rw [decide_eq_false (fun z => c (by injection z))]
      refine iteF ⟨s1, ?_⟩
      rw [hst, if_neg c, List.append_nil]
      exact hy
  · rintro H' ⟨s1, hy⟩
    rw [List.length_map, List.take_length] at hy
    exact k H' D s1 hy
theorem edge_head {ls : List Int} {ss : List Nat} {e : Int} (h : ∃ j ∈ ss, ls.getD j 0 = e) : ∃ a r, edgeL ls ss e = a :: r ∧ a ∈ ss ∧ ls.getD a 0 = e := by
  obtain ⟨j, hj, ej⟩ := h
  have hm : j ∈ edgeL ls ss e := List.mem_filter.mpr ⟨hj, by simpa using ej⟩
  cases hq : edgeL ls ss e with
  | nil => rw [hq] at hm; exact nomatch hm
  | cons a r =>
    have ha : a ∈ edgeL ls ss e := by rw [hq]; exact List.mem_cons_self ..
    obtain ⟨h1, h2⟩ := List.mem_filter.mp ha
    exact ⟨a, r, rfl, h1, by simpa using h2⟩
theorem ok_rul {f : Addr} {fd : FuncData} (F : Fun K "_law_rule" "_law_rule" sRul f fd) (B : Bl mg) : FnOk P w K mg base CX0 1 f fd ["_law_table_here", "_law_lives"] (spRul K) := by
  refine F.ok scRul (fun vs H Q E h => ?_) (fun cdv A outer s H vs Q E hr h => ?_)
  · obtain ⟨t, l, rows, ls, rfl, _⟩ := h
    rfl
  obtain ⟨t, l, rows, ls, rfl, hR, hl, hlen, hw, k⟩ := h
  have own : True := True.intro
  refine ⟨_, pss_cons (ps_for PassesOwn.never rfl (pi_tup (pv 0)) (pg_tup rfl (pgs_cons (pg_name (i := 2) scRul.nd rfl (.inr rfl)) (pgs_cons (pg_name (i := 3) scRul.nd rfl (.inl rfl)) pgs_nil)))
      (pss_cons (ps_setLc (i := 4) (own := [("_law_k", 5)]) (g := gName 5) (tt := tTest (tOp (rI0 fun i j => .bl (decide (i ≤ j))) (tLives K) (tVar 2))) (te := tVar 5) rfl scRul.nd rfl rfl (by rfl) (pi_range1 (by rfl) B.range (pa_cons (pe_callB call_len_seq (by rfl) B.len PySem.boot_len (pa_cons (pv 1) pa_nil)) pa_nil)) (blkOk_by (own := [("_law_k", 5)]) (N := NRul) (sc := defScope sRul) (by decide +kernel))
        (fun _ _ _ _ _ => pg_name (i := 5) scRul.nd rfl (Or.inl rfl)) (fun _ _ _ _ _ => pts_one (pt_cmpR op_le (pe_ix ix_list (pv 1) (pv 5) (fun _ _ => rfl)) (pv 2) (nomark _))) (fun _ _ _ _ _ => pv 5))
      (pss_cons (ps_if (PW.pt (pw_and (pt_cmpR (op_neD hr.units) (pv 4) (pe_lst pa_nil) (nomark _)) (pw_and1 (pt_cmpR op_in_seq (pv 3) (pe_lst (pa_cons pe_str (pa_cons pe_str pa_nil))) (by rfl)))))
        (pss_one (ps_ret (pe_ifExp (pt_cmpR op_eq (pv 3) pe_str (nomark _)) (pe_ix ix_list (pv 4) pe_int (fun _ _ => rfl)) (pe_ix ix_list (pv 4) (pe_un un_neg pe_int) (fun _ _ => rfl))))) pss_nil)
      (pss_one (ps_if (pt_cmpR (op_neD hr.units) (pv 4) (pe_lst pa_nil) (nomark _))
        (pss_cons (ps_set (i := 6) scRul.nd rfl (.inr rfl) (pe_ifExp (pt_cmpR op_eq (pv 3) pe_str (nomark _))
            (pe_callB (cr_min rfl) (by rfl) B.min bMin (pa_cons (pe_lc (own := [("_law_k", 5)]) (g := gName 5) (tt := tYes) (te := tLives K) rfl scRul.nd (pi_list (pv 4)) (blkOk_by (own := [("_law_k", 5)]) (N := NRul) (sc := defScope sRul) (by decide +kernel)) (fun _ _ _ _ _ => pg_name (i := 5) scRul.nd rfl (Or.inl rfl)) (fun _ _ _ _ _ => pts_nil) (fun _ _ _ _ _ => pe_ix ix_list (pv 1) (pv 5) (fun _ _ => rfl))) pa_nil))
            (pe_callB (cr_max rfl) (by rfl) B.max bMax (pa_cons (pe_lc (own := [("_law_k", 5)]) (g := gName 5) (tt := tYes) (te := tLives K) rfl scRul.nd (pi_list (pv 4)) (blkOk_by (own := [("_law_k", 5)]) (N := NRul) (sc := defScope sRul) (by decide +kernel)) (fun _ _ _ _ _ => pg_name (i := 5) scRul.nd rfl (Or.inl rfl)) (fun _ _ _ _ _ => pts_nil) (fun _ _ _ _ _ => pe_ix ix_list (pv 1) (pv 5) (fun _ _ => rfl))) pa_nil))))
        (pss_one (ps_ret (pe_ix ix_list (pe_lc (own := [("_law_k", 5)]) (g := gName 5) (tt := tTest (tOp rEq (tLives K) (tVar 6))) (te := tVar 5) rfl scRul.nd (pi_list (pv 4)) (blkOk_by (own := [("_law_k", 5)]) (N := NRul) (sc := defScope sRul) (by decide +kernel)) (fun _ _ _ _ _ => pg_name (i := 5) scRul.nd rfl (Or.inl rfl))
          (fun _ _ _ _ _ => pts_one (pt_cmpR op_eq (pe_ix ix_list (pv 1) (pv 5) (fun _ _ => rfl)) (pv 6) (nomark _))) (fun _ _ _ _ _ => pv 5)) pe_int (fun _ _ => rfl))))) pss_nil)))))
    (pss_one (ps_ret pe_int)), ?_⟩
  obtain ⟨rs, hT, hP⟩ := hR
  refine seq_for fun D' hD1 hD2 => ?_
  refine ⟨_, rfl, t, rfl, ⟨_, hT⟩, ?_⟩
  refine for_tup (K := K) (xs := rs.map V.ref) (fun i σ H' => ∃ (x2 x3 x4 x5 : Option V), σ = [some (.ref t), some (.ref l), x2, x3, x4, x5, none] ∧ Same H H' ∧ ∀ kk, RuleR (rows.drop i) ls kk → RuleR rows ls kk)
    ⟨none, none, none, none, rfl, Same.refl H, fun _ z => z⟩ (fun i σ H' _ q => ?_) ?_ ?_
  · obtain ⟨_, _, _, _, _, s1, _⟩ := q
    exact K2.Same.tup s1 hT
  · rintro i v σ H' hi ⟨x2, x3, x4, x5, rfl, s1, e1⟩
    rw [List.getElem?_map] at hi
    obtain ⟨a, ha, rfl⟩ : ∃ a, rs[i]? = some a ∧ V.ref a = v := by
      cases hq : rs[i]? with
      | none => rw [hq] at hi; cases hi
      | some a => rw [hq] at hi; exact ⟨a, rfl, Option.some.inj hi⟩
    obtain ⟨⟨bd, wd⟩, hr1, hr2'⟩ := paired_get hP ha
    have hwd := hw _ (List.mem_of_getElem? hr1)
    dsimp only at hwd
    have hdrop : rows.drop i = (bd, wd) :: rows.drop (i + 1) := by
      obtain ⟨hlt, e⟩ := List.getElem?_eq_some_iff.mp hr1
      rw [List.drop_eq_getElem_cons hlt, e]
    rw [hdrop] at e1
    have e2 : ∀ kk, (if someM bd ls = [] then RuleR (rows.drop (i + 1)) ls kk else TakeS wd (someM bd ls) ls kk) → RuleR rows ls kk := e1
    refine ⟨a, _, rfl, K2.Same.tup s1 hr2', rfl, _, _, rfl, _, _, rfl, rfl, ?_⟩
    have hl1 := s1 _ _ hl
    dsimp only
    refine seq_asg ?_
    refine ⟨_, rfl, l, _, rfl, .inl (SqL.of hl1), _, rfl, by rw [List.length_map]; omega, by rw [List.length_map]; omega, fun D hD => ?_⟩
    have e0 : (((ls.map V.int).length : Int)).toNat = ls.length := by rw [List.length_map]; omega
    rw [e0]
    refine lc_range (lo := 0) (n := ls.length) (fun i H2 => Same H' H2 ∧ H2 D = some (.lst ((someT bd ls i).map iV))) ⟨same_lay hD, by rw [upd_same]; rfl⟩ ?_ ?_
    · rintro j H2 hj ⟨s2, q⟩
      have ej : (0 : Int) + (j : Int) = (j : Int) := Int.zero_add _
      refine ⟨rfl, _, rfl, _, rfl, l, _, _, _, rfl, rfl, SqL.of (s2 _ _ hl1), by rw [ej]; exact at_int hj, _, rfl, _, _, rfl, rfl, _, rfl, ?_⟩
      by_cases c : ls.getD j 0 ≤ bd
      · rw [decide_eq_true c]
        refine iteT ⟨_, rfl, _, q, ?_, fun b u e => ?_, ?_⟩
        · have := someT_len bd ls j
          rw [List.length_map, sizeLine_eq]
          omega
        · rw [upd_ne (ne_of_none e hD)]; exact s2 _ _ e
        · rw [upd_same, someT_succ, if_pos c, List.map_append]
          show _ = some (HO.lst (_ ++ [V.int (j : Int)]))
          rw [ej]
      · rw [decide_eq_false c]
        refine iteF ⟨s2, ?_⟩
        rw [someT_succ, if_neg c, List.append_nil]
        exact q
    · rintro H2 ⟨s2, q⟩
      obtain ⟨so1, so2⟩ := some_sorted bd ls ls.length
      have hlm := someT_len bd ls ls.length
      have em : someM bd ls = someT bd ls ls.length := rfl
      rw [em] at e2
      generalize someT bd ls ls.length = ss at q so1 so2 hlm e2 ⊢
      have hl2 := s2 _ _ hl1
      have s12 := s1.trans s2
      refine seq_if0 (and_read (test_read (ne_nil_read (sm := D) (ss := ss) q (fun H3 s3 => ⟨_, rfl, ?_⟩) (fun R r => ⟨_, rfl, r⟩))))
      have q3 := s3 _ _ q
      have hl3 := s3 _ _ hl2
      have s13 := s12.trans s3
      by_cases c : ss = []
      · rw [decide_eq_true c]
        refine iteF (iteF ?_)
        refine one_if (test_read (ne_nil_read (sm := D) (ss := ss) q3 (fun H4 s4 => ⟨_, rfl, ?_⟩) (fun R r => ⟨_, rfl, r⟩)))
        rw [decide_eq_true c]
        refine iteF ⟨_, _, _, _, rfl, s13.trans s4, fun kk hk => e2 kk (by rw [if_pos c]; exact hk)⟩
      · rw [decide_eq_false c]
        obtain ⟨f1, f2⟩ := in_two wd hwd
        have e3 : ∀ kk, TakeS wd ss ls kk → RuleR rows ls kk := fun kk hk => e2 kk (by rw [if_neg c]; exact hk)
        refine iteT (test_read (op_read ⟨_, rfl, lst_read (cons_read (c_read (cons_read (c_read (nil_read ⟨by show 2 ≤ sizeLine; decide, fun u nu => ?_⟩)))))⟩))
        have s4 : Same H3 (upd H3 u (.lst [V.str (Str.ofString "oldest"), V.str (Str.ofString "youngest")])) := same_lay nu
        refine ⟨u, _, rfl, .inl (SqL.of upd_same), f1, flat2, _, rfl, ?_⟩
        show (if inV (.str wd) [V.str (Str.ofString "oldest"), V.str (Str.ofString "youngest")] = true then _ else _)
        rw [f2]
        have q4 := s4 _ _ q3
        have hl4 := s4 _ _ hl3
        have s14 := s13.trans s4
        generalize upd H3 u (.lst [V.str (Str.ofString "oldest"), V.str (Str.ofString "youngest")]) = H4 at s4 q4 hl4 s14 ⊢
        simp only [wordsL, List.mem_cons, List.not_mem_nil, or_false] at hwd
        obtain ⟨a0, r0, es⟩ : ∃ a0 r0, ss = a0 :: r0 := by
          cases ss with
          | nil => exact absurd rfl c
          | cons a r => exact ⟨a, r, rfl⟩
        rcases hwd with w | w | w | w
        · subst w
          refine iteT (ret_read (ifx_read (test_read (op_read ⟨_, rfl, c_read ⟨rfl, _, rfl, iteT ?_⟩⟩))))
          rw [hD2]
          subst es
          refine ⟨_, rfl, D, _, _, iV a0, rfl, rfl, SqL.of q4, atI_nat (j := 0) rfl, k _ a0 s14 (e3 a0 ⟨List.mem_cons_self .., fun _ => some_head so1, fun z => ?_, fun z => ?_, fun z => ?_⟩)⟩ <;> exact absurd z (by decide)
        · subst w
          refine iteT (ret_read (ifx_read (test_read (op_read ⟨_, rfl, c_read ⟨rfl, _, rfl, iteF ?_⟩⟩))))
          rw [hD2]
          have hlast : atI (ss.map iV) (-1) = some (iV (ss.getLast c)) := by
            have e5 : ss.map iV = (ss.dropLast.map iV) ++ [iV (ss.getLast c)] := by
              rw [← List.map_singleton, ← List.map_append, List.dropLast_concat_getLast c]
            rw [e5]
            exact atI_last _ _
          refine ⟨_, rfl, _, rfl, D, _, _, iV (ss.getLast c), rfl, rfl, SqL.of q4, hlast, k _ (ss.getLast c) s14 (e3 _ ⟨List.getLast_mem c, fun z => ?_, fun _ => some_last so1 c, fun z => ?_, fun z => ?_⟩)⟩ <;> exact absurd z (by decide)
        · subst w
          refine iteF ?_
          refine one_if (test_read (ne_nil_read (sm := D) (ss := ss) q4 (fun H5 s5 => ⟨_, rfl, ?_⟩) (fun R r => ⟨_, rfl, r⟩)))
          rw [decide_eq_false c]
          have q5 := s5 _ _ q4
          have hl5 := s5 _ _ hl4
          refine iteT (seq_asg (ifx_read (test_read (op_read ⟨_, rfl, c_read ⟨rfl, _, rfl, iteT ?_⟩⟩))))
          refine cb_read (cons_read ?_)
          refine lives_read (K := K) rfl hl5 q5 so2 (by omega) fun H6 q6 s6 h6 => nil_read ⟨q6, _, rfl, SqL.of h6, by rw [List.length_map, es]; simp, fun m hm hle => ?_⟩
          obtain ⟨j, hj, ej⟩ := List.mem_map.mp hm
          obtain ⟨a, r, ee, ha, hae⟩ := edge_head (ls := ls) (ss := ss) (e := m) ⟨j, hj, ej⟩
          refine ret_read (op_read ?_)
          rw [hD2]
          refine edge_read (e := m) rfl (s6 _ _ hl5) (s6 _ _ q5) so2 (by omega) fun H7 q7 s7 h7 => ?_
          rw [ee] at h7
          refine ⟨q7, _, _, iV a, rfl, rfl, SqL.of h7, atI_nat (j := 0) rfl, k _ a (s14.trans (s5.trans (s6.trans s7))) (e3 a ⟨ha, fun z => ?_, fun z => ?_, fun _ j2 hj2 => ?_, fun z => ?_⟩)⟩
          · exact absurd z (by decide)
          · exact absurd z (by decide)
          · rw [hae]
            exact hle _ (List.mem_map.mpr ⟨j2, hj2, rfl⟩)
          · exact absurd z (by decide)
        · subst w
          refine iteF ?_
          refine one_if (test_read (ne_nil_read (sm := D) (ss := ss) q4 (fun H5 s5 => ⟨_, rfl, ?_⟩) (fun R r => ⟨_, rfl, r⟩)))
          rw [decide_eq_false c]
          have q5 := s5 _ _ q4
          have hl5 := s5 _ _ hl4
          refine iteT (seq_asg (ifx_read (test_read (op_read ⟨_, rfl, c_read ⟨rfl, _, rfl, iteF ?_⟩⟩))))
          refine cb_read (cons_read ?_)
          refine lives_read (K := K) rfl hl5 q5 so2 (by omega) fun H6 q6 s6 h6 => nil_read ⟨q6, _, rfl, SqL.of h6, by rw [List.length_map, es]; simp, fun m hm hle => ?_⟩
          obtain ⟨j, hj, ej⟩ := List.mem_map.mp hm
          obtain ⟨a, r, ee, ha, hae⟩ := edge_head (ls := ls) (ss := ss) (e := m) ⟨j, hj, ej⟩
          refine ret_read (op_read ?_)
          rw [hD2]
          refine edge_read (e := m) rfl (s6 _ _ hl5) (s6 _ _ q5) so2 (by omega) fun H7 q7 s7 h7 => ?_
          rw [ee] at h7
          refine ⟨q7, _, _, iV a, rfl, rfl, SqL.of h7, atI_nat (j := 0) rfl, k _ a (s14.trans (s5.trans (s6.trans s7))) (e3 a ⟨ha, fun z => ?_, fun z => ?_, fun z => ?_, fun _ j2 hj2 => ?_⟩)⟩
          · exact absurd z (by decide)
          · exact absurd z (by decide)
          · exact absurd z (by decide)
          · rw [hae]
            exact hle _ (List.mem_map.mpr ⟨j2, hj2, rfl⟩)
  · rintro σ H' ⟨x2, x3, x4, x5, rfl, s1, e1⟩
    rw [hD1]
    refine ret_read (c_read (k _ 0 s1 (e1 0 ?_)))
    have hl' : (rs.map V.ref).length = rows.length := by rw [List.length_map]; exact Paired.length hP
    rw [hl', List.drop_length]
    rfl
end
end K2

set_option Elab.async false
set_option linter.all false
set_option maxRecDepth 100000
set_option maxHeartbeats 4000000
namespace K2
open PySem PySem.Spec PyProof.Rows L2 G1 G2
theorem bList : bootBuiltins "list" = some (.type "list") := by decide +kernel
theorem seq_while {c : TT} {tb t2 : TS} {D : Ends} {σ : L2.St} {H : Hp} (h : ∀ D' : Ends, D'.nx = t2 D → D'.rt = D.rt → ∃ W : Nat → L2.St → Hp → Prop, (∃ m, W m σ H) ∧ ∀ m σ H, W m σ H →
    c σ H fun b H1 => if b = true then ∃ N : L2.St → Hp → Prop, (∀ σ' H', N σ' H' → ∃ m', m' < m ∧ W m' σ' H') ∧ tb { D' with nx := N, ct := N, bk := D'.nx } σ H1 else D'.nx σ H1) : tSeq (tWhile c tb) t2 D σ H := h { D with nx := t2 D } rfl rfl
theorem sl_read {r : V → Option Int → Option Int → Hp → VK → Prop} {te : TE} {tl th : TO} {σ : L2.St} {H : Hp} {Q : VK} (h : te σ H fun x H1 => tl σ H1 fun l H2 => th σ H2 fun u H3 => r x l u H3 Q) : L2.tSl r te tl th σ H Q := h
/-! ### tuples of whole numbers: cut and joined -/
abbrev TupI (H : Hp) (a : Addr) (xs : List Int) : Prop := H a = some (.tup (xs.map V.int))
section
variable {K : PySem.W.Frag} {H : Hp} {Q : VK} {a b : Addr} {xs ys : List Int}
theorem cat_any (ha : TupI H a xs) (hb : TupI H b ys) (hl : xs.length + ys.length ≤ 1000) (k : ∀ (H' : Hp) (q : Addr), Same H H' → TupI H' q (xs ++ ys) → Q (.ref q) H') : rCatA K (.ref a) (.ref b) H Q := by
  refine ⟨a, b, _, _, rfl, rfl, SqT.of ha, SqT.of hb, by rw [List.length_map, List.length_map, sizeLine_eq]; omega, fun e => ?_, fun _ e => ?_, fun _ _ p np => ?_⟩
  · have e' : xs = [] := List.map_eq_nil_iff.mp e
    subst e'
    exact k H b (Same.refl H) hb
  · have e' : ys = [] := List.map_eq_nil_iff.mp e
    subst e'
    exact k H a (Same.refl H) (by rw [List.append_nil]; exact ha)
  · exact k _ p (same_lay np) (by show upd H p _ p = _; rw [upd_same, List.map_append])
theorem cut_to (xs : List Int) (k : Nat) : cutV (xs.map V.int) none (some (k : Int)) = (xs.take k).map V.int := by
  unfold cutV
  rw [HT.sIx_none, HT.sIx_nat, List.drop_zero, Nat.sub_zero, List.length_map, ← List.map_take]
  congr 1
  rcases Nat.le_total k xs.length with h | h
  · rw [Nat.min_eq_left h]
  · rw [Nat.min_eq_right h, List.take_length, List.take_of_length_le h]
theorem cut_from (xs : List Int) (k : Nat) : cutV (xs.map V.int) (some (k : Int)) none = (xs.drop k).map V.int := by
  unfold cutV
  rw [HT.sIx_none, HT.sIx_nat, List.length_map, ← List.map_drop, ← List.map_take]
  congr 1
  rcases Nat.le_total k xs.length with h | h
  · rw [Nat.min_eq_left h, List.take_of_length_le (by rw [List.length_drop]; exact Nat.le_refl _)]
  · rw [Nat.min_eq_right h, Nat.sub_self, List.take_zero, List.drop_eq_nil_of_le h]
theorem sl_to {k : Nat} (ha : TupI H a xs) (kq : ∀ (H' : Hp) (q : Addr), Same H H' → TupI H' q (xs.take k) → Q (.ref q) H') : rSlA K (.ref a) none (some (k : Int)) H Q := by
  refine ⟨a, _, rfl, SqT.of ha, fun e => ?_, fun _ p np => kq _ p (same_lay np) (by show upd H p _ p = _; rw [upd_same, cut_to])⟩
  refine kq H a (Same.refl H) ?_
  rw [HT.sIx_nat, List.length_map] at e
  rw [List.take_of_length_le (by omega)]
  exact ha
theorem sl_from {k : Nat} (ha : TupI H a xs) (kq : ∀ (H' : Hp) (q : Addr), Same H H' → TupI H' q (xs.drop k) → Q (.ref q) H') : rSlA K (.ref a) (some (k : Int)) none H Q := by
  refine ⟨a, _, rfl, SqT.of ha, fun e => ?_, fun _ p np => kq _ p (same_lay np) (by show upd H p _ p = _; rw [upd_same, cut_from])⟩
  refine kq H a (Same.refl H) ?_
  rw [HT.sIx_nat, List.length_map] at e
  have : k = 0 ∨ xs.length = 0 := by omega
  rcases this with e' | e'
  · rw [e', List.drop_zero]
    exact ha
  · rw [List.drop_eq_nil_of_le (by omega)]
    rw [List.length_eq_zero_iff.mp e'] at ha
    exact ha
end
/-! ### tuples of whole numbers as data -/
theorem eqvAll_ints : ∀ c d : List Int, PyData.eqvAll (c.map PyData.int) (d.map PyData.int) = decide (c = d)
  | [], [] => by simp [PyData.eqvAll]
  | [], _ :: _ => by simp [PyData.eqvAll]
  | _ :: _, [] => by simp [PyData.eqvAll]
  | a :: c, b :: d => by
    rw [List.map_cons, List.map_cons, PyData.eqvAll, eqvAll_ints c d]
    simp only [PyData.eqv]
    by_cases e : a = b
    · subst e
      simp
    · simp [e]
theorem eqv_tup (c d : List Int) : PyData.eqv (.tuple (c.map PyData.int)) (.tuple (d.map PyData.int)) = decide (c = d) := by
  simp only [PyData.eqv]
  exact eqvAll_ints c d
theorem tup_shaped (l : List Int) : SeqAt.shaped (.tuple (l.map PyData.int)) = true := by
  obtain ⟨a, b⟩ := intsZ_lay l
  unfold SeqAt.shaped
  simp only [PyData.canLay0, PyData.depth]
  rw [a]
  simp
  omega
theorem tups_lay : ∀ ms : List (List Int), PyData.canLayAll0 (ms.map fun c => PyData.tuple (c.map PyData.int)) = true ∧ PyData.depthAll (ms.map fun c => PyData.tuple (c.map PyData.int)) ≤ 2
  | [] => ⟨rfl, by decide⟩
  | c :: ms => by
    obtain ⟨a, b⟩ := tups_lay ms
    obtain ⟨x, y⟩ := intsZ_lay c
    rw [List.map_cons]
    simp only [PyData.canLayAll0, PyData.canLay0, PyData.depthAll, PyData.depth]
    exact ⟨by simp [a, x], by omega⟩
theorem tups_shaped (ms : List (List Int)) : SeqAt.shaped (.list (ms.map fun c => PyData.tuple (c.map PyData.int))) = true := by
  obtain ⟨a, b⟩ := tups_lay ms
  unfold SeqAt.shaped
  simp only [PyData.canLay0, PyData.depth]
  rw [a]
  simp
  omega
abbrev TupsI (H : Hp) (rs : List Addr) (ms : List (List Int)) : Prop := Paired (fun (a : Addr) (c : List Int) => TupI H a c) rs ms
theorem tups_dp {K : PySem.W.Frag} {H : Hp} : ∀ {rs : List Addr} {ms : List (List Int)}, TupsI H rs ms → DpAll K H (rs.map V.ref) (ms.map fun c => PyData.tuple (c.map PyData.int))
  | _, _, .nil => .nil
  | _, _, .cons r t => .cons (.tup (SqT.of r) (intsZ_dp _)) (tups_dp t)
theorem any_tups (c : List Int) : ∀ ms : List (List Int), ((ms.map fun c => PyData.tuple (c.map PyData.int)).any fun z => PyData.eqv z (.tuple (c.map PyData.int))) = decide (c ∈ ms)
  | [] => by simp
  | d :: ms => by
    rw [List.map_cons, List.any_cons, any_tups c ms, eqv_tup]
    by_cases e : d = c
    · subst e; simp
    · have : ¬ c = d := fun z => e z.symm
      simp [e, this]
/-- t == () -/
theorem eq_nil_read {K : PySem.W.Frag} {H : Hp} {a : Addr} {xs : List Int} {Q : VK} {σ : L2.St} {ta : TE} (ha : TupI H a xs) (ht : ∀ R : VK, R (.ref a) H → ta σ H R) (k : ∀ H' : Hp, Same H H' → Q (.bl (decide (xs = []))) H') : tOp (rEqD K) ta (tTup tNil) σ H Q := by
  refine op_read (ht _ (tup_read (nil_read ⟨by show 0 ≤ sizeLine; decide, fun e ne => ?_⟩)))
  have s1 : Same H (upd H e (.tup [])) := same_lay ne
  refine ⟨_, _, .tup (SqT.of (s1 _ _ ha)) (intsZ_dp _), .tup (SqT.of upd_same) .nil, tup_shaped _, by decide +kernel, ?_⟩
  have := eqv_tup xs []
  rw [show PyData.eqv (.tuple (xs.map PyData.int)) (.tuple []) = decide (xs = []) from this]
  exact k _ s1
theorem at_intT {ls : List Int} {k : Nat} (h : k < ls.length) : atI (ls.map V.int) (k : Int) = some (.int (ls.getD k 0)) := at_int h
theorem erase_cut (c : List Int) (k : Nat) : c.take k ++ c.drop (k + 1) = c.eraseIdx k := (List.eraseIdx_eq_take_drop_succ c k).symm
/-! ### the stages of a page's way -/
inductive PgSt (b p n : Nat) (rows : List RowD) (s : Spot) : Nat → List Int → List Int → List (List Int) → Prop
  | idle : ¬ Clean b s → PgSt b p n rows s 0 s.1 s.2 []
  | due (c : List Int) (ms : List (List Int)) : Clean b s → Due b p n c → ms.Nodup → (∀ x ∈ ms, x ∈ listsN p (b - 1)) → (StuckC (takM p 0 rows).1 (takM p 0 rows).2 p s.1 ↔ StuckC (takM p 0 rows).1 (takM p 0 rows).2 p c) →
      (¬ StuckC (takM p 0 rows).1 (takM p 0 rows).2 p c → ∀ x ∈ ms, leadM (p : Int) c < leadM (p : Int) x) → PgSt b p n rows s (5001 - ms.length) c [] ms
  | done (c : List Int) (l : Int) (ms : List (List Int)) : Clean b s → ¬ StuckC (takM p 0 rows).1 (takM p 0 rows).2 p s.1 → c.length = b - 2 → (∀ x ∈ c, 0 ≤ x ∧ x ≤ (p : Int)) → 0 ≤ l → l < (p : Int) → c.sum + l < (n : Int) → PgSt b p n rows s 0 c [l, l] ms
section
variable {b p n : Nat} {rows : List RowD} {s : Spot}
theorem due_mem {c : List Int} (h : Due b p n c) : c ∈ listsN p (b - 1) := by
  have := mem_lists c h.box
  rw [h.len] at this
  exact this
/-- one more cleaning -/
theorem pg_step (hb : 3 ≤ b) (hn : n ≤ p * (b - 1)) (hU : (listsN p (b - 1)).length ≤ 5000) (R : Rls p rows) {c : List Int} {ms : List (List Int)} {k : Nat} (h1 : Clean b s) (h2 : Due b p n c) (h3 : ms.Nodup) (h4 : ∀ x ∈ ms, x ∈ listsN p (b - 1))
    (h5 : StuckC (takM p 0 rows).1 (takM p 0 rows).2 p s.1 ↔ StuckC (takM p 0 rows).1 (takM p 0 rows).2 p c) (h6 : ¬ StuckC (takM p 0 rows).1 (takM p 0 rows).2 p c → ∀ x ∈ ms, leadM (p : Int) c < leadM (p : Int) x) (hc : c ∉ ms) (hR : RuleR rows c k) :
    k < c.length ∧ (ms ++ [c]).length ≤ 5000 ∧ (c.getD k 0 = (p : Int) → PgSt b p n rows s (5001 - (ms ++ [c]).length) (rotM c k) [] (ms ++ [c])) ∧ (c.getD k 0 ≠ (p : Int) → PgSt b p n rows s 0 (c.eraseIdx k) [c.getD k 0, c.getD k 0] (ms ++ [c])) := by
  have hk := (due_split hb h2 R hR).1
  have hnd : (ms ++ [c]).Nodup := by
    rw [List.nodup_append]
    refine ⟨h3, List.nodup_cons.mpr ⟨fun z => (nomatch z), List.nodup_nil⟩, fun a ha d hd => ?_⟩
    rw [List.mem_singleton.mp hd]
    exact fun e => hc (e ▸ ha)
  have hall : ∀ x ∈ ms ++ [c], x ∈ listsN p (b - 1) := fun x hx => by
    rcases List.mem_append.mp hx with hx | hx
    · exact h4 x hx
    · rw [List.mem_singleton.mp hx]
      exact due_mem h2
  have hlen := nodup_le _ _ hnd hall
  refine ⟨hk, by omega, fun e => ?_, fun e => ?_⟩
  · by_cases st : StuckC (takM p 0 rows).1 (takM p 0 rows).2 p c
    · have z := (stuck_on hb h2 R hR st).2
      exact .due _ _ h1 (h2.rot hk) hnd hall ⟨fun _ => z, fun _ => h5.mpr st⟩ fun q => absurd z q
    · obtain ⟨z, lt⟩ := stuck_off hb hn h2 R hR st e
      refine .due _ _ h1 (h2.rot hk) hnd hall ⟨fun q => absurd (h5.mp q) st, fun q => absurd q z⟩ fun _ x hx => ?_
      rcases List.mem_append.mp hx with hx | hx
      · exact Nat.lt_trans lt (h6 st x hx)
      · rw [List.mem_singleton.mp hx]
        exact lt
  · have hbx := h2.box _ (getD_mem hk)
    have hp := erase_perm c k hk
    have hs := perm_sum hp
    rw [List.sum_cons] at hs
    have hsm := h2.sum
    have hl := h2.len
    refine .done _ _ _ h1 (fun q => e (stuck_on hb h2 R hR (h5.mp q)).1) ?_ (fun x hx => h2.box x (hp.mem_iff.mp (List.mem_cons_of_mem _ hx))) hbx.1 (by omega) (by omega)
    have := hp.length_eq
    rw [List.length_cons] at this
    omega
/-- behind the last cleaning -/
theorem pg_end (hb : 3 ≤ b) (hp : 2 ≤ p) (g : Good b p n s) {m : Nat} {c hf : List Int} {ms : List (List Int)} (h : PgSt b p n rows s m c hf ms) (ne : ¬ (hf = [] ∧ c.length = b - 1)) : PageR b p n rows s (some (addM p (c, hf))) ∧ (hf = [] ∨ ∃ w l, hf = [w, l]) ∧ c.length ≤ b - 1 := by
  cases h with
  | idle nc =>
    refine ⟨⟨fun _ => rfl, fun c => absurd c nc⟩, ?_, g.len⟩
    rcases g.half with e | ⟨w, l, e, _⟩
    · exact .inl e
    · exact .inr ⟨w, l, e⟩
  | due _ _ _ h2 => exact absurd ⟨rfl, h2.len⟩ ne
  | done _ l _ h1 h2 h3 h4 h5 h6 h7 =>
    refine ⟨⟨fun z => absurd h1 z, fun _ => ⟨fun z => (by cases z), fun z => absurd z h2, fun s' e => ?_⟩⟩, .inr ⟨l, l, rfl⟩, by omega⟩
    injection e with e
    rw [← e]
    refine add_good hp hb (by show c.length ≤ b - 2; omega) h4 (.inr ⟨l, l, rfl, h5, Int.le_refl _, h6⟩) ?_
    unfold sumS
    simp
    omega
end
end K2

set_option Elab.async false
set_option linter.all false
set_option maxRecDepth 100000
set_option maxHeartbeats 4000000
namespace K2
open PySem PySem.Spec PyProof.Rows L2 G1 G2
abbrev sPag : Stmt := topS 58
abbrev NPag : List Str := ["_law_shape_here", "_law_table_here", "_law_shut", "_law_half", "_law_met", "_law_at", "_law_live"]
theorem scPag : FnScope NPag ["_law_shape_here", "_law_table_here", "_law_shut", "_law_half"] (defScope sPag) := ⟨rfl, rfl, rfl, by decide +kernel, rfl, by decide +kernel, by decide +kernel⟩
/-- a drive's shape, its rule -/
structure Env (K : PySem.W.Frag) (H : Hp) (sh t : Addr) (b p n : Nat) (rows : List RowD) : Prop where
  shp : Shp b p n
  at_ : ShpAt K H sh b p n
  rw_ : RowsAt K H t rows
  rl : Rls p rows
theorem Env.same {K : PySem.W.Frag} {H H' : Hp} {sh t : Addr} {b p n : Nat} {rows : List RowD} (h : Env K H sh t b p n rows) (s : Same H H') : Env K H' sh t b p n rows := ⟨h.shp, K2.Same.tup s h.at_, h.rw_.same s, h.rl⟩
def spPag (K : PySem.W.Frag) : Sp := fun vs H Q _ => ∃ (sh t a h : Addr) (b p n : Nat) (rows : List RowD) (s : Spot), vs = [.ref sh, .ref t, .ref a, .ref h] ∧ Env K H sh t b p n rows ∧ TupI H a s.1 ∧ TupI H h s.2 ∧ Good b p n s ∧ sumS s < (n : Int) ∧
  (PageR b p n rows s none → ∀ H' : Hp, Same H H' → Q .non H') ∧ ∀ (H' : Hp) (q : Addr) (s' : Spot), Same H H' → PageR b p n rows s (some s') → SpotAt H' q s' → Q (.ref q) H'
theorem hu65 {A : Around} {k : Nat} (hr : Room k A) : A.units + 65 < cLine := by have := hr.un; omega
theorem nopart_read {σ : L2.St} {H : Hp} {Q : Option Int → Hp → Prop} (h : Q none H) : tNoPart σ H Q := h
theorem part_read {te : TE} {σ : L2.St} {H : Hp} {Q : Option Int → Hp → Prop} (h : te σ H fun v H1 => ∃ i, v = .int i ∧ Q (some i) H1) : tPart te σ H Q := h
theorem if_read {tt : TT} {t e : TS} {D : Ends} {σ : L2.St} {H : Hp} (h : tt σ H fun c H1 => if c = true then t D σ H1 else e D σ H1) : tIfS tt t e D σ H := h
def PagW (b p n : Nat) (rows : List RowD) (s : Spot) (H : Hp) (sh t D : Addr) (m : Nat) (σ : L2.St) (H' : Hp) : Prop := ∃ (c hf : List Int) (ms : List (List Int)) (a' h' : Addr) (x5 x6 : Option V) (rs : List Addr), σ = [some (.ref sh), some (.ref t), some (.ref a'), some (.ref h'), some (.ref D), x5, x6] ∧ PgSt b p n rows s m c hf ms ∧ Same H H' ∧ TupI H' a' c ∧ TupI H' h' hf ∧ H' D = some (.lst (rs.map V.ref)) ∧ TupsI H' rs ms
theorem eqI_read (i j : Int) : decide (V.int i = V.int j) = decide (i = j) := by
  by_cases e : i = j
  · rw [e, decide_eq_true rfl, decide_eq_true rfl]
  · rw [decide_eq_false e, decide_eq_false fun z => e (by injection z)]
section
variable {P : Program} {w : World} {K : PySem.W.Frag} {mg : Str → Option Value} {base : Heap}
theorem ok_pag {f : Addr} {fd : FuncData} (F : Fun K "_law_page" "_law_page" sPag f fd) (B : Bl mg) (bl : mg "list" = none) (GR : FAt P w K mg base 1 "_law_rule" ["_law_table_here", "_law_lives"] (spRul K)) : FnOk P w K mg base CX0 2 f fd ["_law_shape_here", "_law_table_here", "_law_shut", "_law_half"] (spPag K) := by
  refine F.ok scPag (fun vs H Q E h => ?_) (fun cdv A outer s0 H vs Q E hr h => ?_)
  · obtain ⟨sh, t, a, h, b, p, n, rows, s, rfl, _⟩ := h
    rfl
  obtain ⟨sh, t, a, h, b, p, n, rows, s, rfl, Vn, ha, hh, hg, hs, k0, k1⟩ := h
  obtain ⟨fR, dR, GR, kR, bR, gR⟩ := GR.ex
  refine ⟨_, pss_cons (ps_set (i := 4) scPag.nd rfl (.inl rfl) (pe_lst pa_nil))
    (pss_cons (ps_while PassesOwn.never (PW.pt (pw_and (pt_cmpR (op_eqD hr.units) (pv 3) (pe_tup pa_nil) (nomark _)) (pw_and1 (pt_cmpR op_eq (pe_callB call_len_seq (by rfl) B.len PySem.boot_len (pa_cons (pv 2) pa_nil)) (pe_op op_sub (pe_ix ix_tup (pv 0) pe_int (fun _ _ => rfl)) pe_int) (nomark _)))))
      (pss_cons (ps_if (pt_cmpR (op_inD (hu65 hr)) (pv 2) (pv 4) (by rfl)) (pss_one (ps_ret pe_non)) pss_nil)
      (pss_cons (ps_expr (pe_bm PySem.F.plainAttrs_list PySem.F.slot_list_append PySem.F.type_list_append mt_append (pv 4) (pa_cons (pv 2) pa_nil)))
      (pss_cons (ps_set (i := 5) scPag.nd rfl (.inl rfl) (pe_call GR hr (by rfl) gR kR bR .nil pass0 (pa_cons (pv 1) (pa_cons (pe_callTy call_list_of (by rfl) bl bList (pa_cons (pv 2) pa_nil)) pa_nil))))
      (pss_cons (ps_set (i := 6) scPag.nd rfl (.inl rfl) (pe_ix ix_tup (pv 2) (pv 5) (fun _ _ => rfl)))
      (pss_cons (ps_set (i := 2) scPag.nd rfl (.inl rfl) (pe_op op_catA (pe_slice sl_tupA (pv 2) po_none (po_some (pv 5))) (pe_slice sl_tupA (pv 2) (po_some (pe_op op_add (pv 5) pe_int)) po_none)))
      (pss_one (ps_if (pt_cmpR op_eq (pv 6) (pe_ix ix_tup (pv 0) pe_int (fun _ _ => rfl)) (nomark _)) (pss_one (ps_set (i := 2) scPag.nd rfl (.inl rfl) (pe_op op_catA (pv 2) (pe_tup (pa_cons (pv 6) pa_nil))))) (pss_one (ps_set (i := 3) scPag.nd rfl (.inl rfl) (pe_tup (pa_cons (pv 6) (pa_cons (pv 6) pa_nil)))))))))))))
    (pss_cons (ps_if (pt_cmpR (op_eqD hr.units) (pv 3) (pe_tup pa_nil) (nomark _)) (pss_one (ps_set (i := 3) scPag.nd rfl (.inl rfl) (pe_tup (pa_cons pe_int (pa_cons pe_int pa_nil))))) pss_nil)
    (pss_cons (ps_if (pt_cmpR op_eq (pe_op op_add (pe_ix ix_tup (pv 3) pe_int (fun _ _ => rfl)) pe_int) (pe_ix ix_tup (pv 0) pe_int (fun _ _ => rfl)) (nomark _))
        (pss_one (ps_ret (pe_tup (pa_cons (pe_op op_catA (pv 2) (pe_tup (pa_cons (pe_op op_add (pe_ix ix_tup (pv 3) pe_int (fun _ _ => rfl)) pe_int) pa_nil))) (pa_cons (pe_tup pa_nil) pa_nil))))) pss_nil)
    (pss_one (ps_ret (pe_tup (pa_cons (pv 2) (pa_cons (pe_tup (pa_cons (pe_op op_add (pe_ix ix_tup (pv 3) pe_int (fun _ _ => rfl)) pe_int) (pa_cons (pe_op op_add (pe_ix ix_tup (pv 3) pe_int (fun _ _ => rfl)) pe_int) pa_nil))) pa_nil)))))))), ?_⟩
  have hz := Vn.shp.sz
  have b0 := hz.b0
  have b1 := hz.b1
  have p0 := hz.p0
  have hn := hz.n1
  have hU := lists_few (b, p) Vn.shp.1
  dsimp only at hU
  refine seq_asg (lst_read (nil_read ⟨by show 0 ≤ sizeLine; decide, fun D hD => ?_⟩))
  have sD : Same H (upd H D (.lst [])) := same_lay hD
  have eD : (upd H D (.lst [])) D = some (.lst (([] : List Addr).map V.ref)) := upd_same
  generalize upd H D (.lst []) = H1 at sD eD ⊢
  have st0 : ∃ m ms, PgSt b p n rows s m s.1 s.2 ms ∧ ms = [] := by
    by_cases c : Clean b s
    · have := c.1
      refine ⟨5001 - 0, [], ?_, rfl⟩
      rw [this]
      exact .due s.1 [] c (clean_due hg hs c) List.nodup_nil (fun _ z => nomatch z) Iff.rfl fun _ _ z => nomatch z
    · exact ⟨_, _, .idle c, rfl⟩
  obtain ⟨m0, ms0, st0, ems⟩ := st0
  refine seq_while fun D' hD1 hD2 => ?_
  refine ⟨PagW b p n rows s H sh t D,
    ⟨m0, s.1, s.2, ms0, a, h, none, none, [], rfl, st0, sD, sD _ _ ha, sD _ _ hh, eD, by rw [ems]; exact .nil⟩, ?_⟩
  rintro m σ H2 ⟨c, hf, ms, a', h', x5, x6, rs, rfl, st, s2, ha2, hh2, hm2, ht2⟩
  have V2 := Vn.same s2
  refine and_read (test_read (eq_nil_read (a := h') (xs := hf) hh2 (fun R r => ⟨_, rfl, r⟩) fun H3 s3 => ⟨_, rfl, ?_⟩))
  have V3 := V2.same s3
  have s13 := s2.trans s3
  have hm3 := s3 _ _ hm2
  have ha3 := s3 _ _ ha2
  have hh3 := s3 _ _ hh2
  -- behind the loop
  have fin : ∀ H4 : Hp, Same H3 H4 → ¬ (hf = [] ∧ c.length = b - 1) → D'.nx [some (.ref sh), some (.ref t), some (.ref a'), some (.ref h'), some (.ref D), x5, x6] H4 := by
    intro H4 s4 ne
    obtain ⟨pr, hshape, hcl⟩ := pg_end b0 p0 hg st ne
    have s14 := s13.trans s4
    have ha4 := s4 _ _ ha3
    have hh4 := s4 _ _ hh3
    rw [hD1]
    -- with the open block's two numbers
    have last : ∀ (H5 : Hp) (h5 : Addr) (wl l : Int), Same H4 H5 → TupI H5 h5 [wl, l] → addM p (c, hf) = (if wl + 1 = (p : Int) then (c ++ [l + 1], []) else (c, [wl + 1, l + 1])) →
        tSeq (tIfS (tTest (tOp rEq (tOp (rI0 fun i j => .int (i + j)) (tOp (rIxT K) (tVar 3) (tC (.int 0))) (tC (.int 1))) (tOp (rIxT K) (tVar 0) (tC (.int 1)))))
          (tRet (tTup (tCons (tOp (rCatA K) (tVar 2) (tTup (tCons (tOp (rI0 fun i j => .int (i + j)) (tOp (rIxT K) (tVar 3) (tC (.int 1))) (tC (.int 1))) tNil))) (tCons (tTup tNil) tNil)))) tNext)
          (tRet (tTup (tCons (tVar 2) (tCons (tTup (tCons (tOp (rI0 fun i j => .int (i + j)) (tOp (rIxT K) (tVar 3) (tC (.int 0))) (tC (.int 1))) (tCons (tOp (rI0 fun i j => .int (i + j)) (tOp (rIxT K) (tVar 3) (tC (.int 1))) (tC (.int 1))) tNil))) tNil))))
          { nx := fun _ H' => Q .non H', rt := Q } [some (.ref sh), some (.ref t), some (.ref a'), some (.ref h5), some (.ref D), x5, x6] H5 := by
      intro H5 h5 wl l s5 hh5 ea
      have V5 := V3.same (s4.trans s5)
      have ha5 := s5 _ _ ha4
      refine seq_if0 (test_read (op_read (op_read ?_)))
      refine ⟨_, rfl, h5, _, _, _, rfl, rfl, SqT.of hh5, rfl, _, _, rfl, rfl, ?_⟩
      refine ⟨_, rfl, sh, _, _, _, rfl, rfl, V5.at_, rfl, rfl, _, rfl, ?_⟩
      rw [eqI_read]
      by_cases e : wl + 1 = (p : Int)
      · rw [if_pos e] at ea
        rw [decide_eq_true e]
        refine iteT (ret_read (tup_read (cons_read (op_read ⟨_, rfl, tup_read (cons_read (op_read ?_))⟩))))
        refine ⟨_, rfl, h5, _, _, _, rfl, rfl, SqT.of hh5, rfl, _, _, rfl, rfl, nil_read ⟨by show 1 ≤ sizeLine; decide, fun q nq => ?_⟩⟩
        have s6 : Same H5 (upd H5 q (.tup [.int (l + 1)])) := same_lay nq
        refine cat_any (xs := c) (ys := [l + 1]) (s6 _ _ ha5) upd_same (by simp; omega) fun H7 q7 s7 h7 => ?_
        refine cons_read (tup_read (nil_read ⟨by show 0 ≤ sizeLine; decide, fun q8 n8 => ?_⟩))
        have s8 : Same H7 (upd H7 q8 (.tup [])) := same_lay n8
        have h8 : (upd H7 q8 (.tup [])) q8 = some (.tup []) := upd_same
        generalize upd H7 q8 (.tup []) = H8 at s8 h8 ⊢
        refine nil_read ⟨by show 2 ≤ sizeLine; decide, fun q9 n9 => ?_⟩
        have s9 : Same H8 (upd H8 q9 (.tup [.ref q7, .ref q8])) := same_lay n9
        refine k1 _ q9 (addM p (c, hf)) (s14.trans (s5.trans (s6.trans (s7.trans (s8.trans s9))))) pr ⟨q7, q8, upd_same, ?_, ?_⟩
        · rw [ea]
          exact s9 _ _ (s8 _ _ h7)
        · rw [ea]
          exact s9 _ _ h8
      · rw [if_neg e] at ea
        rw [decide_eq_false e]
        refine iteF (ret_read (tup_read (cons_read ⟨_, rfl, cons_read (tup_read (cons_read (op_read ?_)))⟩)))
        refine ⟨_, rfl, h5, _, _, _, rfl, rfl, SqT.of hh5, rfl, _, _, rfl, rfl, cons_read (op_read ?_)⟩
        refine ⟨_, rfl, h5, _, _, _, rfl, rfl, SqT.of hh5, rfl, _, _, rfl, rfl, nil_read ⟨by show 2 ≤ sizeLine; decide, fun q nq => ?_⟩⟩
        have s6 : Same H5 (upd H5 q (.tup [.int (wl + 1), .int (l + 1)])) := same_lay nq
        have h6 : (upd H5 q (.tup [.int (wl + 1), .int (l + 1)])) q = some (.tup [.int (wl + 1), .int (l + 1)]) := upd_same
        generalize upd H5 q (.tup [.int (wl + 1), .int (l + 1)]) = H6 at s6 h6 ⊢
        refine nil_read ⟨by show 2 ≤ sizeLine; decide, fun q9 n9 => ?_⟩
        have s9 : Same H6 (upd H6 q9 (.tup [.ref a', .ref q])) := same_lay n9
        refine k1 _ q9 (addM p (c, hf)) (s14.trans (s5.trans (s6.trans s9))) pr ⟨a', q, upd_same, ?_, ?_⟩
        · rw [ea]
          exact s9 _ _ (s6 _ _ ha5)
        · rw [ea]
          exact s9 _ _ h6
    refine seq_if0 (test_read (eq_nil_read (a := h') (xs := hf) hh4 (fun R r => ⟨_, rfl, r⟩) fun H5 s5 => ⟨_, rfl, ?_⟩))
    rcases hshape with e | ⟨wl, l, e⟩
    · rw [decide_eq_true e]
      refine iteT (asg_read (tup_read (cons_read (c_read (cons_read (c_read (nil_read ⟨by show 2 ≤ sizeLine; decide, fun q nq => ?_⟩)))))))
      refine last _ q 0 0 (s5.trans (same_lay nq)) upd_same ?_
      rw [e]
      rfl
    · rw [decide_eq_false (by rw [e]; intro z; cases z)]
      refine iteF (last H5 h' wl l s5 (by rw [← e]; exact s5 _ _ hh4) ?_)
      rw [e]
      rfl
  by_cases e : hf = []
  · rw [decide_eq_true e]
    refine iteT (test_read (op_read (cb_read (cons_read ⟨_, rfl, nil_read ⟨a', _, rfl, .inr (SqT.of ha3), ?_⟩⟩))))
    refine op_read ⟨_, rfl, sh, _, _, _, rfl, rfl, V3.at_, rfl, _, _, rfl, rfl, rfl, _, rfl, ?_⟩
    rw [eqI_read, List.length_map]
    by_cases e2 : c.length = b - 1
    · rw [decide_eq_true (by omega)]
      refine iteT ⟨fun σ' H' => ∃ m', m' < m ∧ PagW b p n rows s H sh t D m' σ' H', fun _ _ z => z, ?_⟩
      cases st with
      | idle nc => exact absurd ⟨e, e2⟩ nc
      | done => cases e
      | due _ _ h1 h2 h3 h4 h5 h6 =>
      have ht3 : TupsI H3 rs ms := Paired.mapP ht2 fun _ _ z => s3 _ _ z
      refine seq_if0 (test_read (op_read ⟨_, rfl, _, rfl, ?_⟩))
      refine ⟨_, _, .tup (SqT.of ha3) (intsZ_dp _), .lst (SqL.of hm3) (tups_dp ht3), tup_shaped _, tups_shaped _, _, rfl, ?_⟩
      rw [any_tups]
      by_cases hc : c ∈ ms
      · rw [decide_eq_true hc]
        refine iteT (ret_read (c_read ?_))
        show D'.rt _ _
        rw [hD2]
        have stk : StuckC (takM p 0 rows).1 (takM p 0 rows).2 p c := Classical.byContradiction fun z => Nat.lt_irrefl _ (h6 z c hc)
        exact k0 ⟨fun z => absurd h1 z, fun _ => ⟨fun _ => h5.mpr stk, fun _ => rfl, fun s' e => by cases e⟩⟩ _ s13
      · rw [decide_eq_false hc]
        refine iteF ?_
        refine ⟨_, rfl, .inl ⟨rfl, _, SqL.of hm3⟩, cons_read ⟨_, rfl, nil_read ⟨D, _, _, rfl, rfl, hm3, ?_, ?_⟩⟩⟩
        · have := Paired.length ht3
          have := nodup_le _ _ h3 h4
          rw [List.length_map, sizeLine_eq]
          omega
        have naD : a' ≠ D := ne_of ha3 hm3 (by intro z; cases z)
        have nhD : h' ≠ D := ne_of hh3 hm3 (by intro z; cases z)
        have s4 : Same H (upd H3 D (.lst (rs.map V.ref ++ [.ref a']))) := fun x o z => by
          rw [upd_ne (ne_of_none z hD)]
          exact s13 _ _ z
        have ha4 : TupI (upd H3 D (.lst (rs.map V.ref ++ [.ref a']))) a' c := by show upd _ _ _ _ = _; rw [upd_ne naD]; exact ha3
        have hh4 : TupI (upd H3 D (.lst (rs.map V.ref ++ [.ref a']))) h' [] := by show upd _ _ _ _ = _; rw [upd_ne nhD]; exact hh3
        have hm4 : (upd H3 D (.lst (rs.map V.ref ++ [.ref a']))) D = some (.lst ((rs ++ [a']).map V.ref)) := by rw [upd_same, List.map_append]; rfl
        have ht4 : TupsI (upd H3 D (.lst (rs.map V.ref ++ [.ref a']))) (rs ++ [a']) (ms ++ [c]) := paired_snoc (Paired.mapP ht3 fun x y z => by
          show upd _ _ _ _ = _
          rw [upd_ne (ne_of z hm3 (by intro z; cases z))]
          exact z) ha4
        generalize upd H3 D (.lst (rs.map V.ref ++ [.ref a'])) = H4 at s4 ha4 hh4 hm4 ht4 ⊢
        have V4 := Vn.same s4
        dsimp only
        refine seq_asg (call_read (cons_read ⟨_, rfl, cons_read (cb_read (cons_read ⟨_, rfl, nil_read ⟨a', _, rfl, .inr (SqT.of ha4), fun l nl => nil_read ?_⟩⟩))⟩))
        have s5 : Same H4 (upd H4 l (.lst (c.map V.int))) := same_lay nl
        have e5 : (upd H4 l (.lst (c.map V.int))) l = some (.lst (c.map V.int)) := upd_same
        generalize upd H4 l (.lst (c.map V.int)) = H5 at s5 e5 ⊢
        refine ⟨t, l, rows, c, rfl, (V4.same s5).rw_, e5, by omega, fun r hr' => (Vn.rl.ok r hr').2.2, fun H6 kk s6 hR => ?_⟩
        have hlen6 : (ms ++ [c]).length = ms.length + 1 := by rw [List.length_append]; rfl
        obtain ⟨hk, hlen5, st1, st2⟩ := pg_step b0 hn hU Vn.rl h1 h2 h3 h4 h5 h6 hc hR
        have s46 := s5.trans s6
        refine seq_asg (op_read ⟨_, rfl, _, rfl, a', _, _, _, rfl, rfl, SqT.of (s46 _ _ ha4), at_int hk, ?_⟩)
        refine seq_asg (op_read (sl_read ⟨_, rfl, nopart_read (part_read ⟨_, rfl, _, rfl, sl_to (k := kk) (s46 _ _ ha4) fun H7 q7 s7 h7 => ?_⟩)⟩))
        refine sl_read ⟨_, rfl, part_read (op_read ⟨_, rfl, _, _, rfl, rfl, ((kk + 1 : Nat) : Int), rfl, nopart_read (sl_from (k := kk + 1) (s7 _ _ (s46 _ _ ha4)) fun H8 q8 s8 h8 => ?_)⟩)⟩
        have hcl := h2.len
        refine cat_any (xs := c.take kk) (ys := c.drop (kk + 1)) (s8 _ _ h7) h8 (by rw [List.length_take, List.length_drop]; omega) fun H9 q9 s9 h9 => ?_
        rw [erase_cut] at h9
        have s49 := s46.trans (s7.trans (s8.trans s9))
        have V9 := V4.same s49
        refine if_read (test_read (op_read ⟨_, rfl, op_read ⟨_, rfl, sh, _, _, _, rfl, rfl, V9.at_, rfl, rfl, _, rfl, ?_⟩⟩))
        rw [eqI_read]
        by_cases el : c.getD kk 0 = (p : Int)
        · rw [decide_eq_true el]
          refine iteT (asg_read (op_read ⟨_, rfl, tup_read (cons_read ⟨_, rfl, nil_read ⟨by show 1 ≤ sizeLine; decide, fun q nq => ?_⟩⟩)⟩))
          have s10 : Same H9 (upd H9 q (.tup [.int (c.getD kk 0)])) := same_lay nq
          refine cat_any (xs := c.eraseIdx kk) (ys := [c.getD kk 0]) (s10 _ _ h9) upd_same (by rw [List.length_eraseIdx]; simp; split <;> omega) fun H11 q11 s11 h11 => ?_
          have sA := s49.trans (s10.trans s11)
          exact ⟨_, by omega, _, _, _, q11, h', _, _, rs ++ [a'], rfl, st1 el, s4.trans sA, h11, sA _ _ hh4, sA _ _ hm4, Paired.mapP ht4 fun _ _ z => sA _ _ z⟩
        · rw [decide_eq_false el]
          refine iteF (asg_read (tup_read (cons_read ⟨_, rfl, cons_read ⟨_, rfl, nil_read ⟨by show 2 ≤ sizeLine; decide, fun q nq => ?_⟩⟩⟩)))
          have s10 : Same H9 (upd H9 q (.tup [.int (c.getD kk 0), .int (c.getD kk 0)])) := same_lay nq
          have sA := s49.trans s10
          have hms := nodup_le _ _ h3 h4
          exact ⟨0, by omega, _, _, _, q9, q, _, _, rs ++ [a'], rfl, st2 el, s4.trans sA, s10 _ _ h9, upd_same, sA _ _ hm4, Paired.mapP ht4 fun _ _ z => sA _ _ z⟩
    · rw [decide_eq_false (by omega)]
      exact iteF (fin H3 (Same.refl _) fun z => e2 z.2)
  · rw [decide_eq_false e]
    exact iteF (iteF (fin H3 (Same.refl _) fun z => e z.1))
end
end K2

set_option Elab.async false
set_option linter.all false
set_option maxRecDepth 100000
set_option maxHeartbeats 4000000
namespace K2
open PySem PySem.Spec PyProof.Rows L2 G1 G2
abbrev sNxt : Stmt := topS 59
abbrev NNxt : List Str := ["_law_shape_here", "_law_table_here", "_law_spot", "_law_flag", "_law_shut", "_law_half", "_law_dead", "_law_k", "_law_found", "_law_side"]
theorem scNxt : FnScope NNxt ["_law_shape_here", "_law_table_here", "_law_spot", "_law_flag"] (defScope sNxt) := ⟨rfl, rfl, rfl, by decide +kernel, rfl, by decide +kernel, by decide +kernel⟩
/-- None, or a stand -/
def FarV (H : Hp) (v : V) : Option Spot → Prop
  | none => v = .non
  | some s => ∃ a, v = .ref a ∧ SpotAt H a s
theorem FarV.same {H H' : Hp} {v : V} {o : Option Spot} (h : FarV H v o) (e : Same H H') : FarV H' v o := by
  cases o with
  | none => exact h
  | some s =>
    obtain ⟨a, ea, h⟩ := h
    exact ⟨a, ea, h.same e⟩
theorem SpotAt.grow {H : Hp} {D a : Addr} {s : Spot} {xs : List V} {o : HO} (h : SpotAt H a s) (hD : H D = some (.lst xs)) : SpotAt (upd H D o) a s := by
  obtain ⟨a1, a2, h0, h1, h2⟩ := h
  refine ⟨a1, a2, ?_, ?_, ?_⟩
  · rw [upd_ne (ne_of h0 hD (by intro z; cases z))]; exact h0
  · rw [upd_ne (ne_of h1 hD (by intro z; cases z))]; exact h1
  · rw [upd_ne (ne_of h2 hD (by intro z; cases z))]; exact h2
theorem FarV.grow {H : Hp} {D : Addr} {v : V} {s : Option Spot} {xs : List V} {o : HO} (h : FarV H v s) (hD : H D = some (.lst xs)) : FarV (upd H D o) v s := by
  cases s with
  | none => exact h
  | some s =>
    obtain ⟨a, ea, h⟩ := h
    exact ⟨a, ea, h.grow hD⟩
abbrev SpotsAt (H : Hp) (rs : List Addr) (ds : List Spot) : Prop := Paired (fun (a : Addr) (s : Spot) => SpotAt H a s) rs ds
def spNxt (K : PySem.W.Frag) : Sp := fun vs H Q _ => ∃ (sh t sp : Addr) (fl : Bool) (b p n : Nat) (rows : List RowD) (s : Spot), vs = [.ref sh, .ref t, .ref sp, .bl fl] ∧ Env K H sh t b p n rows ∧ SpotAt H sp s ∧ Good b p n s ∧
  ∀ (H' : Hp) (l : Addr) (ws : List V) (os : List (Option Spot)), Same H H' → H l = none → H' l = some (.lst ws) → Paired (FarV H') ws os → NxOk b p n rows s os → Q (.ref l) H'
def diesT (c : List Int) (i : Nat) : List Nat := (List.range i).filter fun k => decide (c.getD k 0 > 0)
theorem diesT_succ (c : List Int) (i : Nat) : diesT c (i + 1) = diesT c i ++ (if c.getD i 0 > 0 then [i] else []) := by
  unfold diesT
  rw [List.range_succ, List.filter_append]
  congr 1
  by_cases h : c.getD i 0 > 0
  · rw [if_pos h, List.filter_cons_of_pos (by simpa using h)]; rfl
  · rw [if_neg h, List.filter_cons_of_neg (by simpa using h)]; rfl
theorem diesT_len (c : List Int) (i : Nat) : (diesT c i).length ≤ i := Nat.le_trans (List.length_filter_le _ _) (by rw [List.length_range]; exact Nat.le_refl _)
theorem set_cut {c : List Int} {k : Nat} {x : Int} (h : k < c.length) : (c.take k ++ [x]) ++ c.drop (k + 1) = c.set k x := by
  rw [List.append_assoc, List.set_eq_take_append_cons_drop, if_pos h]
  rfl
abbrev tDie (K : PySem.W.Frag) : TE := tTup (tCons (tOp (rCatA K) (tOp (rCatA K) (L2.tSl (rSlA K) (tVar 4) tNoPart (tPart (tVar 7))) (tTup (tCons (tOp rSub (tOp (rIxT K) (tVar 4) (tVar 7)) (tC (.int 1))) tNil))) (L2.tSl (rSlA K) (tVar 4) (tPart (tOp rAdd (tVar 7) (tC (.int 1)))) tNoPart)) (tCons (tVar 5) tNil))
abbrev tLiv (K : PySem.W.Frag) : TT := tTest (tOp (rI0 fun i j => .bl (decide (j < i))) (tOp (rIxT K) (tVar 4) (tVar 7)) (tC (.int 0)))
abbrev tSid (K : PySem.W.Frag) : TE := tCall (spPag K) [] E0 (tCons (tVar 0) (tCons (tVar 1) (tCons (tOp (rIxT K) (tVar 9) (tC (.int 0))) (tCons (tOp (rIxT K) (tVar 9) (tC (.int 1))) tNil))))
theorem cut2_read {t u : TS} {D : Ends} {σ : L2.St} {H : Hp} (Mid : L2.St → Hp → Prop) (h1 : t { D with nx := Mid } σ H) (h2 : ∀ σ' H', Mid σ' H' → u D σ' H') : C8.tCut t u D σ H := ⟨Mid, h1, h2⟩
/-- t != () -/
theorem neT_read {K : PySem.W.Frag} {H : Hp} {a : Addr} {xs : List Int} {Q : VK} {σ : L2.St} {ta : TE} (ha : TupI H a xs) (ht : ∀ R : VK, R (.ref a) H → ta σ H R) (k : ∀ H' : Hp, Same H H' → Q (.bl (!decide (xs = []))) H') : tOp (rNeD K) ta (tTup tNil) σ H Q := by
  refine op_read (ht _ (tup_read (nil_read ⟨by show 0 ≤ sizeLine; decide, fun e ne => ?_⟩)))
  have s1 : Same H (upd H e (.tup [])) := same_lay ne
  refine ⟨_, _, .tup (SqT.of (s1 _ _ ha)) (intsZ_dp _), .tup (SqT.of upd_same) .nil, tup_shaped _, by decide +kernel, ?_⟩
  rw [show PyData.eqv (.tuple (xs.map PyData.int)) (.tuple []) = decide (xs = []) from eqv_tup xs []]
  exact k _ s1
section
variable {K : PySem.W.Frag}
/-- [(shut less one at k, half) for k in range(len(shut)) if shut[k] > 0] -/
theorem dies_read {H : Hp} {σ : L2.St} {Q : VK} {a h : Addr} {s : Spot} {y0 y1 y2 y3 y6 y7 y8 y9 : Option V} (hσ : σ = [y0, y1, y2, y3, some (.ref a), some (.ref h), y6, y7, y8, y9]) (ha : TupI H a s.1) (hh : TupI H h s.2) (hl : s.1.length ≤ 10)
    (k : ∀ (H' : Hp) (D : Addr) (rs : List Addr), Same H H' → H D = none → H' D = some (.lst (rs.map V.ref)) → SpotsAt H' rs ((diesM s.1).map (dieAt s)) → Q (.ref D) H') : tLc (iRng1 (tCons (tCB (rLen K) (tCons (tVar 4) tNil)) tNil)) (gName 7) (tLiv K) (tDie K) [7] σ H Q := by
  subst hσ
  refine ⟨_, rfl, a, _, rfl, .inr (SqT.of ha), _, rfl, by rw [List.length_map]; omega, by rw [List.length_map]; omega, fun D hD => ?_⟩
  have e0 : (((s.1.map V.int).length : Int)).toNat = s.1.length := by rw [List.length_map]; omega
  rw [e0]
  refine lc_range (lo := 0) (n := s.1.length) (fun i H2 => Same H H2 ∧ ∃ rs : List Addr, H2 D = some (.lst (rs.map V.ref)) ∧ SpotsAt H2 rs ((diesT s.1 i).map (dieAt s))) ⟨same_lay hD, [], upd_same, .nil⟩ ?_ ?_
  · rintro j H2 hj ⟨s2, rs, q, hP⟩
    have ej : (0 : Int) + (j : Int) = (j : Int) := Int.zero_add _
    have ha2 := s2 _ _ ha
    have hh2 := s2 _ _ hh
    refine ⟨rfl, ?_⟩
    refine test_read (op_read (op_read ⟨_, rfl, _, rfl, a, _, _, _, rfl, rfl, SqT.of ha2, by rw [ej]; exact at_int hj, c_read ⟨_, _, rfl, rfl, _, rfl, ?_⟩⟩))
    by_cases c : 0 < s.1.getD j 0
    · rw [decide_eq_true c]
      refine iteT (tup_read (cons_read (op_read (op_read (sl_read ⟨_, rfl, nopart_read (part_read ⟨_, rfl, (j : Int), by show V.int (0 + (j : Int)) = _; rw [ej], sl_to (k := j) ha2 fun H3 q3 s3 h3 => ?_⟩)⟩)))))
      refine tup_read (cons_read (op_read (op_read ⟨_, rfl, _, rfl, a, _, _, _, rfl, rfl, SqT.of (s3 _ _ ha2), by rw [ej]; exact at_int hj, c_read ⟨_, _, rfl, rfl, nil_read ⟨by show 1 ≤ sizeLine; decide, fun q4 n4 => ?_⟩⟩⟩)))
      have s4 : Same H3 (upd H3 q4 (.tup [.int (s.1.getD j 0 - 1)])) := same_lay n4
      refine cat_any (xs := s.1.take j) (ys := [s.1.getD j 0 - 1]) (s4 _ _ h3) upd_same (by rw [List.length_take]; simp; omega) fun H5 q5 s5 h5 => ?_
      have ha5 := s5 _ _ (s4 _ _ (s3 _ _ ha2))
      refine sl_read ⟨_, rfl, part_read (op_read ⟨_, rfl, _, _, rfl, rfl, ((j + 1 : Nat) : Int), by show V.int (0 + (j : Int) + 1) = _; rw [ej]; rfl, nopart_read (sl_from (k := j + 1) ha5 fun H6 q6 s6 h6 => ?_)⟩)⟩
      refine cat_any (xs := s.1.take j ++ [s.1.getD j 0 - 1]) (ys := s.1.drop (j + 1)) (s6 _ _ h5) h6 (by rw [List.length_append, List.length_take, List.length_drop]; simp; omega) fun H7 q7 s7 h7 => ?_
      rw [set_cut hj] at h7
      have s27 := s3.trans (s4.trans (s5.trans (s6.trans s7)))
      refine cons_read ⟨_, rfl, nil_read ⟨by show 2 ≤ sizeLine; decide, fun q8 n8 => ?_⟩⟩
      have s8 : Same H7 (upd H7 q8 (.tup [.ref q7, .ref h])) := same_lay n8
      have hsp : SpotAt (upd H7 q8 (.tup [.ref q7, .ref h])) q8 (dieAt s j) := ⟨q7, h, upd_same, s8 _ _ h7, s8 _ _ (s27 _ _ hh2)⟩
      have s28 := s27.trans s8
      generalize upd H7 q8 (.tup [.ref q7, .ref h]) = H8 at s8 hsp s28 ⊢
      have q8' := s28 _ _ q
      refine ⟨_, q8', ?_, fun x o z => ?_, rs ++ [q8], ?_, ?_⟩
      · have := Paired.length hP
        have := diesT_len s.1 j
        rw [List.length_map] at *
        rw [sizeLine_eq]
        omega
      · rw [upd_ne (ne_of_none z hD)]
        exact s28 _ _ (s2 _ _ z)
      · rw [upd_same, List.map_append]
        rfl
      · rw [diesT_succ, if_pos c, List.map_append]
        exact paired_snoc (Paired.mapP hP fun _ _ z => (z.same s28).grow q8') (hsp.grow q8')
    · rw [decide_eq_false c]
      refine iteF ⟨s2, rs, q, ?_⟩
      rw [diesT_succ, if_neg c, List.append_nil]
      exact hP
  · rintro H2 ⟨s2, rs, q, hP⟩
    exact k H2 D rs s2 hD q hP
/-- [page(.., side[0], side[1]) for side in dead] -/
theorem sides_read {H : Hp} {σ : L2.St} {Q : VK} {sh t D0 : Addr} {b p n : Nat} {rows : List RowD} {rs : List Addr} {ds : List Spot} {y2 y3 y4 y5 y7 y8 y9 : Option V} (hσ : σ = [some (.ref sh), some (.ref t), y2, y3, y4, y5, some (.ref D0), y7, y8, y9]) (Vn : Env K H sh t b p n rows)
    (hD0 : H D0 = some (.lst (rs.map V.ref))) (hS : SpotsAt H rs ds) (hg : ∀ d ∈ ds, Good b p n d ∧ sumS d < (n : Int)) (hl : ds.length ≤ 20)
    (k : ∀ (H' : Hp) (D : Addr) (ws : List V) (fs : List (Option Spot)), Same H H' → H D = none → H' D = some (.lst ws) → Paired (FarV H') ws fs → Paired (fun d r => PageR b p n rows d r) ds fs → Q (.ref D) H') : tLc (iList K (tVar 6)) (gName 9) tYes (tSid K) [9] σ H Q := by
  subst hσ
  refine ⟨_, rfl, D0, rfl, ⟨_, SqL.of hD0⟩, fun D hD => ?_⟩
  refine lc_list (K := K) (xs := rs.map V.ref) (fun i H' => Same H H' ∧ ∃ (ws : List V) (fs : List (Option Spot)), H' D = some (.lst ws) ∧ Paired (FarV H') ws fs ∧ Paired (fun d r => PageR b p n rows d r) (ds.take i) fs) ⟨same_lay hD, [], [], upd_same, .nil, .nil⟩ (fun i H' _ z => SqL.of (z.1 _ _ hD0)) ?_ ?_
  · rintro i v H2 hi ⟨s2, ws, fs, q, hF, hP⟩
    rw [List.getElem?_map] at hi
    obtain ⟨a, ha, rfl⟩ : ∃ a, rs[i]? = some a ∧ V.ref a = v := by
      cases hq : rs[i]? with
      | none => rw [hq] at hi; cases hi
      | some a => rw [hq] at hi; exact ⟨a, rfl, Option.some.inj hi⟩
    obtain ⟨d, hd, hsp⟩ := paired_get hS ha
    obtain ⟨g1, g2⟩ := hg d (List.mem_of_getElem? hd)
    obtain ⟨a1, a2, h0, h1, h2⟩ := hsp.same s2
    have htk : ds.take (i + 1) = ds.take i ++ [d] := by rw [List.take_add_one, hd]; rfl
    have hil : i < ds.length := (List.getElem?_eq_some_iff.mp hd).1
    have hfl : ws.length ≤ 20 := by
      have e1 := Paired.length hF
      have e2 := Paired.length hP
      rw [List.length_take] at e2
      omega
    have step : ∀ (H3 : Hp) (v3 : V) (r : Option Spot), Same H2 H3 → FarV H3 v3 r → PageR b p n rows d r → ∃ acc, H3 D = some (.lst acc) ∧ acc.length < sizeLine ∧ Same H (upd H3 D (.lst (acc ++ [v3]))) ∧
        ∃ (ws : List V) (fs : List (Option Spot)), (upd H3 D (.lst (acc ++ [v3]))) D = some (.lst ws) ∧ Paired (FarV (upd H3 D (.lst (acc ++ [v3])))) ws fs ∧ Paired (fun d r => PageR b p n rows d r) (ds.take (i + 1)) fs := by
      intro H3 v3 r s3 f3 pr
      have q3 := s3 _ _ q
      refine ⟨ws, q3, by rw [sizeLine_eq]; omega, fun x o z => ?_, ws ++ [v3], fs ++ [r], upd_same, paired_snoc (Paired.mapP hF fun _ _ z => (z.same s3).grow q3) (f3.grow q3), ?_⟩
      · rw [upd_ne (ne_of_none z hD)]
        exact s3 _ _ (s2 _ _ z)
      · rw [htk]
        exact paired_snoc hP pr
    refine ⟨rfl, ?_⟩
    unfold tYes
    dsimp only
    rw [if_pos rfl]
    refine call_read (cons_read ⟨_, rfl, cons_read ⟨_, rfl, cons_read (op_read ⟨_, rfl, a, _, _, _, rfl, rfl, SqT.of h0, rfl, cons_read (op_read ⟨_, rfl, a, _, _, _, rfl, rfl, SqT.of h0, rfl, nil_read ?_⟩)⟩)⟩⟩)
    exact ⟨sh, t, a1, a2, b, p, n, rows, d, rfl, Vn.same s2, h1, h2, g1, g2, fun pr H3 s3 => step H3 .non none s3 rfl pr, fun H3 q3 s' s3 pr hs' => step H3 (.ref q3) (some s') s3 ⟨q3, rfl, hs'⟩ pr⟩
  · rintro H2 ⟨s2, ws, fs, q, hF, hP⟩
    have e : (rs.map V.ref).length = ds.length := by rw [List.length_map]; exact Paired.length hS
    rw [e, List.take_length] at hP
    exact k H2 D ws fs s2 hD q hF hP
end
end K2

set_option Elab.async false
set_option linter.all false
set_option maxRecDepth 100000
set_option maxHeartbeats 4000000
namespace K2
open PySem PySem.Spec PyProof.Rows L2 G1 G2
theorem paired_r {α β : Type} {F : α → β → Prop} : ∀ {l : List α} {m : List β}, Paired F l m → ∀ y ∈ m, ∃ x ∈ l, F x y
  | _, _, .nil, _, h => nomatch h
  | _, _, .cons r t, y, h => by
    rcases List.mem_cons.mp h with rfl | h
    · exact ⟨_, List.mem_cons_self .., r⟩
    · obtain ⟨x, hx, f⟩ := paired_r t y h
      exact ⟨x, List.mem_cons_of_mem _ hx, f⟩
theorem paired_l {α β : Type} {F : α → β → Prop} : ∀ {l : List α} {m : List β}, Paired F l m → ∀ x ∈ l, ∃ y ∈ m, F x y
  | _, _, .nil, _, h => nomatch h
  | _, _, .cons r t, x, h => by
    rcases List.mem_cons.mp h with rfl | h
    · exact ⟨_, List.mem_cons_self .., r⟩
    · obtain ⟨y, hy, f⟩ := paired_l t x h
      exact ⟨y, List.mem_cons_of_mem _ hy, f⟩
theorem paired_app {α β : Type} {F : α → β → Prop} : ∀ {l l' : List α} {m m' : List β}, Paired F l m → Paired F l' m' → Paired F (l ++ l') (m ++ m')
  | _, _, _, _, .nil, h => h
  | _, _, _, _, .cons r t, h => .cons r (paired_app t h)
theorem spots_far {H : Hp} : ∀ {rs : List Addr} {ds : List Spot}, SpotsAt H rs ds → Paired (FarV H) (rs.map V.ref) (ds.map some)
  | _, _, .nil => .nil
  | _, _, .cons r t => .cons ⟨_, rfl, r⟩ (spots_far t)
theorem dead_len {s : Spot} : (deadM s).length ≤ s.1.length + 1 := by
  unfold deadM diesM
  rw [List.length_append, List.length_map]
  have h1 : ((List.range s.1.length).filter fun k => decide (s.1.getD k 0 > 0)).length ≤ s.1.length := Nat.le_trans (List.length_filter_le _ _) (by rw [List.length_range]; exact Nat.le_refl _)
  split
  · exact Nat.add_le_add_right h1 1
  · exact Nat.le_succ_of_le h1
section
variable {P : Program} {w : World} {K : PySem.W.Frag} {mg : Str → Option Value} {base : Heap}
theorem ok_nxt {f : Addr} {fd : FuncData} (F : Fun K "_law_nexts" "_law_nexts" sNxt f fd) (B : Bl mg) (GP : FAt P w K mg base 2 "_law_page" ["_law_shape_here", "_law_table_here", "_law_shut", "_law_half"] (spPag K)) : FnOk P w K mg base CX0 3 f fd ["_law_shape_here", "_law_table_here", "_law_spot", "_law_flag"] (spNxt K) := by
  refine F.ok scNxt (fun vs H Q E h => ?_) (fun cdv A outer s0 H vs Q E hr h => ?_)
  · obtain ⟨sh, t, sp, fl, b, p, n, rows, s, rfl, _⟩ := h
    rfl
  obtain ⟨sh, t, sp, fl, b, p, n, rows, s, rfl, Vn, ⟨a, h, hsp, ha, hh⟩, hg, k⟩ := h
  obtain ⟨fP, dP, GP, kP, bP, gP⟩ := GP.ex
  refine ⟨_, pss_cons (ps_asg (pv 2) (pg_tup rfl (pgs_cons (pg_name (i := 4) scNxt.nd rfl (.inr rfl)) (pgs_cons (pg_name (i := 5) scNxt.nd rfl (.inr rfl)) pgs_nil))))
    (pss_cons (ps_setLc (i := 6) (own := [("_law_k", 7)]) (g := gName 7) (tt := tLiv K) (te := tDie K) rfl scNxt.nd rfl rfl (by rfl) (pi_range1 (by rfl) B.range (pa_cons (pe_callB call_len_seq (by rfl) B.len PySem.boot_len (pa_cons (pv 4) pa_nil)) pa_nil)) (blkOk_by (own := [("_law_k", 7)]) (N := NNxt) (sc := defScope sNxt) (by decide +kernel))
        (fun _ _ _ _ _ => pg_name (i := 7) scNxt.nd rfl (Or.inl rfl)) (fun _ _ _ _ _ => pts_one (pt_cmpR op_gt (pe_ix ix_tup (pv 4) (pv 7) (fun _ _ => rfl)) pe_int (nomark _)))
        (fun _ _ _ _ _ => pe_tup (pa_cons (pe_op op_catA (pe_op op_catA (pe_slice sl_tupA (pv 4) po_none (po_some (pv 7))) (pe_tup (pa_cons (pe_op op_sub (pe_ix ix_tup (pv 4) (pv 7) (fun _ _ => rfl)) pe_int) pa_nil))) (pe_slice sl_tupA (pv 4) (po_some (pe_op op_add (pv 7) pe_int)) po_none)) (pa_cons (pv 5) pa_nil))))
    (C8.pss_cut (ps_if (PW.pt (pw_and (pt_cmpR (op_neD hr.units) (pv 5) (pe_tup pa_nil) (nomark _)) (pw_and1 (pt_cmpR op_gt (pe_ix ix_tup (pv 5) pe_int (fun _ _ => rfl)) pe_int (nomark _)))))
        (pss_one (ps_expr (pe_bm PySem.F.plainAttrs_list PySem.F.slot_list_append PySem.F.type_list_append mt_append (pv 6) (pa_cons (pe_tup (pa_cons (pv 4) (pa_cons (pe_tup (pa_cons (pe_ix ix_tup (pv 5) pe_int (fun _ _ => rfl)) (pa_cons (pe_op op_sub (pe_ix ix_tup (pv 5) pe_int (fun _ _ => rfl)) pe_int) pa_nil))) pa_nil))) pa_nil)))) pss_nil)
    (pss_cons (ps_setLc (i := 8) (own := [("_law_side", 9)]) (g := gName 9) (tt := tYes) (te := tSid K) rfl scNxt.nd rfl rfl (by rfl) (pi_list (pv 6)) (blkOk_by (own := [("_law_side", 9)]) (N := NNxt) (sc := defScope sNxt) (by decide +kernel))
        (fun _ _ _ _ _ => pg_name (i := 9) scNxt.nd rfl (Or.inl rfl)) (fun _ _ _ _ _ => pts_nil)
        (fun _ _ _ _ _ => pe_call GP hr (by rfl) gP kP bP .nil pass0 (pa_cons (pv 0) (pa_cons (pv 1) (pa_cons (pe_ix ix_tup (pv 9) pe_int (fun _ _ => rfl)) (pa_cons (pe_ix ix_tup (pv 9) pe_int (fun _ _ => rfl)) pa_nil))))))
    (C8.pss_cut (ps_if (pt_cmpR op_lt (pe_op op_add (pe_callB (cr_sumT rfl) (by rfl) B.sum bSum (pa_cons (pv 4) pa_nil)) (pe_callB (cr_sumT rfl) (by rfl) B.sum bSum (pa_cons (pe_slice sl_tupA (pv 5) (po_some pe_int) po_none) pa_nil))) (pe_ix ix_tup (pv 0) pe_int (fun _ _ => rfl)) (nomark _))
        (pss_one (ps_expr (pe_bm PySem.F.plainAttrs_list PySem.F.slot_list_append PySem.F.type_list_append mt_append (pv 8) (pa_cons (pe_call GP hr (by rfl) gP kP bP .nil pass0 (pa_cons (pv 0) (pa_cons (pv 1) (pa_cons (pv 4) (pa_cons (pv 5) pa_nil))))) pa_nil)))) pss_nil)
    (pss_one (ps_ret (pe_ifExp (pt_val (pv 3)) (pe_op op_cat (pv 8) (pv 6)) (pv 8)))))))), ?_⟩
  have hz := Vn.shp.sz
  have b0 := hz.b0
  have b1 := hz.b1
  have p0 := hz.p0
  have hlen := hg.len
  refine ⟨_, rfl, sp, _, rfl, SqT.of hsp, rfl, _, _, rfl, _, _, rfl, rfl, ?_⟩
  dsimp only
  refine seq_asg (dies_read (K := K) (s := s) rfl ha hh (by omega) fun H1 D rs s1 nD hD hS => ?_)
  have ha1 := s1 _ _ ha
  have hh1 := s1 _ _ hh
  refine cut2_read (fun σ' H' => ∃ rs : List Addr, σ' = [some (.ref sh), some (.ref t), some (.ref sp), some (.bl fl), some (.ref a), some (.ref h), some (.ref D), none, none, none] ∧ Same H H' ∧ H' D = some (.lst (rs.map V.ref)) ∧ SpotsAt H' rs (deadM s)) ?_ ?_
  · refine one_if (and_read (test_read (neT_read (a := h) (xs := s.2) hh1 (fun R r => ⟨_, rfl, r⟩) fun H2 s2 => ⟨_, rfl, ?_⟩)))
    have S2 : SpotsAt H2 rs ((diesM s.1).map (dieAt s)) := Paired.mapP hS fun _ _ z => z.same s2
    have hh2 := s2 _ _ hh1
    have hD2 := s2 _ _ hD
    have ha2 := s2 _ _ ha1
    rcases hg.half with e | ⟨wl, l, e, l0, l1, l2, _⟩
    · rw [decide_eq_true e]
      refine iteF (iteF ⟨rs, rfl, s1.trans s2, hD2, ?_⟩)
      unfold deadM
      rw [if_neg (fun z => z.1 e), List.append_nil]
      exact S2
    · rw [decide_eq_false (by rw [e]; intro z; cases z)]
      rw [e] at hh2
      refine iteT (test_read (op_read (op_read ⟨_, rfl, h, _, _, _, rfl, rfl, SqT.of hh2, rfl, c_read ⟨_, _, rfl, rfl, _, rfl, ?_⟩⟩)))
      by_cases c : 0 < l
      · rw [decide_eq_true c]
        refine iteT ?_
        refine ⟨_, rfl, .inl ⟨rfl, _, SqL.of hD2⟩, cons_read (tup_read (cons_read ⟨_, rfl, cons_read (tup_read (cons_read (op_read ?_)))⟩))⟩
        refine ⟨_, rfl, h, _, _, _, rfl, rfl, SqT.of hh2, rfl, cons_read (op_read (op_read ?_))⟩
        refine ⟨_, rfl, h, _, _, _, rfl, rfl, SqT.of hh2, rfl, c_read ⟨_, _, rfl, rfl, nil_read ⟨by show 2 ≤ sizeLine; decide, fun q3 n3 => ?_⟩⟩⟩
        have s3 : Same H2 (upd H2 q3 (.tup [.int wl, .int (l - 1)])) := same_lay n3
        have h3 : (upd H2 q3 (.tup [.int wl, .int (l - 1)])) q3 = some (.tup [.int wl, .int (l - 1)]) := upd_same
        generalize upd H2 q3 (.tup [.int wl, .int (l - 1)]) = H3 at s3 h3 ⊢
        refine nil_read ⟨by show 2 ≤ sizeLine; decide, fun q4 n4 => nil_read ?_⟩
        have s4 : Same H3 (upd H3 q4 (.tup [.ref a, .ref q3])) := same_lay n4
        have hsp4 : SpotAt (upd H3 q4 (.tup [.ref a, .ref q3])) q4 (s.1, [wl, l - 1]) := ⟨a, q3, upd_same, s4 _ _ (s3 _ _ ha2), s4 _ _ h3⟩
        generalize upd H3 q4 (.tup [.ref a, .ref q3]) = H4 at s4 hsp4 ⊢
        have s24 := s3.trans s4
        have hD4 := s24 _ _ hD2
        refine ⟨D, _, _, rfl, rfl, hD4, ?_, rs ++ [q4], rfl, fun x o z => ?_, ?_, ?_⟩
        · have e1 := Paired.length S2
          have e2 := diesT_len s.1 s.1.length
          have e3 : diesM s.1 = diesT s.1 s.1.length := rfl
          rw [List.length_map, e3] at e1
          rw [List.length_map, sizeLine_eq]
          omega
        · rw [upd_ne (ne_of_none z nD)]
          exact s24 _ _ (s2 _ _ (s1 _ _ z))
        · rw [upd_same, List.map_append]
          rfl
        · unfold deadM
          rw [if_pos ⟨(by rw [e]; intro z; cases z), (by rw [e]; exact c)⟩, e]
          exact paired_snoc (Paired.mapP S2 fun _ _ z => (z.same s24).grow hD4) (hsp4.grow hD4)
      · rw [decide_eq_false c]
        refine iteF ⟨rs, rfl, s1.trans s2, hD2, ?_⟩
        unfold deadM
        rw [if_neg (fun z => c (by have := z.2; rw [e] at this; exact this)), List.append_nil]
        exact S2
  rintro σ H2 ⟨rs2, rfl, s2, hD2, S2⟩
  refine seq_asg (sides_read (K := K) rfl (Vn.same s2) hD2 S2 (fun d hd => ⟨(dead_good hg hd).1, (dead_good hg hd).2.1⟩) (by have := dead_len (s := s); omega) fun H3 L ws fs s3 nL hL hF hP => ?_)
  have s23 := s2.trans s3
  have nL0 : H L = none := s2.free nL
  have V3 := Vn.same s23
  have hD3 := s3 _ _ hD2
  have S3 : SpotsAt H3 rs2 (deadM s) := Paired.mapP S2 fun _ _ z => z.same s3
  have ha3 := s23 _ _ ha
  have hh3 := s23 _ _ hh
  have nLD : D ≠ L := ne_of_none hD2 nL
  refine cut2_read (fun σ' H' => ∃ (ws more : List V) (fs mo : List (Option Spot)), σ' = [some (.ref sh), some (.ref t), some (.ref sp), some (.bl fl), some (.ref a), some (.ref h), some (.ref D), none, some (.ref L), none] ∧ Same H H' ∧ H' D = some (.lst (rs2.map V.ref)) ∧ SpotsAt H' rs2 (deadM s) ∧ H' L = some (.lst (ws ++ more)) ∧ Paired (FarV H') (ws ++ more) (fs ++ mo) ∧ Paired (fun d r => PageR b p n rows d r) (deadM s) fs ∧
      ((sumS s < (n : Int) ∧ ∃ r, PageR b p n rows s r ∧ mo = [r]) ∨ (¬ sumS s < (n : Int) ∧ mo = []))) ?_ ?_
  · refine one_if (test_read (op_read (op_read (cb_read (cons_read ⟨_, rfl, nil_read ⟨a, _, rfl, SqT.of ha3, ?_⟩⟩)))))
    refine cb_read (cons_read (sl_read ⟨_, rfl, part_read (c_read ⟨((1 : Nat) : Int), rfl, nopart_read (sl_from (k := 1) hh3 fun H4 q4 s4 h4 => ?_)⟩)⟩))
    have s24 := s23.trans s4
    have hL4 := s4 _ _ hL
    refine nil_read ⟨q4, _, rfl, SqT.of h4, _, _, rfl, rfl, op_read ⟨_, rfl, sh, _, _, _, rfl, rfl, (V3.same s4).at_, rfl, _, _, rfl, rfl, _, rfl, ?_⟩⟩
    show (if decide (sumS s < (n : Int)) = true then _ else _)
    have F4 : Paired (FarV H4) ws fs := Paired.mapP hF fun _ _ z => z.same s4
    by_cases c : sumS s < (n : Int)
    · rw [decide_eq_true c]
      refine iteT ?_
      have step : ∀ (H5 : Hp) (v5 : V) (r : Option Spot), Same H4 H5 → FarV H5 v5 r → PageR b p n rows s r → ∃ (l : Addr) (xs : List V) (y : V), V.ref L = .ref l ∧ [v5] = [y] ∧ H5 l = some (.lst xs) ∧ xs.length < sizeLine ∧
          ∃ (ws more : List V) (fs mo : List (Option Spot)), [some (V.ref sh), some (.ref t), some (.ref sp), some (.bl fl), some (.ref a), some (.ref h), some (.ref D), none, some (.ref L), none] = [some (V.ref sh), some (.ref t), some (.ref sp), some (.bl fl), some (.ref a), some (.ref h), some (.ref D), none, some (.ref L), none] ∧ Same H (upd H5 l (.lst (xs ++ [y]))) ∧ (upd H5 l (.lst (xs ++ [y]))) D = some (.lst (rs2.map V.ref)) ∧ SpotsAt (upd H5 l (.lst (xs ++ [y]))) rs2 (deadM s) ∧ (upd H5 l (.lst (xs ++ [y]))) L = some (.lst (ws ++ more)) ∧ Paired (FarV (upd H5 l (.lst (xs ++ [y])))) (ws ++ more) (fs ++ mo) ∧ Paired (fun d r => PageR b p n rows d r) (deadM s) fs ∧
            ((sumS s < (n : Int) ∧ ∃ r, PageR b p n rows s r ∧ mo = [r]) ∨ (¬ sumS s < (n : Int) ∧ mo = [])) := by
        intro H5 v5 r s5 f5 pr
        have hL5 := s5 _ _ hL4
        have s35 := s4.trans s5
        have hwl : ws.length < sizeLine := by
          have e1 := Paired.length hF
          have e2 := Paired.length hP
          have e3 := dead_len (s := s)
          rw [sizeLine_eq]
          omega
        refine ⟨L, ws, v5, rfl, rfl, hL5, hwl, ws, [v5], fs, [r], rfl, fun x o z => ?_, ?_, Paired.mapP S3 fun _ _ z => (z.same s35).grow hL5, upd_same, paired_snoc (Paired.mapP F4 fun _ _ z => (z.same s5).grow hL5) (f5.grow hL5), hP, .inl ⟨c, r, pr, rfl⟩⟩
        · rw [upd_ne (ne_of_none z nL0)]
          exact s5 _ _ (s24 _ _ z)
        · rw [upd_ne nLD]
          exact s35 _ _ hD3
      refine ⟨_, rfl, .inl ⟨rfl, _, SqL.of hL4⟩, cons_read (call_read (cons_read ⟨_, rfl, cons_read ⟨_, rfl, cons_read ⟨_, rfl, cons_read ⟨_, rfl, nil_read ?_⟩⟩⟩⟩))⟩
      refine ⟨sh, t, a, h, b, p, n, rows, s, rfl, V3.same s4, s4 _ _ ha3, s4 _ _ hh3, hg, c, fun pr H5 s5 => nil_read (step H5 .non none s5 rfl pr), fun H5 q5 s' s5 pr hs' => nil_read (step H5 (.ref q5) (some s') s5 ⟨q5, rfl, hs'⟩ pr)⟩
    · rw [decide_eq_false c]
      exact iteF ⟨ws, [], fs, [], rfl, s24, s4 _ _ hD3, Paired.mapP S3 fun _ _ z => z.same s4, by rw [List.append_nil]; exact hL4, by rw [List.append_nil, List.append_nil]; exact F4, hP, .inr ⟨c, rfl⟩⟩
  rintro σ H4 ⟨ws4, more, fs4, mo, rfl, s4, hD4, S4, hL4, F4, P4, hm⟩
  have nx := nx_of (flag := fl) p0 b0 hg (paired_r P4) (paired_l P4) hm
  refine ret_read (ifx_read (test_read ⟨_, rfl, fl, rfl, ?_⟩))
  cases fl with
  | true =>
    refine iteT (op_read ⟨_, rfl, _, rfl, L, D, _, _, rfl, rfl, hL4, hD4, ?_, fun q5 n5 => ?_⟩)
    · have e1 := Paired.length F4
      have e2 := Paired.length P4
      have e3 := dead_len (s := s)
      have e4 := Paired.length S4
      have e5 : mo.length ≤ 1 := by
        rcases hm with ⟨_, r, _, e⟩ | ⟨_, e⟩ <;> rw [e] <;> simp
      have e6 : (fs4 ++ mo).length = fs4.length + mo.length := List.length_append
      rw [List.length_map, sizeLine_eq]
      omega
    · have s5 : Same H4 (upd H4 q5 (.lst ((ws4 ++ more) ++ rs2.map V.ref))) := same_lay n5
      refine k _ q5 _ _ (s4.trans s5) (s4.free n5) upd_same (paired_app (Paired.mapP F4 fun _ _ z => z.same s5) (spots_far (Paired.mapP S4 fun _ _ z => z.same s5))) ?_
      rw [if_pos rfl] at nx
      exact nx
  | false =>
    refine iteF ⟨_, rfl, k H4 L _ _ s4 nL0 hL4 F4 ?_⟩
    rw [if_neg (by decide), List.append_nil] at nx
    exact nx
end
end K2

set_option Elab.async false
set_option linter.all false
set_option maxRecDepth 100000
set_option maxHeartbeats 4000000
namespace K2
open PySem PySem.Spec PyProof.Rows L2 G1 G2
/-! ### the walk's state -/
theorem val_of {kvs : List (Spot × Addr × V)} {s : Spot} : ∀ {kvs : List (Spot × Addr × V)}, s ∈ kvs.map (·.1) → ∃ v, valN kvs s = some v ∧ ∃ e ∈ kvs, e.2.2 = v
  | [], h => nomatch h
  | e :: kvs, h => by
    unfold valN
    rw [List.find?_cons]
    by_cases c : e.1 = s
    · rw [decide_eq_true c]
      exact ⟨e.2.2, rfl, e, List.mem_cons_self .., rfl⟩
    · rw [decide_eq_false c]
      have hm : s ∈ kvs.map (·.1) := by
        rw [List.map_cons] at h
        rcases List.mem_cons.mp h with z | z
        · exact absurd z.symm c
        · exact z
      obtain ⟨v, hv, e', he', h2⟩ := val_of (kvs := []) hm
      exact ⟨v, hv, e', List.mem_cons_of_mem _ he', h2⟩
theorem val_not {s : Spot} : ∀ {kvs : List (Spot × Addr × V)}, s ∉ kvs.map (·.1) → valN kvs s = none
  | [], _ => rfl
  | e :: kvs, h => by
    rw [List.map_cons] at h
    unfold valN
    rw [List.find?_cons, decide_eq_false (fun z => h (by rw [← z]; exact List.mem_cons_self ..))]
    exact val_not (kvs := kvs) fun z => h (List.mem_cons_of_mem _ z)
section
variable {P : Program} {w : World} {H : Hp} {a d : Addr} {s : Spot} {o : HO} {kvs : List (Spot × Addr × V)}
theorem tup_ext {xs : List V} (h : H a = some (.tup xs)) (hd : H d = some (DNx P w d kvs)) : a ≠ d := ne_of h hd (by intro z; cases z)
theorem lst_ext {xs : List V} (h : H a = some (.lst xs)) (hd : H d = some (DNx P w d kvs)) : a ≠ d := ne_of h hd (by intro z; cases z)
theorem SpotAt.growD (h : SpotAt H a s) (hd : H d = some (DNx P w d kvs)) : SpotAt (upd H d o) a s := by
  obtain ⟨a1, a2, h0, h1, h2⟩ := h
  exact ⟨a1, a2, by rw [upd_ne (tup_ext h0 hd)]; exact h0, by rw [upd_ne (tup_ext h1 hd)]; exact h1, by rw [upd_ne (tup_ext h2 hd)]; exact h2⟩
theorem FarV.growD {v : V} {s : Option Spot} (h : FarV H v s) (hd : H d = some (DNx P w d kvs)) : FarV (upd H d o) v s := by
  cases s with
  | none => exact h
  | some s =>
    obtain ⟨a, ea, h⟩ := h
    exact ⟨a, ea, h.growD hd⟩
end
structure WSt (P : Program) (w : World) (b p n : Nat) (H0 H : Hp) (Kd Qa : Addr) (rs : List Addr) (qs : List Spot) (kvs : List (Spot × Addr × V)) : Prop where
  same : Same H0 H
  kd : H Kd = some (DNx P w Kd kvs)
  qa : H Qa = some (.lst (rs.map V.ref))
  sp : SpotsAt H rs qs
  key : KeysAt H kvs
  keys : kvs.map (·.1) = qs
  vals : ∀ e ∈ kvs, ∃ i : Int, e.2.2 = V.int i
  nd : qs.Nodup
  gd : ∀ s ∈ qs, Good b p n s
section
variable {P : Program} {w : World} {b p n : Nat} {H0 H H' : Hp} {Kd Qa : Addr} {rs : List Addr} {qs : List Spot} {kvs : List (Spot × Addr × V)}
theorem WSt.ext (W : WSt P w b p n H0 H Kd Qa rs qs kvs) (s : Same H H') : WSt P w b p n H0 H' Kd Qa rs qs kvs :=
  ⟨W.same.trans s, s _ _ W.kd, s _ _ W.qa, Paired.mapP W.sp fun _ _ z => z.same s, W.key.same s, W.keys, W.vals, W.nd, W.gd⟩
theorem WSt.few (hb : 3 ≤ b) (hU : (allM b p).length ≤ 5000) (W : WSt P w b p n H0 H Kd Qa rs qs kvs) : qs.length ≤ 5000 ∧ kvs.length = qs.length ∧ rs.length = qs.length := by
  have h1 := nodup_le _ _ W.nd fun s hs => mem_all hb (W.gd s hs)
  refine ⟨by omega, ?_, Paired.length W.sp⟩
  rw [← W.keys, List.length_map]
theorem WSt.val (W : WSt P w b p n H0 H Kd Qa rs qs kvs) {s : Spot} (hs : s ∈ qs) : ∃ i : Int, valN kvs s = some (.int i) := by
  rw [← W.keys] at hs
  obtain ⟨v, hv, e, he, ev⟩ := val_of (kvs := []) hs
  obtain ⟨i, hi⟩ := W.vals e he
  exact ⟨i, by rw [hv, ← ev, hi]⟩
theorem WSt.no (W : WSt P w b p n H0 H Kd Qa rs qs kvs) {s : Spot} : (valN kvs s).isSome = decide (s ∈ qs) := by
  by_cases hs : s ∈ qs
  · obtain ⟨i, e⟩ := W.val hs
    rw [e, decide_eq_true hs]
    rfl
  · rw [decide_eq_false hs, val_not (by rw [W.keys]; exact hs)]
    rfl
/-- one more stand is known -/
theorem WSt.push (W : WSt P w b p n H0 H Kd Qa rs qs kvs) (nK : H0 Kd = none) (nQ : H0 Qa = none) {a : Addr} {s : Spot} {i : Int} (ha : SpotAt H a s) (hs : s ∉ qs) (hg : Good b p n s) :
    WSt P w b p n H0 (upd (upd H Kd (DNx P w Kd (kvs ++ [(s, a, .int i)]))) Qa (.lst (rs.map V.ref ++ [.ref a]))) Kd Qa (rs ++ [a]) (qs ++ [s]) (kvs ++ [(s, a, .int i)]) := by
  have nKQ : Qa ≠ Kd := lst_ext W.qa W.kd
  have hq : (upd H Kd (DNx P w Kd (kvs ++ [(s, a, .int i)]))) Qa = some (.lst (rs.map V.ref)) := by rw [upd_ne nKQ]; exact W.qa
  refine ⟨fun x o z => ?_, ?_, ?_, ?_, fun e he => ?_, ?_, fun e he => ?_, ?_, fun t ht => ?_⟩
  · rw [upd_ne (ne_of_none z nQ), upd_ne (ne_of_none z nK)]
    exact W.same _ _ z
  · rw [upd_ne (Ne.symm nKQ), upd_same]
  · rw [upd_same, List.map_append]
    rfl
  · exact paired_snoc (Paired.mapP W.sp fun _ _ z => (z.growD W.kd).grow hq) ((ha.growD W.kd).grow hq)
  · rcases List.mem_append.mp he with he | he
    · exact ((W.key e he).growD W.kd).grow hq
    · rw [List.mem_singleton.mp he]
      exact (ha.growD W.kd).grow hq
  · rw [List.map_append, W.keys]
    rfl
  · rcases List.mem_append.mp he with he | he
    · exact W.vals e he
    · rw [List.mem_singleton.mp he]
      exact ⟨i, rfl⟩
  · rw [List.nodup_append]
    refine ⟨W.nd, List.nodup_cons.mpr ⟨fun z => (nomatch z), List.nodup_nil⟩, fun x hx y hy => ?_⟩
    rw [List.mem_singleton.mp hy]
    exact fun e => hs (e ▸ hx)
  · rcases List.mem_append.mp ht with ht | ht
    · exact W.gd t ht
    · rw [List.mem_singleton.mp ht]
      exact hg
end
/-- the first stands of the queue have been looked at -/
def Seen (b p n : Nat) (rows : List RowD) (qs : List Spot) (i : Nat) (sb : Bool) : Prop := ∀ j, j < i → ∀ s, qs[j]? = some s → ∃ os, NxOk b p n rows s os ∧ (∀ s', some s' ∈ os → s' ∈ qs) ∧ (none ∈ os → sb = true)
theorem Seen.more {b p n : Nat} {rows : List RowD} {qs qs' : List Spot} {i : Nat} {sb sb' : Bool} (h : Seen b p n rows qs i sb) (hi : i ≤ qs.length) (hp : qs <+: qs') (hs : sb = true → sb' = true) : Seen b p n rows qs' i sb' := by
  intro j hj s e
  obtain ⟨t, rfl⟩ := hp
  rw [List.getElem?_append_left (by omega)] at e
  obtain ⟨os, h1, h2, h3⟩ := h j hj s e
  exact ⟨os, h1, fun s' hs' => List.mem_append_left _ (h2 s' hs'), fun z => hs (h3 z)⟩
/-- what the walk tells -/
theorem seen_all {b p n : Nat} {rows : List RowD} {qs : List Spot} {i : Nat} {sb : Bool} (hb : 3 ≤ b) (hp : 2 ≤ p) (hn : n ≤ p * (b - 1)) (R : Rls p rows) (h : Seen b p n rows qs i sb) (hi : qs.length ≤ i) (h0 : (([], []) : Spot) ∈ qs) (hs : sb = true → (stkM b p n rows).isSome = true) : (stkM b p n rows).isSome = sb := by
  cases sb with
  | true => exact hs rfl
  | false =>
    have hat : ∀ s, s ∈ qs → ∃ os, NxOk b p n rows s os ∧ (∀ s', some s' ∈ os → s' ∈ qs) ∧ none ∉ os := fun s hs => by
      obtain ⟨j, hj, e⟩ := List.getElem_of_mem hs
      obtain ⟨os, h1, h2, h3⟩ := h j (by omega) s (by rw [List.getElem?_eq_getElem hj, e])
      exact ⟨os, h1, h2, fun z => by cases h3 z⟩
    have W : Way b p n rows (· ∈ qs) := by
      refine ⟨fun s hs h1 h2 => ?_, fun s hs d hd hc => ?_, fun s hs d hd hc st => ?_⟩
      · obtain ⟨os, a1, a2, _⟩ := hat s hs
        exact a2 _ (a1.add h1 h2)
      · obtain ⟨os, a1, a2, _⟩ := hat s hs
        exact a2 _ (a1.die d hd hc)
      · obtain ⟨os, a1, _, a3⟩ := hat s hs
        exact a3 (a1.stop d hd hc st)
    have box := tak_box p rows 0 (by omega) (by omega) R.ok
    cases hq : (stkM b p n rows).isSome with
    | false => rfl
    | true => exact (way_end hb hp hn W h0 box.1 box.2 hq).elim
end K2

set_option Elab.async false
set_option linter.all false
set_option maxRecDepth 100000
set_option maxHeartbeats 4000000
namespace K2
open PySem PySem.Spec PyProof.Rows L2 G1 G2
abbrev sWlk : Stmt := topS 60
abbrev NWlk : List Str := ["_law_shape_here", "_law_table_here", "_law_flag", "_law_start", "_law_known", "_law_queue", "_law_stuck", "_law_at", "_law_spot", "_law_far"]
theorem scWlk : FnScope NWlk ["_law_shape_here", "_law_table_here", "_law_flag"] (defScope sWlk) := ⟨rfl, rfl, rfl, by decide +kernel, rfl, by decide +kernel, by decide +kernel⟩
def spWlk (K : PySem.W.Frag) : Sp := fun vs H Q _ => ∃ (sh t : Addr) (fl : Bool) (b p n : Nat) (rows : List RowD), vs = [.ref sh, .ref t, .bl fl] ∧ Env K H sh t b p n rows ∧
  ∀ (H' : Hp) (q d : Addr) (v : V), Same H H' → H' q = some (.tup [.ref d, v]) → ((stkM b p n rows).isSome = false → v = .non) → ((stkM b p n rows).isSome = true → ∃ i : Int, v = .int i) → Q (.ref q) H'
/-- None, or a number -/
def StV (v : V) (sb : Bool) : Prop := (sb = false ∧ v = .non) ∨ (sb = true ∧ ∃ i : Int, v = .int i)
def WlkW (P : Program) (w : World) (b p n : Nat) (rows : List RowD) (H0 : Hp) (sh t st Kd Qa : Addr) (fl : Bool) (m : Nat) (σ : L2.St) (H : Hp) : Prop :=
  ∃ (rs : List Addr) (qs : List Spot) (kvs : List (Spot × Addr × V)) (sv : V) (sb : Bool) (i : Nat) (x8 x9 : Option V), σ = [some (.ref sh), some (.ref t), some (.bl fl), some (.ref st), some (.ref Kd), some (.ref Qa), some sv, some (.int (i : Int)), x8, x9] ∧ WSt P w b p n H0 H Kd Qa rs qs kvs ∧ StV sv sb ∧ (sb = true → (stkM b p n rows).isSome = true) ∧
    (([], []) : Spot) ∈ qs ∧ Seen b p n rows qs i sb ∧ i ≤ qs.length ∧ m = 5001 - i
section
variable {P : Program} {w : World} {K : PySem.W.Frag} {mg : Str → Option Value} {base : Heap}
theorem disp_read {tk tv : TE} {σ : L2.St} {H : Hp} {Q : VK} (h : ∀ p, H p = none → tk σ (upd H p (DNx P w p [])) fun x H1 => tv σ H1 fun v H2 => ∃ (b : Addr) (s : Spot), x = .ref b ∧ SpotAt H2 b s ∧ H2 p = some (DNx P w p []) ∧ Q (.ref p) (upd H2 p (DNx P w p [(s, b, v)]))) : tDispN P w tk tv σ H Q := h
theorem getN_read {td ty : TE} {σ : L2.St} {H : Hp} {Q : VK} (h : td σ H fun x H1 => ty σ H1 fun y H2 => ∃ (b d : Addr) (s : Spot) (kvs : List (Spot × Addr × V)) (v : V), x = .ref d ∧ y = .ref b ∧ SpotAt H2 b s ∧ H2 d = some (DNx P w d kvs) ∧ KeysAt H2 kvs ∧ valN kvs s = some v ∧ Q v H2) : tGetN P w td ty σ H Q := h
/-- within a look at one stand -/
def WlkV (P : Program) (w : World) (b p n : Nat) (rows : List RowD) (H0 : Hp) (sh t st Kd Qa : Addr) (fl : Bool) (i : Nat) (a l : Addr) (s : Spot) (qs : List Spot) (sb : Bool) (ws : List V) (os : List (Option Spot)) (j : Nat) (σ : L2.St) (H : Hp) : Prop :=
  ∃ (rs : List Addr) (qs' : List Spot) (kvs : List (Spot × Addr × V)) (sv : V) (sb' : Bool) (x9 : Option V), σ = [some (.ref sh), some (.ref t), some (.bl fl), some (.ref st), some (.ref Kd), some (.ref Qa), some sv, some (.int (i : Int)), some (.ref a), x9] ∧ WSt P w b p n H0 H Kd Qa rs qs' kvs ∧ StV sv sb' ∧ (sb' = true → (stkM b p n rows).isSome = true) ∧
    qs <+: qs' ∧ (sb = true → sb' = true) ∧ (∀ j', j' < j → ∀ r, os[j']? = some r → (∀ s', r = some s' → s' ∈ qs') ∧ (r = none → sb' = true)) ∧ H l = some (.lst ws) ∧ Paired (FarV H) ws os ∧ SpotAt H a s
theorem ok_wlk {f : Addr} {fd : FuncData} (F : Fun K "_law_walk" "_law_walk" sWlk f fd) (B : Bl mg) (GN : FAt P w K mg base 3 "_law_nexts" ["_law_shape_here", "_law_table_here", "_law_spot", "_law_flag"] (spNxt K)) : FnOk P w K mg base CX0 4 f fd ["_law_shape_here", "_law_table_here", "_law_flag"] (spWlk K) := by
  refine F.ok scWlk (fun vs H Q E h => ?_) (fun cdv A outer s0 H vs Q E hr h => ?_)
  · obtain ⟨sh, t, fl, b, p, n, rows, rfl, _⟩ := h
    rfl
  obtain ⟨sh, t, fl, b, p, n, rows, rfl, Vn, k⟩ := h
  obtain ⟨fN, dN, GN, kN, bN, gN⟩ := GN.ex
  refine ⟨_, pss_cons (ps_set (i := 3) scWlk.nd rfl (.inl rfl) (pe_tup (pa_cons (pe_tup pa_nil) (pa_cons (pe_tup pa_nil) pa_nil))))
    (pss_cons (ps_asg (pe_tup (pa_cons (pe_dispN hr.units (pv 3) pe_int) (pa_cons (pe_lst (pa_cons (pv 3) pa_nil)) (pa_cons pe_non (pa_cons pe_int pa_nil))))) (pg_tup rfl (pgs_cons (pg_name (i := 4) scWlk.nd rfl (.inl rfl)) (pgs_cons (pg_name (i := 5) scWlk.nd rfl (.inl rfl)) (pgs_cons (pg_name (i := 6) scWlk.nd rfl (.inl rfl)) (pgs_cons (pg_name (i := 7) scWlk.nd rfl (.inl rfl)) pgs_nil))))))
    (pss_cons (ps_while PassesOwn.never (pt_cmpR op_lt (pv 7) (pe_callB call_len_seq (by rfl) B.len PySem.boot_len (pa_cons (pv 5) pa_nil)) (nomark _))
      (pss_cons (ps_set (i := 8) scWlk.nd rfl (.inl rfl) (pe_ix ix_list (pv 5) (pv 7) (fun _ _ => rfl)))
      (pss_cons (ps_for PassesOwn.never rfl (pi_list (pe_call GN hr (by rfl) gN kN bN .nil pass0 (pa_cons (pv 0) (pa_cons (pv 1) (pa_cons (pv 8) (pa_cons (pv 2) pa_nil)))))) (pg_name (i := 9) scWlk.nd rfl (.inl rfl))
        (C8.pss_cut (ps_if (PW.pt (pw_and (pt_cmpR op_isN (pv 9) pe_non (nomark _)) (pw_and1 (pt_cmpR op_isN (pv 6) pe_non (nomark _))))) (pss_one (ps_set (i := 6) scWlk.nd rfl (.inl rfl) (pe_getN hr.units (pv 4) (pv 8) (fun _ _ => rfl)))) pss_nil)
        (pss_one (ps_if (PW.pt (pw_and (pt_cmpR op_notN (pv 9) pe_non (nomark _)) (pw_and1 (pt_cmpR (op_notInN hr.units) (pv 9) (pv 4) (by rfl)))))
          (pss_cons (ps_asg (pe_op op_add (pe_getN hr.units (pv 4) (pv 8) (fun _ _ => rfl)) pe_int) (pg_sub (pv 4) (pv 9) (set_N hr.units)))
          (pss_one (ps_expr (pe_bm PySem.F.plainAttrs_list PySem.F.slot_list_append PySem.F.type_list_append mt_append (pv 5) (pa_cons (pv 9) pa_nil))))) pss_nil))))
      (pss_one (ps_set (i := 7) scWlk.nd rfl (.inl rfl) (pe_op op_add (pv 7) pe_int))))))
    (pss_one (ps_ret (pe_tup (pa_cons (pv 4) (pa_cons (pv 6) pa_nil))))))), ?_⟩
  have hz := Vn.shp.sz
  have b0 := hz.b0
  have b1 := hz.b1
  have p0 := hz.p0
  have hn := hz.n1
  have hU := all_few (b, p) Vn.shp.1
  dsimp only at hU
  refine seq_asg (tup_read (cons_read (tup_read (nil_read ⟨by show 0 ≤ sizeLine; decide, fun q1 n1 => ?_⟩))))
  have s1 : Same H (upd H q1 (.tup [])) := same_lay n1
  have h1 : (upd H q1 (.tup [])) q1 = some (.tup []) := upd_same
  generalize upd H q1 (.tup []) = H1 at s1 h1 ⊢
  refine cons_read (tup_read (nil_read ⟨by show 0 ≤ sizeLine; decide, fun q2 n2 => ?_⟩))
  have s2 : Same H1 (upd H1 q2 (.tup [])) := same_lay n2
  have h2 : (upd H1 q2 (.tup [])) q2 = some (.tup []) := upd_same
  generalize upd H1 q2 (.tup []) = H2 at s2 h2 ⊢
  refine nil_read ⟨by show 2 ≤ sizeLine; decide, fun q3 n3 => ?_⟩
  have s3 : Same H2 (upd H2 q3 (.tup [.ref q1, .ref q2])) := same_lay n3
  have h3 : SpotAt (upd H2 q3 (.tup [.ref q1, .ref q2])) q3 ([], []) := ⟨q1, q2, upd_same, s3 _ _ (s2 _ _ h1), s3 _ _ h2⟩
  have s13 := s1.trans (s2.trans s3)
  generalize upd H2 q3 (.tup [.ref q1, .ref q2]) = H3 at s3 h3 s13 ⊢
  refine seq_asg (tup_read (cons_read (disp_read (P := P) (w := w) fun Kd nK => ⟨_, rfl, c_read ⟨q3, ([], []), rfl, h3.same (same_lay nK), upd_same, ?_⟩⟩)))
  rw [upd_upd]
  have s4 : Same H3 (upd H3 Kd (DNx P w Kd [(([], []), q3, .int 0)])) := same_lay nK
  have hK4 : (upd H3 Kd (DNx P w Kd [(([], []), q3, .int 0)])) Kd = some (DNx P w Kd [(([], []), q3, .int 0)]) := upd_same
  have nK0 : H Kd = none := s13.free nK
  generalize upd H3 Kd (DNx P w Kd [(([], []), q3, .int 0)]) = H4 at s4 hK4 ⊢
  refine cons_read (lst_read (cons_read ⟨_, rfl, nil_read ⟨by show 1 ≤ sizeLine; decide, fun Qa nQ => ?_⟩⟩))
  have s5 : Same H4 (upd H4 Qa (.lst [.ref q3])) := same_lay nQ
  have hQ5 : (upd H4 Qa (.lst [.ref q3])) Qa = some (.lst ([q3].map V.ref)) := upd_same
  have nQ0 : H Qa = none := s13.free (s4.free nQ)
  generalize upd H4 Qa (.lst [.ref q3]) = H5 at s5 hQ5 ⊢
  refine cons_read (c_read (cons_read (c_read (nil_read ⟨by show 4 ≤ sizeLine; decide, fun T nT => ?_⟩))))
  have s6 : Same H5 (upd H5 T (.tup [.ref Kd, .ref Qa, .non, .int 0])) := same_lay nT
  have h6 : (upd H5 T (.tup [.ref Kd, .ref Qa, .non, .int 0])) T = some (.tup [.ref Kd, .ref Qa, .non, .int 0]) := upd_same
  generalize upd H5 T (.tup [.ref Kd, .ref Qa, .non, .int 0]) = H6 at s6 h6 ⊢
  have s36 := s4.trans (s5.trans s6)
  have hg0 : Good b p n ([], []) := ⟨Nat.zero_le _, fun _ z => (nomatch z), .inl rfl, by unfold sumS; simp⟩
  have W0 : WSt P w b p n H H6 Kd Qa [q3] [([], [])] [(([], []), q3, .int 0)] := ⟨s13.trans s36, s6 _ _ (s5 _ _ hK4), s6 _ _ hQ5, .cons (h3.same s36) .nil, fun e he => by rw [List.mem_singleton.mp he]; exact h3.same s36, rfl, fun e he => by rw [List.mem_singleton.mp he]; exact ⟨0, rfl⟩,
    List.nodup_cons.mpr ⟨fun z => (nomatch z), List.nodup_nil⟩, fun x hx => by rw [List.mem_singleton.mp hx]; exact hg0⟩
  refine ⟨T, _, rfl, SqT.of h6, rfl, _, _, rfl, _, _, rfl, _, _, rfl, _, _, rfl, rfl, ?_⟩
  dsimp only
  refine seq_while fun D' hD1 hD2 => ?_
  refine ⟨WlkW P w b p n rows H sh t q3 Kd Qa fl, ⟨5001 - 0, [q3], [([], [])], _, .non, false, 0, none, none, rfl, W0, .inl ⟨rfl, rfl⟩, fun z => (by cases z), List.mem_singleton.mpr rfl, fun j hj => absurd hj (Nat.not_lt_zero _), Nat.zero_le _, rfl⟩, ?_⟩
  clear W0 s36 h6 s6 hQ5 s5 hK4 s4 nT nQ nK n3 n2 n1 h1 h2 s1 s2 s3
  rintro m σ H2 ⟨rs, qs, kvs, sv, sb, i, x8, x9, rfl, W, hsv, hsb, h0, hSeen, hi, rfl⟩
  obtain ⟨few1, few2, few3⟩ := W.few b0 hU
  refine test_read (op_read ⟨_, rfl, cb_read (cons_read ⟨_, rfl, nil_read ⟨Qa, _, rfl, .inl (SqL.of W.qa), _, _, rfl, rfl, _, rfl, ?_⟩⟩)⟩)
  rw [List.length_map, few3]
  by_cases c : i < qs.length
  · rw [decide_eq_true (by omega)]
    refine iteT ⟨fun σ' H' => ∃ m', m' < 5001 - i ∧ WlkW P w b p n rows H sh t q3 Kd Qa fl m' σ' H', fun _ _ z => z, ?_⟩
    obtain ⟨a, ha⟩ : ∃ a, rs[i]? = some a := ⟨rs[i]'(by omega), List.getElem?_eq_getElem _⟩
    obtain ⟨s, hs, hsp⟩ := paired_get W.sp ha
    have hsq := List.mem_of_getElem? hs
    refine seq_asg (op_read ⟨_, rfl, _, rfl, Qa, _, _, .ref a, rfl, rfl, SqL.of W.qa, atI_nat (by rw [List.getElem?_map, ha]; rfl), ?_⟩)
    refine seq_for fun D2 e1 e2 => ?_
    refine call_read (cons_read ⟨_, rfl, cons_read ⟨_, rfl, cons_read ⟨_, rfl, cons_read ⟨_, rfl, nil_read ?_⟩⟩⟩⟩)
    refine ⟨sh, t, a, fl, b, p, n, rows, s, rfl, Vn.same W.same, hsp, W.gd s hsq, fun H3 l ws os s3 nl hl hF nx => ⟨l, rfl, ⟨_, SqL.of hl⟩, ?_⟩⟩
    have nlQ : l ≠ Qa := Ne.symm (ne_of_none W.qa nl)
    refine for_list (K := K) (xs := ws) (WlkV P w b p n rows H sh t q3 Kd Qa fl i a l s qs sb ws os) ⟨rs, qs, kvs, sv, sb, x9, rfl, W.ext s3, hsv, hsb, List.prefix_refl _, fun z => z, fun j' hj' => absurd hj' (Nat.not_lt_zero _), hl, hF, hsp.same s3⟩ (fun j σ H' _ q => ?_) ?_ ?_
    · obtain ⟨_, _, _, _, _, _, _, _, _, _, _, _, _, q, _⟩ := q
      exact SqL.of q
    · rintro j v σ H4 hj ⟨rs', qs', kvs', sv', sb', y9, rfl, W', hsv', hsb', hpre, hmono, hold, hl4, hF4, hsp4⟩
      obtain ⟨r, hr1, hfar⟩ := paired_get hF4 hj
      have hrm := List.mem_of_getElem? hr1
      have hsq' : s ∈ qs' := hpre.subset hsq
      obtain ⟨i0, hv0⟩ := W'.val hsq'
      obtain ⟨fw1, fw2, fw3⟩ := W'.few b0 hU
      have nlK : l ≠ Kd := lst_ext hl4 W'.kd
      refine cut2_read (fun σ' H' => H' = H4 ∧ ∃ (sv2 : V) (sb2 : Bool), σ' = [some (.ref sh), some (.ref t), some (.bl fl), some (.ref q3), some (.ref Kd), some (.ref Qa), some sv2, some (.int (i : Int)), some (.ref a), some v] ∧ StV sv2 sb2 ∧ (sb2 = true → (stkM b p n rows).isSome = true) ∧ (sb' = true → sb2 = true) ∧ (r = none → sb2 = true)) ?_ ?_
      · refine one_if (and_read (test_read (op_read ⟨_, rfl, c_read ⟨rfl, _, rfl, ?_⟩⟩)))
        cases r with
        | none =>
          rw [decide_eq_true (show v = .non from hfar)]
          refine iteT (test_read (op_read ⟨_, rfl, c_read ⟨rfl, _, rfl, ?_⟩⟩))
          rcases hsv' with ⟨eb, ev⟩ | ⟨eb, iv, ev⟩
          · rw [decide_eq_true ev]
            refine iteT (asg_read (getN_read (P := P) (w := w) ⟨_, rfl, _, rfl, a, Kd, s, kvs', .int i0, rfl, rfl, hsp4, W'.kd, W'.key, hv0, ?_⟩))
            exact ⟨rfl, .int i0, true, rfl, .inr ⟨rfl, i0, rfl⟩, fun _ => nx.stk hrm, fun _ => rfl, fun _ => rfl⟩
          · rw [decide_eq_false (by rw [ev]; intro z; cases z)]
            exact iteF ⟨rfl, sv', sb', rfl, .inr ⟨eb, iv, ev⟩, hsb', fun z => z, fun _ => eb⟩
        | some s' =>
          obtain ⟨a', ea, _⟩ := hfar
          rw [decide_eq_false (by rw [ea]; intro z; cases z)]
          exact iteF (iteF ⟨rfl, sv', sb', rfl, hsv', hsb', fun z => z, fun z => by cases z⟩)
      · rintro σ H5 ⟨rfl, sv2, sb2, rfl, hsv2, hsb2, hm2, hn2⟩
        have hold2 : ∀ (qs2 : List Spot), qs' <+: qs2 → (∀ s', r = some s' → s' ∈ qs2) → ∀ j', j' < j + 1 → ∀ r', os[j']? = some r' → (∀ s', r' = some s' → s' ∈ qs2) ∧ (r' = none → sb2 = true) := by
          intro qs2 hp2 hin j' hj' r' hr'
          by_cases e : j' = j
          · subst e
            rw [hr1] at hr'
            cases hr'
            exact ⟨hin, hn2⟩
          · obtain ⟨z1, z2⟩ := hold j' (by omega) r' hr'
            exact ⟨fun s' es => hp2.subset (z1 s' es), fun z => hm2 (z2 z)⟩
        refine one_if (and_read (test_read (op_read ⟨_, rfl, c_read ⟨rfl, _, rfl, ?_⟩⟩)))
        cases r with
        | none =>
          rw [decide_eq_true (show v = .non from hfar)]
          exact iteF (iteF ⟨rs', qs', kvs', sv2, sb2, _, rfl, W', hsv2, hsb2, hpre, fun z => hm2 (hmono z), hold2 qs' (List.prefix_refl _) (fun s' z => by cases z), hl4, hF4, hsp4⟩)
        | some s' =>
          obtain ⟨a', ea, hsp'⟩ := hfar
          rw [decide_eq_false (by rw [ea]; intro z; cases z)]
          refine iteT (test_read (op_read ⟨_, rfl, _, rfl, a', Kd, s', kvs', ea, rfl, hsp', W'.kd, W'.key, _, rfl, ?_⟩))
          rw [W'.no]
          by_cases hin : s' ∈ qs'
          · rw [decide_eq_true hin]
            exact iteF ⟨rs', qs', kvs', sv2, sb2, _, rfl, W', hsv2, hsb2, hpre, fun z => hm2 (hmono z), hold2 qs' (List.prefix_refl _) (fun s2 z => by injection z with z; rw [← z]; exact hin), hl4, hF4, hsp4⟩
          · rw [decide_eq_false hin]
            refine iteT (seq_asg (op_read (getN_read (P := P) (w := w) ⟨_, rfl, _, rfl, a, Kd, s, kvs', .int i0, rfl, rfl, hsp4, W'.kd, W'.key, hv0, c_read ⟨_, _, rfl, rfl, ?_⟩⟩)))
            subst ea
            have W2 := W'.push (i := i0 + 1) nK0 nQ0 hsp' hin (nx.gd s' hrm)
            have hq5 : (upd H5 Kd (DNx P w Kd (kvs' ++ [(s', a', .int (i0 + 1))]))) Qa = some (.lst (rs'.map V.ref)) := by rw [upd_ne (lst_ext W'.qa W'.kd)]; exact W'.qa
            refine ⟨_, rfl, _, rfl, a', Kd, s', kvs', rfl, rfl, hsp', W'.kd, W'.key, by rw [sizeLine_eq]; omega, val_not (by rw [W'.keys]; exact hin), ?_⟩
            dsimp only
            refine ⟨_, rfl, .inl ⟨rfl, _, SqL.of hq5⟩, cons_read ⟨_, rfl, nil_read ⟨Qa, _, _, rfl, rfl, hq5, by rw [List.length_map, sizeLine_eq]; omega, ?_⟩⟩⟩
            refine ⟨rs' ++ [a'], qs' ++ [s'], _, sv2, sb2, _, rfl, W2, hsv2, hsb2, hpre.trans (List.prefix_append _ _), fun z => hm2 (hmono z), hold2 _ (List.prefix_append _ _) (fun s2 z => by injection z with z; rw [← z]; exact List.mem_append_right _ (List.mem_singleton.mpr rfl)), ?_, Paired.mapP hF4 fun _ _ z => (z.growD W'.kd).grow hq5, (hsp4.growD W'.kd).grow hq5⟩
            rw [upd_ne nlQ, upd_ne nlK]
            exact hl4
    · rintro σ H4 ⟨rs', qs', kvs', sv', sb', y9, rfl, W', hsv', hsb', hpre, hmono, hold, hl4, hF4, hsp4⟩
      rw [e1]
      have hlw := Paired.length hF4
      refine asg_read (op_read ⟨_, rfl, c_read ⟨_, _, rfl, rfl, ?_⟩⟩)
      refine ⟨5001 - (i + 1), by omega, rs', qs', kvs', sv', sb', i + 1, _, _, rfl, W', hsv', hsb', hpre.subset h0, ?_, Nat.lt_of_lt_of_le c hpre.length_le, rfl⟩
      intro j hj s2 es2
      by_cases e : j = i
      · subst e
        have es3 : s2 = s := by
          obtain ⟨t2, rfl⟩ := hpre
          rw [List.getElem?_append_left c, hs] at es2
          exact (Option.some.inj es2).symm
        subst es3
        refine ⟨os, nx, fun s' hs' => ?_, fun hno => ?_⟩
        · obtain ⟨j', hj', ej'⟩ := List.getElem_of_mem hs'
          exact (hold j' (by omega) _ (List.getElem?_eq_getElem hj')).1 s' ej'
        · obtain ⟨j', hj', ej'⟩ := List.getElem_of_mem hno
          exact (hold j' (by omega) _ (List.getElem?_eq_getElem hj')).2 ej'
      · exact hSeen.more hi hpre hmono j (by omega) s2 es2
  · rw [decide_eq_false (by omega)]
    refine iteF ?_
    rw [hD1]
    have fin := seen_all b0 p0 hn Vn.rl hSeen (by omega) h0 hsb
    refine ret_read (tup_read (cons_read ⟨_, rfl, cons_read ⟨_, rfl, nil_read ⟨by show 2 ≤ sizeLine; decide, fun q nq => ?_⟩⟩⟩))
    refine k _ q Kd sv (W.same.trans (same_lay nq)) upd_same (fun z => ?_) (fun z => ?_)
    · rcases hsv with ⟨_, e⟩ | ⟨e, _⟩
      · exact e
      · rw [fin, e] at z
        cases z
    · rcases hsv with ⟨e, _⟩ | ⟨_, e⟩
      · rw [fin, e] at z
        cases z
      · exact e
end
end K2

set_option Elab.async false
set_option linter.all false
set_option maxRecDepth 100000
set_option maxHeartbeats 4000000
namespace G2
open PySem PySem.Spec PyProof.Rows L2 Builtin ClX
section
variable {X : Cx} {CX : CXT} {k : Nat} {f : Addr} {fd : FuncData} {ps ks : List Str} {sp : Sp} {E : XK} {x : Str} {pp pos : Pos} {kws : List Keyword} {tk : TA} {gg : List Value → List Value → List Value} {gV : List V → List V → List V}
/-- f(k = v, ..) -/
theorem pe_callN0 (F : FnOk X.prog X.w X.K X.mg X.base CX k f fd ps sp) (hr : Room k X.A) (hg : Gl X x) (hm : X.mg x = some (.ref f)) (hk : PySem.W.keepIn X.K (.ref f) = true) (hb : KBn X.K fd ps 0 ks gg gV) (hx : Passes CX X E)
    (hkw : PK X kws tk) (hall : (backToKw pos (keywordEach kws X.env)).all (·.1.isSome) = true := by rfl) (hks : (backToKw pos (keywordEach kws X.env)).filterMap (·.1) = ks := by rfl)
    (hdb : (x == ("__debug__" : Str)) = false := by decide)
    (hpl : ((backTo pos (starEach [] X.env)).any (·.1) || (backToKw pos (keywordEach kws X.env)).any (·.1.isNone)) = false := by rfl) :
    PE X (.Call (.Name x pp) [] kws pos) (tCallN 0 ks.length sp gV E tNil tk) := by
  refine ⟨fun pins s σ H Q I h => ?_⟩
  refine wpAny_Call_Name_kw (ld_glob I hg hm ?_ hdb)
  refine PySem.W.callWith_KW0 (h₀ := X.base) I.ok.mod.kin hk hall (thn (hkw.run pos pins s σ H _ I h) fun ws s2 ⟨zs, H2, I2, rz, l1, l2, q2⟩ => ⟨I2.kIn, ?_⟩) hpl
  rw [hks]
  exact run_fnN (us := []) (vs := []) F hr hb hx I2 .nil rz l1 l2 q2
end
end G2
namespace K2
open PySem PySem.Spec PyProof.Rows L2 G1 G2
abbrev gSw {α : Type} (us ws : List α) : List α := match ws with
  | [a, b] => [b, a]
  | _ => us
theorem sw_rel {vs : List V} {us : List Value} {zs : List V} {ws : List Value} (h1 : Vals vs us) (h2 : Vals zs ws) : Vals (gSw vs zs) (gSw us ws) := by
  cases h2 with
  | nil => exact h1
  | cons a t =>
    cases t with
    | nil => exact h1
    | cons b t =>
      cases t with
      | nil => exact .cons b (.cons a .nil)
      | cons => exact h1
theorem k_sti0 {K : PySem.W.Frag} {f : Addr} {fd : FuncData} (F : FunD K "sticks" "sticks" (defArgs sSti) (defBody sSti) (defScope sSti) [] kwT f fd) : KBn K fd ["drive", "trims"] 0 ["trims", "drive"] gSw gSw := by
  obtain ⟨oc, od, dV, kV, doc, pm, an, cdv, ct, osl, rfl, lk, hcd, hD, hK⟩ := F.ex
  rcases hD with ⟨_, rfl⟩ | ⟨e, _⟩
  · refine ⟨fun s us ws X l1 l2 => BindsTo.of_eq ?_, fun r1 r2 => sw_rel r1 r2⟩
    match us, l1, ws, l2 with
    | [], _, [a, b], _ => rfl
  · exact absurd rfl e
abbrev sDrr : Stmt := topS 61
theorem scDrr : FnScope ["_law_shape_here", "_law_table_here", "_law_mine", "_law_full", "_law_bare", "_law_found"] ["_law_shape_here", "_law_table_here"] (defScope sDrr) := ⟨rfl, rfl, rfl, by decide +kernel, rfl, by decide +kernel, by decide +kernel⟩
theorem bRepr : bootBuiltins "repr" = some (.builtin "repr") := by decide +kernel
theorem stl_in {K : PySem.W.Frag} {C x : Addr} {tr c : Bool} {b p n : Nat} {ini : List RowD} {y : Str} {H : Hp} {Q : VK} {E : XK} (hx : DrvAt K C H x b p n ini y) (hd : DP b p n ini y) (hc : (stkM b p n (ini ++ [((p : Int), y)])).isSome = c)
    (k : ∀ (H' : Hp) (v : V), Same H H' → (!decide (v = .non)) = c → Q v H') : spStl K C [.ref x, .bl tr] H Q E := by
  refine ⟨x, tr, b, p, n, ini, y, rfl, hx, hd, fun e H1 s1 => ?_, fun H1 q t rs e s1 h1 h2 h3 h4 => ?_⟩
  · rw [e] at hc
    exact k H1 _ s1 (by rw [decide_eq_true rfl]; exact hc)
  · exact k H1 _ s1 (by rw [decide_eq_false (by intro z; cases z)]; exact e.symm.trans hc)
theorem sti_in {K : PySem.W.Frag} {C x : Addr} {tr c : Bool} {b p n : Nat} {ini : List RowD} {y : Str} {H : Hp} {Q : VK} {E : XK} (hx : DrvAt K C H x b p n ini y) (hd : DP b p n ini y) (hc : (stkM b p n (ini ++ [((p : Int), y)])).isSome = c)
    (k : ∀ H' : Hp, Same H H' → Q (.bl c) H') : spSti K C [.ref x, .bl tr] H Q E := by
  refine ⟨x, tr, b, p, n, ini, y, rfl, hx, hd, fun H1 s1 => ?_⟩
  rw [hc]
  exact k H1 s1
/-- sticks and stick_load, as the law calls them -/
structure SL (P : Program) (w : World) (K : PySem.W.Frag) (mg : Str → Option Value) (base : Heap) (C : Addr) : Prop where
  sti : ∃ (f : Addr) (fd : FuncData), FnOk P w K mg base CX0 5 f fd ["drive", "trims"] (spSti K C) ∧ PySem.W.keepIn K (.ref f) = true ∧ (∃ ds, Vals [V.bl true] ds ∧ Binds K fd ["drive", "trims"] ds) ∧ KBn K fd ["drive", "trims"] 1 ["trims"] gApp gApp ∧ KBn K fd ["drive", "trims"] 0 ["trims", "drive"] gSw gSw ∧ mg "sticks" = some (.ref f)
  stl : ∃ (f : Addr) (fd : FuncData), FnOk P w K mg base CX0 5 f fd ["drive", "trims"] (spStl K C) ∧ PySem.W.keepIn K (.ref f) = true ∧ (∃ ds, Vals [V.bl true] ds ∧ Binds K fd ["drive", "trims"] ds) ∧ KBn K fd ["drive", "trims"] 1 ["trims"] gApp gApp ∧ mg "stick_load" = some (.ref f)
  mad : FAt P w K mg base 7 "_law_made" ["_law_shape_here", "_law_table_here"] (spMad K C)
  wlk : FAt P w K mg base 4 "_law_walk" ["_law_shape_here", "_law_table_here", "_law_flag"] (spWlk K)
def threeD (c : Bool) : PyData := .list [.bool c, .bool c, .bool c]
theorem three_fine : ∀ c : Bool, SeqAt.shaped (threeD c) = true ∧ PyData.eqv (threeD c) (threeD c) = true ∧ (threeD c).hasDict = false ∧ (threeD c).showable = true ∧ (threeD c).depth ≤ 60 ∧ (threeD c).shown.length ≤ 100 := by decide +kernel
def twoD (c : Bool) : PyData := .list [.bool c, .bool c]
theorem two_fine : ∀ c : Bool, SeqAt.shaped (twoD c) = true ∧ PyData.eqv (twoD c) (twoD c) = true := by decide +kernel
theorem ne_str (x : Str) : (!decide (V.str x = V.str x)) = false := by rw [decide_eq_true rfl]; rfl
theorem if_ff {c : Bool} {A B : Prop} (e : c = false) (h : B) : if c = true then A else B := by rw [e]; exact iteF h
theorem seq_par {i j : Nat} {ta : TA} {t2 : TS} {D : Ends} {σ : L2.St} {H : Hp} (h : ta σ H fun vs H1 => ∃ v w, vs = [v, w] ∧ t2 D ((σ.set i (some v)).set j (some w)) H1) : tSeq (tPar i j ta) t2 D σ H := h
theorem not_read {tt : TT} {σ : L2.St} {H : Hp} {Q : Bool → Hp → Prop} (h : tt σ H fun c H1 => Q (!c) H1) : tNot tt σ H Q := h
theorem or_read {ta tb : TT} {σ : L2.St} {H : Hp} {Q : Bool → Hp → Prop} (h : ta σ H fun c H1 => if c = true then Q true H1 else tb σ H1 Q) : tOr ta tb σ H Q := h
theorem rls_of {p : Nat} {ini : List RowD} {y : Str} (hi : IniOk p ini) (hy : y ∈ wordsL) : Rls p (ini ++ [((p : Int), y)]) := ⟨(rows_ok hi hy).1, ⟨_, List.mem_append_right _ (List.mem_singleton.mpr rfl), rfl⟩, tak_word p y hy ini 0 hi.1⟩
def spDrr (K : PySem.W.Frag) : Sp := fun vs H Q _ => ∃ (s t : Addr) (b p n : Nat) (ini : List RowD) (y : Str), vs = [.ref s, .ref t] ∧ Shp b p n ∧ ShpAt K H s b p n ∧ IniOk p ini ∧ y ∈ wordsL ∧ RowsAt K H t (ini ++ [((p : Int), y)]) ∧ ∀ H' : Hp, Same H H' → Q (.bl true) H'
/-- walk(..)[1] is not None -/
theorem wlk_in {K : PySem.W.Frag} {sh t : Addr} {fl c : Bool} {b p n : Nat} {rows : List RowD} {H : Hp} {Q : VK} {E : XK} (Vn : Env K H sh t b p n rows) (hc : (stkM b p n rows).isSome = c) (k : ∀ (H' : Hp) (q d : Addr) (v : V), Same H H' → H' q = some (.tup [.ref d, v]) → (!decide (v = .non)) = c → Q (.ref q) H') : spWlk K [.ref sh, .ref t, .bl fl] H Q E := by
  refine ⟨sh, t, fl, b, p, n, rows, rfl, Vn, fun H' q d v s1 hq h1 h2 => k H' q d v s1 hq ?_⟩
  rw [hc] at h1 h2
  cases c with
  | false => rw [decide_eq_true (h1 rfl)]; rfl
  | true =>
    obtain ⟨i, e⟩ := h2 rfl
    rw [e, decide_eq_false (by intro z; cases z)]
    rfl
section
variable {P : Program} {w : World} {K : PySem.W.Frag} {mg : Str → Option Value} {base : Heap} {C : Addr}
theorem ok_drr {f : Addr} {fd : FuncData} (F : Fun K "_law_drive_right" "_law_drive_right" sDrr f fd) (B : Bl mg) (S : SL P w K mg base C) : FnG P w K mg base 8 f fd ["_law_shape_here", "_law_table_here"] (spDrr K) := by
  refine okG F scDrr (fun vs H Q E h => ?_) (fun cdv A outer s0 H vs Q E hgu hr h => ?_)
  · obtain ⟨s, t, b, p, n, ini, y, rfl, _⟩ := h
    rfl
  obtain ⟨s, t, b, p, n, ini, y, rfl, hp, hs, hi, hy, hR, k⟩ := h
  have hr5 : Room 5 _ := hr.mono (by decide)
  have hr4 : Room 4 _ := hr.mono (by decide)
  obtain ⟨fM, dM, GM, kM, bM, gM⟩ := S.mad.ex
  obtain ⟨fW, dW, GW, kW, bW, gW⟩ := S.wlk.ex
  obtain ⟨fS, dS, GS, kS, ⟨ds1, v1, b1⟩, n1, n0, gS⟩ := S.sti
  obtain ⟨fL, dL, GL, kL, ⟨ds2, v2, b2⟩, n2, gL⟩ := S.stl
  have hd : DP b p n ini y := ⟨hp.sz, hp.few, hi, hy⟩
  refine ⟨_, pss_cons (ps_set (i := 2) scDrr.nd rfl (.inl rfl) (pe_call GM hr (by rfl) gM kM bM .nil pass0 (pa_cons (pv 0) (pa_cons (pv 1) pa_nil))))
    (pss_cons (ps_par (i := 3) (j := 4) (by rfl) scDrr.nd rfl rfl (by decide) rfl rfl (pa_cons (pe_cmpR op_notN (pe_ix ix_tup (pe_call GW hr4 (by rfl) gW kW bW .nil pass0 (pa_cons (pv 0) (pa_cons (pv 1) (pa_cons pe_bl pa_nil)))) pe_int (fun _ _ => rfl)) pe_non (nomark _)) (pa_cons (pe_cmpR op_notN (pe_ix ix_tup (pe_call GW hr4 (by rfl) gW kW bW .nil pass0 (pa_cons (pv 0) (pa_cons (pv 1) (pa_cons pe_bl pa_nil)))) pe_int (fun _ _ => rfl)) pe_non (nomark _)) pa_nil)) (by rfl))
    (pss_cons (ps_if (pt_cmpR op_ne (pe_callB (call_repr hgu hr.units) (by rfl) B.repr bRepr (pa_cons (pe_lst (pa_cons (pe_call GS hr5 (by rfl) gS kS b1 v1 pass0 (pa_cons (pv 2) pa_nil)) (pa_cons (pe_callN GS hr5 (by rfl) gS kS n1 pass0 (pa_cons (pv 2) pa_nil) (pk_cons pe_bl pk_nil)) (pa_cons (pe_callN0 GS hr5 (by rfl) gS kS n0 pass0 (pk_cons pe_bl (pk_cons (pv 2) pk_nil))) pa_nil)))) pa_nil))
        (pe_callB (call_repr hgu hr.units) (by rfl) B.repr bRepr (pa_cons (pe_lst (pa_cons (pv 3) (pa_cons (pv 3) (pa_cons (pv 4) pa_nil)))) pa_nil)) (nomark _)) (pss_one (ps_ret pe_bl)) pss_nil)
    (pss_cons (ps_set (i := 5) scDrr.nd rfl (.inl rfl) (pe_lst (pa_cons (pe_cmpR op_notN (pe_call GL hr5 (by rfl) gL kL b2 v2 pass0 (pa_cons (pv 2) pa_nil)) pe_non (nomark _)) (pa_cons (pe_cmpR op_notN (pe_callN GL hr5 (by rfl) gL kL n2 pass0 (pa_cons (pv 2) pa_nil) (pk_cons pe_bl pk_nil)) pe_non (nomark _)) pa_nil))))
    (pss_one (ps_ret (pe_and (pe_cmpR (op_eqD hr.units) (pv 5) (pe_lst (pa_cons (pv 3) (pa_cons (pv 4) pa_nil))) (nomark _)) (pe_and (pe_cmpR op_eq (pe_call GS hr5 (by rfl) gS kS b1 v1 pass0 (pa_cons (pv 2) pa_nil)) (pv 3) (nomark _)) (pe_one (pe_or (pv 3) (pe_one (pe_not (pv 4)))))))))))), ?_⟩
  have hc : (stkM b p n (ini ++ [((p : Int), y)])).isSome = (stkM b p n (ini ++ [((p : Int), y)])).isSome := rfl
  have V0 : Env K H s t b p n (ini ++ [((p : Int), y)]) := ⟨hp, hs, hR, rls_of hi hy⟩
  generalize hcc : (stkM b p n (ini ++ [((p : Int), y)])).isSome = c at hc
  clear hc
  refine ⟨_, rfl, _, rfl, s, t, b, p, n, ini, y, rfl, hs, hd, hR, fun H1 x s1 nx hx => ?_⟩
  dsimp only
  refine seq_par (cons_read (op_read (op_read (call_read (cons_read ⟨_, rfl, cons_read ⟨_, rfl, cons_read (c_read (nil_read ?_))⟩⟩)))))
  refine wlk_in (V0.same s1) hcc fun H2 q2 d2 w2 s2 h2 e2 => ⟨q2, _, _, w2, rfl, rfl, SqT.of h2, rfl, rfl, ?_⟩
  have s12 := s1.trans s2
  refine cons_read (op_read (op_read (call_read (cons_read ⟨_, rfl, cons_read ⟨_, rfl, cons_read (c_read (nil_read ?_))⟩⟩))))
  refine wlk_in (V0.same s12) hcc fun H3 q3 d3 w3 s3 h3 e3 => ⟨q3, _, _, w3, rfl, rfl, SqT.of h3, rfl, rfl, nil_read ⟨_, _, rfl, ?_⟩⟩
  rw [e2, e3]
  have hx3 := hx.same (s2.trans s3)
  have s13 := s12.trans s3
  show tSeq _ _ _ [some (.ref s), some (.ref t), some (.ref x), some (.bl c), some (.bl c), none] H3
  obtain ⟨f1, f2, f3, f4, f5, f6⟩ := three_fine c
  obtain ⟨g1, g2⟩ := two_fine c
  refine seq_if0 (test_read (op_read (cb_read (cons_read (lst_read (cons_read (call_read (cons_read ⟨_, rfl, nil_read ?_⟩))))))))
  refine sti_in hx3 hd hcc fun H4 s4 => ?_
  have hx4 := hx3.same s4
  refine cons_read ⟨_, rfl, ⟨rfl, rfl, ?_⟩⟩
  refine sti_in hx4 hd hcc fun H5 s5 => ?_
  have hx5 := hx4.same s5
  refine cons_read ⟨_, rfl, ⟨rfl, rfl, ?_⟩⟩
  refine sti_in hx5 hd hcc fun H6 s6 => ?_
  have hx6 := hx5.same s6
  refine nil_read ⟨by show 3 ≤ sizeLine; decide, fun l nl => nil_read ?_⟩
  have sl : Same H6 (upd H6 l (.lst [.bl c, .bl c, .bl c])) := same_lay nl
  refine ⟨.ref l, threeD c, rfl, .dp (.lst (SqL.of upd_same) (.cons (.bl _) (.cons (.bl _) (.cons (.bl _) .nil)))) f1 f2 f3, ⟨f4, small_line (by omega), f5⟩, ?_⟩
  have hx7 := hx6.same sl
  have s17 := s13.trans (s4.trans (s5.trans (s6.trans sl)))
  generalize upd H6 l (.lst [.bl c, .bl c, .bl c]) = H7 at sl hx7 s17 ⊢
  refine cb_read (cons_read (lst_read (cons_read ⟨_, rfl, cons_read ⟨_, rfl, cons_read ⟨_, rfl, nil_read ⟨by show 3 ≤ sizeLine; decide, fun l2 nl2 => nil_read ?_⟩⟩⟩⟩)))
  have sl2 : Same H7 (upd H7 l2 (.lst [.bl c, .bl c, .bl c])) := same_lay nl2
  refine ⟨.ref l2, threeD c, rfl, .dp (.lst (SqL.of upd_same) (.cons (.bl _) (.cons (.bl _) (.cons (.bl _) .nil)))) f1 f2 f3, ⟨f4, small_line (by omega), f5⟩, rfl, _, rfl, if_ff (ne_str _) ?_⟩
  have hx8 := hx7.same sl2
  have s18 := s17.trans sl2
  generalize upd H7 l2 (.lst [.bl c, .bl c, .bl c]) = H8 at sl2 hx8 s18 ⊢
  refine seq_asg (lst_read (cons_read (op_read (call_read (cons_read ⟨_, rfl, nil_read ?_⟩)))))
  refine stl_in hx8 hd hcc fun H9 v9 s9 t9 => ⟨rfl, ?_⟩
  refine cons_read (op_read ⟨_, rfl, ⟨rfl, rfl, ?_⟩⟩)
  refine stl_in (hx8.same s9) hd hcc fun H10 v10 s10 t10 => ⟨rfl, ?_⟩
  rw [t9, t10]
  refine nil_read ⟨by show 2 ≤ sizeLine; decide, fun l3 nl3 => ?_⟩
  have sl3 : Same H10 (upd H10 l3 (.lst [.bl c, .bl c])) := same_lay nl3
  have e3' : (upd H10 l3 (.lst [.bl c, .bl c])) l3 = some (.lst [.bl c, .bl c]) := upd_same
  have hx11 := hx8.same (s9.trans (s10.trans sl3))
  have s1B := s18.trans (s9.trans (s10.trans sl3))
  generalize upd H10 l3 (.lst [.bl c, .bl c]) = H11 at sl3 e3' hx11 s1B ⊢
  refine ret_read ?_
  refine ⟨_, rfl, _, rfl, _, rfl, by show 2 ≤ sizeLine; decide, fun l4 nl4 => ?_⟩
  have sl4 : Same H11 (upd H11 l4 (.lst [.bl c, .bl c])) := same_lay nl4
  refine ⟨twoD c, twoD c, .lst (SqL.of (sl4 _ _ e3')) (.cons (.bl _) (.cons (.bl _) .nil)), .lst (SqL.of upd_same) (.cons (.bl _) (.cons (.bl _) .nil)), g1, g1, true, by rw [g2], iteT ?_⟩
  refine ⟨_, rfl, nil_read ?_⟩
  refine sti_in (hx11.same sl4) hd hcc fun H13 s13' => ⟨_, rfl, rfl, true, by rw [decide_eq_true rfl], iteT ?_⟩
  have fin := k H13 (s1B.trans (sl4.trans s13'))
  cases c with
  | true => exact ⟨_, rfl, true, rfl, iteT fin⟩
  | false => exact ⟨_, rfl, false, rfl, iteF ⟨_, rfl, false, rfl, fin⟩⟩
end
end K2

set_option Elab.async false
set_option linter.all false
set_option maxRecDepth 100000
set_option maxHeartbeats 4000000
namespace K2
open PySem PySem.Spec PyProof.Rows L2 G1 G2
abbrev sRgt : Stmt := topS 62
theorem scRgt : FnScope ["_law_pool_here", "_law_turn", "_law_shape_here", "_law_table_here", "_law_mate"] ["_law_pool_here"] (defScope sRgt) := ⟨rfl, rfl, rfl, by decide +kernel, rfl, by decide +kernel, by decide +kernel⟩
def spRgt : Sp := fun vs H Q _ => ∃ pl : Addr, vs = [.ref pl] ∧ PoolAt H pl ∧ ∀ H' : Hp, Stp pl H H' → Q (.bl true) H'
structure LR (P : Program) (w : World) (K : PySem.W.Frag) (mg : Str → Option Value) (base : Heap) : Prop where
  drw : FAt P w K mg base 1 "_law_draw" ["_law_pool_here", "_law_many"] spDraw
  shp : FAt P w K mg base 2 "_law_shape" ["_law_pool_here"] (spShp K)
  tab : FAt P w K mg base 2 "_law_table" ["_law_pool_here", "_law_size"] (spTab K)
  drr : GAt P w K mg base 8 "_law_drive_right" ["_law_shape_here", "_law_table_here"] (spDrr K)
theorem Stp.refl {pl : Addr} {H : Hp} (hp : PoolAt H pl) : Stp pl H H := Stp.of hp (Same.refl H)
/-- one of two words, drawn -/
theorem two_read {K : PySem.W.Frag} {σ : L2.St} {H : Hp} {R : VK} {pl : Addr} {i : Nat} {x z : Str} (hσ : σ[i]? = some (some (.ref pl))) (hp : PoolAt H pl) (k : ∀ (H' : Hp) (y : Str), Stp pl H H' → y ∈ [x, z] → R (.str y) H') :
    tOp (rIxL K) (tLst (tCons (tC (.str x)) (tCons (tC (.str z)) tNil))) (tCall spDraw [] E0 (tCons (tVar i) (tCons (tC (.int 2)) tNil))) σ H R := by
  refine op_read (lst_read (cons_read (c_read (cons_read (c_read (nil_read ⟨by show 2 ≤ sizeLine; decide, fun l nl => ?_⟩))))))
  have sl : Same H (upd H l (.lst [.str x, .str z])) := same_lay nl
  have el : (upd H l (.lst [.str x, .str z])) l = some (.lst [.str x, .str z]) := upd_same
  have nlp : l ≠ pl := pool_new hp nl
  generalize upd H l (.lst [.str x, .str z]) = H1 at sl el ⊢
  have S1 : Stp pl H H1 := Stp.of hp sl
  refine draw_c (p := pl) hσ S1.1 (by decide) (by decide) fun H2 r S2 r0 r1 => ?_
  have c : r = 0 ∨ r = 1 := by omega
  rcases c with rfl | rfl
  · exact ⟨l, _, 0, .str x, rfl, rfl, SqL.of (S2.2 _ _ nlp el), rfl, k H2 x (S1.trans S2) (by simp)⟩
  · exact ⟨l, _, 1, .str z, rfl, rfl, SqL.of (S2.2 _ _ nlp el), rfl, k H2 z (S1.trans S2) (by simp)⟩
theorem paired_take {α β : Type} {F : α → β → Prop} : ∀ {l : List α} {m : List β}, Paired F l m → ∀ i : Nat, Paired F (l.take i) (m.take i)
  | _, _, _, 0 => .nil
  | _, _, .nil, i + 1 => by simp; exact .nil
  | _, _, .cons r t, i + 1 => .cons r (paired_take t i)
theorem six_one (m : Nat) : HT.sIx m m (some (-1)) = m - 1 := by
  unfold HT.sIx
  dsimp only
  rw [if_pos (by decide)]
  omega
section
variable {K : PySem.W.Frag} {H : Hp} {Q : VK}
/-- rows[:-1] -/
theorem init_read {a : Addr} {ini : List RowD} {r : RowD} (hR : RowsAt K H a (ini ++ [r])) (k : ∀ (H' : Hp) (q : Addr), Same H H' → RowsAt K H' q ini → Q (.ref q) H') : rSlA K (.ref a) none (some (-1)) H Q := by
  obtain ⟨rs, h1, h2⟩ := hR
  have hl : rs.length = ini.length + 1 := by rw [Paired.length h2, List.length_append]; rfl
  refine ⟨a, _, rfl, h1, fun hw => ?_, fun hw q nq => ?_⟩
  · have := hw.2
    rw [List.length_map, six_one, hl] at this
    omega
  · have e1 : cutV (rs.map V.ref) none (some (-1)) = (rs.take ini.length).map V.ref := by
      unfold cutV
      rw [HT.sIx_none, six_one, List.length_map, hl, List.drop_zero, List.map_take]
      congr 1
    rw [e1]
    have sq : Same H (upd H q (.tup ((rs.take ini.length).map V.ref))) := same_lay nq
    refine k _ q sq ⟨rs.take ini.length, SqT.of upd_same, ?_⟩
    have z := paired_take h2 ini.length
    rw [List.take_left'] at z
    · exact Paired.mapP z fun _ _ z => K2.Same.tup sq z
    · rfl
/-- rows + (row,) -/
theorem cat_rows {q c a : Addr} {rows : List RowD} {r : RowD} (hq : RowsAt K H q rows) (hc : H c = some (.tup [.ref a])) (ha : H a = some (.tup [.int r.1, .str r.2])) (hl : rows.length ≤ 10) (k : ∀ (H' : Hp) (t : Addr), Same H H' → RowsAt K H' t (rows ++ [r]) → Q (.ref t) H') : rCatA K (.ref q) (.ref c) H Q := by
  obtain ⟨rs, h1, h2⟩ := hq
  have hl2 := Paired.length h2
  refine ⟨q, c, _, _, rfl, rfl, h1, SqT.of hc, ?_, fun e => ?_, fun _ e => (by cases e), fun _ _ u nu => ?_⟩
  · rw [List.length_map, sizeLine_eq]
    show rs.length + 1 ≤ _
    omega
  · have e' : rs = [] := List.map_eq_nil_iff.mp e
    subst e'
    cases h2
    exact k H c (Same.refl H) ⟨[a], SqT.of hc, .cons (SqT.of ha) .nil⟩
  · have su : Same H (upd H u (.tup (rs.map V.ref ++ [.ref a]))) := same_lay nu
    refine k _ u su ⟨rs ++ [a], SqT.of ?_, paired_snoc (Paired.mapP h2 fun _ _ z => K2.Same.tup su z) (SqT.of (su _ _ ha))⟩
    rw [upd_same, List.map_append]
    rfl
end
theorem two_word (y : Str) (h : y ∈ [Str.ofString "youngest", Str.ofString "most"]) : y ∈ wordsL := by
  have z : ∀ y ∈ [Str.ofString "youngest", Str.ofString "most"], y ∈ wordsL := by decide +kernel
  exact z y h
section
variable {P : Program} {w : World} {K : PySem.W.Frag} {mg : Str → Option Value} {base : Heap}
theorem ok_rgt {f : Addr} {fd : FuncData} (F : Fun K "_law_right" "_law_right" sRgt f fd) (B : Bl mg) (L : LR P w K mg base) : FnG P w K mg base 9 f fd ["_law_pool_here"] spRgt := by
  refine okG F scRgt (fun vs H Q E h => ?_) (fun cdv A outer s H vs Q E hgu hr h => ?_)
  · obtain ⟨pl, rfl, _⟩ := h
    rfl
  obtain ⟨pl, rfl, hp, k⟩ := h
  have hr1 : Room 1 _ := hr.mono (by decide)
  have hr2 : Room 2 _ := hr.mono (by decide)
  obtain ⟨fD, dD, GD, kD, bD, gD⟩ := L.drw.ex
  obtain ⟨fH, dH, GH, kH, bH, gH⟩ := L.shp.ex
  obtain ⟨fT, dT, GT, kT, bT, gT⟩ := L.tab.ex
  obtain ⟨fR, dR, GR, kR, bR, gR⟩ := L.drr.ex
  refine ⟨_, pss_cons (ps_for PassesOwn.never rfl (pi_range1 (by rfl) B.range (pa_cons pe_int pa_nil)) (pg_name (i := 1) scRgt.nd rfl (.inl rfl))
      (pss_cons (ps_set (i := 2) scRgt.nd rfl (.inl rfl) (pe_call GH hr2 (by rfl) gH kH bH .nil pass0 (pa_cons (pv 0) pa_nil)))
      (pss_cons (ps_set (i := 3) scRgt.nd rfl (.inl rfl) (pe_call GT hr2 (by rfl) gT kT bT .nil pass0 (pa_cons (pv 0) (pa_cons (pe_ix ix_tup (pv 2) pe_int (fun _ _ => rfl)) pa_nil))))
      (pss_cons (ps_set (i := 4) scRgt.nd rfl (.inl rfl) (pe_op op_catA (pe_slice sl_tupA (pv 3) po_none (po_some (pe_un un_neg pe_int))) (pe_tup (pa_cons (pe_tup (pa_cons (pe_ix ix_tup (pv 2) pe_int (fun _ _ => rfl)) (pa_cons (pe_ix ix_list (pe_lst (pa_cons pe_str (pa_cons pe_str pa_nil))) (pe_call GD hr1 (by rfl) gD kD bD .nil pass0 (pa_cons (pv 0) (pa_cons pe_int pa_nil))) (fun _ _ => rfl)) pa_nil))) pa_nil))))
      (pss_one (ps_if (PW.pt (pw_or (pt_not (pt_val (pe_callG GR hgu hr (by rfl) gR kR bR (pa_cons (pv 2) (pa_cons (pv 3) pa_nil))))) (pw_or1 (pt_not (pt_val (pe_callG GR hgu hr (by rfl) gR kR bR (pa_cons (pv 2) (pa_cons (pv 4) pa_nil)))))))) (pss_one (ps_ret pe_bl)) pss_nil))))))
    (pss_one (ps_ret pe_bl)), ?_⟩
  refine seq_for fun D' hD1 hD2 => ?_
  refine ⟨2, rfl, by decide, by decide, ?_⟩
  refine for_range (lo := 0) (n := 2) (fun i σ H' => ∃ (x1 x2 x3 x4 : Option V), σ = [some (.ref pl), x1, x2, x3, x4] ∧ Stp pl H H') ⟨none, none, none, none, rfl, Stp.refl hp⟩ ?_ ?_
  · rintro i σ H1 hi ⟨x1, x2, x3, x4, rfl, S1⟩
    refine seq_asg (call_read (cons_read ⟨_, rfl, nil_read ⟨pl, rfl, S1.1, fun H2 q b p n S2 hshp hq => ?_⟩⟩))
    have hz := hshp.sz
    have p1 := hz.p1
    have nq := pool_ne S2.1 hq
    refine seq_asg (call_read (cons_read ⟨_, rfl, cons_read (op_read ⟨_, rfl, q, _, _, _, rfl, rfl, SqT.of hq, rfl, nil_read ⟨pl, p, rfl, S2.1, by omega, fun H3 t ini y S3 hR hi' hy => ?_⟩⟩)⟩))
    have hq3 := S3.2 _ _ nq hq
    refine seq_asg (op_read (sl_read ⟨_, rfl, nopart_read (part_read ⟨_, rfl, _, rfl, init_read hR fun H4 r s4 hI => ?_⟩)⟩))
    have S4 : Stp pl H3 H4 := Stp.of S3.1 s4
    have hq4 := s4 _ _ hq3
    refine tup_read (cons_read (tup_read (cons_read (op_read ⟨_, rfl, q, _, _, _, rfl, rfl, SqT.of hq4, rfl, cons_read ?_⟩))))
    refine two_read (pl := pl) (i := 0) rfl S4.1 fun H5 x S5 hx => nil_read ⟨by show 2 ≤ sizeLine; decide, fun a na => nil_read ⟨by show 1 ≤ sizeLine; decide, fun c nc => ?_⟩⟩
    have s6 : Same H5 (upd (upd H5 a (.tup [.int (p : Int), .str x])) c (.tup [.ref a])) := (same_lay na).trans (same_lay nc)
    have ha : (upd (upd H5 a (.tup [.int (p : Int), .str x])) c (.tup [.ref a])) a = some (.tup [.int (p : Int), .str x]) := same_lay nc _ _ upd_same
    have hc : (upd (upd H5 a (.tup [.int (p : Int), .str x])) c (.tup [.ref a])) c = some (.tup [.ref a]) := upd_same
    generalize upd (upd H5 a (.tup [.int (p : Int), .str x])) c (.tup [.ref a]) = H6 at s6 ha hc ⊢
    have hI6 : RowsAt K H6 r ini := (S5.rows S4.1 hI).same s6
    have hil := hi'.2
    refine cat_rows (r := ((p : Int), x)) hI6 hc ha (by omega) fun H7 u s7 hM => ?_
    have s57 := s6.trans s7
    have hq7 : ShpAt K H7 q b p n := SqT.of (s57 _ _ (S5.2 _ _ nq hq4))
    have hR7 : RowsAt K H7 t (ini ++ [((p : Int), y)]) := (S5.rows S4.1 (hR.same s4)).same s57
    refine one_if (or_read (not_read (test_read (call_read (cons_read ⟨_, rfl, cons_read ⟨_, rfl, nil_read ?_⟩⟩)))))
    refine ⟨q, t, b, p, n, ini, y, rfl, hshp, hq7, hi', hy, hR7, fun H8 s8 => ⟨true, rfl, iteF ?_⟩⟩
    refine not_read (test_read (call_read (cons_read ⟨_, rfl, cons_read ⟨_, rfl, nil_read ?_⟩⟩)))
    refine ⟨q, u, b, p, n, ini, x, rfl, hshp, K2.Same.tup s8 hq7, hi', two_word x hx, hM.same s8, fun H9 s9 => ⟨true, rfl, iteF ?_⟩⟩
    have S5' := S1.trans (S2.trans (S3.trans (S4.trans S5)))
    exact ⟨_, _, _, _, rfl, S5'.trans (Stp.of S5.1 (s57.trans (s8.trans s9)))⟩
  · rintro σ H6 ⟨x1, x2, x3, x4, rfl, S6⟩
    rw [hD1]
    exact ret_read (c_read (k _ S6))
end
end K2

set_option Elab.async false
set_option linter.all false
set_option maxRecDepth 100000
set_option maxHeartbeats 4000000
namespace K2
open PySem PySem.Spec PyProof.Rows L2 G1 G2 ClX
abbrev sLaw : Stmt := topS 63
theorem scLaw : FnScope ["_law_cells", "_law_k"] ["_law_cells"] (defScope sLaw) := ⟨rfl, rfl, rfl, by decide +kernel, rfl, by decide +kernel, by decide +kernel⟩
theorem bAll : bootBuiltins "all" = some (.builtin "all") := by decide +kernel
def spLaw (K : PySem.W.Frag) : Sp := fun vs H Q _ => ∃ (l : Addr) (ns : List Int), vs = [.ref l] ∧ SqL K H l (ns.map V.int) ∧ ns.length ≤ 63 ∧ ∀ H' : Hp, Q (.bl true) H'
section
variable {P : Program} {w : World} {K : PySem.W.Frag} {mg : Str → Option Value} {base : Heap} {C : Addr}
theorem ok_law {f : Addr} {fd : FuncData} (F : Fun K "law" "law" sLaw f fd) (B : Bl mg) (GC : FAt P w K mg base 1 "_law_cell" ["_law_cells", "_law_k"] (spCell K)) (GP : FAt P w K mg base 1 "_law_pool" ["_law_cell_here"] spPool)
    (GR : GAt P w K mg base 9 "_law_right" ["_law_pool_here"] spRgt) : FnG P w K mg base 10 f fd ["_law_cells"] (spLaw K) := by
  refine okG F scLaw (fun vs H Q E h => ?_) (fun cdv A outer s H vs Q E hgu hr h => ?_)
  · obtain ⟨l, ns, rfl, _⟩ := h
    rfl
  obtain ⟨l, ns, rfl, hS, hlen, k⟩ := h
  have hr1 : Room 1 _ := hr.mono (by decide)
  obtain ⟨fC, dC, GC, kC, bC, gC⟩ := GC.ex
  obtain ⟨fP, dP, GP, kP, bP, gP⟩ := GP.ex
  obtain ⟨fR, dR, GR, kR, bR, gR⟩ := GR.ex
  refine ⟨_, pss_one (ps_ret (pe_callB (cr_all rfl) (by rfl) B.all bAll (pa_cons (pe_lc (own := [("_law_k", 1)]) (g := gName 1) (tt := tYes)
      (te := tCall spRgt [] E0 (tCons (tCall spPool [] E0 (tCons (tCall (spCell K) [] E0 (tCons (tVar 0) (tCons (tVar 1) tNil))) tNil)) tNil)) rfl scLaw.nd
      (pi_range1 (by rfl) B.range (pa_cons (pe_callB (call_max2 rfl) (by rfl) B.max bMax (pa_cons pe_int (pa_cons (pe_callB (call_min2 rfl) (by rfl) B.min bMin (pa_cons (pe_callB call_len_seq (by rfl) B.len PySem.boot_len (pa_cons (pv 0) pa_nil)) (pa_cons pe_int pa_nil))) pa_nil))) pa_nil))
      (blkOk_by (own := [("_law_k", 1)]) (N := ["_law_cells", "_law_k"]) (sc := defScope sLaw) (by decide +kernel))
      (fun _ _ _ _ _ => pg_name (i := 1) scLaw.nd rfl (Or.inl rfl)) (fun _ _ _ _ _ => pts_nil)
      (fun _ _ _ _ _ => pe_callG GR hgu hr (by rfl) gR kR bR (pa_cons (pe_call GP hr1 (by rfl) gP kP bP .nil pass0 (pa_cons (pe_call GC hr1 (by rfl) gC kC bC .nil pass0 (pa_cons (pv 0) (pa_cons (pv 1) pa_nil))) pa_nil)) pa_nil))) pa_nil))), ?_⟩
  refine ret_read (cb_read (cons_read ?_))
  refine ⟨_, rfl, l, _, rfl, .inl hS, _, _, rfl, _, _, rfl, _, rfl, ?_, ?_, fun D hD => ?_⟩
  · rw [List.length_map]
    split <;> (try split) <;> omega
  · rw [List.length_map]
    split <;> (try split) <;> omega
  generalize hm : (if (if (4 : Int) < ((ns.map V.int).length : Int) then 4 else ((ns.map V.int).length : Int)) > 2 then (if (4 : Int) < ((ns.map V.int).length : Int) then 4 else ((ns.map V.int).length : Int)) else 2) = m
  have m3 : m ≤ 4 := by
    rw [← hm]
    split <;> (try split) <;> omega
  refine lc_range (lo := 0) (n := m.toNat) (fun i H' => Same H H' ∧ H' D = some (.lst (List.replicate i (V.bl true)))) ⟨same_lay hD, upd_same⟩ ?_ ?_
  · rintro i H' hi ⟨s1, hy⟩
    refine ⟨rfl, ?_⟩
    unfold tYes
    dsimp only
    rw [if_pos rfl]
    refine ⟨_, rfl, _, rfl, l, ns, i, by show [V.ref l, V.int (0 + (i : Int))] = _; rw [Int.zero_add], s1.seq hS, hlen, by omega, fun H5 z s5 => ⟨z, rfl, fun p a b c np a0 a1 => ⟨p, rfl, ⟨a, b, c, upd_same, a0, a1⟩, fun H6 st => ?_⟩⟩⟩
    have s6 : Same H5 H6 := fun x o e => by
      have ne : x ≠ p := ne_of_none e np
      exact st.2 x o ne (by rw [upd_ne ne]; exact e)
    refine ⟨_, s6 _ _ (s5 _ _ hy), ?_, fun x o z => ?_, ?_⟩
    · rw [List.length_replicate, sizeLine_eq]
      omega
    · rw [upd_ne (ne_of_none z hD)]
      exact s6 _ _ (s5 _ _ (s1 _ _ z))
    · rw [upd_same, List.replicate_succ']
  · rintro H' ⟨s1, hy⟩
    refine nil_read ⟨D, List.replicate m.toNat true, rfl, SqL.of (by rw [hy, List.map_replicate]), ?_⟩
    have e : (List.replicate m.toNat true).all id = true := by
      rw [List.all_eq_true]
      intro x hx
      rw [(List.mem_replicate.mp hx).2]
      rfl
    rw [e]
    exact k H'
end
end K2

set_option Elab.async false
set_option linter.all false
set_option maxRecDepth 100000
set_option maxHeartbeats 4000000
namespace K2
open PySem PySem.Spec PyProof.Rows L2 G1 G2 ClX
abbrev sGb : Stmt := inClass sDrv 3
abbrev sGp : Stmt := inClass sDrv 4
abbrev sGn : Stmt := inClass sDrv 5
abbrev sGr : Stmt := inClass sDrv 6
theorem scGb : FnScope ["self"] ["self"] (defScope sGb) := ⟨rfl, rfl, rfl, by decide +kernel, rfl, by decide +kernel, by decide +kernel⟩
theorem scGp : FnScope ["self"] ["self"] (defScope sGp) := ⟨rfl, rfl, rfl, by decide +kernel, rfl, by decide +kernel, by decide +kernel⟩
theorem scGn : FnScope ["self"] ["self"] (defScope sGn) := ⟨rfl, rfl, rfl, by decide +kernel, rfl, by decide +kernel, by decide +kernel⟩
theorem scGr : FnScope ["self"] ["self"] (defScope sGr) := ⟨rfl, rfl, rfl, by decide +kernel, rfl, by decide +kernel, by decide +kernel⟩
section
variable {P : Program} {w : World} {K : PySem.W.Frag} {mg : Str → Option Value} {base : Heap} {C : Addr}
theorem ok_gb {f : Addr} {fd : FuncData} (F : Fun K "blocks" "Drive.blocks" sGb f fd) (T : DCls K C) : FnOk P w K mg base CX0 1 f fd ["self"] (getSp C "kept_blocks") := by
  refine F.ok scGb (fun vs H Q E h => ?_) (fun cdv A outer s H vs Q E hr h => ?_)
  · obtain ⟨a, dx, fs, v, rfl, _⟩ := h
    rfl
  obtain ⟨a, dx, fs, v, rfl, ha, h1, k⟩ := h
  exact ⟨_, pss_one (ps_ret (pe_fld (pv 0) rfl)), _, rfl, a, C, dx, fs, _, rfl, ha, T.cl, T.nb, h1, k⟩
theorem ok_gp {f : Addr} {fd : FuncData} (F : Fun K "pages" "Drive.pages" sGp f fd) (T : DCls K C) : FnOk P w K mg base CX0 1 f fd ["self"] (getSp C "kept_pages") := by
  refine F.ok scGp (fun vs H Q E h => ?_) (fun cdv A outer s H vs Q E hr h => ?_)
  · obtain ⟨a, dx, fs, v, rfl, _⟩ := h
    rfl
  obtain ⟨a, dx, fs, v, rfl, ha, h1, k⟩ := h
  exact ⟨_, pss_one (ps_ret (pe_fld (pv 0) rfl)), _, rfl, a, C, dx, fs, _, rfl, ha, T.cl, T.np, h1, k⟩
theorem ok_gn {f : Addr} {fd : FuncData} (F : Fun K "names" "Drive.names" sGn f fd) (T : DCls K C) : FnOk P w K mg base CX0 1 f fd ["self"] (getSp C "kept_names") := by
  refine F.ok scGn (fun vs H Q E h => ?_) (fun cdv A outer s H vs Q E hr h => ?_)
  · obtain ⟨a, dx, fs, v, rfl, _⟩ := h
    rfl
  obtain ⟨a, dx, fs, v, rfl, ha, h1, k⟩ := h
  exact ⟨_, pss_one (ps_ret (pe_fld (pv 0) rfl)), _, rfl, a, C, dx, fs, _, rfl, ha, T.cl, T.nn, h1, k⟩
theorem ok_gr {f : Addr} {fd : FuncData} (F : Fun K "rows" "Drive.rows" sGr f fd) (T : DCls K C) : FnOk P w K mg base CX0 1 f fd ["self"] (getSp C "kept_rows") := by
  refine F.ok scGr (fun vs H Q E h => ?_) (fun cdv A outer s H vs Q E hr h => ?_)
  · obtain ⟨a, dx, fs, v, rfl, _⟩ := h
    rfl
  obtain ⟨a, dx, fs, v, rfl, ha, h1, k⟩ := h
  exact ⟨_, pss_one (ps_ret (pe_fld (pv 0) rfl)), _, rfl, a, C, dx, fs, _, rfl, ha, T.cl, T.nr, h1, k⟩
/-- what the top has written of a def -/
structure DF (K : PySem.W.Frag) (x : Str) (st : Stmt) (f : Addr) : Prop where
  ns : PySem.W.nsIn K mainGlobals x = some (some (.ref f))
  lk : ∃ (oc : Value) (od : Option Addr) (kV dc pm : Value) (an : Option Addr) (cd ct : Value) (sl : Array (Option Value)),
    K.lookup f = some ⟨oc, od, .func (PySem.W.fnOf x x (defArgs st) (defBody st) (defScope st) .none kV dc pm an cd ct), sl⟩ ∧ PySem.W.codeIn K cd x = true
  kp : PySem.W.keepIn K (.ref f) = true
/-- .. of a def in the class -/
structure MF (K : PySem.W.Frag) (x q : Str) (st : Stmt) (f : Addr) : Prop where
  lk : ∃ (oc : Value) (od : Option Addr) (kV dc pm : Value) (an : Option Addr) (cd ct : Value) (sl : Array (Option Value)),
    K.lookup f = some ⟨oc, od, .func (PySem.W.fnOf x q (defArgs st) (defBody st) (defScope st) .none kV dc pm an cd ct), sl⟩ ∧ PySem.W.codeIn K cd q = true
  kp : PySem.W.keepIn K (.ref f) = true
theorem DF.fn {x : Str} {st : Stmt} {f : Addr} (D : DF K x st f) : ∃ fd, Fun K x x st f fd ∧ ∃ (kV dc pm : Value) (an : Option Addr) (cd ct : Value), fd = PySem.W.fnOf x x (defArgs st) (defBody st) (defScope st) .none kV dc pm an cd ct := by
  obtain ⟨oc, od, kV, dc, pm, an, cd, ct, sl, l, h⟩ := D.lk
  exact ⟨_, fun_mk l h D.kp, kV, dc, pm, an, cd, ct, rfl⟩
theorem MF.fn {x q : Str} {st : Stmt} {f : Addr} (D : MF K x q st f) : ∃ fd, Fun K x q st f fd := by
  obtain ⟨oc, od, kV, dc, pm, an, cd, ct, sl, l, h⟩ := D.lk
  exact ⟨_, fun_mk l h D.kp⟩
/-- .. of a def with trims by name -/
structure KF (K : PySem.W.Frag) (x : Str) (st : Stmt) (f : Addr) : Prop where
  ns : PySem.W.nsIn K mainGlobals x = some (some (.ref f))
  ex : ∃ (oc : Value) (od : Option Addr) (T : Addr) (dc pm : Value) (an : Option Addr) (cd ct : Value) (sl : Array (Option Value)),
    K.lookup f = some ⟨oc, od, .func (PySem.W.fnOf x x (defArgs st) (defBody st) (defScope st) .none (.ref T) dc pm an cd ct), sl⟩ ∧ PySem.W.codeIn K cd x = true ∧ PySem.W.nsIn K T "trims" = some (some (.bool true))
  kp : PySem.W.keepIn K (.ref f) = true
theorem KF.fn {x : Str} {st : Stmt} {f : Addr} (D : KF K x st f) : ∃ fd, FunD K x x (defArgs st) (defBody st) (defScope st) [] kwT f fd := by
  obtain ⟨oc, od, T, dc, pm, an, cd, ct, sl, l, h, hT⟩ := D.ex
  exact ⟨_, ⟨oc, od, _, _, dc, pm, an, cd, ct, sl, rfl, l, h, .inl ⟨rfl, rfl⟩, .inr ⟨T, rfl, fun q hq => by rw [List.mem_singleton.mp hq]; exact ⟨_, hT, rfl⟩⟩⟩, D.kp⟩
/-- .. of the words -/
structure WF (K : PySem.W.Frag) (a : Addr) : Prop where
  ex : ∃ (od : Option Addr) (n : Nat) (t1 t2 t3 t4 : Tok) (sl : Array (Option Value)),
    K.lookup a = some ⟨.type "tuple", od, .seq #[Value.str (Str.ofString "oldest") t1, Value.str (Str.ofString "youngest") t2, Value.str (Str.ofString "least") t3, Value.str (Str.ofString "most") t4] n, sl⟩
theorem WF.at_ {a : Addr} (W : WF K a) : WordsAt K a := by
  obtain ⟨od, n, t1, t2, t3, t4, sl, l⟩ := W.ex
  exact fun H => .inr ⟨_, _, n, l, rfl, rfl, by show 4 ≤ sizeLine; decide, .cons ⟨_, rfl⟩ (.cons ⟨_, rfl⟩ (.cons ⟨_, rfl⟩ (.cons ⟨_, rfl⟩ .nil)))⟩
end
end K2

set_option Elab.async false
set_option linter.all false
set_option maxRecDepth 100000
set_option maxHeartbeats 8000000
namespace K2
open PySem PySem.Spec PyProof.Rows L2 G1 G2 ClX
/-- all that the top has written -/
structure All (K : PySem.W.Frag) (C aW I0 P0 P1 P2 P3 G0 G1' G2' G3 S0 S1 : Addr) (dA : Nat → Addr) : Prop where
  nC : PySem.W.nsIn K mainGlobals "Drive" = some (some (.ref C))
  nW : PySem.W.nsIn K mainGlobals "WORDS" = some (some (.ref aW))
  W : WF K aW
  T : DCls K C
  D : DKit K C
  mk_ : Mk K C I0
  ini : MF K "__init__" "Drive.__init__" sIni I0
  pb : PropOf K C "blocks" P0 G0
  pb_m : MF K "blocks" "Drive.blocks" sGb G0
  pp : PropOf K C "pages" P1 G1'
  pp_m : MF K "pages" "Drive.pages" sGp G1'
  pn : PropOf K C "names" P2 G2'
  pn_m : MF K "names" "Drive.names" sGn G2'
  pr : PropOf K C "rows" P3 G3
  pr_m : MF K "rows" "Drive.rows" sGr G3
  s0 : KF K "sticks" sSti S0
  s1 : KF K "stick_load" sStl S1
  d0 : DF K "spread" sSpr (dA 0)
  d1 : DF K "count_stands" sCnt (dA 1)
  d2 : DF K "is_integer" sIsI (dA 2)
  d3 : DF K "is_within" sWit (dA 3)
  d4 : DF K "is_row" sRow (dA 4)
  d5 : DF K "check_rows" sChk (dA 5)
  d6 : DF K "check_sizes" sSiz (dA 6)
  d7 : DF K "text_of" sTxt (dA 7)
  d8 : DF K "find_taker" sTak (dA 8)
  d9 : DF K "find_stuck" sStk (dA 9)
  d10 : DF K "check_drive" sCkd (dA 10)
  d11 : DF K "check_trims" sCkt (dA 11)
  d12 : DF K "fill_blocks" sFil (dA 12)
  d13 : DF K "_law_cell" sCell (dA 13)
  d14 : DF K "_law_pool" sPool (dA 14)
  d15 : DF K "_law_draw" sDraw (dA 15)
  d16 : DF K "_law_shape" sShp (dA 16)
  d17 : DF K "_law_table" sTab (dA 17)
  d18 : DF K "_law_made" sMad (dA 18)
  d19 : DF K "_law_rule" sRul (dA 19)
  d20 : DF K "_law_page" sPag (dA 20)
  d21 : DF K "_law_nexts" sNxt (dA 21)
  d22 : DF K "_law_walk" sWlk (dA 22)
  d23 : DF K "_law_drive_right" sDrr (dA 23)
  d24 : DF K "_law_right" sRgt (dA 24)
  d25 : DF K "law" sLaw (dA 25)
  k_lb : ∃ t, PySem.W.nsIn K mainGlobals "LEAST_BLOCKS" = some (some (.int 3 t))
  k_mb : ∃ t, PySem.W.nsIn K mainGlobals "MOST_BLOCKS" = some (some (.int 6 t))
  k_lp : ∃ t, PySem.W.nsIn K mainGlobals "LEAST_PAGES" = some (some (.int 2 t))
  k_mp : ∃ t, PySem.W.nsIn K mainGlobals "MOST_PAGES" = some (some (.int 5 t))
  k_mr : ∃ t, PySem.W.nsIn K mainGlobals "MOST_ROWS" = some (some (.int 4 t))
  k_ms : ∃ t, PySem.W.nsIn K mainGlobals "MOST_STANDS" = some (some (.int 2000 t))
  k_wh : ∃ t, PySem.W.nsIn K mainGlobals "WORDS_OF_HEAD" = some (some (.int 7 t))
  k_md : ∃ t, PySem.W.nsIn K mainGlobals "MOST_DIGITS" = some (some (.int 2 t))
  k_wr : ∃ t, PySem.W.nsIn K mainGlobals "WRITE" = some (some (.str (Str.ofString "write") t))
  k_sc : ∃ t, PySem.W.nsIn K mainGlobals "SCRATCH" = some (some (.str (Str.ofString "s") t))
  z_len : PySem.W.nsIn K mainGlobals "len" = some none
  z_int : PySem.W.nsIn K mainGlobals "int" = some none
  z_abs : PySem.W.nsIn K mainGlobals "abs" = some none
  z_repr : PySem.W.nsIn K mainGlobals "repr" = some none
  z_isi : PySem.W.nsIn K mainGlobals "isinstance" = some none
  z_range : PySem.W.nsIn K mainGlobals "range" = some none
  z_max : PySem.W.nsIn K mainGlobals "max" = some none
  z_min : PySem.W.nsIn K mainGlobals "min" = some none
  z_all : PySem.W.nsIn K mainGlobals "all" = some none
  z_sum : PySem.W.nsIn K mainGlobals "sum" = some none
  z_enm : PySem.W.nsIn K mainGlobals "enumerate" = some none
  z_tup : PySem.W.nsIn K mainGlobals "tuple" = some none
  z_boo : PySem.W.nsIn K mainGlobals "bool" = some none
  z_str : PySem.W.nsIn K mainGlobals "str" = some none
  z_lst : PySem.W.nsIn K mainGlobals "list" = some none
theorem All.law {P : Program} {w : World} {K : PySem.W.Frag} {mg : Str → Option Value} {h : Heap} {fa : Addr} {C aW I0 P0 P1 P2 P3 G0 G1' G2' G3 S0 S1 : Addr} {dA : Nat → Addr} (A : All K C aW I0 P0 P1 P2 P3 G0 G1' G2' G3 S0 S1 dA)
    (X : K.In h) (G : h.Ns mainGlobals mg) (hfa : mg "law" = some (.ref fa)) :
    ∃ fd : FuncData, (∀ (s : Shared) (u : Value), BindsTo s fd ⟨[u], []⟩ [("_law_cells", u)]) ∧ ∀ base : Heap, FnG P w K mg base 10 fa fd ["_law_cells"] (spLaw K) := by
  have B : Bl mg := ⟨PySem.W.mg_none_of X G A.z_len, PySem.W.mg_none_of X G A.z_int, PySem.W.mg_none_of X G A.z_abs, PySem.W.mg_none_of X G A.z_repr, PySem.W.mg_none_of X G A.z_isi, PySem.W.mg_none_of X G A.z_range, PySem.W.mg_none_of X G A.z_max, PySem.W.mg_none_of X G A.z_min, PySem.W.mg_none_of X G A.z_all, PySem.W.mg_none_of X G A.z_sum, PySem.W.mg_none_of X G A.z_enm, PySem.W.mg_none_of X G A.z_tup, PySem.W.mg_none_of X G A.z_boo, PySem.W.mg_none_of X G A.z_str⟩
  have Cm : Cn mg := ⟨(let ⟨t, e⟩ := A.k_lb; ⟨t, PySem.W.mg_of X G e⟩), (let ⟨t, e⟩ := A.k_mb; ⟨t, PySem.W.mg_of X G e⟩), (let ⟨t, e⟩ := A.k_lp; ⟨t, PySem.W.mg_of X G e⟩), (let ⟨t, e⟩ := A.k_mp; ⟨t, PySem.W.mg_of X G e⟩), (let ⟨t, e⟩ := A.k_mr; ⟨t, PySem.W.mg_of X G e⟩), (let ⟨t, e⟩ := A.k_ms; ⟨t, PySem.W.mg_of X G e⟩), (let ⟨t, e⟩ := A.k_wh; ⟨t, PySem.W.mg_of X G e⟩), (let ⟨t, e⟩ := A.k_md; ⟨t, PySem.W.mg_of X G e⟩)⟩
  have W : Gw mg := ⟨(let ⟨t, e⟩ := A.k_wr; ⟨t, PySem.W.mg_of X G e⟩), (let ⟨t, e⟩ := A.k_sc; ⟨t, PySem.W.mg_of X G e⟩)⟩
  have gD := PySem.W.mg_of X G A.nC
  have gW := PySem.W.mg_of X G A.nW
  obtain ⟨fd0, F0, kV0, dc0, pm0, an0, cd0, ct0, e0⟩ := A.d0.fn
  have b0 := F0.binds (ps := ["before", "pages"]) fun _ _ _ _ _ _ us hl => match us, hl with | [_, _], _ => rfl
  have g0 := PySem.W.mg_of X G A.d0.ns
  obtain ⟨fd1, F1, kV1, dc1, pm1, an1, cd1, ct1, e1⟩ := A.d1.fn
  have b1 := F1.binds (ps := ["blocks", "pages", "names"]) fun _ _ _ _ _ _ us hl => match us, hl with | [_, _, _], _ => rfl
  have g1 := PySem.W.mg_of X G A.d1.ns
  obtain ⟨fd2, F2, kV2, dc2, pm2, an2, cd2, ct2, e2⟩ := A.d2.fn
  have b2 := F2.binds (ps := ["value"]) fun _ _ _ _ _ _ us hl => match us, hl with | [_], _ => rfl
  have g2 := PySem.W.mg_of X G A.d2.ns
  obtain ⟨fd3, F3, kV3, dc3, pm3, an3, cd3, ct3, e3⟩ := A.d3.fn
  have b3 := F3.binds (ps := ["value", "least", "most"]) fun _ _ _ _ _ _ us hl => match us, hl with | [_, _, _], _ => rfl
  have g3 := PySem.W.mg_of X G A.d3.ns
  obtain ⟨fd4, F4, kV4, dc4, pm4, an4, cd4, ct4, e4⟩ := A.d4.fn
  have b4 := F4.binds (ps := ["value", "pages"]) fun _ _ _ _ _ _ us hl => match us, hl with | [_, _], _ => rfl
  have g4 := PySem.W.mg_of X G A.d4.ns
  obtain ⟨fd5, F5, kV5, dc5, pm5, an5, cd5, ct5, e5⟩ := A.d5.fn
  have b5 := F5.binds (ps := ["rows", "pages"]) fun _ _ _ _ _ _ us hl => match us, hl with | [_, _], _ => rfl
  have g5 := PySem.W.mg_of X G A.d5.ns
  obtain ⟨fd6, F6, kV6, dc6, pm6, an6, cd6, ct6, e6⟩ := A.d6.fn
  have b6 := F6.binds (ps := ["blocks", "pages", "names"]) fun _ _ _ _ _ _ us hl => match us, hl with | [_, _, _], _ => rfl
  have g6 := PySem.W.mg_of X G A.d6.ns
  obtain ⟨fd7, F7, kV7, dc7, pm7, an7, cd7, ct7, e7⟩ := A.d7.fn
  have b7 := F7.binds (ps := ["blocks", "pages", "names", "rows"]) fun _ _ _ _ _ _ us hl => match us, hl with | [_, _, _, _], _ => rfl
  have g7 := PySem.W.mg_of X G A.d7.ns
  obtain ⟨fd8, F8, kV8, dc8, pm8, an8, cd8, ct8, e8⟩ := A.d8.fn
  have b8 := F8.binds (ps := ["drive"]) fun _ _ _ _ _ _ us hl => match us, hl with | [_], _ => rfl
  have g8 := PySem.W.mg_of X G A.d8.ns
  obtain ⟨fd9, F9, kV9, dc9, pm9, an9, cd9, ct9, e9⟩ := A.d9.fn
  have b9 := F9.binds (ps := ["drive"]) fun _ _ _ _ _ _ us hl => match us, hl with | [_], _ => rfl
  have g9 := PySem.W.mg_of X G A.d9.ns
  obtain ⟨fd10, F10, kV10, dc10, pm10, an10, cd10, ct10, e10⟩ := A.d10.fn
  have b10 := F10.binds (ps := ["drive"]) fun _ _ _ _ _ _ us hl => match us, hl with | [_], _ => rfl
  have g10 := PySem.W.mg_of X G A.d10.ns
  obtain ⟨fd11, F11, kV11, dc11, pm11, an11, cd11, ct11, e11⟩ := A.d11.fn
  have b11 := F11.binds (ps := ["trims"]) fun _ _ _ _ _ _ us hl => match us, hl with | [_], _ => rfl
  have g11 := PySem.W.mg_of X G A.d11.ns
  obtain ⟨fd12, F12, kV12, dc12, pm12, an12, cd12, ct12, e12⟩ := A.d12.fn
  have b12 := F12.binds (ps := ["drive", "closed"]) fun _ _ _ _ _ _ us hl => match us, hl with | [_, _], _ => rfl
  have g12 := PySem.W.mg_of X G A.d12.ns
  obtain ⟨fd13, F13, kV13, dc13, pm13, an13, cd13, ct13, e13⟩ := A.d13.fn
  have b13 := F13.binds (ps := ["_law_cells", "_law_k"]) fun _ _ _ _ _ _ us hl => match us, hl with | [_, _], _ => rfl
  have g13 := PySem.W.mg_of X G A.d13.ns
  obtain ⟨fd14, F14, kV14, dc14, pm14, an14, cd14, ct14, e14⟩ := A.d14.fn
  have b14 := F14.binds (ps := ["_law_cell_here"]) fun _ _ _ _ _ _ us hl => match us, hl with | [_], _ => rfl
  have g14 := PySem.W.mg_of X G A.d14.ns
  obtain ⟨fd15, F15, kV15, dc15, pm15, an15, cd15, ct15, e15⟩ := A.d15.fn
  have b15 := F15.binds (ps := ["_law_pool_here", "_law_many"]) fun _ _ _ _ _ _ us hl => match us, hl with | [_, _], _ => rfl
  have g15 := PySem.W.mg_of X G A.d15.ns
  obtain ⟨fd16, F16, kV16, dc16, pm16, an16, cd16, ct16, e16⟩ := A.d16.fn
  have b16 := F16.binds (ps := ["_law_pool_here"]) fun _ _ _ _ _ _ us hl => match us, hl with | [_], _ => rfl
  have g16 := PySem.W.mg_of X G A.d16.ns
  obtain ⟨fd17, F17, kV17, dc17, pm17, an17, cd17, ct17, e17⟩ := A.d17.fn
  have b17 := F17.binds (ps := ["_law_pool_here", "_law_size"]) fun _ _ _ _ _ _ us hl => match us, hl with | [_, _], _ => rfl
  have g17 := PySem.W.mg_of X G A.d17.ns
  obtain ⟨fd18, F18, kV18, dc18, pm18, an18, cd18, ct18, e18⟩ := A.d18.fn
  have b18 := F18.binds (ps := ["_law_shape_here", "_law_table_here"]) fun _ _ _ _ _ _ us hl => match us, hl with | [_, _], _ => rfl
  have g18 := PySem.W.mg_of X G A.d18.ns
  obtain ⟨fd19, F19, kV19, dc19, pm19, an19, cd19, ct19, e19⟩ := A.d19.fn
  have b19 := F19.binds (ps := ["_law_table_here", "_law_lives"]) fun _ _ _ _ _ _ us hl => match us, hl with | [_, _], _ => rfl
  have g19 := PySem.W.mg_of X G A.d19.ns
  obtain ⟨fd20, F20, kV20, dc20, pm20, an20, cd20, ct20, e20⟩ := A.d20.fn
  have b20 := F20.binds (ps := ["_law_shape_here", "_law_table_here", "_law_shut", "_law_half"]) fun _ _ _ _ _ _ us hl => match us, hl with | [_, _, _, _], _ => rfl
  have g20 := PySem.W.mg_of X G A.d20.ns
  obtain ⟨fd21, F21, kV21, dc21, pm21, an21, cd21, ct21, e21⟩ := A.d21.fn
  have b21 := F21.binds (ps := ["_law_shape_here", "_law_table_here", "_law_spot", "_law_flag"]) fun _ _ _ _ _ _ us hl => match us, hl with | [_, _, _, _], _ => rfl
  have g21 := PySem.W.mg_of X G A.d21.ns
  obtain ⟨fd22, F22, kV22, dc22, pm22, an22, cd22, ct22, e22⟩ := A.d22.fn
  have b22 := F22.binds (ps := ["_law_shape_here", "_law_table_here", "_law_flag"]) fun _ _ _ _ _ _ us hl => match us, hl with | [_, _, _], _ => rfl
  have g22 := PySem.W.mg_of X G A.d22.ns
  obtain ⟨fd23, F23, kV23, dc23, pm23, an23, cd23, ct23, e23⟩ := A.d23.fn
  have b23 := F23.binds (ps := ["_law_shape_here", "_law_table_here"]) fun _ _ _ _ _ _ us hl => match us, hl with | [_, _], _ => rfl
  have g23 := PySem.W.mg_of X G A.d23.ns
  obtain ⟨fd24, F24, kV24, dc24, pm24, an24, cd24, ct24, e24⟩ := A.d24.fn
  have b24 := F24.binds (ps := ["_law_pool_here"]) fun _ _ _ _ _ _ us hl => match us, hl with | [_], _ => rfl
  have g24 := PySem.W.mg_of X G A.d24.ns
  obtain ⟨fd25, F25, kV25, dc25, pm25, an25, cd25, ct25, e25⟩ := A.d25.fn
  have b25 := F25.binds (ps := ["_law_cells"]) fun _ _ _ _ _ _ us hl => match us, hl with | [_], _ => rfl
  have g25 := PySem.W.mg_of X G A.d25.ns
  obtain ⟨fd_ini, F_ini⟩ := A.ini.fn
  have b_ini := F_ini.binds (ps := ["self", "blocks", "pages", "names", "rows"]) fun _ _ _ _ _ _ us hl => match us, hl with | [_, _, _, _, _], _ => rfl
  obtain ⟨fd_pb, F_pb⟩ := A.pb_m.fn
  have b_pb := F_pb.binds (ps := ["self"]) fun _ _ _ _ _ _ us hl => match us, hl with | [_], _ => rfl
  obtain ⟨fd_pp, F_pp⟩ := A.pp_m.fn
  have b_pp := F_pp.binds (ps := ["self"]) fun _ _ _ _ _ _ us hl => match us, hl with | [_], _ => rfl
  obtain ⟨fd_pn, F_pn⟩ := A.pn_m.fn
  have b_pn := F_pn.binds (ps := ["self"]) fun _ _ _ _ _ _ us hl => match us, hl with | [_], _ => rfl
  obtain ⟨fd_pr, F_pr⟩ := A.pr_m.fn
  have b_pr := F_pr.binds (ps := ["self"]) fun _ _ _ _ _ _ us hl => match us, hl with | [_], _ => rfl
  obtain ⟨fs0, FS0⟩ := A.s0.fn
  have gS0 := PySem.W.mg_of X G A.s0.ns
  obtain ⟨fs1, FS1⟩ := A.s1.fn
  have gS1 := PySem.W.mg_of X G A.s1.ns
  have e := hfa.symm.trans g25
  cases e
  refine ⟨fd25, fun s u => ?_, fun base => ?_⟩
  · rw [e25]
    exact .of_eq rfl
  have T := A.T
  have bl : mg "list" = none := PySem.W.mg_none_of X G A.z_lst
  have o_isI : FnOk P w K mg base CX0 1 (dA 2) fd2 ["value"] spIsI := ok_isI F2 B
  have o_wit : FnOk P w K mg base CX0 2 (dA 3) fd3 ["value", "least", "most"] spWit := ok_wit F3 o_isI F2.kp b2 g2
  have o_row : FnOk P w K mg base CX0 3 (dA 4) fd4 ["value", "pages"] (spRow K) := ok_row F4 B o_wit F3.kp b3 g3 gW A.W.at_
  have o_chk : FnOk P w K mg base CX0 4 (dA 5) fd5 ["rows", "pages"] (spChk K) := ok_chk F5 B o_row F4.kp b4 g4 Cm.mr
  have o_siz : FnOk P w K mg base CX0 3 (dA 6) fd6 ["blocks", "pages", "names"] spSiz := ok_siz F6 Cm o_wit F3.kp b3 g3
  have o_txt : FnOk P w K mg base CX0 1 (dA 7) fd7 ["blocks", "pages", "names", "rows"] (spTxt K) := ok_txt F7 B
  have o_spr : FnOk P w K mg base CX0 1 (dA 0) fd0 ["before", "pages"] (spSpr K) := ok_spr F0 B
  have o_cnt : FnOk P w K mg base CX0 2 (dA 1) fd1 ["blocks", "pages", "names"] spCnt := ok_cnt F1 B o_spr F0.kp b0 g0
  have o_ini : FnOk P w K mg base CX0 5 I0 fd_ini ["self", "blocks", "pages", "names", "rows"] (spIni K C) := ok_ini F_ini T Cm ⟨o_siz, F6.kp, b6, g6, o_chk, F5.kp, b5, g5, o_txt, F7.kp, b7, g7, o_cnt, F1.kp, b1, g1⟩
  have o_drw : FnOk P w K mg base CX0 1 (dA 15) fd15 ["_law_pool_here", "_law_many"] spDraw := ok_draw F15 B
  have o_mad : FnOk P w K mg base CX0 7 (dA 18) fd18 ["_law_shape_here", "_law_table_here"] (spMad K C) := ok_mad F18 A.mk_ o_ini b_ini gD
  have M : DD P w K mg base C := ⟨T, A.D, ⟨_, _, _, A.pb, ok_gb F_pb T, b_pb⟩, ⟨_, _, _, A.pp, ok_gp F_pp T, b_pp⟩, ⟨_, _, _, A.pn, ok_gn F_pn T, b_pn⟩, ⟨_, _, _, A.pr, ok_gr F_pr T, b_pr⟩, gD⟩
  have A_tak : FAt P w K mg base 3 "find_taker" ["drive"] (spTak K C) := ⟨_, _, ok_tak F8 B M, F8.kp, b8, g8⟩
  have A_stk : FAt P w K mg base 4 "find_stuck" ["drive"] (spStk K C) := ⟨_, _, ok_stk F9 B M A_tak, F9.kp, b9, g9⟩
  have A_ckd : FAt P w K mg base 1 "check_drive" ["drive"] (spCkd K C) := ⟨_, _, ok_ckd F10 B M, F10.kp, b10, g10⟩
  have A_ckt : FAt P w K mg base 1 "check_trims" ["trims"] spCkt := ⟨_, _, ok_ckt F11, F11.kp, b11, g11⟩
  have A_fil : FAt P w K mg base 3 "fill_blocks" ["drive", "closed"] (spFil K C) := ⟨_, _, ok_fil F12 B M W, F12.kp, b12, g12⟩
  have A_rul : FAt P w K mg base 1 "_law_rule" ["_law_table_here", "_law_lives"] (spRul K) := ⟨_, _, ok_rul F19 B, F19.kp, b19, g19⟩
  have A_pag : FAt P w K mg base 2 "_law_page" ["_law_shape_here", "_law_table_here", "_law_shut", "_law_half"] (spPag K) := ⟨_, _, ok_pag F20 B bl A_rul, F20.kp, b20, g20⟩
  have A_nxt : FAt P w K mg base 3 "_law_nexts" ["_law_shape_here", "_law_table_here", "_law_spot", "_law_flag"] (spNxt K) := ⟨_, _, ok_nxt F21 B A_pag, F21.kp, b21, g21⟩
  have A_wlk : FAt P w K mg base 4 "_law_walk" ["_law_shape_here", "_law_table_here", "_law_flag"] (spWlk K) := ⟨_, _, ok_wlk F22 B A_nxt, F22.kp, b22, g22⟩
  have S : SL P w K mg base C := ⟨⟨_, _, ok_sti FS0 A_ckd A_ckt A_stk, FS0.kp, b_sti FS0, k_sti FS0, k_sti0 FS0, gS0⟩, ⟨_, _, ok_stl FS1 W A_ckd A_ckt A_stk A_fil, FS1.kp, b_stl FS1, k_stl FS1, gS1⟩, ⟨_, _, o_mad, F18.kp, b18, g18⟩, A_wlk⟩
  have L : LR P w K mg base := ⟨⟨_, _, o_drw, F15.kp, b15, g15⟩, ⟨_, _, ok_shp F16 o_drw F15.kp b15 g15, F16.kp, b16, g16⟩, ⟨_, _, ok_tab F17 B o_drw F15.kp b15 g15, F17.kp, b17, g17⟩, ⟨_, _, ok_drr F23 B S, F23.kp, b23, g23⟩⟩
  exact ok_law F25 B ⟨_, _, ok_cell F13 B, F13.kp, b13, g13⟩ ⟨_, _, ok_pool F14 B, F14.kp, b14, g14⟩ ⟨_, _, ok_rgt F24 B L, F24.kp, b24, g24⟩
end K2

set_option maxHeartbeats 8000000
namespace K2
open PySem PySem.Spec PyProof.Rows L2 G1 G2 ClX
def dA : Nat → Addr
  | 0 => 40
  | 1 => 45
  | 2 => 230
  | 3 => 237
  | 4 => 245
  | 5 => 252
  | 6 => 285
  | 7 => 259
  | 8 => 28
  | 9 => 35
  | 10 => 401
  | 11 => 408
  | 12 => 429
  | 13 => 436
  | 14 => 443
  | 15 => 450
  | 16 => 457
  | 17 => 464
  | 18 => 471
  | 19 => 476
  | 20 => 483
  | 21 => 488
  | 22 => 495
  | 23 => 502
  | 24 => 509
  | 25 => 514
  | _ => 0
section
variable {K : PySem.W.Frag} {C f : Addr}
theorem dcls_mk (pg : PySem.W.plainGet K C "" = true) (hd : PySem.W.hasDictIn K C = true) (po : PySem.W.plainOver K C = true) (sa : PySem.W.findIn K (.ref C) "__setattr__" = some (some (.builtin "object.__setattr__")))
    (nb : PySem.W.findIn K (.ref C) "kept_blocks" = some none) (np : PySem.W.findIn K (.ref C) "kept_pages" = some none) (nn : PySem.W.findIn K (.ref C) "kept_names" = some none) (nr : PySem.W.findIn K (.ref C) "kept_rows" = some none) (nt : PySem.W.findIn K (.ref C) "kept_text" = some none) : DCls K C := ⟨⟨pg, hd, po, sa⟩, nb, np, nn, nr, nt⟩
theorem prop_mk {x : Str} {p g : Addr} {rest : List Value} (h1 : PySem.W.findIn K (.ref C) x = some (some (.ref p))) (h2 : PySem.W.specialIn K (.ref p) "__get__" = some (some (.builtin "property.__get__"))) (h3 : PySem.W.takesIn K (.ref p) = some true) (h4 : PySem.W.recIn K p "property" = some (.ref g :: rest)) : PropOf K C x p g := ⟨h1, h2, h3, rest, h4⟩
theorem mf_mk {x q : Str} {st : Stmt} {oc : Value} {od : Option Addr} {kV dc pm : Value} {an : Option Addr} {cd ct : Value} {sl : Array (Option Value)}
    (l : K.lookup f = some ⟨oc, od, .func (PySem.W.fnOf x q (defArgs st) (defBody st) (defScope st) .none kV dc pm an cd ct), sl⟩) (h : PySem.W.codeIn K cd q = true) (kp : PySem.W.keepIn K (.ref f) = true) : MF K x q st f := ⟨⟨oc, od, kV, dc, pm, an, cd, ct, sl, l, h⟩, kp⟩
theorem df_mk {x : Str} {st : Stmt} {oc : Value} {od : Option Addr} {kV dc pm : Value} {an : Option Addr} {cd ct : Value} {sl : Array (Option Value)} (n : PySem.W.nsIn K mainGlobals x = some (some (.ref f)))
    (l : K.lookup f = some ⟨oc, od, .func (PySem.W.fnOf x x (defArgs st) (defBody st) (defScope st) .none kV dc pm an cd ct), sl⟩) (h : PySem.W.codeIn K cd x = true) (kp : PySem.W.keepIn K (.ref f) = true) : DF K x st f := ⟨n, ⟨oc, od, kV, dc, pm, an, cd, ct, sl, l, h⟩, kp⟩
theorem kf_mk {x : Str} {st : Stmt} {oc : Value} {od : Option Addr} {T : Addr} {dc pm : Value} {an : Option Addr} {cd ct : Value} {sl : Array (Option Value)} (n : PySem.W.nsIn K mainGlobals x = some (some (.ref f)))
    (l : K.lookup f = some ⟨oc, od, .func (PySem.W.fnOf x x (defArgs st) (defBody st) (defScope st) .none (.ref T) dc pm an cd ct), sl⟩) (h : PySem.W.codeIn K cd x = true) (hT : PySem.W.nsIn K T "trims" = some (some (.bool true))) (kp : PySem.W.keepIn K (.ref f) = true) : KF K x st f := ⟨n, ⟨oc, od, T, dc, pm, an, cd, ct, sl, l, h, hT⟩, kp⟩
theorem wf_mk {od : Option Addr} {n : Nat} {t1 t2 t3 t4 : Tok} {sl : Array (Option Value)}
    (l : K.lookup f = some ⟨.type "tuple", od, .seq #[Value.str (Str.ofString "oldest") t1, Value.str (Str.ofString "youngest") t2, Value.str (Str.ofString "least") t3, Value.str (Str.ofString "most") t4] n, sl⟩) : WF K f := ⟨⟨od, n, t1, t2, t3, t4, sl, l⟩⟩
theorem ct_mk {x : Str} {i : Int} {t : Tok} (n : PySem.W.nsIn K mainGlobals x = some (some (.int i t))) : ∃ t, PySem.W.nsIn K mainGlobals x = some (some (.int i t)) := ⟨t, n⟩
theorem cs_mk {x y : Str} {t : Tok} (n : PySem.W.nsIn K mainGlobals x = some (some (.str y t))) : ∃ t, PySem.W.nsIn K mainGlobals x = some (some (.str y t)) := ⟨t, n⟩
end
end K2
open PySem PySem.W PyProof.Rows
set_option maxRecDepth 100000 in
set_option maxHeartbeats 0 in
theorem PySem.Challenge.cw_spareblocks_k15_sticking_by_own_walk_holds : PySem.Challenge.rw_spareblocks_k15_sticking_by_own_walk.Holds := by
  w_on; o_law; k_head; (case hw => w_witness2)
  k_fill
  refine G1.walkG (l := PySem.Challenge.rw_spareblocks_k15_sticking_by_own_walk) (n := 63) (k := 10) (x := "_law_cells") (sp := fun w => K2.spLaw _) rfl (by decide) rfl ⟨rfl, by decide, by decide⟩ (fun w h Y => PySem.W.kIn_of Y) ?F (fun _ _ a ns hl hS => ⟨a, ns, rfl, hS, hl, fun _ => rfl⟩)
  case F =>
    intro w mg fa h KX G hmg
    have A : K2.All (L2.KOf KX) 390 238 299 328 336 344 352 327 335 343 351 416 424 K2.dA := by
      clear hmg G
      have nC : PySem.W.nsIn (L2.KOf KX) mainGlobals "Drive" = some (some (.ref 390)) := by unfold L2.KOf; k_is
      have nW : PySem.W.nsIn (L2.KOf KX) mainGlobals "WORDS" = some (some (.ref 238)) := by unfold L2.KOf; k_is
      have hW : K2.WF (L2.KOf KX) 238 := by unfold L2.KOf; refine' K2.wf_mk ?l; (case l => k_is)
      have hT : K2.DCls (L2.KOf KX) 390 := by unfold L2.KOf; refine' K2.dcls_mk ?pg ?hd ?po ?sa ?nb ?np ?nn ?nr ?nt; (case pg => k_is); (case hd => k_is); (case po => k_is); (case sa => k_is); (case nb => k_is); (case np => k_is); (case nn => k_is); (case nr => k_is); (case nt => k_is)
      have hD : K2.DKit (L2.KOf KX) 390 := by unfold L2.KOf; refine' K2.DKit.mk ?a1 ?a2 ?a3 ?a4 ?a5 ?a6 ?a7 ?a8 ?a9 ?b1 ?b2; (case a1 => kit_is); (case a2 => kit_is); (case a3 => kit_is); (case a4 => kit_is); (case a5 => kit_is); (case a6 => kit_is); (case a7 => kit_is); (case a8 => k_is); (case a9 => k_is); (case b1 => k_is); (case b2 => k_is)
      have hM : L2.Mk (L2.KOf KX) 390 299 := by unfold L2.KOf; refine' L2.Mk.mk ?a1 ?a2 ?a3 ?a4; (case a1 => k_is); (case a2 => k_is); (case a3 => k_is); (case a4 => k_is)
      have hI : K2.MF (L2.KOf KX) "__init__" "Drive.__init__" K2.sIni 299 := by unfold L2.KOf; refine' K2.mf_mk ?l ?h ?kp; (case l => k_is); (case h => k_is); (case kp => k_is)
      have pb : L2.PropOf (L2.KOf KX) 390 "blocks" 328 327 := by unfold L2.KOf; refine' K2.prop_mk ?a1 ?a2 ?a3 ?a4; (case a1 => k_is); (case a2 => k_is); (case a3 => k_is); (case a4 => k_is)
      have pb_m : K2.MF (L2.KOf KX) "blocks" "Drive.blocks" K2.sGb 327 := by unfold L2.KOf; refine' K2.mf_mk ?l ?h ?kp; (case l => k_is); (case h => k_is); (case kp => k_is)
      have pp : L2.PropOf (L2.KOf KX) 390 "pages" 336 335 := by unfold L2.KOf; refine' K2.prop_mk ?a1 ?a2 ?a3 ?a4; (case a1 => k_is); (case a2 => k_is); (case a3 => k_is); (case a4 => k_is)
      have pp_m : K2.MF (L2.KOf KX) "pages" "Drive.pages" K2.sGp 335 := by unfold L2.KOf; refine' K2.mf_mk ?l ?h ?kp; (case l => k_is); (case h => k_is); (case kp => k_is)
      have pn : L2.PropOf (L2.KOf KX) 390 "names" 344 343 := by unfold L2.KOf; refine' K2.prop_mk ?a1 ?a2 ?a3 ?a4; (case a1 => k_is); (case a2 => k_is); (case a3 => k_is); (case a4 => k_is)
      have pn_m : K2.MF (L2.KOf KX) "names" "Drive.names" K2.sGn 343 := by unfold L2.KOf; refine' K2.mf_mk ?l ?h ?kp; (case l => k_is); (case h => k_is); (case kp => k_is)
      have pr : L2.PropOf (L2.KOf KX) 390 "rows" 352 351 := by unfold L2.KOf; refine' K2.prop_mk ?a1 ?a2 ?a3 ?a4; (case a1 => k_is); (case a2 => k_is); (case a3 => k_is); (case a4 => k_is)
      have pr_m : K2.MF (L2.KOf KX) "rows" "Drive.rows" K2.sGr 351 := by unfold L2.KOf; refine' K2.mf_mk ?l ?h ?kp; (case l => k_is); (case h => k_is); (case kp => k_is)
      have s0 : K2.KF (L2.KOf KX) "sticks" K2.sSti 416 := by unfold L2.KOf; refine' K2.kf_mk ?n ?l ?h ?hT ?kp; (case n => k_is); (case l => k_is); (case h => k_is); (case hT => k_is); (case kp => k_is)
      have s1 : K2.KF (L2.KOf KX) "stick_load" K2.sStl 424 := by unfold L2.KOf; refine' K2.kf_mk ?n ?l ?h ?hT ?kp; (case n => k_is); (case l => k_is); (case h => k_is); (case hT => k_is); (case kp => k_is)
      have d0 : K2.DF (L2.KOf KX) "spread" K2.sSpr 40 := by unfold L2.KOf; refine' K2.df_mk ?n ?l ?h ?kp; (case n => k_is); (case l => k_is); (case h => k_is); (case kp => k_is)
      have d1 : K2.DF (L2.KOf KX) "count_stands" K2.sCnt 45 := by unfold L2.KOf; refine' K2.df_mk ?n ?l ?h ?kp; (case n => k_is); (case l => k_is); (case h => k_is); (case kp => k_is)
      have d2 : K2.DF (L2.KOf KX) "is_integer" K2.sIsI 230 := by unfold L2.KOf; refine' K2.df_mk ?n ?l ?h ?kp; (case n => k_is); (case l => k_is); (case h => k_is); (case kp => k_is)
      have d3 : K2.DF (L2.KOf KX) "is_within" K2.sWit 237 := by unfold L2.KOf; refine' K2.df_mk ?n ?l ?h ?kp; (case n => k_is); (case l => k_is); (case h => k_is); (case kp => k_is)
      have d4 : K2.DF (L2.KOf KX) "is_row" K2.sRow 245 := by unfold L2.KOf; refine' K2.df_mk ?n ?l ?h ?kp; (case n => k_is); (case l => k_is); (case h => k_is); (case kp => k_is)
      have d5 : K2.DF (L2.KOf KX) "check_rows" K2.sChk 252 := by unfold L2.KOf; refine' K2.df_mk ?n ?l ?h ?kp; (case n => k_is); (case l => k_is); (case h => k_is); (case kp => k_is)
      have d6 : K2.DF (L2.KOf KX) "check_sizes" K2.sSiz 285 := by unfold L2.KOf; refine' K2.df_mk ?n ?l ?h ?kp; (case n => k_is); (case l => k_is); (case h => k_is); (case kp => k_is)
      have d7 : K2.DF (L2.KOf KX) "text_of" K2.sTxt 259 := by unfold L2.KOf; refine' K2.df_mk ?n ?l ?h ?kp; (case n => k_is); (case l => k_is); (case h => k_is); (case kp => k_is)
      have d8 : K2.DF (L2.KOf KX) "find_taker" K2.sTak 28 := by unfold L2.KOf; refine' K2.df_mk ?n ?l ?h ?kp; (case n => k_is); (case l => k_is); (case h => k_is); (case kp => k_is)
      have d9 : K2.DF (L2.KOf KX) "find_stuck" K2.sStk 35 := by unfold L2.KOf; refine' K2.df_mk ?n ?l ?h ?kp; (case n => k_is); (case l => k_is); (case h => k_is); (case kp => k_is)
      have d10 : K2.DF (L2.KOf KX) "check_drive" K2.sCkd 401 := by unfold L2.KOf; refine' K2.df_mk ?n ?l ?h ?kp; (case n => k_is); (case l => k_is); (case h => k_is); (case kp => k_is)
      have d11 : K2.DF (L2.KOf KX) "check_trims" K2.sCkt 408 := by unfold L2.KOf; refine' K2.df_mk ?n ?l ?h ?kp; (case n => k_is); (case l => k_is); (case h => k_is); (case kp => k_is)
      have d12 : K2.DF (L2.KOf KX) "fill_blocks" K2.sFil 429 := by unfold L2.KOf; refine' K2.df_mk ?n ?l ?h ?kp; (case n => k_is); (case l => k_is); (case h => k_is); (case kp => k_is)
      have d13 : K2.DF (L2.KOf KX) "_law_cell" K2.sCell 436 := by unfold L2.KOf; refine' K2.df_mk ?n ?l ?h ?kp; (case n => k_is); (case l => k_is); (case h => k_is); (case kp => k_is)
      have d14 : K2.DF (L2.KOf KX) "_law_pool" K2.sPool 443 := by unfold L2.KOf; refine' K2.df_mk ?n ?l ?h ?kp; (case n => k_is); (case l => k_is); (case h => k_is); (case kp => k_is)
      have d15 : K2.DF (L2.KOf KX) "_law_draw" K2.sDraw 450 := by unfold L2.KOf; refine' K2.df_mk ?n ?l ?h ?kp; (case n => k_is); (case l => k_is); (case h => k_is); (case kp => k_is)
      have d16 : K2.DF (L2.KOf KX) "_law_shape" K2.sShp 457 := by unfold L2.KOf; refine' K2.df_mk ?n ?l ?h ?kp; (case n => k_is); (case l => k_is); (case h => k_is); (case kp => k_is)
      have d17 : K2.DF (L2.KOf KX) "_law_table" K2.sTab 464 := by unfold L2.KOf; refine' K2.df_mk ?n ?l ?h ?kp; (case n => k_is); (case l => k_is); (case h => k_is); (case kp => k_is)
      have d18 : K2.DF (L2.KOf KX) "_law_made" K2.sMad 471 := by unfold L2.KOf; refine' K2.df_mk ?n ?l ?h ?kp; (case n => k_is); (case l => k_is); (case h => k_is); (case kp => k_is)
      have d19 : K2.DF (L2.KOf KX) "_law_rule" K2.sRul 476 := by unfold L2.KOf; refine' K2.df_mk ?n ?l ?h ?kp; (case n => k_is); (case l => k_is); (case h => k_is); (case kp => k_is)
      have d20 : K2.DF (L2.KOf KX) "_law_page" K2.sPag 483 := by unfold L2.KOf; refine' K2.df_mk ?n ?l ?h ?kp; (case n => k_is); (case l => k_is); (case h => k_is); (case kp => k_is)
      have d21 : K2.DF (L2.KOf KX) "_law_nexts" K2.sNxt 488 := by unfold L2.KOf; refine' K2.df_mk ?n ?l ?h ?kp; (case n => k_is); (case l => k_is); (case h => k_is); (case kp => k_is)
      have d22 : K2.DF (L2.KOf KX) "_law_walk" K2.sWlk 495 := by unfold L2.KOf; refine' K2.df_mk ?n ?l ?h ?kp; (case n => k_is); (case l => k_is); (case h => k_is); (case kp => k_is)
      have d23 : K2.DF (L2.KOf KX) "_law_drive_right" K2.sDrr 502 := by unfold L2.KOf; refine' K2.df_mk ?n ?l ?h ?kp; (case n => k_is); (case l => k_is); (case h => k_is); (case kp => k_is)
      have d24 : K2.DF (L2.KOf KX) "_law_right" K2.sRgt 509 := by unfold L2.KOf; refine' K2.df_mk ?n ?l ?h ?kp; (case n => k_is); (case l => k_is); (case h => k_is); (case kp => k_is)
      have d25 : K2.DF (L2.KOf KX) "law" K2.sLaw 514 := by unfold L2.KOf; refine' K2.df_mk ?n ?l ?h ?kp; (case n => k_is); (case l => k_is); (case h => k_is); (case kp => k_is)
      have k_lb : ∃ t, PySem.W.nsIn (L2.KOf KX) mainGlobals "LEAST_BLOCKS" = some (some (.int 3 t)) := by unfold L2.KOf; refine' K2.ct_mk ?n; (case n => k_is)
      have k_mb : ∃ t, PySem.W.nsIn (L2.KOf KX) mainGlobals "MOST_BLOCKS" = some (some (.int 6 t)) := by unfold L2.KOf; refine' K2.ct_mk ?n; (case n => k_is)
      have k_lp : ∃ t, PySem.W.nsIn (L2.KOf KX) mainGlobals "LEAST_PAGES" = some (some (.int 2 t)) := by unfold L2.KOf; refine' K2.ct_mk ?n; (case n => k_is)
      have k_mp : ∃ t, PySem.W.nsIn (L2.KOf KX) mainGlobals "MOST_PAGES" = some (some (.int 5 t)) := by unfold L2.KOf; refine' K2.ct_mk ?n; (case n => k_is)
      have k_mr : ∃ t, PySem.W.nsIn (L2.KOf KX) mainGlobals "MOST_ROWS" = some (some (.int 4 t)) := by unfold L2.KOf; refine' K2.ct_mk ?n; (case n => k_is)
      have k_ms : ∃ t, PySem.W.nsIn (L2.KOf KX) mainGlobals "MOST_STANDS" = some (some (.int 2000 t)) := by unfold L2.KOf; refine' K2.ct_mk ?n; (case n => k_is)
      have k_wh : ∃ t, PySem.W.nsIn (L2.KOf KX) mainGlobals "WORDS_OF_HEAD" = some (some (.int 7 t)) := by unfold L2.KOf; refine' K2.ct_mk ?n; (case n => k_is)
      have k_md : ∃ t, PySem.W.nsIn (L2.KOf KX) mainGlobals "MOST_DIGITS" = some (some (.int 2 t)) := by unfold L2.KOf; refine' K2.ct_mk ?n; (case n => k_is)
      have k_wr : ∃ t, PySem.W.nsIn (L2.KOf KX) mainGlobals "WRITE" = some (some (.str (Str.ofString "write") t)) := by unfold L2.KOf; refine' K2.cs_mk ?n; (case n => k_is)
      have k_sc : ∃ t, PySem.W.nsIn (L2.KOf KX) mainGlobals "SCRATCH" = some (some (.str (Str.ofString "s") t)) := by unfold L2.KOf; refine' K2.cs_mk ?n; (case n => k_is)
      have z_len : PySem.W.nsIn (L2.KOf KX) mainGlobals "len" = some none := by unfold L2.KOf; k_is
      have z_int : PySem.W.nsIn (L2.KOf KX) mainGlobals "int" = some none := by unfold L2.KOf; k_is
      have z_abs : PySem.W.nsIn (L2.KOf KX) mainGlobals "abs" = some none := by unfold L2.KOf; k_is
      have z_repr : PySem.W.nsIn (L2.KOf KX) mainGlobals "repr" = some none := by unfold L2.KOf; k_is
      have z_isi : PySem.W.nsIn (L2.KOf KX) mainGlobals "isinstance" = some none := by unfold L2.KOf; k_is
      have z_range : PySem.W.nsIn (L2.KOf KX) mainGlobals "range" = some none := by unfold L2.KOf; k_is
      have z_max : PySem.W.nsIn (L2.KOf KX) mainGlobals "max" = some none := by unfold L2.KOf; k_is
      have z_min : PySem.W.nsIn (L2.KOf KX) mainGlobals "min" = some none := by unfold L2.KOf; k_is
      have z_all : PySem.W.nsIn (L2.KOf KX) mainGlobals "all" = some none := by unfold L2.KOf; k_is
      have z_sum : PySem.W.nsIn (L2.KOf KX) mainGlobals "sum" = some none := by unfold L2.KOf; k_is
      have z_enm : PySem.W.nsIn (L2.KOf KX) mainGlobals "enumerate" = some none := by unfold L2.KOf; k_is
      have z_tup : PySem.W.nsIn (L2.KOf KX) mainGlobals "tuple" = some none := by unfold L2.KOf; k_is
      have z_boo : PySem.W.nsIn (L2.KOf KX) mainGlobals "bool" = some none := by unfold L2.KOf; k_is
      have z_str : PySem.W.nsIn (L2.KOf KX) mainGlobals "str" = some none := by unfold L2.KOf; k_is
      have z_lst : PySem.W.nsIn (L2.KOf KX) mainGlobals "list" = some none := by unfold L2.KOf; k_is
      exact ⟨nC, nW, hW, hT, hD, hM, hI, pb, pb_m, pp, pp_m, pn, pn_m, pr, pr_m, s0, s1, d0, d1, d2, d3, d4, d5, d6, d7, d8, d9, d10, d11, d12, d13, d14, d15, d16, d17, d18, d19, d20, d21, d22, d23, d24, d25, k_lb, k_mb, k_lp, k_mp, k_mr, k_ms, k_wh, k_md, k_wr, k_sc, z_len, z_int, z_abs, z_repr, z_isi, z_range, z_max, z_min, z_all, z_sum, z_enm, z_tup, z_boo, z_str, z_lst⟩
    obtain ⟨fd, h1, h2⟩ := A.law (P := PySem.Challenge.rw_spareblocks_k15_sticking_by_own_walk.prog) (w := w) KX G hmg
    exact ⟨fd, h1, fun base _ _ => h2 base⟩
