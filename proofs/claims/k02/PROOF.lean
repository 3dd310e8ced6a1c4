import PyProof.Rows.All
import Wide.All
import OpenK.AllK
import Wide.FinOn
import PyProof.EqAt
import PyProof.EqKinds
import PyProof.TupleCall
import HandS.ForMost
import HandS.DeepEq
import HandS.Deep
import HandS.Wide
import HandS.RaiseMore
import HandS.DictComp
import PyProof.ReprRoads
import PyProof.ReprLen
import HandS.SlotsOwn
import HandS.ClsMeth
import HandS.MakeKw
import HandS.MakeKwOnly
import HandS.Property
import HandS.FStr
import HandS.IsInst
import HandS.TupAny
import HandS.NoneIn
import HandS.CallLocal
import HandS.StrMore
import HandS.Style
import HandS.Flow
import KE.KCallOwn
import HandS.Star
import HandS.OwnEq
import KE.KUnpackStar
import KE.KRevSl
import KE.GoesMore
import HandS.Walk
import HandS.Exc
import HandS.Codes
import KE.RegKIsAll
import PySem.Challenge.RW_spareblocks_k02_drives_made
set_option Elab.async false
set_option linter.all false
set_option maxRecDepth 100000
set_option maxHeartbeats 2000000
/-! The promise of a def that is kept where no repr is under way on the stack (guards empty): repr of a list asks for it. -/
namespace G1
open PySem PySem.Spec PyProof.Rows L2
section
variable {P : Program} {w : World} {K : PySem.W.Frag} {mg : Str → Option Value} {base : Heap}
structure FnG (P : Program) (w : World) (K : PySem.W.Frag) (mg : Str → Option Value) (base : Heap) (k : Nat) (f : Addr) (fd : FuncData) (ps : List Str) (sp : Sp) : Prop where
  len : ∀ vs H Q E, sp vs H Q E → vs.length = ps.length
  run : ∀ (A : Around) (outer : List Env) (s : Shared) (H : Hp) (args : Args) (us : List Value) (vs : List V) (Q : VK) (E : XK), A.guards = some [] →
    Room k A → Env0 P w K mg base A outer s H → BindsTo s fd args (ps.zip us) → Vals vs us → sp vs H Q E → codeAny (model P w) A (.call (.ref f) args) (CR CX0 outer P w H s Q E) s
/-- from the body to the promise -/
theorem okG {x qual : Str} {st : Stmt} {f : Addr} {fd : FuncData} {N ps : List Str} {k : Nat} {sp : Sp} (F : Fun K x qual st f fd) (S : FnScope N ps (defScope st))
    (len : ∀ vs H Q E, sp vs H Q E → vs.length = ps.length)
    (hbody : ∀ (cdv : Value) (A : Around) (outer : List Env) (s : Shared) (H : Hp) (vs : List V) (Q : VK) (E : XK), A.guards = some [] →
      Room k (A.deeper (envOfC qual (defScope st) s.heap.objs.size f cdv)) → sp vs H Q E →
      ∃ t, PSs (cxOf CX0 P w K mg base N qual (defScope st) f cdv A outer s H E).nox (defBody st) t ∧ t { nx := fun _ H' => Q .non H', rt := Q } (start N vs) H) :
    FnG P w K mg base (k + 1) f fd ps sp := by
  obtain ⟨oc, od, kV, doc, pm, an, cdv, ct, osl, rfl, lk, hcd⟩ := F.ex
  constructor
  · exact len
  intro A outer s H args us vs Q E hgu room e0 bnd rel want
  have kin : K.In s.heap := e0.mod.kin.keeps fun b o e => (e0.bs b o e).1
  have nol : s.heap.NoLimit := e0.mod.nolimit.keeps fun b o e => (e0.bs b o e).1
  have kinds : ∀ y ∈ ps.zip us, (defScope st).names.lookup y.1 = some .local ∨
      ((defScope st).names.lookup y.1 = some .cell ∧ ((cellsFrom (s.heap.objs.size + 1) (defScope st).names []).lookup y.1).isSome = true) := by
    rintro ⟨n, v⟩ hy
    cases S.par n (List.of_mem_zip hy).1 with
    | inl q => exact Or.inl q
    | inr q => exact Or.inr ⟨q, PySem.W.cellsFrom_some _ _ _ (Or.inl q)⟩
  refine codeAny_call_function room.depth (kin _ _ lk) rfl S.co S.gen rfl (PySem.W.codeRec_of kin hcd) (bnd _ _ _ _ ?_)
  refine wpAny_newFunctionEnv_cells S.kind kinds fun env henv s1 inc => ?_
  subst henv
  refine ⟨nol.keeps inc.toInCall.keep, codeAny_func ?_⟩
  obtain ⟨t, ht0, hq⟩ := hbody cdv A outer s H vs Q E hgu (room.deeper _) want
  have ht := ht0.nox
  have J0 : Inv (cxOf CX0 P w K mg base N qual (defScope st) f cdv A outer s H E) [] (start N vs) H s1 := inv_start S room.hd e0 (len _ _ _ _ want) rel inc
  refine wpAny_mono (ht.run [] s1 (start N vs) H _ J0 hq) (fun fl s' hs => ?_) fun _ _ z => z
  cases fl with
  | brk => exact (hs.elim fun _ z => z.elim fun _ y => y.2.elim)
  | cont => exact (hs.elim fun _ z => z.elim fun _ y => y.2.elim)
  | next =>
    obtain ⟨σ', H', J, q⟩ := hs
    exact ⟨V.non, H', J.os, J.bare, J.base, J.hok, rfl, q⟩
  | ret u =>
    obtain ⟨v, σ', H', J, rv, q⟩ := hs
    exact ⟨v, H', J.os, J.bare, J.base, J.hok, rv, q⟩
/-- what holds at all callers holds at these -/
theorem FnG.of {k : Nat} {f : Addr} {fd : FuncData} {ps : List Str} {sp : Sp} (F : FnOk P w K mg base CX0 k f fd ps sp) : FnG P w K mg base k f fd ps sp :=
  ⟨F.len, fun A outer s H args us vs Q E _ hr he hb hv hs => F.run A outer s H args us vs Q E hr he hb hv hs⟩
end
section
variable {X : Cx} {k : Nat} {f : Addr} {fd : FuncData} {ps : List Str} {sp : Sp} {x : Str} {p pos : Pos} {e : Expr} {es : List Expr} {t : TA}
theorem runG {pins : List (Addr × Obj)} {σ : L2.St} {H : Hp} {s : Shared} {Q : VK} {us : List Value} {vs : List V} (F : FnG X.prog X.w X.K X.mg X.base k f fd ps sp) (hgu : X.A.guards = some [])
    (hr : Room k X.A) (hb : Binds X.K fd ps []) (I : Inv X pins σ H s) (r : Vals vs us) (h : sp vs H Q E0) :
    wpAny (model X.prog X.w) X.A (call (.ref f) us) (EP X pins σ Q) X.xe s := by
  have hl : us.length = ps.length := by rw [← r.length]; exact F.len _ _ _ _ h
  have bb : BindsTo s fd ⟨us, []⟩ (ps.zip us) := by
    have z := hb s us I.kIn (by rw [List.append_nil]; exact hl)
    rw [List.append_nil] at z
    exact z
  refine wpAny_call (codeAny_mono (F.run X.A X.stack s H ⟨us, []⟩ us vs Q E0 hgu hr I.env0 bb r h) fun r s' hq => ?_)
  match r, hq with
  | .error e, hq => exact (show False from hq).elim
  | .ok (.ret u), hq => exact I.after hq
  | .ok .next, hq => exact (show False from hq).elim
  | .ok .brk, hq => exact (show False from hq).elim
  | .ok .cont, hq => exact (show False from hq).elim
/-- f(e, ..) of such a def -/
theorem pe_callG (F : FnG X.prog X.w X.K X.mg X.base k f fd ps sp) (hgu : X.A.guards = some []) (hr : Room k X.A) (hg : Gl X x) (hm : X.mg x = some (.ref f)) (hk : PySem.W.keepIn X.K (.ref f) = true) (hb : Binds X.K fd ps [])
    (ha : PA X (e :: es) t) (hdb : (x == ("__debug__" : Str)) = false := by decide) (he : starEach (e :: es) X.env = (false, eval e X.env) :: starEach es X.env := by rfl)
    (hpl : (backTo pos (starEach es X.env)).any (·.1) = false := by rfl) : PE X (.Call (.Name x p) (e :: es) [] pos) (tCall sp [] E0 t) := by
  refine ⟨fun pins s σ H Q I h => wpAny_Call_Name_kw (ld_glob I hg hm ?_ hdb)⟩
  refine PySem.W.callWith_K (h₀ := X.base) I.ok.mod.kin hk (thn (ha.run pos pins s σ H _ I h) fun us s1 hh => ?_) he hpl
  obtain ⟨vs, H1, I1, r, q⟩ := hh
  rw [List.append_nil] at q
  exact ⟨I1.kIn, runG F hgu hr hb I1 r q⟩
end
end G1

set_option Elab.async false
set_option linter.all false
set_option maxRecDepth 100000
set_option maxHeartbeats 2000000
/-! The end of a law row from a promise of the kind FnG: at the law's own call no repr is under way. -/
namespace G1
open PySem PySem.Spec PyProof.Rows L2
section
variable {P : Program} {w : World} {K : PySem.W.Frag} {mg mb : Str → Option Value} {k : Nat} {fa a : Addr} {fd : FuncData} {x : Str} {sp : Sp} {m : Shared} {vs : List Value} {ns : List Int}
/-- over an abstract heap in which nothing but the script may be tracked -/
theorem coreG (kin : K.In m.heap) (g1 : m.heap.Ns mainGlobals mg) (g2 : m.heap.Ns builtinsNs mb) (g3 : ∀ y : Str, y ≠ "__name__" → mb y = bootBuiltins y) (nol : m.heap.NoLimit) (gens : m.gens = #[])
    (there : m.heap.get? a = some { cls := .type "list", data := .seq vs.toArray }) (room : Room k callerA)
    (F : ∀ base : Heap, K.In base → base.Ns mainGlobals mg → FnG P w K mg base k fa fd [x] sp) (bnd : ∀ (s : Shared) (u : Value), BindsTo s fd ⟨[u], []⟩ [(x, u)])
    (want : ∀ H : Hp, Only H → SqL K H a (ns.map V.int) → sp [.ref a] H (fun v _ => v = .bl true) fun _ _ _ => False)
    (H : Hp) (only : Only H) (seq : SqL K H a (ns.map V.int)) (ok : HOk P w H m.heap) (one : ∀ y, H y ≠ none → y = a) (apart : H a ≠ none → K.lookup a = none) :
    codeAny (model P w) callerA (.call (.ref fa) ⟨[.ref a], []⟩) (fun r m' => r = .ok (.ret (.bool true)) ∧ OldK m.heap m'.heap ∧ m'.os = m.os ∧ AllBare m'.gens) m := by
  have hid : ∀ {y : Addr} {o : Obj}, m.heap.get? y = some o → H y = none → (hidT m.heap H).get? y = some o := fun e n => hidT_get e n
  have untr : ∀ y, y ≠ a → H y = none := fun y hy => by
    cases z : H y with
    | none => rfl
    | some u => exact absurd (one y (by rw [z]; simp)) hy
  have nodict : ∀ {y : Addr} {o : Obj} {es : Array DictEntry} {ep : Nat}, m.heap.get? y = some o → o.data = .dict es ep → H y = none := fun {y o es ep} e d => by
    by_cases hy : y = a
    · rw [hy, there] at e
      cases e
      exact absurd (show Data.seq vs.toArray _ = Data.dict es ep from d) (fun z => by cases z)
    · exact untr y hy
  have nsH : ∀ {y : Addr} {f : Str → Option Value}, m.heap.Ns y f → (hidT m.heap H).Ns y f := fun {y f} z => by
    obtain ⟨o, es, ep, e, d, r⟩ := z
    exact ⟨o, es, ep, hid e (nodict e d), d, r⟩
  have kinH : K.In (hidT m.heap H) := fun y o e => by
    refine hid (kin y o e) ?_
    by_cases hy : y = a
    · cases z : H y with
      | none => rfl
      | some u =>
        rw [hy] at z e
        rw [apart (by rw [z]; simp)] at e
        cases e
    · exact untr y hy
  have md : Mod K mg (hidT m.heap H) := by
    obtain ⟨mc, h1, h2⟩ := nol
    exact ⟨kinH, nsH g1, ⟨mb, nsH g2, g3⟩, ⟨mc, nsH h1, h2⟩⟩
  have e0 : Env0 P w K mg (hidT m.heap H) callerA [] m H :=
    ⟨rfl, md, fun y o e => of_hidT e, Nat.le_of_eq (hidT_size _ _), trivial, fun y hy => absurd (show y ∈ ([] : List Addr) from hy) (by simp), ok, .of_eq gens⟩
  have run := (F _ kinH (nsH g1)).run callerA [] m H ⟨[.ref a], []⟩ [.ref a] [.ref a] _ _ rfl room e0 (bnd m (.ref a)) (.cons rfl .nil) (want H only seq)
  refine codeAny_mono run fun r m' h => ?_
  match r, h with
  | .error e, h => exact (show False from h).elim
  | .ok .next, h => exact (show False from h).elim
  | .ok .brk, h => exact (show False from h).elim
  | .ok .cont, h => exact (show False from h).elim
  | .ok (.ret u), h =>
    obtain ⟨v, H', hos, hba, un, ok', rv, q⟩ := h
    obtain rfl : v = .bl true := q
    obtain rfl : u = Value.bool true := rv
    refine ⟨rfl, OldK.of_keep fun y o e => ?_, hos, hba⟩
    rcases only y with z | ⟨ob, xs, z⟩
    · exact un.keep y o e z (fun hm => absurd (show y ∈ ([] : List Addr) from hm) (by simp)) (by simp)
    · obtain ⟨e1, _⟩ := ok y _ z
      obtain ⟨e2, _⟩ := ok' y _ (un.frzs y ob _ z)
      rw [e1] at e
      cases e
      exact e2
theorem callLaw (kin : K.In m.heap) (g1 : m.heap.Ns mainGlobals mg) (g2 : m.heap.Ns builtinsNs mb) (g3 : ∀ y : Str, y ≠ "__name__" → mb y = bootBuiltins y) (nol : m.heap.NoLimit) (gens : m.gens = #[])
    (there : m.heap.get? a = some { cls := .type "list", data := .seq vs.toArray }) (hi : IntsAre vs ns) (hl : ns.length ≤ sizeLine) (room : Room k callerA)
    (F : ∀ base : Heap, K.In base → base.Ns mainGlobals mg → FnG P w K mg base k fa fd [x] sp) (bnd : ∀ (s : Shared) (u : Value), BindsTo s fd ⟨[u], []⟩ [(x, u)])
    (want : ∀ H : Hp, Only H → SqL K H a (ns.map V.int) → sp [.ref a] H (fun v _ => v = .bl true) fun _ _ _ => False) :
    codeAny (model P w) callerA (.call (.ref fa) ⟨[.ref a], []⟩) (fun r m' => r = .ok (.ret (.bool true)) ∧ OldK m.heap m'.heap ∧ m'.os = m.os ∧ AllBare m'.gens) m := by
  have rv := vals_ints hi
  have lv := hi.length
  cases hk : K.lookup a with
  | some o =>
    have e := kin a o hk
    rw [there] at e
    cases e
    refine coreG (ns := ns) kin g1 g2 g3 nol gens there room F bnd want (fun _ => none) (fun _ => .inl rfl) ?_ (fun y u z => ?_) (fun y z => absurd rfl z) fun z => absurd rfl z
    · exact .inr ⟨_, vs.toArray, _, hk, rfl, rfl, rfl, by rw [List.size_toArray, lv]; exact hl, by simpa using rv⟩
    · have z' : (none : Option HO) = some u := z
      cases z'
  | none =>
    refine coreG (ns := ns) kin g1 g2 g3 nol gens there room F bnd want (fun y => if y = a then some (.frz { cls := .type "list", data := .seq vs.toArray } (.lst (ns.map V.int))) else none)
      (fun y => ?_) (.inl (.inr ⟨{ cls := .type "list", data := .seq vs.toArray }, if_pos rfl⟩)) (fun y u z => ?_) (fun y z => ?_) fun _ => hk
    · by_cases hy : y = a
      · exact .inr ⟨_, _, if_pos hy⟩
      · exact .inl (if_neg hy)
    · by_cases hy : y = a
      · have z' := (if_pos hy).symm.trans z
        cases z'
        subst hy
        exact ⟨there, by rw [List.length_map]; exact hl, vs, _, rv, there⟩
      · have z' := (if_neg hy).symm.trans z
        cases z'
    · by_cases hy : y = a
      · exact hy
      · exact absurd (if_neg hy) z
end
/-- what k_head leaves -/
theorem walkG {l : PySem.W.OpenLaw} {n k : Nat} {q : Program} {loose : List Str} {XP : (Str → Option Value) → Heap → Prop} {YP : World → Heap → Prop} {d : DefRec} {K : Params → PySem.W.Frag} {sp : World → Sp} {x : Str}
    (hn : l.most = some n) (hn2 : n ≤ sizeLine) (hdf : d.params.defaults = []) (room : Room k callerA) (hY : ∀ (w : World) (h : Heap), YP w h → (K w.params).In h)
    (F : ∀ (w : World) (mg : Str → Option Value) (fa : Addr) (h : Heap), (K w.params).In h → h.Ns mainGlobals mg → mg d.name = some (.ref fa) →
      ∃ fd : FuncData, (∀ (s : Shared) (u : Value), BindsTo s fd ⟨[u], []⟩ [(x, u)]) ∧ ∀ base : Heap, (K w.params).In base → base.Ns mainGlobals mg → FnG l.prog w (K w.params) mg base k fa fd [x] (sp w))
    (hsp : ∀ (w : World) (H : Hp) (a : Addr) (ns : List Int), ns.length ≤ n → SqL (K w.params) H a (ns.map V.int) → sp w [.ref a] H (fun v _ => v = .bl true) fun _ _ _ => False) :
    PySem.W.WalkO q loose XP YP l.row.toRowW d [] (fun f vs => PySem.call f vs) := by
  refine Att.attach_call hn hdf fun w s₀ s₁ mg mb fa o pm cd doc a vs ns G Y ho hd hcd hmg hobj hints hlen hg => ?_
  have kin := hY w _ Y
  obtain ⟨fd, hb, hF⟩ := F w mg fa _ kin G.T.g hmg
  exact callLaw kin G.T.g G.T.b G.T.builtins G.T.nolimit hg hobj hints (Nat.le_trans hlen hn2) room hF hb fun H _ hS => hsp w H a ns hlen hS
end G1

set_option Elab.async false
set_option linter.all false
set_option maxRecDepth 100000
set_option maxHeartbeats 2000000
/-! repr and == of the values of many kinds. -/
namespace G1
open PySem PySem.Spec PyProof.Rows L2
/-- a value and what it shows -/
inductive Tg (K : PySem.W.Frag) (H : Hp) : V → PyData → Prop
  | dp {v : V} {d : PyData} : Dp K H v d → SeqAt.shaped d = true → PyData.eqv d d = true → d.hasDict = false → Tg K H v d
  | d0 {a : Addr} : H a = some (.dK []) → Tg K H (.ref a) (.dict [])
  | d1 {a : Addr} {x : Str} {i : Int} : H a = some (.dK [(.inr x, .int i)]) → Tg K H (.ref a) (.dict [(.str x, .int i)])
structure Gd (d : PyData) : Prop where
  sh : d.showable = true
  sz : d.shown.length ≤ sizeLine
  dp : d.depth ≤ 60
section
variable {X : Cx} {pins : List (Addr × Obj)} {σ : L2.St} {H : Hp} {s : Shared}
theorem Tg.reads (I : Inv X pins σ H s) {v : V} {d : PyData} {u : Value} (h : Tg X.K H v d) (r : RelV v u) : ∃ as, Reads s.heap u d as ∧ (d.hasDict = true → sysModules ∉ as) := by
  cases h with
  | dp h1 h2 h3 h4 =>
    obtain ⟨as, q⟩ := Dp.reads I _ _ _ h1 r
    exact ⟨as, q, PyData.noDict_hsm h4⟩
  | @d0 a e =>
    cases (show u = Value.ref a from r)
    obtain ⟨_, y, vs, rk, o, es, ep, ho, hx, hd, hl⟩ := (show ObjOk X.prog X.w H s.heap a (.dK []) from I.hok a _ e)
    cases rk
    have ne : a ≠ sysModules := fun z => by rw [z] at y; simp at y
    have e0 : es.toList = [] := by
      have z := hl.2.1
      generalize es.toList = l at z
      cases z
      rfl
    refine ⟨[a] ++ [], Reads.dict (as := []) (bs := []) ho hx.1 hd ?_ ?_, fun _ hm => ?_⟩
    · rw [e0]
      exact ReadsAll.nil
    · rw [e0]
      exact ReadsAll.nil
    · simp at hm
      exact ne hm.symm
  | @d1 a x i e =>
    cases (show u = Value.ref a from r)
    obtain ⟨_, y, vs, rk, o, es, ep, ho, hx, hd, hl⟩ := (show ObjOk X.prog X.w H s.heap a (.dK [(.inr x, .int i)]) from I.hok a _ e)
    have ne : a ≠ sysModules := fun z => by rw [z] at y; simp at y
    obtain ⟨en, t1, t2, e0, e1, e2⟩ : ∃ (en : DictEntry) (t1 t2 : Tok), es.toList = [en] ∧ en.key = .str x t1 ∧ en.val = .int i t2 := by
      have z := hl.2.1
      generalize es.toList = l at z
      cases rk with
      | @cons p q ps qs hp hn =>
        cases hn
        obtain ⟨hp1, t2, hp2⟩ := hp
        cases z with
        | @cons en kv es' kvs' k1 k2 k3 =>
          cases k3
          have k1' : keyIs q.1 en.key = true := k1
          rw [← hp1] at k1'
          rcases keyIs_shape k1' with ⟨j, t, c, _⟩ | ⟨z, t, c, ek⟩
          · cases c
          · cases c
            exact ⟨en, t, t2, rfl, ek, k2.trans hp2⟩
    refine ⟨a :: ([] ++ []) ++ ([] ++ []), Reads.dict ho hx.1 hd ?_ ?_, fun _ hm => ?_⟩
    · rw [e0]
      show ReadsAll s.heap [en.key] [.str x] _
      rw [e1]
      exact .cons (.str x t1) .nil
    · rw [e0]
      show ReadsAll s.heap [en.val] [.int i] _
      rw [e2]
      exact .cons (.int i t2) .nil
    · simp at hm
      exact ne hm.symm
/-- repr(x) -/
def rRepr (K : PySem.W.Frag) : List V → Hp → VK → Prop := fun xs H Q => ∃ (v : V) (d : PyData), xs = [v] ∧ Tg K H v d ∧ Gd d ∧ Q (.str d.shown) H
theorem call_repr (hg : X.A.guards = some []) (hu : X.A.units + 64 < cLine) : CallR X (.builtin "repr") (rRepr X.K) := by
  intro pins s σ H xs us Q I r h
  obtain ⟨v, d, rfl, th, gd, q⟩ := h
  obtain ⟨u, rfl, ru⟩ := vals1 r
  obtain ⟨as, rd, hsm⟩ := th.reads I ru
  cases v with
  | ref a =>
    cases (show u = Value.ref a from ru)
    refine repr_of_reads' rd gd.sh hsm hg (by have := gd.dp; omega) (fun _ _ e => e) (fun h' u tk k => ?_) gd.sz
    exact ⟨.str _, H, I.kept (t' := tk) k, ⟨u, rfl⟩, q⟩
  | non =>
    cases (show u = Value.none from ru)
    cases rd
    exact PySem.P.repr_of_none ⟨.str _, H, I.tok _, ⟨_, rfl⟩, q⟩
  | bl b =>
    cases (show u = Value.bool b from ru)
    cases rd
    refine PySem.P.repr_of_bool ⟨.str _, H, I.tok _, ⟨_, rfl⟩, ?_⟩
    rw [PyData.shown_bool] at q
    cases b <;> exact q
  | int i =>
    obtain ⟨t, e⟩ := (show ∃ t, u = Value.int i t from ru)
    cases e
    cases rd
    have z : i.natAbs.log2 < 1920 := of_decide_eq_true gd.sh
    exact PySem.P.repr_of_int z ⟨.str _, H, I.tok _, ⟨_, rfl⟩, q⟩
  | str x =>
    obtain ⟨t, e⟩ := (show ∃ t, u = Value.str x t from ru)
    cases e
    cases rd
    refine PySem.P.repr_of_str ⟨.str _, H, I.tok _, ⟨_, rfl⟩, ?_⟩ ?_
    · rw [PyData.shown_str] at q
      exact q
    · have z := gd.sz
      rw [PyData.shown_str] at z
      exact z
  | byt b =>
    obtain ⟨t, e⟩ := (show ∃ t, u = Value.bytes b t from ru)
    cases e
    cases rd
  | flt b =>
    obtain ⟨t, e⟩ := (show ∃ t, u = Value.float b t from ru)
    cases e
    cases rd
  | ty n =>
    cases (show u = Value.type n from ru)
    cases rd
/-- x == y, both the same thing -/
def rEqSame (K : PySem.W.Frag) : R2 := fun x y H Q => x = y ∧ (∃ d, Tg K H x d) ∧ Q (.bl true) H
theorem op_eqSame (hu : X.A.units + 64 < cLine) : OpR X (compareOp .Eq) (rEqSame X.K) := by
  intro pins s σ H x y v u Q I rx ry h
  obtain ⟨rfl, ⟨d, th⟩, q⟩ := h
  cases th with
  | dp h1 h2 h3 h4 => exact op_eqD hu pins s σ H x x v u Q I rx ry ⟨d, d, h1, h1, h2, h2, by rw [h3]; exact q⟩
  | @d0 a e => exact op_eqV hu pins s σ H _ _ v u Q I rx ry ⟨1, by decide, .inr ⟨a, a, _, _, rfl, rfl, e, e, rfl, fun p hp => by cases hp⟩, q⟩
  | @d1 a x i e =>
    refine op_eqV hu pins s σ H _ _ v u Q I rx ry ⟨1, by decide, .inr ⟨a, a, _, _, rfl, rfl, e, e, rfl, fun p hp => ?_⟩, q⟩
    have ep : p = (.inr x, .int i) := List.mem_singleton.mp hp
    subst ep
    exact ⟨.int i, by simp [valV], .inl ⟨rfl, rfl⟩⟩
end
end G1

set_option Elab.async false
set_option linter.all false
set_option maxRecDepth 100000
set_option maxHeartbeats 2000000
/-! Special methods of own classes: str, len, truth, ==, !=. -/
namespace G2
open PySem PySem.Spec PyProof.Rows L2 Builtin
section
variable {X : Cx} {CX : CXT} {n : Nat} {C g : Addr} {sp : Sp} {E : XK}
def rStrO (C : Addr) (sp : Sp) (E : XK) : List V → Hp → VK → Prop := fun xs H Q => ∃ a dx fs, xs = [.ref a] ∧ H a = some (.ins C dx fs) ∧ sp [.ref a] H (fun z H' => ∃ x, z = .str x ∧ Q z H') E
theorem call_strO (hs : PySem.W.findIn X.K (.ref C) "__str__" = some (some (.ref g))) (hf : PySem.W.isFn X.K (.ref g) = true) (F : FnR X.prog X.w X.K X.mg X.base CX n g sp) (hr : Room (n + 2) X.A) (hx : Passes CX X E) : CallR X (.type "str") (rStrO C sp E) := by
  intro pins s σ H xs us Q I r h
  obtain ⟨a, dx, fs, rfl, ha, q⟩ := h
  obtain ⟨u, rfl, ru⟩ := r.one
  cases (show u = Value.ref a from ru)
  obtain ⟨mA, J, _⟩ := ins_get I.hok ha
  obtain ⟨od, J, _⟩ := J.look
  have hr2 : Room n X.A.in1.in1 := (show Room (n + 1) X.A.in1 from Room.in1 hr).in1
  refine PySem.W.kso_call hr2.units0 I.kIn J hs hf (wpAny_mono (wpAny_call (SlX.run_at (us := [.ref a]) (ws := [.ref a]) F hr2 I.env0.in1.in1 hx I (.cons rfl .nil) q)) (fun w s' z => ?_) fun _ _ x => x)
  obtain ⟨z', H', I', rz, i, ei, qz⟩ := z
  subst ei
  obtain ⟨t, e⟩ := (show ∃ t, w = Value.str i t from rz)
  cases e
  exact ⟨.str i, H', I', ⟨t, rfl⟩, qz⟩
def rLenO (C : Addr) (sp : Sp) (E : XK) : List V → Hp → VK → Prop := fun xs H Q => ∃ a dx fs, xs = [.ref a] ∧ H a = some (.ins C dx fs) ∧ sp [.ref a] H (fun z H' => ∃ i : Int, z = .int i ∧ 0 ≤ i ∧ i < 2 ^ 63 ∧ Q z H') E
theorem call_lenO (hs : PySem.W.findIn X.K (.ref C) "__len__" = some (some (.ref g))) (hf : PySem.W.isFn X.K (.ref g) = true) (F : FnR X.prog X.w X.K X.mg X.base CX n g sp) (hr : Room (n + 1) X.A) (hx : Passes CX X E) : CallR X (.builtin "len") (rLenO C sp E) := by
  intro pins s σ H xs us Q I r h
  obtain ⟨a, dx, fs, rfl, ha, q⟩ := h
  obtain ⟨u, rfl, ru⟩ := r.one
  cases (show u = Value.ref a from ru)
  obtain ⟨mA, J, _⟩ := ins_get I.hok ha
  obtain ⟨od, J, _⟩ := J.look
  have hr1 : Room n X.A.in1 := Room.in1 hr
  obtain ⟨m, hF⟩ := I.fr
  refine PySem.W.len_K hF I.ok.mod.kin J hs hf (wpAny_mono (wpAny_call (SlX.run_at (us := [.ref a]) (ws := [.ref a]) F hr1 I.env0.in1 hx I (.cons rfl .nil) q)) (fun w s' z => ?_) fun _ _ x => x)
  obtain ⟨z', H', I', rz, i, ei, i0, i1, qz⟩ := z
  subst ei
  obtain ⟨t, e⟩ := (show ∃ t, w = Value.int i t from rz)
  cases e
  exact ⟨⟨i0, i1⟩, .int i, H', I'.tok _, ⟨_, rfl⟩, qz⟩
/-- the truth of an instance with a len of its own -/
theorem len_body {prog : Program} {w : World} {A : Around} {E : Value → Shared → Prop} {s : Shared} {K : PySem.W.Frag} {x C L f : Addr} {ox : Obj} {od : Option Obj} {Q : Bool → Shared → Prop} (X : K.In s.heap) (I : PySem.W.InstAt s.heap x ox C od)
    (hb : PySem.W.findIn K (.ref C) "__bool__" = some none) (hs : PySem.W.findIn K (.ref C) "__len__" = some (some (.ref f))) (hf : PySem.W.isFn K (.ref f) = true)
    (h : wpAny (model prog w) A.in1 (call (.ref f) [.ref x]) (fun v s' => ∃ (n : Int) (t : Tok), v = .int n t ∧ 0 ≤ n ∧ n < 2 ^ 63 ∧ Q (n != 0) { s' with toks := s'.toks + 1 }) E s) :
    wpAny (model prog w) A (truthy (.ref x)) Q E s := by
  have key : wpAny (model prog w) A (runValue (.builtin "len" ⟨[.ref x], []⟩)) (fun r s' => ∃ (n : Int) (t : Tok), r = .int n t ∧ Q (n != 0) s') E s := by
    refine wpAny_runValue (codeAny_builtin entry_len ?_)
    rw [Around.under_plainId plain_len _]
    unfold Builtin.«len»
    refine wpAny_bind (m := oneArg "len" _) (wpAny_pure ?_)
    refine wpAny_bind (m := callSpecial? (.ref x) (Str.ofString "__len__")) (PySem.W.special_fn X I hs (beq_iff_eq.mp hf) (wpAny_mono h (fun r s' hr => ?_) fun _ _ y => y))
    obtain ⟨n, t, rfl, h0, h1, hq⟩ := hr
    refine wpAny_bind (wpAny_holding (wpAny_pure ?_))
    refine wpAny_bind (wpAny_letGo ?_)
    show wpAny _ _ (if n < 0 then _ else _) _ _ _
    rw [if_neg (by omega)]
    show wpAny _ _ (if n ≥ 2 ^ 63 then _ else _) _ _ _
    rw [if_neg (by omega)]
    exact wpAny_bind (wpAny_mkInt (wpAny_pure ⟨n, _, rfl, hq⟩))
  unfold truthy
  refine wpAny_bind (m := callSpecial? (.ref x) (Str.ofString "__bool__")) (wpAny_bind (wpAny_bind (I.type.here ((PySem.W.looks_findIn X hb).here (wpAny_pure ?_)))))
  refine wpAny_bind (wpAny_bind (I.type.here ((PySem.W.looks_findIn X hs).here ?_)))
  refine wpAny_bind (wpAny_mono key (fun r s' hr => ?_) fun _ _ e => e)
  obtain ⟨n, t, rfl, hq⟩ := hr
  exact wpAny_pure hq
def rTruO (C : Addr) (sp : Sp) (E : XK) : V → Hp → (Bool → Hp → Prop) → Prop := fun x H Q => ∃ a dx fs, x = .ref a ∧ H a = some (.ins C dx fs) ∧ sp [.ref a] H (fun z H' => ∃ i : Int, z = .int i ∧ 0 ≤ i ∧ i < 2 ^ 63 ∧ Q (i != 0) H') E
theorem tru_lenO (hb : PySem.W.findIn X.K (.ref C) "__bool__" = some none) (hs : PySem.W.findIn X.K (.ref C) "__len__" = some (some (.ref g))) (hf : PySem.W.isFn X.K (.ref g) = true) (F : FnR X.prog X.w X.K X.mg X.base CX n g sp) (hr : Room (n + 1) X.A) (hx : Passes CX X E) :
    TruR X (rTruO C sp E) := by
  intro pins s σ H x v Q I rx h
  obtain ⟨a, dx, fs, rfl, ha, q⟩ := h
  cases (show v = Value.ref a from rx)
  obtain ⟨mA, J, _⟩ := ins_get I.hok ha
  obtain ⟨od, J, _⟩ := J.look
  have hr1 : Room n X.A.in1 := Room.in1 hr
  refine len_body (L := 0) I.kIn J hb hs hf (wpAny_mono (wpAny_call (SlX.run_at (us := [.ref a]) (ws := [.ref a]) F hr1 I.env0.in1 hx I (.cons rfl .nil) q)) (fun w s' z => ?_) fun _ _ x => x)
  obtain ⟨z', H', I', rz, i, ei, i0, i1, qz⟩ := z
  subst ei
  obtain ⟨t, e⟩ := (show ∃ t, w = Value.int i t from rz)
  exact ⟨i, t, e, i0, i1, H', I'.tok _, qz⟩
theorem pt_truO {a : Expr} {ta : TE} {r : V → Hp → (Bool → Hp → Prop) → Prop} (T : TruR X r) (ha : PE X a ta) (he : ∀ whole, isTrue a X.env whole = (do let v ← whole; standAt a.pos; holding [v] (truthy v))) :
    PT X a (fun σ H Q => ta σ H fun x H' => r x H' Q) := by
  refine ⟨fun pins s σ H Q I h => ?_⟩
  exact isTrue_plain (thn (ha.run pins s σ H _ I h) fun v s1 ⟨x, H1, I1, r1, q1⟩ => T pins s1 σ H1 x v Q I1 r1 q1) (he _)
/-! ### == and != -/
/-- the type of a value, and that it is no class below C's -/
def Beside (K : PySem.W.Frag) (C : Addr) (H : Hp) (y : V) : Prop := ∃ t : Value, TyX K H y t ∧ PySem.W.notFirst K C t = true
theorem ty_looks {pins : List (Addr × Obj)} {σ : L2.St} {H : Hp} {s : Shared} {y : V} {u t : Value} (I : Inv X pins σ H s) (r : RelV y u) (h : TyX X.K H y t) : PySem.W.Looks (model X.prog X.w) s.heap (typeOf u) t := by
  obtain ⟨P, Z, p, hx⟩ := kit_of I r h
  exact Z.ty _ _ I.kIn p
def rEqO (K : PySem.W.Frag) (C : Addr) (sp : Sp) (E : XK) : R2 := fun x y H Q => ∃ a dx fs, x = .ref a ∧ H a = some (.ins C dx fs) ∧ Beside K C H y ∧ sp [x, y] H (fun z H' => ∃ b, z = .bl b ∧ Q z H') E
theorem op_eqO (hs : PySem.W.findIn X.K (.ref C) "__eq__" = some (some (.ref g))) (hf : PySem.W.isFn X.K (.ref g) = true) (F : FnR X.prog X.w X.K X.mg X.base CX n g sp) (hr : Room n X.A) (hx : Passes CX X E) : OpR X (compareOp .Eq) (rEqO X.K C sp E) := by
  intro pins s σ H x y v u Q I rx ry h
  obtain ⟨a, dx, fs, rfl, ha, ⟨t, ht, hn⟩, q⟩ := h
  cases (show v = Value.ref a from rx)
  obtain ⟨mA, J, _⟩ := ins_get I.hok ha
  obtain ⟨od, J, _⟩ := J.look
  obtain ⟨m, hF⟩ := I.fr
  show wpAny (model X.prog X.w) X.A (richCompare .Eq (.ref a) u) (EP X pins σ Q) X.xe s
  refine PySem.W.cmp_K (op := .Eq) (tb := t) hr.units0 hF I.ok.mod.kin J (ty_looks I ry ht) hn hs hf ?_
  refine wpAny_mono (wpAny_call (run_fnR (us := [.ref a, u]) (vs := [.ref a, y]) F hr hx I (.cons rfl (.cons ry .nil)) q)) (fun w s' z => ?_) fun _ _ x => x
  obtain ⟨z', H', I', rz, b, eb, qz⟩ := z
  subst eb
  cases (show w = Value.bool b from rz)
  exact ⟨.bl b, H', I', rfl, qz⟩
end
end G2

set_option Elab.async false
set_option linter.all false
set_option maxRecDepth 100000
set_option maxHeartbeats 2000000
/-! != by an own __eq__, and == of another thing with an instance. -/
namespace G2
open PySem PySem.Spec PyProof.Rows L2 Builtin
section
variable {prog : Program} {w : World} {A : Around} {E : Value → Shared → Prop} {s : Shared} {K : PySem.W.Frag} {x C L f : Addr} {h₀ : Heap} {m : Str → Option Value} {ox : Obj} {od : Option Obj} {b tb : Value}
theorem ne_body {Q : Value → Shared → Prop} (hu : A.units < cLine) (X : K.In s.heap) (I : PySem.W.InstAt s.heap x ox C od) (hs : PySem.W.findIn K (.ref C) "__eq__" = some (some (.ref f))) (hf : PySem.W.isFn K (.ref f) = true)
    (h : wpAny (model prog w) A (call (.ref f) [.ref x, b]) (fun v s' => ∃ r, v = .bool r ∧ Q (.bool (!r)) s') E s) :
    wpAny (model prog w) A (Builtin.«object.__ne__» ⟨[.ref x, b], []⟩) (fun fin s' => ∃ v, fin = .done (.ret v) ∧ Q v s') E s := by
  unfold Builtin.«object.__ne__»
  refine wpAny_bind (wpAny_of_eq (a := ((Value.ref x : Value), [b])) (by first | rfl | (simp only [slotArgs]; rfl)) ?_)
  refine wpAny_bind (wpAny_cRoomFor hu ?_)
  refine wpAny_bind (m := callSpecialIfBound? (.ref x) (Str.ofString "__eq__") [b]) (PySem.W.ifBound_K X I hs hf (wpAny_mono h (fun v s' hv => ?_) fun _ _ e => e))
  obtain ⟨r, rfl, hq⟩ := hv
  exact wpAny_bind (wpAny_truthy_bool (wpAny_pure ⟨_, rfl, hq⟩))
theorem ne_try {Q : Option Value → Shared → Prop} (hu : A.units + 1 < cLine) (X : K.In s.heap) (I : PySem.W.InstAt s.heap x ox C od) (hn : PySem.W.findIn K (.ref C) "__ne__" = some (some (.builtin "object.__ne__")))
    (hob : PySem.W.mroIn K C (.type "object") = some true) (hs : PySem.W.findIn K (.ref C) "__eq__" = some (some (.ref f))) (hf : PySem.W.isFn K (.ref f) = true)
    (h : wpAny (model prog w) A.in1 (call (.ref f) [.ref x, b]) (fun v s' => ∃ r, v = .bool r ∧ Q (some (.bool (!r))) s') E s) :
    wpAny (model prog w) A (tryCompare (.ref x) "__ne__" b) Q E s := by
  have isO : PySem.W.Looks (model prog w) s.heap (isInstance (.ref x) (.type "object")) true := I.type.andThen (PySem.W.looks_mroIn X hob)
  have FB := PySem.F.cmp_object
  unfold tryCompare
  refine wpAny_bind ?_
  simp only [callSpecialIfBound?, bindSpecialIfBound?]
  refine wpAny_holding (wpAny_bind (wpAny_bind (wpAny_bind (I.type.here ((PySem.W.looks_findIn X hn).here ?_)))))
  simp only [FB.ne.bind]
  refine wpAny_bind (wpAny_askSetting (wpAny_ite ?_))
  have key : wpAny (model prog w) A (call (.builtin "object.__ne__") ([.ref x] ++ [b])) (fun v s' => ∃ r, v = .bool r ∧ Q (some (.bool r)) s') E s := by
    refine wpAny_call (codeAny_call_builtin FB.ne.plain PySem.F.cmpEntry_ne ?_)
    refine @PySem.W.check_slot (model prog w) _ _ s "object.__ne__" "object" "__ne__" (.ref x) [b] [] _ PySem.F.cmpKind_ne PySem.F.cmpSplit_ne isO (PySem.F.cmpArgs_ne _ _) ?_
    refine wpAny_mono (ne_body (A := A.in1) (Q := fun v s' => ∃ r, v = .bool r ∧ Q (some (.bool r)) s') hu X I hs hf (wpAny_mono h (fun v s' hv => ?_) fun _ _ e => e)) (fun fin s' hv => ?_) fun _ _ e => e
    · obtain ⟨r, rfl, hq⟩ := hv
      exact ⟨r, rfl, _, rfl, hq⟩
    · obtain ⟨v, rfl, hq⟩ := hv
      exact hq
  have fin : wpAny (model prog w) A (call (.builtin "object.__ne__") ([.ref x] ++ [b]) >>= fun v => pure (some v)) (fun r s' => ∃ q, r = some (.bool q) ∧ Q (some (.bool q)) s') E s :=
    wpAny_bind (wpAny_mono key (fun v s' h' => by obtain ⟨r, rfl, hq⟩ := h'; exact wpAny_pure ⟨r, rfl, hq⟩) fun _ _ h' => h')
  have fin2 := wpAny_mono fin (Q' := fun r s' => wpAny (model prog w) A (match r with | some .notImplemented => pure none | none => pure none | some v => pure (some v)) Q E s') (fun r s' h' => by
    obtain ⟨q, rfl, hq⟩ := h'
    exact wpAny_pure hq) fun _ _ h' => h'
  split
  · exact wpAny_bind (wpAny_pure (wpAny_pure fin2))
  · exact wpAny_tryCatch (wpAny_bind (wpAny_pure (wpAny_pure fin2)))
theorem ne_K {Q : Value → Shared → Prop} (hu : A.units + 1 < cLine) (X : K.In s.heap) (I : PySem.W.InstAt s.heap x ox C od) (hb : PySem.W.Looks (model prog w) s.heap (typeOf b) tb) (hnf : PySem.W.notFirst K C tb = true)
    (hn : PySem.W.findIn K (.ref C) "__ne__" = some (some (.builtin "object.__ne__"))) (hob : PySem.W.mroIn K C (.type "object") = some true)
    (hs : PySem.W.findIn K (.ref C) "__eq__" = some (some (.ref f))) (hf : PySem.W.isFn K (.ref f) = true)
    (h : wpAny (model prog w) A.in1 (call (.ref f) [.ref x, b]) (fun v s' => ∃ r, v = .bool r ∧ Q (.bool (!r)) s') E s) : wpAny (model prog w) A (richCompare .NotEq (.ref x) b) Q E s := by
  have one : wpAny (model prog w) A (tryCompare (.ref x) "__ne__" b) (fun r s' => ∃ v, r = some v ∧ Q v s') E s :=
    ne_try hu X I hn hob hs hf (wpAny_mono h (fun v s' hv => by obtain ⟨r, rfl, hq⟩ := hv; exact ⟨r, rfl, _, rfl, hq⟩) fun _ _ e => e)
  unfold richCompare
  simp only [oneThing_ref]
  refine wpAny_holding (wpAny_bind (wpAny_cRoomFor (Nat.lt_of_succ_lt hu) ?_))
  rw [cmpInfo_NotEq]
  dsimp only
  refine wpAny_bind (I.type.here (wpAny_bind (hb.here ?_)))
  split
  · rename_i q
    have e : PySem.W.subIn K tb (.ref C) = some false := by
      rcases Bool.or_eq_true_iff.mp hnf with e | e
      · rw [beq_iff_eq.mp e] at q; simp at q
      · exact beq_iff_eq.mp e
    refine wpAny_bind ((PySem.W.looks_subIn X e).here ?_)
    simp only [Bool.false_eq_true, if_false]
    refine wpAny_bind (wpAny_mono one (fun r s' z => ?_) fun _ _ e => e)
    obtain ⟨v, rfl, hq⟩ := z
    exact wpAny_pure hq
  · refine wpAny_bind (wpAny_pure ?_)
    simp only [Bool.false_eq_true, if_false]
    refine wpAny_bind (wpAny_mono one (fun r s' z => ?_) fun _ _ e => e)
    obtain ⟨v, rfl, hq⟩ := z
    exact wpAny_pure hq
/-- v == x, v of a built-in type that says nothing of it -/
theorem refl_K {v : Value} {T id : String} {Q : Value → Shared → Prop} (hu : A.units < cLine) (X : K.In s.heap) (I : PySem.W.InstAt s.heap x ox C od) (hT : s.TypeIs v T) (slot : Slot T "__eq__" id) (ho : oneThing? .Eq v (.ref x) = none)
    (hsub : PySem.W.subIn K (.ref C) (.type T) = some false) (hs : PySem.W.findIn K (.ref C) "__eq__" = some (some (.ref f))) (hf : PySem.W.isFn K (.ref f) = true)
    (first : wpAny (model prog w) A (call (.builtin id) [v, .ref x]) (fun r s' => r = .notImplemented ∧ s' = s) E s)
    (h : wpAny (model prog w) A (call (.ref f) [.ref x, v]) (fun v s' => ∃ r, v = .bool r ∧ Q (.bool r) s') E s) : wpAny (model prog w) A (richCompare .Eq v (.ref x)) Q E s := by
  unfold richCompare
  simp only [ho]
  refine wpAny_holding (wpAny_bind (wpAny_cRoomFor hu ?_))
  rw [cmpInfo_Eq]
  dsimp only
  refine wpAny_bind (wpAny_typeOf hT (wpAny_bind (I.type.here ?_)))
  rw [if_pos (by rfl)]
  refine wpAny_bind ((PySem.W.looks_subIn X hsub).here ?_)
  simp only [Bool.false_eq_true, if_false]
  have one : wpAny (model prog w) A (tryCompare v "__eq__" (.ref x)) (fun r s' => r = none ∧ s' = s) E s := by
    unfold tryCompare
    refine wpAny_bind (wpAny_callSpecialIfBound?_slot hT slot (wpAny_mono first (fun r s' z => ?_) fun _ _ e => e))
    obtain ⟨rfl, rfl⟩ := z
    exact wpAny_pure ⟨rfl, rfl⟩
  refine wpAny_bind (wpAny_mono one (fun r s' z => ?_) fun _ _ e => e)
  obtain ⟨rfl, rfl⟩ := z
  dsimp only
  rw [if_pos (by rfl)]
  have two : wpAny (model prog w) A (tryCompare (.ref x) "__eq__" v) (fun r s' => ∃ v, r = some v ∧ Q v s') E s' := by
    unfold tryCompare
    refine wpAny_bind (PySem.W.ifBound_K X I hs hf (wpAny_mono h (fun v s' hv => ?_) fun _ _ e => e))
    obtain ⟨r, rfl, hq⟩ := hv
    exact wpAny_pure ⟨_, rfl, hq⟩
  refine wpAny_bind (wpAny_mono two (fun r s' z => ?_) fun _ _ e => e)
  obtain ⟨v, rfl, hq⟩ := z
  exact wpAny_pure hq
end
section
variable {X : Cx} {CX : CXT} {n : Nat} {C g : Addr} {sp : Sp} {E : XK}
def rNeO (K : PySem.W.Frag) (C : Addr) (sp : Sp) (E : XK) : R2 := fun x y H Q => ∃ a dx fs, x = .ref a ∧ H a = some (.ins C dx fs) ∧ Beside K C H y ∧ sp [x, y] H (fun z H' => ∃ b, z = .bl b ∧ Q (.bl (!b)) H') E
theorem op_neO (hn : PySem.W.findIn X.K (.ref C) "__ne__" = some (some (.builtin "object.__ne__"))) (hob : PySem.W.mroIn X.K C (.type "object") = some true)
    (hs : PySem.W.findIn X.K (.ref C) "__eq__" = some (some (.ref g))) (hf : PySem.W.isFn X.K (.ref g) = true) (F : FnR X.prog X.w X.K X.mg X.base CX n g sp) (hr : Room (n + 1) X.A) (hx : Passes CX X E) : OpR X (compareOp .NotEq) (rNeO X.K C sp E) := by
  intro pins s σ H x y v u Q I rx ry h
  obtain ⟨a, dx, fs, rfl, ha, ⟨t, ht, hnf⟩, q⟩ := h
  cases (show v = Value.ref a from rx)
  obtain ⟨mA, J, _⟩ := ins_get I.hok ha
  obtain ⟨od, J, _⟩ := J.look
  have hr1 : Room n X.A.in1 := Room.in1 hr
  show wpAny (model X.prog X.w) X.A (richCompare .NotEq (.ref a) u) (EP X pins σ Q) X.xe s
  refine ne_K (tb := t) hr1.units0 I.kIn J (ty_looks I ry ht) hnf hn hob hs hf ?_
  refine wpAny_mono (wpAny_call (SlX.run_at (us := [.ref a, u]) (ws := [.ref a, y]) F hr1 I.env0.in1 hx I (.cons rfl (.cons ry .nil)) q)) (fun w s' z => ?_) fun _ _ x => x
  obtain ⟨z', H', I', rz, b, eb, qz⟩ := z
  subst eb
  cases (show w = Value.bool b from rz)
  exact ⟨b, rfl, .bl (!b), H', I', rfl, qz⟩
end
end G2

set_option Elab.async false
set_option linter.all false
set_option maxRecDepth 100000
set_option maxHeartbeats 2000000
namespace G2
open PySem PySem.Spec PyProof.Rows L2 Builtin
section
variable {prog : Program} {w : World} {A : Around} {E : Value → Shared → Prop} {s : Shared} {K : PySem.W.Frag} {x C L f a : Addr} {ox : Obj} {od : Option Obj}
theorem none_first (hx : s.heap.get? x = some ox) : wpAny (model prog w) A (call (.builtin "NoneType.__eq__") [.none, .ref x]) (fun r s' => r = .notImplemented ∧ s' = s) E s := by
  refine GQ.call_here PySem.F.slot_NoneType_eq rfl PySem.F.entry_NoneType_eq (PySem.F.args_NoneType_eq_2 _ _) ?_
  obtain ⟨hp, g, d, tk, os⟩ := s
  unfold Builtin.«NoneType.__eq__»
  repeat (first | with_reducible refine wpAny_loadPart_at hx ?_ | wp_step)
  all_goals first | exact ⟨rfl, rfl⟩ | skip
theorem int_first {i : Int} {t : Tok} (hx : s.heap.get? x = some ox) (hd : ox.data = .plain) : wpAny (model prog w) A (call (.builtin "int.__eq__") [.int i t, .ref x]) (fun r s' => r = .notImplemented ∧ s' = s) E s := by
  refine GQ.call_here PySem.F.slot_int_eq rfl PySem.F.entry_int_eq (PySem.F.args_int_eq_2 _ _) ?_
  obtain ⟨hp, g, d, tk, os⟩ := s
  obtain ⟨oc, odd, oda, osl⟩ := ox
  dsimp only at hd
  subst hd
  unfold Builtin.«int.__eq__»
  repeat (first | with_reducible refine wpAny_loadPart_at hx ?_ | with_reducible refine wpAny_load hx ?_ | wp_step)
  all_goals first | exact ⟨rfl, rfl⟩ | skip
theorem bool_first {b : Bool} (hx : s.heap.get? x = some ox) (hd : ox.data = .plain) : wpAny (model prog w) A (call (.builtin "int.__eq__") [.bool b, .ref x]) (fun r s' => r = .notImplemented ∧ s' = s) E s := by
  refine GQ.call_here PySem.F.slot_bool_eq rfl PySem.F.entry_int_eq (PySem.F.args_int_eq_2 _ _) ?_
  obtain ⟨hp, g, d, tk, os⟩ := s
  obtain ⟨oc, odd, oda, osl⟩ := ox
  dsimp only at hd
  subst hd
  unfold Builtin.«int.__eq__»
  repeat (first | with_reducible refine wpAny_loadPart_at hx ?_ | with_reducible refine wpAny_load hx ?_ | wp_step)
  all_goals first | exact ⟨rfl, rfl⟩ | skip
theorem str_first {z : Str} {t : Tok} (hx : s.heap.get? x = some ox) (hd : ox.data = .plain) : wpAny (model prog w) A (call (.builtin "str.__eq__") [.str z t, .ref x]) (fun r s' => r = .notImplemented ∧ s' = s) E s := by
  refine GQ.call_here PySem.F.slot_str_eq rfl PySem.F.entry_str_eq (PySem.F.args_str_eq_2 _ _) ?_
  obtain ⟨hp, g, d, tk, os⟩ := s
  obtain ⟨oc, odd, oda, osl⟩ := ox
  dsimp only at hd
  subst hd
  unfold Builtin.«str.__eq__»
  repeat (first | with_reducible refine wpAny_loadPart_at hx ?_ | with_reducible refine wpAny_load hx ?_ | wp_step)
  all_goals first | exact ⟨rfl, rfl⟩ | skip
theorem tup_first {o : Obj} (ha : s.heap.get? a = some o) (hc : o.cls = .type "tuple") (X : K.In s.heap) (I : PySem.W.InstAt s.heap x ox C od) (hs : PySem.W.subIn K (.ref C) (.type "tuple") = some false) :
    wpAny (model prog w) A (call (.builtin "tuple.__eq__") [.ref a, .ref x]) (fun r s' => r = .notImplemented ∧ s' = s) E s := by
  refine GQ.call_here PySem.F.slot_tuple_eq ⟨o, ha, hc⟩ PySem.F.entry_tuple_eq (PySem.F.args_tuple_eq_2 _ _) ?_
  have isO : PySem.W.Looks (model prog w) s.heap (isInstance (.ref x) (.type "tuple")) false := I.type.andThen (PySem.W.looks_subIn X hs)
  unfold Builtin.«tuple.__eq__»
  refine wpAny_bind (wpAny_of_eq (a := ((Value.ref a : Value), [Value.ref x])) (by first | rfl | (simp only [slotArgs]; rfl)) ?_)
  refine wpAny_bind (isO.here ?_)
  exact wpAny_pure ⟨rfl, rfl⟩
theorem lst_first {o : Obj} (ha : s.heap.get? a = some o) (hc : o.cls = .type "list") (X : K.In s.heap) (I : PySem.W.InstAt s.heap x ox C od) (hs : PySem.W.subIn K (.ref C) (.type "list") = some false) :
    wpAny (model prog w) A (call (.builtin "list.__eq__") [.ref a, .ref x]) (fun r s' => r = .notImplemented ∧ s' = s) E s := by
  refine GQ.call_here PySem.F.slot_list_eq ⟨o, ha, hc⟩ PySem.F.entry_list_eq (PySem.F.args_list_eq_2 _ _) ?_
  have isO : PySem.W.Looks (model prog w) s.heap (isInstance (.ref x) (.type "list")) false := I.type.andThen (PySem.W.looks_subIn X hs)
  unfold Builtin.«list.__eq__»
  refine wpAny_bind (wpAny_of_eq (a := ((Value.ref a : Value), [Value.ref x])) (by first | rfl | (simp only [slotArgs]; rfl)) ?_)
  refine wpAny_bind (isO.here ?_)
  exact wpAny_pure ⟨rfl, rfl⟩
end
/-- the class is none of the built-in ones -/
structure NoSub (K : PySem.W.Frag) (C : Addr) : Prop where
  non : PySem.W.subIn K (.ref C) (.type "NoneType") = some false
  bl : PySem.W.subIn K (.ref C) (.type "bool") = some false
  int : PySem.W.subIn K (.ref C) (.type "int") = some false
  str : PySem.W.subIn K (.ref C) (.type "str") = some false
  tup : PySem.W.subIn K (.ref C) (.type "tuple") = some false
  lst : PySem.W.subIn K (.ref C) (.type "list") = some false
/-- a thing that is no instance -/
inductive Bare (K : PySem.W.Frag) (H : Hp) : V → Prop
  | non : Bare K H .non
  | bl (b : Bool) : Bare K H (.bl b)
  | int (i : Int) : Bare K H (.int i)
  | str (x : Str) : Bare K H (.str x)
  | tup {a : Addr} {xs : List V} (h : SqT K H a xs) : Bare K H (.ref a)
  | lst {a : Addr} {xs : List V} (h : SqL K H a xs) : Bare K H (.ref a)
section
variable {X : Cx} {CX : CXT} {n : Nat} {C g : Addr} {sp : Sp} {E : XK}
def rEqR (K : PySem.W.Frag) (C : Addr) (sp : Sp) (E : XK) : R2 := fun x y H Q => ∃ a dx fs, y = .ref a ∧ H a = some (.ins C dx fs) ∧ Bare K H x ∧ sp [y, x] H (fun z H' => ∃ b, z = .bl b ∧ Q z H') E
theorem op_eqR (N : NoSub X.K C) (hs : PySem.W.findIn X.K (.ref C) "__eq__" = some (some (.ref g))) (hf : PySem.W.isFn X.K (.ref g) = true) (F : FnR X.prog X.w X.K X.mg X.base CX n g sp) (hr : Room n X.A) (hx : Passes CX X E) : OpR X (compareOp .Eq) (rEqR X.K C sp E) := by
  intro pins s σ H x y v u Q I rx ry h
  obtain ⟨a, dx, fs, rfl, ha, hb, q⟩ := h
  cases (show u = Value.ref a from ry)
  obtain ⟨mA, O, _⟩ := ins_get I.hok ha
  obtain ⟨od, J, _⟩ := O.look
  have hd : (PySem.W.instObj C dx).data = .plain := rfl
  have call2 : wpAny (model X.prog X.w) X.A (call (.ref g) [.ref a, v]) (fun v s' => ∃ r, v = .bool r ∧ EP X pins σ Q (.bool r) s') X.xe s := by
    refine wpAny_mono (wpAny_call (run_fnR (us := [.ref a, v]) (vs := [.ref a, x]) F hr hx I (.cons rfl (.cons rx .nil)) q)) (fun w s' z => ?_) fun _ _ x => x
    obtain ⟨z', H', I', rz, b, eb, qz⟩ := z
    subst eb
    cases (show w = Value.bool b from rz)
    exact ⟨b, rfl, .bl b, H', I', rfl, qz⟩
  show wpAny (model X.prog X.w) X.A (richCompare .Eq v (.ref a)) (EP X pins σ Q) X.xe s
  cases hb with
  | non =>
    cases (show v = Value.none from rx)
    exact refl_K hr.units0 I.kIn J rfl PySem.F.slot_NoneType_eq rfl N.non hs hf (none_first O.obj) call2
  | bl b =>
    cases (show v = Value.bool b from rx)
    exact refl_K hr.units0 I.kIn J rfl PySem.F.slot_bool_eq rfl N.bl hs hf (bool_first O.obj hd) call2
  | int i =>
    obtain ⟨t, e⟩ := (show ∃ t, v = Value.int i t from rx)
    cases e
    exact refl_K hr.units0 I.kIn J rfl PySem.F.slot_int_eq rfl N.int hs hf (int_first O.obj hd) call2
  | str z =>
    obtain ⟨t, e⟩ := (show ∃ t, v = Value.str z t from rx)
    cases e
    exact refl_K hr.units0 I.kIn J rfl PySem.F.slot_str_eq rfl N.str hs hf (str_first O.obj hd) call2
  | @tup b xs hq =>
    cases (show v = Value.ref b from rx)
    obtain ⟨its, rv, ⟨o, ho, hc, _⟩, hz⟩ := I.tuple hq
    exact refl_K hr.units0 I.kIn J ⟨o, ho, hc⟩ PySem.F.slot_tuple_eq rfl N.tup hs hf (tup_first ho hc I.kIn J N.tup) call2
  | @lst b xs hq =>
    cases (show v = Value.ref b from rx)
    obtain ⟨its, rv, pl, hz⟩ := I.list hq
    obtain ⟨o, m, ho, hc, d, q⟩ := pl
    exact refl_K hr.units0 I.kIn J ⟨o, ho, hc⟩ PySem.F.slot_list_eq rfl N.lst hs hf (lst_first ho hc I.kIn J N.lst) call2
end
end G2

set_option Elab.async false
set_option linter.all false
set_option maxRecDepth 100000
set_option maxHeartbeats 2000000
/-! Calls: C(k = v, ..), cls(..), C.m(k = v, ..). -/
namespace G2
open PySem PySem.Spec PyProof.Rows L2 Builtin ClX
section
variable {X : Cx} {CX : CXT} {k i : Nat} {f C p g : Addr} {mc : Value} {fd : FuncData} {ps ks : List Str} {sp : Sp} {dvs : List V} {ds : List Value} {E : XK} {x m : Str} {pp pos apos : Pos} {o e : Expr} {es : List Expr} {kws : List Keyword} {ta : TE} {t tk : TA}
  {gg : List Value → List Value → List Value} {gV : List V → List V → List V}
theorem pe_makeK (M : Mk X.K C f) (F : FnOk X.prog X.w X.K X.mg X.base CX k f fd ps sp) (hr : Room (k + 1) X.A) (hg : Gl X x) (hm : X.mg x = some (.ref C)) (hb : KBn X.K fd ps 1 ks gg gV) (hx : Passes CX X E)
    (hkw : PK X kws tk) (hall : (backToKw pos (keywordEach kws X.env)).all (·.1.isSome) = true := by rfl) (hks : (backToKw pos (keywordEach kws X.env)).filterMap (·.1) = ks := by rfl)
    (hdb : (x == ("__debug__" : Str)) = false := by decide)
    (hpl : ((backTo pos (starEach [] X.env)).any (·.1) || (backToKw pos (keywordEach kws X.env)).any (·.1.isNone)) = false := by rfl) :
    PE X (.Call (.Name x pp) [] kws pos) (tMakeN C 0 ks.length sp gV E tNil tk) := by
  refine ⟨fun pins s σ H Q I h => ?_⟩
  refine wpAny_Call_Name_kw (ld_glob I hg hm ?_ hdb)
  refine PySem.W.callWith_KW0 (h₀ := X.base) I.ok.mod.kin M.kp hall (thn (hkw.run pos pins s σ H _ I h) fun ws s2 ⟨zs, H2, I2, rz, l1, l2, q2⟩ => ⟨I2.kIn, ?_⟩) hpl
  rw [hks]
  exact run_makeN (us := []) (vs := []) M F hr hb hx I2 .nil rz l1 l2 q2
/-- cls(e, ..), cls a local that holds the class at C -/
def tMakeV (i : Nat) (C : Addr) (sp : Sp) (dvs : List V) (E : XK) (t : TA) : TE := fun σ H Q => σ[i]? = some (some (.ref C)) ∧ tMake C sp dvs E t σ H Q
theorem pe_makeV (i : Nat) (M : Mk X.K C f) (F : FnOk X.prog X.w X.K X.mg X.base CX k f fd ps sp) (hr : Room (k + 1) X.A) (hN : X.N[i]? = some x) (hv : Vis X.env.scope x) (hb : Binds X.K fd ps ds) (hd : Vals dvs ds) (hx : Passes CX X E)
    (ha : PA X (e :: es) t) (hdb : (x == ("__debug__" : Str)) = false := by decide) (hcd : (x == ("__classdict__" : Str)) = false := by decide)
    (he : starEach (e :: es) X.env = (false, eval e X.env) :: starEach es X.env := by rfl) (hpl : (backTo pos (starEach es X.env)).any (·.1) = false := by rfl) :
    PE X (.Call (.Name x pp) (e :: es) [] pos) (tMakeV i C sp dvs E t) := by
  refine ⟨fun pins s σ H Q I h => ?_⟩
  obtain ⟨hs, ht⟩ := h
  refine wpAny_Call_Name_kw (thn ((pe_var (pos := pp) hN hv hdb hcd).run pins s σ H (fun v H1 => v = .ref C ∧ H1 = H) I ⟨.ref C, hs, rfl, rfl⟩) fun u s1 ⟨v, H1, I1, r1, q1⟩ => ?_)
  obtain ⟨rfl, rfl⟩ := q1
  cases r1
  refine PySem.W.callWith_K (h₀ := X.base) I.ok.mod.kin M.kp (thn (ha.run pos pins s1 σ _ _ I1 ht) fun us s2 ⟨vs, H2, I2, r, q⟩ => ⟨I2.kIn, ?_⟩) he hpl
  exact run_make M F hr hb hd hx I2 r q
/-- C.m(k = v, ..), m a classmethod -/
def tCMethK (C : Addr) (n : Nat) (sp : Sp) (gV : List V → List V → List V) (E : XK) (ta : TE) (tk : TA) : TE := fun σ H Q => ta σ H fun x H1 => x = .ref C ∧ tk σ H1 fun zs H2 => zs.length = n ∧ sp (gV [.ref C] zs) H2 Q E
theorem pe_cmethK {pl : Sem Bool} (he : PE X o ta) (r : CRead X.K C mc) (c : CMet X.K C mc m p g) (F : FnOk X.prog X.w X.K X.mg X.base CX k g fd ps sp) (hr : Room k X.A) (hb : KBn X.K fd ps 1 ks gg gV) (hx : Passes CX X E) (hkw : PK X kws tk)
    (hall : (backToKw pos (keywordEach kws X.env)).all (·.1.isSome) = true := by rfl) (hks : (backToKw pos (keywordEach kws X.env)).filterMap (·.1) = ks := by rfl)
    (hpl : ((backTo pos (starEach [] X.env)).any (·.1) || (backToKw pos (keywordEach kws X.env)).any (·.1.isNone)) = false := by rfl)
    (ht : eval (.Call (.Attribute o m apos) [] kws pos) X.env = (do
      let ov ← eval o X.env
      standAt apos.atName
      let (f, first) ← holding [ov] (getMethod ov m pl)
      callWith pos f first (backTo pos (starEach [] X.env)) (backToKw pos (keywordEach kws X.env))) := by rfl) :
    PE X (.Call (.Attribute o m apos) [] kws pos) (tCMethK C ks.length sp gV E ta tk) := by
  refine ⟨fun pins s σ H Q I h => ?_⟩
  refine PySem.W.methodCall_KW (pl := pl) (thn (he.run pins s σ H _ I h) fun u s1 ⟨x, H1, I1, rx, ex, q⟩ => ?_) ht
  subst ex
  obtain rfl : u = Value.ref C := rx
  refine getmethcm_ok I1 r c fun s2 I2 => ?_
  refine PySem.W.callWith_of hpl (PySem.W.keeps_M (q := s1.heap.objs.size) (self := .ref C) c.fi) (evalArgs_kw2_nil hall (thn (hkw.run pos _ s2 σ H1 _ I2 q) fun ws s3 ⟨zs, H2, I3, rz, l2, q2⟩ => ⟨⟨pin_at I3, I3.kIn⟩, ?_⟩))
  rw [hks]
  have rr : Vals (gV [V.ref C] zs) (gg [Value.ref C] ws) := hb.rel (.cons rfl .nil) rz
  have e2 : ws.length = ks.length := rz.length.symm.trans l2
  refine thn (Q := EP X ((s1.heap.objs.size, PySem.W.methodObj (.ref g) (.ref C)) :: pins) σ Q) (wpAny_call (PySem.W.method_call (pin_at I3) (codeAny_mono (F.run X.A X.stack s3 H2 ⟨.ref C :: [], ks.zip ws⟩ (gg [Value.ref C] ws) (gV [V.ref C] zs) Q E hr I3.env0 (hb.to s3 [.ref C] ws I3.kIn rfl e2) rr q2) fun r s' hq => ?_))) fun _ _ y => unpinE y
  cases r with
  | error e => exact hx _ σ H2 s3 e s' I3 hq
  | ok fl =>
    cases fl with
    | ret u => exact I3.after hq
    | next => exact False.elim hq
    | brk => exact False.elim hq
    | cont => exact False.elim hq
end
end G2

set_option Elab.async false
set_option linter.all false
set_option maxRecDepth 100000
set_option maxHeartbeats 2000000
/-! head, *lines = a list; xs[1::2] of a list of seven. -/
namespace G2
open PySem PySem.Spec PyProof.Rows L2 Builtin
theorem star1 {prog : Program} {w : World} {A : Around} {E : Value → Shared → Prop} {s : Shared} {l : Addr} {items : Array Value} {Q : List Value → Shared → Prop} (hl : s.heap.IsList l items) (hh : A.handled = none) (hn : 1 ≤ items.size) (hz : items.size ≤ 16384)
    (h : ∀ h₂ tk, (∀ b o, s.heap.get? b = some o → h₂.get? b = some o) → wpAny (model prog w) A (newList (items.toList.drop 1) >>= fun d => pure (items.toList.take 1 ++ [d] ++ [])) Q E { s with heap := h₂, toks := tk }) :
    wpAny (model prog w) A (unpackItems (.ref l) 2 (some 1)) Q E s := by
  have hlt : l ≠ s.heap.objs.size := by obtain ⟨o, ho, _⟩ := hl; exact Nat.ne_of_lt (Heap.lt_size ho)
  unfold unpackItems
  refine wpAny_bind ?_
  unfold notIterableAtAll
  refine wpAny_bind (wpAny_specialOf hl.typeIs slot_list_iter.lookup ?_)
  refine wpAny_pure ?_
  simp only [Bool.false_eq_true, if_false]
  refine wpAny_bind (wpAny_holding (wpAny_pyIter_list hl ?_))
  refine wpAny_bind (wpAny_holding (PySem.W.kun_draw hlt 1 0 _ _ ⟨_, Heap.get?_push_size _ rfl, rfl, rfl⟩ (hl.push _) (by omega) fun h₁ hit₁ hs₁ => ?_))
  have hl₁ : h₁.IsList l items := (hl.push _).extBut hs₁.extBut hlt
  rw [Nat.zero_add] at hit₁
  have hit₁' := hit₁
  obtain ⟨oi, hoi, _⟩ := hit₁'
  have hl₁' := hl₁
  obtain ⟨ol, hol, _⟩ := hl₁'
  rw [List.drop_zero]
  have hfl : (items.toList.take 1).length = 1 := by rw [List.length_take, Array.length_toList]; omega
  rw [if_neg (show ¬ ((items.toList.take 1).length < 1) by rw [hfl]; omega)]
  refine wpAny_bind (wpAny_holding (PySem.W.kun_collect (s := { s with heap := h₁ }) (T := "list_iterator") (.inr (.inr (.inl rfl))) (Walks.list (A := A.in1) hh s.heap.objs.size l hlt items) (fun j u st => st.1.typeIs) (k := 1) (by omega) ⟨hit₁, hl₁⟩ (Heap.lt_size hoi) (Heap.lt_size hol) (fun h₂ tk hk => ?_) (by rw [sizeLine_eq]; omega)))
  show wpAny _ _ (if (items.toList.drop 1).length < 2 - 1 - 1 then _ else _) _ _ _
  rw [if_neg (by omega)]
  show wpAny _ _ (newList ((items.toList.drop 1).take ((items.toList.drop 1).length - (2 - 1 - 1))) >>= fun d => pure (items.toList.take 1 ++ [d] ++ (items.toList.drop 1).drop ((items.toList.drop 1).length - (2 - 1 - 1)))) _ _ _
  rw [show (items.toList.drop 1).length - (2 - 1 - 1) = (items.toList.drop 1).length from rfl, List.take_length, List.drop_length]
  exact h h₂ tk fun b o e => hk b o (Nat.ne_of_lt (Heap.lt_size e)) (hs₁.extBut b o (Nat.ne_of_lt (Heap.lt_size e)) (Heap.get?_push_of_some _ e))
section
variable {X : Cx}
/-- a, *b = a list -/
def gStar (K : PySem.W.Frag) (g1 g2 : TG) : TG := fun v σ H Q => ∃ l x xs, v = .ref l ∧ SqL K H l (x :: xs) ∧ xs.length ≤ 16000 ∧ ∀ p, H p = none → g1 x σ (upd H p (.lst xs)) fun σ1 H1 => g2 (.ref p) σ1 H1 Q
theorem pg_star {a b : Expr} {p1 pos : Pos} {k : Nat} {g1 g2 : TG} (hc : X.calm = true) (h1 : PG X a g1) (h2 : PG X b g2) (hn : (assignEach [a, .Starred b p1] X.env).length = 2 := by rfl)
    (hst : (assignEach [a, .Starred b p1] X.env).findIdx? (·.1) = some 1 := by rfl) (hs : (assignEach [a, .Starred b p1] X.env).map (·.2) = [assign a X.env, assign b X.env] := by rfl) : PG X (.Tuple [a, .Starred b p1] k pos) (gStar X.K g1 g2) := by
  refine ⟨fun pins s σ H v u Q I r hw => ?_⟩
  obtain ⟨l, x, xs, e1, hq, hz, hw⟩ := hw
  subst e1
  cases r
  obtain ⟨its, rv, pl, hz'⟩ := I.list hq
  have hl' : s.heap.IsList l its.toArray := by
    obtain ⟨o, m, e, c, d, q⟩ := pl
    exact ⟨o, e, c, m, q⟩
  cases rv with
  | @cons _ u1 _ us r1 rr =>
    have hlen := rr.length
    rw [PyProof.Rows.assign_Tuple]
    refine wpAny_bind (wpAny_standAt ?_)
    unfold unpack
    rw [hn, hst, hs]
    refine wpAny_bind (wpAny_holding (star1 hl' (I.ok.hd hc) (by simp) (by simp; omega) fun h₂ tk hk => ?_))
    have I1 : Inv X pins σ H { s with heap := h₂, toks := tk } := I.kept (t' := tk) hk
    show wpAny _ _ (newList us >>= fun d => pure ([u1] ++ [d] ++ [])) _ _ _
    refine wpAny_bind (wpAny_newObj_type ?_)
    refine wpAny_pure ?_
    have ok : ObjOk X.prog X.w (upd H h₂.objs.size (.lst xs)) (h₂.push { cls := .type "list", data := .seq us.toArray }) h₂.objs.size (.lst xs) := ⟨by rw [sizeLine_eq]; omega, us, 0, rr, Heap.get?_push_size _ rfl⟩
    have I2 : Inv X pins σ (upd H h₂.objs.size (.lst xs)) { s with heap := h₂.push { cls := .type "list", data := .seq us.toArray }, toks := tk } := I1.laid (t' := tk) (fun b o e => Heap.get?_push_of_some _ e) (Nat.le_refl _) ok
    show wpAny _ _ (assignInOrder [assign a X.env, assign b X.env] [u1, .ref h₂.objs.size]) _ _ _
    refine assignInOrder_cons (thn (h1.run pins _ σ _ _ _ _ I2 r1 (hw _ (I1.hok.fresh (Nat.le_refl _)))) fun _ s1 ⟨σ1, H1, I3, q1⟩ => ?_)
    refine assignInOrder_cons (thn (h2.run pins s1 σ1 H1 (.ref h₂.objs.size) _ Q I3 rfl q1) fun _ s2 ⟨σ2, H2, I4, q2⟩ => ?_)
    exact assignInOrder_nil ⟨σ2, H2, I4, q2⟩
/-- xs[1::2], xs of seven items -/
def tOdd (K : PySem.W.Frag) (te : TE) : TE := fun σ H Q => te σ H fun x H1 => ∃ l a b c d e f g, x = .ref l ∧ SqL K H1 l [a, b, c, d, e, f, g] ∧ ∀ p, H1 p = none → Q (.ref p) (upd H1 p (.lst [b, d, f]))
theorem pick7 (a b c d e f g : Value) : slicePick #[a, b, c, d, e, f, g] (some 1) none (some 2) = #[b, d, f] := by
  unfold slicePick
  show ((sliceRange _ _ _).filterMap (#[a, b, c, d, e, f, g][·]?)).toArray = _
  have h : sliceRange 1 7 2 = [1, 3, 5] := by decide +kernel
  show ((sliceRange 1 7 2).filterMap (#[a, b, c, d, e, f, g][·]?)).toArray = _
  rw [h]
  rfl
theorem pe_odd {e : Expr} {te : TE} {k1 k2 : Nat} {p1 p2 p3 pos : Pos} (he : PE X e te) : PE X (.Subscript e (.Slice (some (.Constant (.int 1) k1 p1)) none (some (.Constant (.int 2) k2 p2)) p3) pos) (tOdd X.K te) := by
  refine ⟨fun pins s σ H Q I h => ?_⟩
  refine Subscript_ (thn (he.run pins s σ H _ I h) fun v s1 ⟨x, H1, I1, r1, q1⟩ => ?_)
  obtain ⟨a, x1, x2, x3, x4, x5, x6, x7, ex, hx, q⟩ := q1
  subst ex
  cases r1
  have hst : ∀ (j : Int) (k : Nat) (p : Pos), PO X (some (.Constant (.int j) k p)) (tPart (tC (.int j))) := fun j k p => po_some pe_int
  refine wpAny_Slice (thn ((hst 1 k1 p1).run pins s1 σ H1 (fun o H2 => o = some 1 ∧ H2 = H1) I1 ⟨1, rfl, rfl, rfl⟩) fun vl s2 ⟨l, H2, I2, pl, el, e2⟩ => ?_)
  subst el e2
  refine thn (po_none.run pins s2 σ H2 (fun o H3 => o = none ∧ H3 = H2) I2 ⟨rfl, rfl⟩) fun vu s3 ⟨u, H3, I3, pu, eu, e3⟩ => ?_
  subst eu e3
  refine thn ((hst 2 k2 p2).run pins s3 σ H3 (fun o H4 => o = some 2 ∧ H4 = H3) I3 ⟨2, rfl, rfl, rfl⟩) fun vs s4 ⟨o, H4, I4, ps, eo, e4⟩ => ?_
  subst eo e4
  have I5 : Inv X pins σ H4 { s4 with heap := s4.heap.push { cls := .type "slice", data := .fields #[vl, vu, vs] } } := I4.kept (t' := s4.toks) fun b ob q => Heap.get?_push_of_some _ q
  obtain ⟨its, r, ht, hz⟩ := I5.list hx
  show wpAny (model X.prog X.w) X.A (subscriptTail e (.Slice (some (.Constant (.int 1) k1 p1)) none (some (.Constant (.int 2) k2 p2)) p3) (.ref a) (.ref s4.heap.objs.size)) (EP X pins σ Q) X.xe { s4 with heap := s4.heap.push { cls := .type "slice", data := .fields #[vl, vu, vs] } }
  refine tail_any (ops := [.ref a, .ref s4.heap.objs.size]) ht.isList.typeIs (PySem.slot_list_getitem.lookup) ?_ (by with_unfolding_all rfl)
  have hlen := r.length
  refine wpAny_getItem_list_slice ht.isList (Heap.IsSliceOf.new _ vl vu vs) pl pu ps (by decide) ?_ (by rw [List.size_toArray, ← hlen, sizeLine_eq]; show 7 ≤ _; omega)
  cases r with | cons r1 t => cases t with | cons r2 t => cases t with | cons r3 t => cases t with | cons r4 t => cases t with | cons r5 t => cases t with | cons r6 t => cases t with | cons r7 t => cases t with | nil =>
  rw [pick7]
  refine ⟨.ref _, _, I5.laid (t' := s4.toks) (o := .lst [x2, x4, x6]) (fun b ob q => Heap.get?_push_of_some _ q) (Nat.le_refl _) ?_, rfl, q _ (I5.hok.fresh (Nat.le_refl _))⟩
  exact ⟨by rw [sizeLine_eq]; show 3 ≤ _; omega, _, 0, .cons r2 (.cons r4 (.cons r6 .nil)), Heap.get?_push_size _ rfl⟩
end
end G2

set_option Elab.async false
set_option linter.all false
set_option maxRecDepth 100000
set_option maxHeartbeats 2000000
/-! for i, x in enumerate(a tuple). -/
namespace PySem
open Builtin
open AutoSeq1 (wpAny_loadPart')
set_option maxHeartbeats 4000000 in
theorem meets_enum_tup (l : Addr) (items : Array Value) (n : Nat) (dct : Option Addr) (sl : Array (Option Value)) :
    Meets (Builtin.«enumerate.__new__» ⟨[.type "enumerate", .ref l], []⟩) (fun _ R s => s.heap.get? l = some { cls := .type "tuple", dict := dct, data := .seq items n, slots := sl } ∧
      R (.ok (.ret (.ref (s.heap.push { cls := .type "tuple_iterator", data := .fields #[.ref l, .int 0 0] }).objs.size)))
        { s with heap := (s.heap.push { cls := .type "tuple_iterator", data := .fields #[.ref l, .int 0 0] }).push { cls := .type "enumerate", data := .fields #[.none, .bool false, .ref s.heap.objs.size, rawInt 0, .none, .none] } }) :=
  .of_wp fun prog w A R s h => by
    obtain ⟨hp, g, d, tk, os⟩ := s; obtain ⟨hl, h⟩ := h
    have hsub := sub_enumerate
    have hL : Heap.IsTuple (Shared.heap ⟨hp, g, d, tk, os⟩) l items := ⟨_, hl, rfl, n, rfl⟩
    wp_walk using wpAny_loadPart' hl
    refine wpAny_stack_any fun st => wpAny_pure ?_
    split
    · rename_i c _ _ _ _ _
      cases (c == Value.type "enumerate")
      · wp_walk using wpAny_loadPart' hl, wpAny_pyIter_tuple hL
        exact ⟨_, rfl, h⟩
      · wp_walk using wpAny_loadPart' hl, wpAny_pyIter_tuple hL
        exact ⟨_, rfl, h⟩
    · wp_walk using wpAny_loadPart' hl, wpAny_pyIter_tuple hL
      exact ⟨_, rfl, h⟩
theorem call_enum_tup {prog : Program} {w : World} {A : Around} {E : Value → Shared → Prop} {s : Shared} {l : Addr} {items : Array Value} {Q : Value → Shared → Prop} (hL : s.heap.IsTuple l items)
    (h : ∀ h', IsEnum h' (s.heap.objs.size + 1) s.heap.objs.size 0 .none → h'.IsTupleIter s.heap.objs.size l 0 → h'.objs.size = s.heap.objs.size + 2 →
      (∀ b o, s.heap.get? b = some o → h'.get? b = some o) → Q (.ref (s.heap.objs.size + 1)) { s with heap := h' }) :
    wpAny (model prog w) A (call (.type "enumerate") [.ref l]) Q E s := by
  obtain ⟨⟨c, dct, dt, sl⟩, hl, hc, n, hd⟩ := hL
  replace hc : c = .type "tuple" := hc
  replace hd : dt = .seq items n := hd
  subst hc hd
  refine callType_new F.called_enumerate (by decide) (F.typeCall_enumerate_1 _) (F.newCall_enumerate_1 _) (fun obj => F.args_object_init_2 obj _) F.entry_enumerate_new
    (meets_enum_tup l items n dct sl) ⟨hl, ?_⟩
  have hz : (s.heap.push { cls := .type "tuple_iterator", data := .fields #[.ref l, .int 0 0] }).objs.size = s.heap.objs.size + 1 := Heap.size_push ..
  show _ ∧ _
  rw [hz]
  have he : IsEnum ((s.heap.push { cls := .type "tuple_iterator", data := .fields #[.ref l, .int 0 0] }).push
      { cls := .type "enumerate", data := .fields #[.none, .bool false, .ref s.heap.objs.size, rawInt 0, .none, .none] }) (s.heap.objs.size + 1) s.heap.objs.size 0 .none := by
    have := Heap.get?_push_size (s.heap.push { cls := .type "tuple_iterator", data := .fields #[.ref l, .int 0 0] })
      (o := { cls := .type "enumerate", data := .fields #[.none, .bool false, .ref s.heap.objs.size, rawInt 0, .none, .none] }) rfl
    rw [hz] at this; exact this
  refine ⟨⟨_, he, rfl⟩, h _ he ⟨_, Heap.get?_push_of_some _ (Heap.get?_push_size _ rfl), rfl, rfl⟩ (by rw [Heap.size_push, hz]) fun b o x => Heap.get?_push_of_some _ (Heap.get?_push_of_some _ x)⟩
end PySem
namespace G2
open PySem PySem.Spec PyProof.Rows L2 Builtin
def ItT (K : PySem.W.Frag) (a : Addr) : It :=
  ⟨fun i H => ∃ (xs : List V) (x : V), SqT K H a xs ∧ xs[i]? = some x, fun i H v H' => ∃ T x, v = .ref T ∧ H T = none ∧ H' = upd H T (.tup [.int (i : Nat), x]) ∧ ∀ xs, SqT K H a xs → xs[i]? = some x, fun i H => ∃ xs : List V, SqT K H a xs ∧ xs.length = i⟩
theorem turn_enumT {P : Program} {w : World} {K : PySem.W.Frag} {elts : List Expr} {kk : Nat} {tpos : Pos} (a e it : Addr) (hea : e ≠ a) (hia : a ≠ it) :
    Turn P w K (.Tuple elts kk tpos) (ItT K a) [e, it] e (fun i h => (∃ old, IsEnum h e it ((i : Nat) : Int) old) ∧ h.IsTupleIter it a i ∧ e ≠ it) where
  mem := by simp
  obj := fun i h st b hb => by
    obtain ⟨⟨old, he⟩, ⟨o, ho, hc, hd⟩, _⟩ := st
    have e' : b = e ∨ b = it := by simpa using hb
    rcases e' with z | z
    · rw [z]; exact ⟨_, he, fun v q => nomatch q⟩
    · rw [z]; exact ⟨o, ho, fun v q => by rw [hd] at q; cases q⟩
  keep := fun i h h' st k => let ⟨⟨old, he⟩, hi, hne⟩ := st; ⟨⟨old, k e (by simp) _ he⟩, hi.at fun o q => k it (by simp) o q, hne⟩
  item := by
    intro X hP hw hK hc i pins s σ H E I hf st hg
    subst hP hw hK
    obtain ⟨⟨old, he⟩, hit, hne⟩ := st
    obtain ⟨xs, x, hq, hx⟩ := hg
    obtain ⟨its, rv, p, hz⟩ := I.tuple hq
    obtain ⟨u, hu, ru⟩ := rv.get hx
    have hel : e < s.heap.objs.size := Heap.lt_size he
    have hil : it < s.heap.objs.size := by obtain ⟨_, q, _⟩ := hit; exact Heap.lt_size q
    have hlt : i < its.toArray.size := by
      have z := (List.getElem?_eq_some_iff.mp hu).1
      simpa using z
    refine wpAny_pyNext_enum_itemD (Draws.tuple (A := X.A.in1) (I.ok.hd hc) it a hia its.toArray) he ⟨hit, p⟩ hlt hne (by simp [hne, hea]) fun x' h' tk hPx ho hst' hT hsz hk => ?_
    obtain ⟨hit', p'⟩ := hst'
    have ex : x' = u := by
      have z : its[i]? = some x' := by simpa using hPx
      rw [hu] at z
      exact (Option.some.inj z).symm
    subst ex
    refine ⟨_, rfl, wpAny_letOwnedTupleGo_enum (s := { s with heap := h', toks := tk + 1 }) ho fun h'' he' sb => ?_⟩
    have hT2 : h''.get? s.heap.objs.size = some { cls := .type "tuple", data := .seq #[.int i tk, x'] } := (sb.2 _ (Nat.ne_of_gt hel)).trans hT
    have new : ObjOk X.prog X.w (upd H s.heap.objs.size (.tup [.int (i : Nat), x])) h'' s.heap.objs.size (.tup [.int (i : Nat), x]) :=
      ⟨by show 2 ≤ sizeLine; decide, [.int i tk, x'], .cons ⟨_, rfl⟩ (.cons ru .nil), ⟨_, hT2, rfl, _, rfl⟩⟩
    have I1 : Inv X pins σ (upd H s.heap.objs.size (.tup [.int (i : Nat), x])) { s with heap := h'', toks := tk + 1 } :=
      I.turnedNew (ch := [e, it]) (fun b ob hb q => (sb.2 b (fun z => hb (by simp [z]))).trans (hk b ob (fun z => hb (by simp [z])) (fun z => hb (by simp [z])) q)) hf (Nat.le_refl _) new
    refine ⟨.ref s.heap.objs.size, _, I1, rfl, ⟨_, x, rfl, I.hok.fresh (Nat.le_refl _), rfl, fun ys hy => by rw [I.tuple_inj hy hq]; exact hx⟩, ⟨⟨x', ?_⟩, hit'.at fun o q => (sb.2 it (Ne.symm hne)).trans q, hne⟩, fun b hb => ?_⟩
    · have e1 : ((i + 1 : Nat) : Int) = (i : Int) + 1 := by omega
      rw [e1]; exact he'
    · have hb' : b < s.heap.objs.size := by
        have e' : b = e ∨ b = it := by simpa using hb
        rcases e' with z | z
        · rw [z]; exact hel
        · rw [z]; exact hil
      rw [upd_ne (Nat.ne_of_lt hb')]
      exact (hf b hb).1
  done := by
    intro X hP hw hK hc i pins s σ H E I hf st hg
    subst hP hw hK
    obtain ⟨⟨old, he⟩, hit, hne⟩ := st
    obtain ⟨xs, hq, hx⟩ := hg
    obtain ⟨its, rv, p, hz⟩ := I.tuple hq
    obtain ⟨f0, f1, f2, f3, f4, f5⟩ := hf it (by simp)
    have hl := rv.length
    have hn : i = its.toArray.size := by rw [List.size_toArray, ← hl, hx]
    rw [hn] at hit
    exact wpAny_pyNext_enum_endD (Draws.tuple (A := X.A.in1) (I.ok.hd hc) it a hia its.toArray) he ⟨hit, p⟩ fun h' eb => ⟨rfl, I.turned (t' := s.toks) (fun b o hb q => eb b o hb q) f0 f1 f3 f4 f5⟩
  self := fun A i s Q E st h => let ⟨⟨_, he⟩, _⟩ := st; wpAny_pyIter_enum he h
def iEnumT (K : PySem.W.Frag) (ta : TA) : TI := fun σ H R => ta σ H fun vs H1 => ∃ a xs, vs = [.ref a] ∧ SqT K H1 a xs ∧ R (ItT K a) H1
theorem pi_enumT {X : Cx} {e : Expr} {ta : TA} {p pos tpos : Pos} {elts : List Expr} {kk : Nat} (hg : Gl X "enumerate") (hm : X.mg "enumerate" = none) (ha : PA X [e] ta) (hs : starEach [e] X.env = [(false, eval e X.env)] := by rfl) :
    PI X (.Tuple elts kk tpos) (.Call (.Name "enumerate" p) [e] [] pos) (iEnumT X.K ta) := by
  refine ⟨fun pins s σ H R I h => ?_⟩
  refine Call_ (ld_blt I hg hm boot_enumerate (PyProof.Rows.callWith_type1 (thn (ha.run pos pins s σ H _ I h) fun us s1 ⟨vs, H1, I1, r1, q1⟩ => ?_) hs rfl))
  obtain ⟨a, xs, ex, hq, q⟩ := q1
  subst ex
  cases r1 with
  | cons r rr =>
    cases rr
    cases r
    obtain ⟨its, rv, p', hz⟩ := I1.tuple hq
    have hal : a < s1.heap.objs.size := by obtain ⟨o, ho, _⟩ := id p'; exact Heap.lt_size ho
    refine call_enum_tup p' fun h' he hit hsz hk => wpAny_pyIter_enum he ?_
    have I2 : Inv X pins σ H1 { s1 with heap := h' } := I1.kept (t' := s1.toks) hk
    refine ⟨s1.heap.objs.size + 1, [s1.heap.objs.size + 1, s1.heap.objs.size], _, _, H1, rfl, I2, turn_enumT a (s1.heap.objs.size + 1) s1.heap.objs.size (Nat.ne_of_gt (Nat.lt_succ_of_lt hal)) (Nat.ne_of_lt hal), ⟨⟨.none, he⟩, hit, Nat.succ_ne_self _⟩, fun b hb => ?_, q⟩
    have e' : b = s1.heap.objs.size + 1 ∨ b = s1.heap.objs.size := by simpa using hb
    have hle : s1.heap.objs.size ≤ b := by
      rcases e' with z | z
      · rw [z]; exact Nat.le_add_right _ _
      · rw [z]; exact Nat.le_refl _
    exact I1.fpOk hle (I1.hok.fresh hle)
/-- a loop over enumerate(a tuple) that is run through -/
theorem for_enumT {K : PySem.W.Frag} {a : Addr} {xs : List V} {g : TG} {tb : TS} {D : Ends} {σ : L2.St} {H : Hp} (Pv : Nat → L2.St → Hp → Prop) (h0 : Pv 0 σ H) (hl : ∀ i σ H, Pv i σ H → SqT K H a xs)
    (hs : ∀ i x T σ H, xs[i]? = some x → Pv i σ H → H T = none → g (.ref T) σ (upd H T (.tup [.int (i : Nat), x])) fun σ2 H2 => tb { D with nx := Pv (i + 1), ct := Pv (i + 1), bk := D.nx } σ2 H2)
    (hd : ∀ σ H, Pv xs.length σ H → D.nx σ H) :
    ∃ W : Nat → Nat → L2.St → Hp → Prop, (∃ m, W 0 m σ H) ∧ ∀ i m σ H, W i m σ H →
      ((ItT K a).stop i H ∧ D.nx σ H) ∨ ((ItT K a).go i H ∧ ∃ N : L2.St → Hp → Prop, (∀ σ' H', N σ' H' → ∃ m', m' < m ∧ W (i + 1) m' σ' H') ∧
        ∀ x H', (ItT K a).yld i H x H' → g x σ H' fun σ2 H2 => tb { D with nx := N, ct := N, bk := D.nx } σ2 H2) := by
  refine ⟨fun i m σ H => i + m = xs.length ∧ Pv i σ H, ⟨xs.length, by omega, h0⟩, fun i m σ H hW => ?_⟩
  obtain ⟨e, p⟩ := hW
  by_cases hm : m = 0
  · subst hm
    have e' : i = xs.length := by omega
    subst e'
    exact .inl ⟨⟨xs, hl _ _ _ p, rfl⟩, hd _ _ p⟩
  · have hi : i < xs.length := by omega
    refine .inr ⟨⟨xs, xs[i], hl _ _ _ p, List.getElem?_eq_getElem hi⟩, Pv (i + 1), fun σ' H' q => ⟨m - 1, by omega, by omega, q⟩, fun x H' y => ?_⟩
    obtain ⟨T, x', rfl, hT, rfl, hx⟩ := y
    exact hs i x' T σ H (hx xs (hl _ _ _ p)) p hT
end G2

set_option Elab.async false
set_option linter.all false
set_option maxRecDepth 100000
set_option maxHeartbeats 2000000
namespace K2
open PySem PySem.Spec PyProof.Rows L2 G1 G2
def topS (i : Nat) : Stmt := PySem.Challenge.pw_spareblocks_k02_drives_made.main.body.getD i (.Pass ⟨0, 0, 0, 0⟩)
abbrev sCell : Stmt := topS 37
abbrev sPool : Stmt := topS 38
abbrev sDraw : Stmt := topS 39
/-- the built-in names are still the built-ins -/
structure Bl (mg : Str → Option Value) : Prop where
  len : mg "len" = none
  int : mg "int" = none
  abs : mg "abs" = none
  repr : mg "repr" = none
  isi : mg "isinstance" = none
  range : mg "range" = none
  max : mg "max" = none
  min : mg "min" = none
  all : mg "all" = none
  sum : mg "sum" = none
  enm : mg "enumerate" = none
  tup : mg "tuple" = none
  boo : mg "bool" = none
  str : mg "str" = none
theorem bInt : bootBuiltins "int" = some (.type "int") := by decide +kernel
theorem bAbs : bootBuiltins "abs" = some (.builtin "abs") := by decide +kernel
theorem scCell : FnScope ["_law_cells", "_law_k", "_law_found", "_law_cell_here"] ["_law_cells", "_law_k"] (defScope sCell) :=
  ⟨rfl, rfl, rfl, by decide +kernel, rfl, by decide +kernel, by decide +kernel⟩
theorem scPool : FnScope ["_law_cell_here", "_law_left"] ["_law_cell_here"] (defScope sPool) :=
  ⟨rfl, rfl, rfl, by decide +kernel, rfl, by decide +kernel, by decide +kernel⟩
theorem scDraw : FnScope ["_law_pool_here", "_law_many", "_law_seed", "_law_digit"] ["_law_pool_here", "_law_many"] (defScope sDraw) :=
  ⟨rfl, rfl, rfl, by decide +kernel, rfl, by decide +kernel, by decide +kernel⟩
/-- the number at an index, or a mixed one: some int -/
def spCell (K : PySem.W.Frag) : Sp := fun vs H Q _ => ∃ (l : Addr) (ns : List Int) (k : Nat), vs = [.ref l, .int (k : Int)] ∧ SqL K H l (ns.map V.int) ∧ ns.length ≤ 63 ∧ k ≤ 10 ∧ ∀ (H' : Hp) (i : Int), Same H H' → Q (.int i) H'
def spPool : Sp := fun vs H Q _ => ∃ c : Int, vs = [.int c] ∧ ∀ (p : Addr) (i j n : Int), H p = none → 0 ≤ i → i < 2 ^ 31 → Q (.ref p) (upd H p (.lst [.int i, .int j, .int n]))
/-- a draw changes the pool alone -/
def spDraw : Sp := fun vs H Q _ => ∃ (p : Addr) (m i j n : Int), vs = [.ref p, .int m] ∧ H p = some (.lst [.int i, .int j, .int n]) ∧ 0 ≤ i ∧ i < 2 ^ 31 ∧ 0 < m ∧ m < 2 ^ 60 ∧
  ∀ i' j' n' r : Int, 0 ≤ i' → i' < 2 ^ 31 → 0 ≤ r → r < m → Q (.int r) (upd H p (.lst [.int i', .int j', .int n']))
section
variable {P : Program} {w : World} {K : PySem.W.Frag} {mg : Str → Option Value} {base : Heap}
theorem ok_pool {f : Addr} {fd : FuncData} (F : Fun K "_law_pool" "_law_pool" sPool f fd) (B : Bl mg) : FnOk P w K mg base CX0 1 f fd ["_law_cell_here"] spPool := by
  refine F.ok scPool (fun vs H Q E h => ?_) (fun cdv A outer s H vs Q E hr h => ?_)
  · obtain ⟨c, rfl, _⟩ := h
    rfl
  obtain ⟨c, rfl, k⟩ := h
  refine ⟨_, pss_cons (ps_set (i := 1) scPool.nd rfl (.inl rfl) (pe_ifExp (PW.pt (pw_or (pt_cmpR op_lt (pv 0) pe_int (nomark _)) (pw_or1 (pt_cmpR op_ge (pv 0) (pe_op op_pow pe_int pe_int) (nomark _)))))
      (pe_callB call_abs (by rfl) B.abs bAbs (pa_cons (pv 0) pa_nil)) pe_int))
    (pss_one (ps_ret (pe_lst (pa_cons (pe_op op_mod (pe_callTy call_int1 (by rfl) B.int bInt (pa_cons (pv 0) pa_nil)) pe_int) (pa_cons (pv 1) (pa_cons pe_int pa_nil)))))), ?_⟩
  have rest : ∀ j : Int, tRet (tLst (tCons (tOp (rI (fun _ j => 0 < j) fun i j => .int (i % j)) (tCB (fun xs H Q => (∃ i, xs = [.int i] ∧ Q (.int i) H) ∨ ∃ k, xs = [.bl k] ∧ Q (.int (if k then 1 else 0)) H) (tCons (tVar 0) tNil)) (tC (.int 2147481949)))
      (tCons (tVar 1) (tCons (tC (.int 0)) tNil)))) { nx := fun _ H' => Q .non H', rt := Q } [some (.int c), some (.int j)] H := by
    intro j
    refine ⟨_, rfl, .inl ⟨c, rfl, _, _, rfl, rfl, (by show (0 : Int) < 2147481949; decide), _, rfl, by show 3 ≤ sizeLine; decide, fun p hp => k p _ _ _ hp (Int.emod_nonneg _ (by decide)) ?_⟩⟩
    have := Int.emod_lt_of_pos c (show (0 : Int) < 2147481949 by decide)
    omega
  refine ⟨_, rfl, _, _, rfl, rfl, _, rfl, ite2 (fun _ => ?_) (fun _ => ?_)⟩
  · exact iteT ⟨_, rfl, c, rfl, rest _⟩
  · refine ⟨_, rfl, _, _, rfl, rfl, ⟨by decide, by decide, by decide⟩, _, _, rfl, rfl, _, rfl, ite2 (fun _ => ?_) (fun _ => ?_)⟩
    · exact ⟨_, rfl, c, rfl, rest _⟩
    · exact rest _
theorem emod_box (x m : Int) (h : 0 < m) : 0 ≤ x % m ∧ x % m < m := ⟨Int.emod_nonneg _ (by omega), Int.emod_lt_of_pos _ h⟩
theorem ok_draw {f : Addr} {fd : FuncData} (F : Fun K "_law_draw" "_law_draw" sDraw f fd) (B : Bl mg) : FnOk P w K mg base CX0 1 f fd ["_law_pool_here", "_law_many"] spDraw := by
  refine F.ok scDraw (fun vs H Q E h => ?_) (fun cdv A outer s H vs Q E hr h => ?_)
  · obtain ⟨p, m, i, j, n, rfl, _⟩ := h
    rfl
  obtain ⟨p, m, i, j, n, rfl, hp, i0, i1, m0, m1, k⟩ := h
  refine ⟨_, pss_cons (ps_asg (pe_op op_add (pe_ix ix_list (pv 0) pe_int (fun _ _ => rfl)) pe_int) (pg_sub (pv 0) pe_int set_list))
    (pss_cons (ps_set (i := 2) scDraw.nd rfl (.inl rfl) (pe_op op_mod (pe_callTy call_int1 (by rfl) B.int bInt (pa_cons
        (pe_op op_add (pe_op op_add (pe_op op_mul (pe_ix ix_list (pv 0) pe_int (fun _ _ => rfl)) pe_int) (pe_op op_mul pe_int (pe_ix ix_list (pv 0) pe_int (fun _ _ => rfl)))) pe_int) pa_nil)) pe_int))
    (pss_cons (ps_asg (pe_op op_mod (pe_callTy call_int1 (by rfl) B.int bInt (pa_cons (pe_op op_add (pe_op op_mul (pv 2) (pv 2)) (pe_op op_mul pe_int (pe_ix ix_list (pv 0) pe_int (fun _ _ => rfl)))) pa_nil)) pe_int)
        (pg_sub (pv 0) pe_int set_list))
    (pss_cons (ps_if (pt_cmpR op_gt (pe_ix ix_list (pv 0) pe_int (fun _ _ => rfl)) pe_int (nomark _))
      (pss_cons (ps_set (i := 3) scDraw.nd rfl (.inl rfl) (pe_op op_mod (pe_callTy call_int1 (by rfl) B.int bInt (pa_cons (pe_ix ix_list (pv 0) pe_int (fun _ _ => rfl)) pa_nil)) (pv 1)))
        (pss_cons (ps_asg (pe_op op_fdivW (pe_ix ix_list (pv 0) pe_int (fun _ _ => rfl)) (pv 1)) (pg_sub (pv 0) pe_int set_list))
        (pss_one (ps_ret (pv 3))))) pss_nil)
    (pss_one (ps_ret (pe_op op_mod (pe_callTy call_int1 (by rfl) B.int bInt (pa_cons (pe_op op_fdiv (pe_ix ix_list (pv 0) pe_int (fun _ _ => rfl)) pe_int) pa_nil)) (pv 1))))))), ?_⟩
  -- pool[2] = pool[2] + 1
  refine ⟨_, rfl, p, _, _, .int n, rfl, rfl, SqL.of hp, rfl, _, _, rfl, rfl, _, rfl, p, _, _, 2, rfl, rfl, hp, rfl, ?_⟩
  have h1 : (upd H p (.lst [.int i, .int j, .int (n + 1)])) p = some (.lst [.int i, .int j, .int (n + 1)]) := upd_same
  show tSeq _ _ _ _ (upd H p (.lst [.int i, .int j, .int (n + 1)]))
  generalize e1 : upd H p (.lst [.int i, .int j, .int (n + 1)]) = H1 at h1 ⊢
  -- seed
  refine ⟨_, rfl, p, _, _, .int i, rfl, rfl, SqL.of h1, rfl, _, _, rfl, rfl, .inl ⟨by omega, by omega⟩, _, rfl, p, _, _, .int (n + 1), rfl, rfl, SqL.of h1, rfl, _, _, rfl, rfl, .inl ⟨by decide, by decide⟩,
    _, _, rfl, rfl, _, _, rfl, rfl, .inl ⟨_, rfl, _, _, rfl, rfl, (by show (0 : Int) < 2147481937; decide), ?_⟩⟩
  obtain ⟨s0, s1⟩ := emod_box (i * 46349 + 70001 * (n + 1) + 11) 2147481937 (by decide)
  show tSeq _ _ _ [some (.ref p), some (.int m), some (.int ((i * 46349 + 70001 * (n + 1) + 11) % 2147481937)), none] H1
  generalize (i * 46349 + 70001 * (n + 1) + 11) % 2147481937 = sd at s0 s1 ⊢
  -- pool[0]
  refine ⟨_, rfl, _, rfl, _, _, rfl, rfl, .inl ⟨by omega, by omega⟩, _, rfl, p, _, _, .int (n + 1), rfl, rfl, SqL.of h1, rfl, _, _, rfl, rfl, .inl ⟨by decide, by decide⟩, _, _, rfl, rfl,
    .inl ⟨_, rfl, _, _, rfl, rfl, (by show (0 : Int) < 2147481907; decide), _, rfl, p, _, _, 0, rfl, rfl, h1, rfl, ?_⟩⟩
  obtain ⟨t0, t1⟩ := emod_box (sd * sd + 46301 * (n + 1)) 2147481907 (by decide)
  show tSeq _ _ _ _ (upd H1 p (.lst [.int ((sd * sd + 46301 * (n + 1)) % 2147481907), .int j, .int (n + 1)]))
  generalize (sd * sd + 46301 * (n + 1)) % 2147481907 = i' at t0 t1 ⊢
  have e2 : upd H1 p (.lst [.int i', .int j, .int (n + 1)]) = upd H p (.lst [.int i', .int j, .int (n + 1)]) := by rw [← e1, upd_upd]
  rw [e2]
  have h2 : (upd H p (.lst [.int i', .int j, .int (n + 1)])) p = some (.lst [.int i', .int j, .int (n + 1)]) := upd_same
  refine ⟨_, rfl, p, _, _, .int j, rfl, rfl, SqL.of h2, rfl, _, _, rfl, rfl, _, rfl, ite2 (fun _ => ?_) (fun _ => ?_)⟩
  · refine ⟨_, rfl, p, _, _, .int j, rfl, rfl, SqL.of h2, rfl, .inl ⟨_, rfl, _, rfl, _, _, rfl, rfl, m0, ?_⟩⟩
    obtain ⟨r0, r1⟩ := emod_box j m m0
    refine ⟨_, rfl, p, _, _, .int j, rfl, rfl, SqL.of h2, rfl, _, rfl, _, _, rfl, rfl, wide_div (b := 60) m0 (by omega) (by decide) (by decide), _, rfl, p, _, _, 1, rfl, rfl, h2, rfl, _, rfl, ?_⟩
    have e3 : upd (upd H p (.lst [.int i', .int j, .int (n + 1)])) p (.lst [.int i', .int (j / m), .int (n + 1)]) = upd H p (.lst [.int i', .int (j / m), .int (n + 1)]) := upd_upd
    show Q _ (upd (upd H p (.lst [.int i', .int j, .int (n + 1)])) p (.lst [.int i', .int (j / m), .int (n + 1)]))
    rw [e3]
    exact k _ _ _ _ t0 (by omega) r0 r1
  · refine ⟨_, rfl, p, _, _, .int i', rfl, rfl, SqL.of h2, rfl, _, _, rfl, rfl, ⟨by decide, by decide⟩, .inl ⟨_, rfl, _, rfl, _, _, rfl, rfl, m0, ?_⟩⟩
    obtain ⟨r0, r1⟩ := emod_box (i' / 128) m m0
    exact k _ _ _ _ t0 (by omega) r0 r1
theorem ok_cell {f : Addr} {fd : FuncData} (F : Fun K "_law_cell" "_law_cell" sCell f fd) (B : Bl mg) : FnOk P w K mg base CX0 1 f fd ["_law_cells", "_law_k"] (spCell K) := by
  refine F.ok scCell (fun vs H Q E h => ?_) (fun cdv A outer s H vs Q E hr h => ?_)
  · obtain ⟨l, ns, k, rfl, _⟩ := h
    rfl
  obtain ⟨l, ns, k, rfl, hS, hlen, hk, q⟩ := h
  refine ⟨_, pss_cons (ps_if (pt_cmpR op_lt (pv 1) (pe_callB call_len_seq (by rfl) B.len PySem.boot_len (pa_cons (pv 0) pa_nil)) (nomark _))
      (pss_one (ps_ret (pe_callTy call_int1 (by rfl) B.int bInt (pa_cons (pe_ix ix_list (pv 0) (pv 1) (fun _ _ => rfl)) pa_nil)))) pss_nil)
    (pss_cons (ps_set (i := 2) scCell.nd rfl (.inl rfl) (pe_op op_add pe_int (pe_op op_mul pe_int (pv 1))))
    (pss_cons (ps_for PassesOwn.never rfl (pi_list (pe_slice sl_list (pv 0) po_none (po_some pe_int))) (pg_name (i := 3) scCell.nd rfl (.inl rfl))
      (pss_one (ps_set (i := 2) scCell.nd rfl (.inl rfl) (pe_op op_mod (pe_callTy call_int1 (by rfl) B.int bInt (pa_cons
        (pe_op op_add (pe_op op_mul (pv 2) pe_int) (pe_callTy call_int1 (by rfl) B.int bInt (pa_cons (pv 3) pa_nil))) pa_nil)) pe_int))))
    (pss_one (ps_ret (pe_op op_mod (pe_callTy call_int1 (by rfl) B.int bInt (pa_cons (pe_op op_add (pe_op op_mul (pv 2) (pv 2)) (pe_op op_mul pe_int (pv 1))) pa_nil)) pe_int))))), ?_⟩
  refine ⟨_, rfl, _, rfl, l, _, rfl, .inl hS, _, _, rfl, rfl, _, rfl, ite2 (fun c => ?_) (fun c => ?_)⟩
  · have c' : k < ns.length := by
      have z := of_decide_eq_true c
      rw [List.length_map] at z
      omega
    refine ⟨_, rfl, _, rfl, l, _, _, .int ns[k], rfl, rfl, hS, atI_nat (j := k) ?_, .inl ⟨_, rfl, q H _ (Same.refl H)⟩⟩
    rw [List.getElem?_map, List.getElem?_eq_getElem c']
    rfl
  · refine ⟨_, rfl, _, _, rfl, rfl, .inl ⟨by decide, by decide⟩, _, _, rfl, rfl, ?_⟩
    refine ⟨_, rfl, 5, rfl, l, _, rfl, hS, fun t ht => ?_⟩
    have hT : SqL K (upd H t (.lst (cutV (ns.map V.int) none (some 5)))) t (cutV (ns.map V.int) none (some 5)) := SqL.of upd_same
    have sm : Same H (upd H t (.lst (cutV (ns.map V.int) none (some 5)))) := fun b o e => by
      rw [upd_ne (ne_of_none e ht)]
      exact e
    refine ⟨t, rfl, ⟨_, hT⟩, for_list (K := K) (a := t) (xs := cutV (ns.map V.int) none (some 5))
      (fun i σ H' => ∃ (f : Int) (y : Option V), σ = [some (.ref l), some (.int (k : Int)), some (.int f), y] ∧ 0 ≤ f ∧ f < 2 ^ 31 ∧ H' = upd H t (.lst (cutV (ns.map V.int) none (some 5))))
      ⟨46021 + 733 * (k : Int), none, rfl, by omega, by omega, rfl⟩ (fun i σ H' _ hh => ?_) ?_ ?_⟩
    · obtain ⟨_, _, _, _, _, rfl⟩ := hh
      exact hT
    · rintro i y σ H' hi ⟨f, y0, rfl, f0, f1, rfl⟩
      obtain ⟨z, rfl⟩ : ∃ z, y = V.int z := by
        have hm := List.mem_of_getElem? hi
        unfold cutV at hm
        obtain ⟨z, _, e⟩ := List.mem_map.mp (List.mem_of_mem_drop (List.mem_of_mem_take hm))
        exact ⟨z, e.symm⟩
      refine ⟨_, rfl, _, _, rfl, rfl, .inl ⟨by omega, by omega⟩, _, rfl, .inl ⟨z, rfl, _, _, rfl, rfl, .inl ⟨_, rfl, _, _, rfl, rfl, (by show (0 : Int) < 2147481997; decide), ?_⟩⟩⟩
      obtain ⟨r0, r1⟩ := emod_box (f * 46327 + z) 2147481997 (by decide)
      exact ⟨_, _, rfl, r0, by omega, rfl⟩
    · rintro σ H' ⟨f, y0, rfl, f0, f1, rfl⟩
      refine ⟨_, rfl, _, rfl, _, _, rfl, rfl, .inl ⟨by omega, by omega⟩, _, rfl, _, _, rfl, rfl, .inl ⟨by decide, by decide⟩, _, _, rfl, rfl, .inl ⟨_, rfl, _, _, rfl, rfl, (by show (0 : Int) < 2147481967; decide), ?_⟩⟩
      exact q _ _ sm
end
end K2

set_option Elab.async false
set_option linter.all false
set_option maxRecDepth 100000
set_option maxHeartbeats 2000000
namespace K2
open PySem PySem.Spec PyProof.Rows L2 G1 G2
abbrev sSpr : Stmt := topS 2
abbrev sCnt : Stmt := topS 3
theorem scSpr : FnScope ["before", "pages", "total"] ["before", "pages"] (defScope sSpr) := ⟨rfl, rfl, rfl, by decide +kernel, rfl, by decide +kernel, by decide +kernel⟩
theorem scCnt : FnScope ["blocks", "pages", "names", "lasts", "written", "room", "before", "many", "used", "total", "ways"] ["blocks", "pages", "names"] (defScope sCnt) := ⟨rfl, rfl, rfl, by decide +kernel, rfl, by decide +kernel, by decide +kernel⟩
theorem bSum : bootBuiltins "sum" = some (.builtin "sum") := by decide +kernel
theorem bMax : bootBuiltins "max" = some (.builtin "max") := by decide +kernel
theorem bMin : bootBuiltins "min" = some (.builtin "min") := by decide +kernel
/-! openers -/
theorem seq_asg {te : TE} {g : TG} {t2 : TS} {D : Ends} {σ : L2.St} {H : Hp} (h : te σ H fun x H1 => g x σ H1 (t2 D)) : tSeq (tAsg te g) t2 D σ H := h
theorem lst_read {ta : TA} {σ : L2.St} {H : Hp} {Q : VK} (h : ta σ H fun xs H1 => xs.length ≤ sizeLine ∧ ∀ p, H1 p = none → Q (.ref p) (upd H1 p (.lst xs))) : tLst ta σ H Q := h
theorem tup_read {ta : TA} {σ : L2.St} {H : Hp} {Q : VK} (h : ta σ H fun xs H1 => xs.length ≤ sizeLine ∧ ∀ p, H1 p = none → Q (.ref p) (upd H1 p (.tup xs))) : tTup ta σ H Q := h
theorem cons_read {te : TE} {ta : TA} {σ : L2.St} {H : Hp} {Q : List V → Hp → Prop} (h : te σ H fun x H1 => ta σ H1 fun xs H2 => Q (x :: xs) H2) : tCons te ta σ H Q := h
theorem nil_read {σ : L2.St} {H : Hp} {Q : List V → Hp → Prop} (h : Q [] H) : tNil σ H Q := h
theorem op_read {r : R2} {ta tb : TE} {σ : L2.St} {H : Hp} {Q : VK} (h : ta σ H fun x H1 => tb σ H1 fun y H2 => r x y H2 Q) : tOp r ta tb σ H Q := h
theorem ret_read {te : TE} {D : Ends} {σ : L2.St} {H : Hp} (h : te σ H D.rt) : tRet te D σ H := h
theorem c_read {v : V} {σ : L2.St} {H : Hp} {Q : VK} (h : Q v H) : tC v σ H Q := h
theorem cb_read {r : List V → Hp → VK → Prop} {ta : TA} {σ : L2.St} {H : Hp} {Q : VK} (h : ta σ H fun vs H1 => r vs H1 Q) : tCB r ta σ H Q := h
theorem call_read {sp : Sp} {dvs : List V} {E : XK} {ta : TA} {σ : L2.St} {H : Hp} {Q : VK} (h : ta σ H fun vs H1 => sp (vs ++ dvs) H1 Q E) : tCall sp dvs E ta σ H Q := h
theorem seq_for {wi : TI} {g : TG} {tb t2 : TS} {D : Ends} {σ : L2.St} {H : Hp}
    (h : ∀ D' : Ends, D'.nx = t2 D → D'.rt = D.rt → wi σ H fun J H1 => ∃ W : Nat → Nat → L2.St → Hp → Prop, (∃ m, W 0 m σ H1) ∧ ∀ i m σ H, W i m σ H →
      (J.stop i H ∧ D'.nx σ H) ∨ (J.go i H ∧ ∃ N : L2.St → Hp → Prop, (∀ σ' H', N σ' H' → ∃ m', m' < m ∧ W (i + 1) m' σ' H') ∧
        ∀ x H', J.yld i H x H' → g x σ H' fun σ2 H2 => tb { D' with nx := N, ct := N, bk := D'.nx } σ2 H2)) : tSeq (tFor wi g tb) t2 D σ H := h { D with nx := t2 D } rfl rfl
theorem seq_aug {i : Nat} {te : TE} {ti : TIp} {t2 : TS} {D : Ends} {σ : L2.St} {H : Hp} (h : ∃ x, σ[i]? = some (some x) ∧ te σ H fun y H1 => ti x y H1 fun z H2 => t2 D (σ.set i (some z)) H2) : tSeq (tAug i te ti) t2 D σ H := h
theorem asg_read {te : TE} {g : TG} {D : Ends} {σ : L2.St} {H : Hp} (h : te σ H fun x H1 => g x σ H1 D.nx) : tAsg te g D σ H := h
/-- the cut of a list of ints, its sum -/
def cutI (l : List Int) (lo hi : Int) : List Int := (l.drop (HT.sIx l.length 0 (some lo))).take (HT.sIx l.length l.length (some hi) - HT.sIx l.length 0 (some lo))
theorem cut_map (l : List Int) (lo hi : Int) : cutV (l.map V.int) (some lo) (some hi) = (cutI l lo hi).map V.int := by
  unfold cutV cutI
  rw [List.length_map, List.map_take, List.map_drop]
def sprM (l : List Int) (p : Int) : List Int := (List.range l.length).map fun (t : Nat) => (cutI l (if (t : Int) - p > 0 then (t : Int) - p else 0) ((t : Int) + 1)).sum
def spSpr (K : PySem.W.Frag) : Sp := fun vs H Q _ => ∃ (a : Addr) (l : List Int) (p : Int), vs = [.ref a, .int p] ∧ SqL K H a (l.map V.int) ∧ l.length ≤ 1000 ∧ ∀ (H' : Hp) (q : Addr), Same H H' → H q = none → H' q = some (.lst ((sprM l p).map V.int)) → Q (.ref q) H'
abbrev rMax2 : List V → Hp → VK → Prop := fun xs H Q => ∃ i j, xs = [.int i, .int j] ∧ Q (.int (if j > i then j else i)) H
abbrev rMin2 : List V → Hp → VK → Prop := fun xs H Q => ∃ i j, xs = [.int i, .int j] ∧ Q (.int (if j < i then j else i)) H
abbrev rLen (K : PySem.W.Frag) : List V → Hp → VK → Prop := fun xs H Q => ∃ p ys, xs = [.ref p] ∧ (SqL K H p ys ∨ SqT K H p ys) ∧ Q (.int ys.length) H
abbrev rAdd : R2 := rI0 fun i j => .int (i + j)
abbrev rSub : R2 := rI0 fun i j => .int (i - j)
theorem same_lay {H : Hp} {p : Addr} {o : HO} (h : H p = none) : Same H (upd H p o) := fun b u e => by rw [upd_ne (ne_of_none e h)]; exact e
/-- a comprehension's list grows -/
theorem same_grow {H H1 H2 : Hp} {D : Addr} {o : HO} (hD : H D = none) (s1 : Same H H1) (s2 : Same H1 H2) : Same H (upd H2 D o) := fun b u e => by rw [upd_ne (ne_of_none e hD)]; exact s2 _ _ (s1 _ _ e)
section
variable {P : Program} {w : World} {K : PySem.W.Frag} {mg : Str → Option Value} {base : Heap}
theorem ok_spr {f : Addr} {fd : FuncData} (F : Fun K "spread" "spread" sSpr f fd) (B : Bl mg) : FnOk P w K mg base CX0 1 f fd ["before", "pages"] (spSpr K) := by
  refine F.ok scSpr (fun vs H Q E h => ?_) (fun cdv A outer s H vs Q E hr h => ?_)
  · obtain ⟨a, l, p, rfl, _⟩ := h
    rfl
  obtain ⟨a, l, p, rfl, hS, hlen, k⟩ := h
  refine ⟨_, pss_one (ps_ret (pe_lc (own := [("total", 2)]) (g := gName 2) (tt := tYes) (te := tCB (rSum K) (tCons (tSl (rSlL K) (tVar 0) (tPart (tCB rMax2 (tCons (tC (.int 0)) (tCons (tOp rSub (tVar 2) (tVar 1)) tNil)))) (tPart (tOp rAdd (tVar 2) (tC (.int 1))))) tNil)) rfl scSpr.nd
    (pi_range1 (by rfl) B.range (pa_cons (pe_callB call_len_seq (by rfl) B.len PySem.boot_len (pa_cons (pv 0) pa_nil)) pa_nil))
    (blkOk_by (own := [("total", 2)]) (N := ["before", "pages", "total"]) (sc := defScope sSpr) (by decide +kernel))
    (fun _ _ _ _ _ => pg_name (i := 2) scSpr.nd rfl (Or.inl rfl)) (fun _ _ _ _ _ => pts_nil)
    (fun _ _ _ _ _ => pe_callB (cr_sum rfl) (by rfl) B.sum bSum (pa_cons (pe_slice sl_list (pv 0) (po_some (pe_callB (call_max2 rfl) (by rfl) B.max bMax (pa_cons pe_int (pa_cons (pe_op op_sub (pv 2) (pv 1)) pa_nil)))) (po_some (pe_op op_add (pv 2) pe_int))) pa_nil)))), ?_⟩
  refine ⟨_, rfl, a, _, rfl, .inl hS, _, rfl, ?_, ?_, fun D hD => ?_⟩
  · rw [List.length_map]; omega
  · rw [List.length_map]; omega
  have e0 : (((l.map V.int).length : Int)).toNat = l.length := by rw [List.length_map]; omega
  rw [e0]
  refine lc_range (lo := 0) (n := l.length) (fun i H' => Same H H' ∧ H' D = some (.lst (((sprM l p).take i).map V.int))) ⟨same_lay hD, by rw [upd_same]; rfl⟩ ?_ ?_
  · rintro i H' hi ⟨s1, hy⟩
    refine ⟨rfl, ?_⟩
    unfold tYes
    dsimp only
    rw [if_pos rfl]
    refine ⟨_, rfl, _, rfl, _, rfl, _, _, rfl, rfl, _, _, rfl, _, rfl, _, rfl, _, _, rfl, rfl, _, rfl, a, _, rfl, s1.seq hS, fun t ht => ?_⟩
    refine ⟨t, cutI l (if 0 + (i : Int) - p > 0 then 0 + (i : Int) - p else 0) (0 + (i : Int) + 1), rfl, SqL.of (by rw [upd_same, cut_map]), ?_⟩
    refine ⟨((sprM l p).take i).map V.int, ?_, ?_, ?_, ?_⟩
    · rw [upd_ne (ne_of_none hy ht)]; exact hy
    · rw [List.length_map, List.length_take, sizeLine_eq]; omega
    · exact same_grow hD s1 (same_lay ht)
    · rw [upd_same]
      have hl : i < (sprM l p).length := by unfold sprM; rw [List.length_map, List.length_range]; exact hi
      rw [List.take_add_one, List.getElem?_eq_getElem hl, List.map_append]
      congr 3
      unfold sprM
      simp
  · rintro H' ⟨s1, hy⟩
    have el : (sprM l p).length = l.length := by unfold sprM; rw [List.length_map, List.length_range]
    rw [← el, List.take_length] at hy
    exact k H' D s1 hD hy
end
end K2

set_option Elab.async false
set_option linter.all false
set_option maxRecDepth 100000
set_option maxHeartbeats 2000000
namespace K2
open PySem PySem.Spec PyProof.Rows L2 G1 G2
/-- a comprehension over enumerate(a list) -/
theorem lc_enum {K : PySem.W.Frag} {a : Addr} {xs : List V} {g : TG} {tt : TT} {te : TE} {vs : List Nat} {σ : L2.St} {H1 : Hp} {D : Addr} {Qd : Hp → Prop} (Pv : Nat → Hp → Prop) (h0 : Pv 0 (upd H1 D (.lst []))) (hl : ∀ i H, Pv i H → SqL K H a xs)
    (hs : ∀ i x T H, xs[i]? = some x → Pv i H → H T = none → g (.ref T) (wipe σ vs) (upd H T (.tup [.int (i : Nat), x])) fun σ2 H2 => wipe σ2 vs = wipe σ vs ∧ tt σ2 H2 fun b H3 =>
      if b = true then te σ2 H3 fun y H4 => ∃ acc, H4 D = some (.lst acc) ∧ acc.length < sizeLine ∧ Pv (i + 1) (upd H4 D (.lst (acc ++ [y]))) else Pv (i + 1) H3) (hd : ∀ H, Pv xs.length H → Qd H) :
    ∃ W : Nat → Nat → Hp → Prop, (∃ m, W 0 m (upd H1 D (.lst []))) ∧ ∀ i m H, W i m H →
      ((Ite K a).stop i H ∧ Qd H) ∨ ((Ite K a).go i H ∧ ∃ Nx : Hp → Prop, (∀ H', Nx H' → ∃ m', m' < m ∧ W (i + 1) m' H') ∧ ∀ x H', (Ite K a).yld i H x H' → g x (wipe σ vs) H' fun σ2 H2 => wipe σ2 vs = wipe σ vs ∧ tt σ2 H2 fun b H3 =>
        if b = true then te σ2 H3 fun y H4 => ∃ acc, H4 D = some (.lst acc) ∧ acc.length < sizeLine ∧ Nx (upd H4 D (.lst (acc ++ [y]))) else Nx H3) := by
  refine ⟨fun i m H => i + m = xs.length ∧ Pv i H, ⟨xs.length, by omega, h0⟩, ?_⟩
  rintro i m H ⟨e, p⟩
  by_cases hm : m = 0
  · subst hm
    have e' : i = xs.length := by omega
    subst e'
    exact .inl ⟨⟨xs, hl _ _ p, Nat.le_refl _⟩, hd _ p⟩
  · have hi : i < xs.length := by omega
    refine .inr ⟨⟨xs, xs[i], hl _ _ p, List.getElem?_eq_getElem hi⟩, Pv (i + 1), fun H' q => ⟨m - 1, by omega, by omega, q⟩, fun x H' y => ?_⟩
    obtain ⟨T, x', rfl, hT, rfl, hx⟩ := y
    exact hs i x' T H (hx xs (hl _ _ p)) p hT
/-! ### the mirror -/
def rowM (p : Nat) (r : Int) : List Int := (List.range p).map fun (w : Nat) => (if r < 1 + (w : Int) then r else 1 + (w : Int)) + 1
def lastsM (p n : Nat) : List Int := (List.range (n + 1)).map fun (r : Nat) => (rowM p (r : Int)).sum
def waysM (lasts : List Int) (n : Nat) (before : List Int) : List Int := (List.range before.length).map fun (t : Nat) => before.getD t 0 * lasts.getD (n - t) 0
def stepM (p n : Nat) (s : Int × List Int) : Int × List Int := (s.1 + (waysM (lastsM p n) n s.2).sum, sprM s.2 (p : Int))
def loopM (p n : Nat) : Nat → Int × List Int → Int × List Int
  | 0, s => s
  | k + 1, s => stepM p n (loopM p n k s)
def startM (n : Nat) : List Int := 1 :: List.replicate (n - 1) 0
def cntM (b p n : Nat) : Int := (loopM p n (b - 1) (1, startM n)).1
theorem spr_len (l : List Int) (p : Int) : (sprM l p).length = l.length := by unfold sprM; rw [List.length_map, List.length_range]
theorem loop_len (p n : Nat) (h : 1 ≤ n) : ∀ k, (loopM p n k (1, startM n)).2.length = n
  | 0 => by show (startM n).length = n; unfold startM; rw [List.length_cons, List.length_replicate]; omega
  | k + 1 => by show (sprM _ _).length = n; rw [spr_len]; exact loop_len p n h k
theorem lasts_small : ∀ p, p < 6 → ∀ n, n < 26 → ((lastsM p n).all fun x => decide (-1000 < x ∧ x < 1000)) = true := by decide +kernel
theorem cnt_small : ∀ q ∈ [(3, 2), (3, 3), (3, 4), (3, 5), (4, 2), (4, 3), (5, 2)], ∀ n, n < 11 → cntM q.1 q.2 n ≤ 2000 := by decide +kernel
end K2

set_option Elab.async false
set_option linter.all false
set_option maxRecDepth 100000
set_option maxHeartbeats 4000000
namespace K2
open PySem PySem.Spec PyProof.Rows L2 G1 G2
abbrev rMul : R2 := rI CMul fun i j => .int (i * j)
def spCnt : Sp := fun vs H Q _ => ∃ b p n : Nat, vs = [.int (b : Int), .int (p : Int), .int (n : Int)] ∧ p < 6 ∧ 1 ≤ n ∧ n < 26 ∧ 1 ≤ b ∧ b < 7 ∧ ∀ H' : Hp, Same H H' → Q (.int (cntM b p n)) H'
abbrev NC : List Str := ["blocks", "pages", "names", "lasts", "written", "room", "before", "many", "used", "total", "ways"]
abbrev teIn : TE := tOp rAdd (tCB rMin2 (tCons (tVar 4) (tCons (tVar 5) tNil))) (tC (.int 1))
abbrev teRow (K : PySem.W.Frag) : TE := tCB (rSum K) (tCons (tLc (iRng2 (tCons (tC (.int 1)) (tCons (tOp rAdd (tVar 1) (tC (.int 1))) tNil))) (gName 4) tYes teIn [4]) tNil)
abbrev teWay (K : PySem.W.Frag) : TE := tOp rMul (tVar 10) (tOp (rIxL K) (tVar 3) (tOp rSub (tVar 2) (tVar 9)))
abbrev scRoom : Scope := { kind := ScopeKind.function, names := [(Str.ofString ".0", NameKind.local), (Str.ofString "room", NameKind.cell), (Str.ofString "sum", NameKind.globalImplicit), (Str.ofString "range", NameKind.globalImplicit), (Str.ofString "pages", NameKind.cell)], isGenerator := false, isCoroutine := false }
theorem grow_map (f : Nat → Int) (m i : Nat) (hi : i < m) : (((List.range m).map f).take (i + 1)).map V.int = (((List.range m).map f).take i).map V.int ++ [V.int (f i)] := by
  rw [List.take_add_one, List.map_append]
  congr 1
  rw [List.getElem?_map, List.getElem?_range hi]
  rfl
theorem row_read {K : PySem.W.Frag} {H : Hp} {Q : VK} {b n : Int} {p : Nat} {r : Int} {x3 x4 x6 x7 x8 x9 x10 : Option V} (hp : p < 6) (k : ∀ H', Same H H' → Q (.int (rowM p r).sum) H') :
    teRow K [some (.int b), some (.int (p : Int)), some (.int n), x3, x4, some (.int r), x6, x7, x8, x9, x10] H Q := by
  refine ⟨_, rfl, _, _, rfl, rfl, 1, (p : Int) + 1, rfl, ⟨by omega, by omega, by omega, by omega⟩, fun D hD => ?_⟩
  have e0 : ((p : Int) + 1 - 1).toNat = p := by omega
  rw [e0]
  refine lc_range (lo := 1) (n := p) (fun i H' => Same H H' ∧ H' D = some (.lst (((rowM p r).take i).map V.int))) ⟨same_lay hD, by rw [upd_same]; rfl⟩ ?_ ?_
  · rintro i H' hi ⟨s1, hy⟩
    refine ⟨rfl, ?_⟩
    unfold tYes
    dsimp only
    rw [if_pos rfl]
    refine ⟨_, rfl, _, rfl, _, _, rfl, _, _, rfl, rfl, ((rowM p r).take i).map V.int, hy, ?_, ?_, ?_⟩
    · rw [List.length_map, List.length_take, sizeLine_eq]; omega
    · exact same_grow hD s1 (Same.refl _)
    · rw [upd_same]
      exact congrArg (fun z => some (HO.lst z)) (grow_map (fun (w : Nat) => (if r < 1 + (w : Int) then r else 1 + (w : Int)) + 1) p i hi).symm
  · rintro H' ⟨s1, hy⟩
    have el : (rowM p r).length = p := by unfold rowM; rw [List.length_map, List.length_range]
    have e1 : (rowM p r).take p = rowM p r := List.take_of_length_le (by omega)
    rw [e1] at hy
    exact ⟨D, rowM p r, rfl, SqL.of hy, k H' s1⟩
theorem lasts_read {K : PySem.W.Frag} {H : Hp} {Q : VK} {b : Int} {p n : Nat} (hp : p < 6) (hn : n < 26) (k : ∀ (H' : Hp) (D : Addr), Same H H' → H' D = some (.lst ((lastsM p n).map V.int)) → Q (.ref D) H') :
    tLc (iRng1 (tCons (tOp rAdd (tVar 2) (tC (.int 1))) tNil)) (gName 5) tYes (teRow K) [5] [some (.int b), some (.int (p : Int)), some (.int (n : Int)), none, none, none, none, none, none, none, none] H Q := by
  refine ⟨_, rfl, _, _, rfl, rfl, (n : Int) + 1, rfl, by omega, by omega, fun D hD => ?_⟩
  have e0 : ((n : Int) + 1).toNat = n + 1 := by omega
  rw [e0]
  refine lc_range (lo := 0) (n := n + 1) (fun i H' => Same H H' ∧ H' D = some (.lst (((lastsM p n).take i).map V.int))) ⟨same_lay hD, by rw [upd_same]; rfl⟩ ?_ ?_
  · rintro i H' hi ⟨s1, hy⟩
    refine ⟨rfl, ?_⟩
    unfold tYes
    dsimp only
    rw [if_pos rfl]
    refine row_read (r := 0 + (i : Int)) hp fun H2 s2 => ⟨((lastsM p n).take i).map V.int, s2 _ _ hy, ?_, ?_, ?_⟩
    · rw [List.length_map, List.length_take, sizeLine_eq]; omega
    · exact same_grow hD s1 s2
    · rw [upd_same]
      rw [Int.zero_add]
      exact congrArg (fun z => some (HO.lst z)) (grow_map (fun (r : Nat) => (rowM p (r : Int)).sum) (n + 1) i hi).symm
  · rintro H' ⟨s1, hy⟩
    have el : (lastsM p n).length = n + 1 := by unfold lastsM; rw [List.length_map, List.length_range]
    have e1 : (lastsM p n).take (n + 1) = lastsM p n := List.take_of_length_le (by omega)
    rw [e1] at hy
    exact k H' D s1 hy
theorem ways_read {K : PySem.W.Frag} {H : Hp} {Q : VK} {b : Int} {p n : Nat} {l B6 : Addr} {bef : List Int} {x4 x5 x7 x8 x9 x10 : Option V} (hp : p < 6) (hn : n < 26) (hl : H l = some (.lst ((lastsM p n).map V.int))) (hb : H B6 = some (.lst (bef.map V.int))) (hlen : bef.length = n)
    (k : ∀ (H' : Hp) (D : Addr), Same H H' → H' D = some (.lst ((waysM (lastsM p n) n bef).map V.int)) → Q (.ref D) H') :
    tLc (iEnum K (tCons (tVar 6) tNil)) (gTup K 2 (gCons (gName 9) (gCons (gName 10) gNil))) tYes (teWay K) [9, 10] [some (.int b), some (.int (p : Int)), some (.int (n : Int)), some (.ref l), x4, x5, some (.ref B6), x7, x8, x9, x10] H Q := by
  refine ⟨_, rfl, B6, _, rfl, SqL.of hb, fun D hD => ?_⟩
  refine lc_enum (K := K) (xs := bef.map V.int) (fun i H' => Same H H' ∧ H' D = some (.lst (((waysM (lastsM p n) n bef).take i).map V.int))) ⟨same_lay hD, by rw [upd_same]; rfl⟩ (fun i H' q => SqL.of (q.1 _ _ hb)) ?_ ?_
  · rintro i x T H' hi ⟨s1, hy⟩ hT
    have hi' : i < bef.length := by
      have z := (List.getElem?_eq_some_iff.mp hi).1
      rwa [List.length_map] at z
    have ex : x = .int (bef.getD i 0) := by
      rw [List.getElem?_map, List.getElem?_eq_getElem hi'] at hi
      rw [List.getD_eq_getElem?_getD, List.getElem?_eq_getElem hi']
      exact (Option.some.inj hi).symm
    subst ex
    refine ⟨T, _, rfl, SqT.of upd_same, rfl, _, _, rfl, _, _, rfl, rfl, rfl, ?_⟩
    unfold tYes
    dsimp only
    rw [if_pos rfl]
    have hj : n - i < (lastsM p n).length := by unfold lastsM; rw [List.length_map, List.length_range]; omega
    have sT : Same H' (upd H' T (.tup [.int (i : Nat), .int (bef.getD i 0)])) := same_lay hT
    have hv : -1000 < (lastsM p n).getD (n - i) 0 ∧ (lastsM p n).getD (n - i) 0 < 1000 := by
      have z := lasts_small p hp n hn
      rw [List.all_eq_true] at z
      have q := z ((lastsM p n).getD (n - i) 0) (by rw [List.getD_eq_getElem?_getD, List.getElem?_eq_getElem hj]; exact List.getElem_mem _)
      exact of_decide_eq_true q
    refine ⟨_, rfl, _, rfl, _, rfl, _, rfl, _, _, rfl, rfl, l, _, _, .int ((lastsM p n).getD (n - i) 0), rfl, rfl, SqL.of (sT _ _ (s1 _ _ hl)), ?_, _, _, rfl, rfl, .inr ⟨by omega, by omega⟩, ?_⟩
    · have e2 : (n : Int) - ((i : Nat) : Int) = ((n - i : Nat) : Int) := by omega
      show atI _ ((n : Int) - ((i : Nat) : Int)) = _
      rw [e2]
      refine atI_nat ?_
      rw [List.getElem?_map, List.getElem?_eq_getElem hj, List.getD_eq_getElem?_getD, List.getElem?_eq_getElem hj]
      rfl
    refine ⟨((waysM (lastsM p n) n bef).take i).map V.int, sT _ _ hy, ?_, ?_, ?_⟩
    · rw [List.length_map, List.length_take, sizeLine_eq]; omega
    · exact same_grow hD s1 sT
    · rw [upd_same]
      exact congrArg (fun z => some (HO.lst z)) (grow_map (fun (t : Nat) => bef.getD t 0 * (lastsM p n).getD (n - t) 0) bef.length i hi').symm
  · rintro H' ⟨s1, hy⟩
    have el : (waysM (lastsM p n) n bef).length = (bef.map V.int).length := by unfold waysM; rw [List.length_map, List.length_range, List.length_map]
    rw [← el, List.take_length] at hy
    exact k H' D s1 hy
section
variable {P : Program} {w : World} {K : PySem.W.Frag} {mg : Str → Option Value} {base : Heap}
theorem ok_cnt {f fS : Addr} {fd fdS : FuncData} (F : Fun K "count_stands" "count_stands" sCnt f fd) (B : Bl mg) (GS : FnOk P w K mg base CX0 1 fS fdS ["before", "pages"] (spSpr K)) (kS : PySem.W.keepIn K (.ref fS) = true) (bS : Binds K fdS ["before", "pages"] []) (gS : mg "spread" = some (.ref fS)) :
    FnOk P w K mg base CX0 2 f fd ["blocks", "pages", "names"] spCnt := by
  refine F.ok scCnt (fun vs H Q E h => ?_) (fun cdv A outer s H vs Q E hr h => ?_)
  · obtain ⟨b, p, n, rfl, _⟩ := h
    rfl
  obtain ⟨b, p, n, rfl, hp, hn1, hn2, hb1, hb2, k⟩ := h
  refine ⟨_, pss_cons (ps_set (i := 3) scCnt.nd rfl (.inr rfl) (pe_lc (own := [("room", 5)]) (g := gName 5) (tt := tYes) (te := teRow K) rfl scCnt.nd
      (pi_range1 (by rfl) B.range (pa_cons (pe_op op_add (pv 2) pe_int) pa_nil)) (blkOk_by (own := [("room", 5)]) (N := NC) (sc := defScope sCnt) (by decide +kernel))
      (fun _ _ _ _ _ => pg_name (i := 5) scCnt.nd rfl (Or.inr rfl)) (fun _ _ _ _ _ => pts_nil)
      (fun _ _ _ _ _ => pe_callB (cr_sum rfl) (by rfl) B.sum bSum (pa_cons (pe_lc (own := [("written", 4)]) (g := gName 4) (tt := tYes) (te := teIn) rfl scCnt.nd
        (pi_range2 (by rfl) B.range (pa_cons pe_int (pa_cons (pe_op op_add (pv 1) pe_int) pa_nil))) (blkOk_by (own := [("written", 4)]) (N := NC) (sc := scRoom) (by decide +kernel))
        (fun _ _ _ _ _ => pg_name (i := 4) scCnt.nd rfl (Or.inl rfl)) (fun _ _ _ _ _ => pts_nil)
        (fun _ _ _ _ _ => pe_op op_add (pe_callB (call_min2 rfl) (by rfl) B.min bMin (pa_cons (pv 4) (pa_cons (pv 5) pa_nil))) pe_int)) pa_nil))))
    (pss_cons (ps_set (i := 6) scCnt.nd rfl (.inl rfl) (pe_op op_cat (pe_lst (pa_cons pe_int pa_nil)) (pe_op op_rep (pe_lst (pa_cons pe_int pa_nil)) (pe_op op_sub (pv 2) pe_int))))
    (pss_cons (ps_set (i := 7) scCnt.nd rfl (.inl rfl) pe_int)
    (pss_cons (ps_for PassesOwn.never rfl (pi_range2 (by rfl) B.range (pa_cons pe_int (pa_cons (pv 0) pa_nil))) (pg_name (i := 8) scCnt.nd rfl (.inl rfl))
      (pss_cons (ps_aug (i := 7) scCnt.nd rfl (.inl rfl) (pe_callB (cr_sum rfl) (by rfl) B.sum bSum (pa_cons (pe_lc (own := [("total", 9), ("ways", 10)]) (g := gTup K 2 (gCons (gName 9) (gCons (gName 10) gNil))) (tt := tYes) (te := teWay K) rfl scCnt.nd
          (pi_enum (by rfl) B.enm (pa_cons (pv 6) pa_nil)) (blkOk_by (own := [("total", 9), ("ways", 10)]) (N := NC) (sc := defScope sCnt) (by decide +kernel))
          (fun _ _ _ _ _ => pg_tup rfl (pgs_cons (pg_name (i := 9) scCnt.nd rfl (Or.inl rfl)) (pgs_cons (pg_name (i := 10) scCnt.nd rfl (Or.inl rfl)) pgs_nil))) (fun _ _ _ _ _ => pts_nil)
          (fun _ _ _ _ _ => pe_op op_mul (pv 10) (pe_ix ix_list (pv 3) (pe_op op_sub (pv 2) (pv 9)) (fun _ _ => rfl)))) pa_nil)) ip_add)
      (pss_one (ps_set (i := 6) scCnt.nd rfl (.inl rfl) (pe_call GS hr (by rfl) gS kS bS .nil pass0 (pa_cons (pv 6) (pa_cons (pv 1) pa_nil)))))))
    (pss_one (ps_ret (pv 7)))))), ?_⟩
  refine seq_asg (lasts_read (K := K) hp hn2 fun H1 l s1 hl => ?_)
  refine seq_asg ?_
  refine ⟨by show 1 ≤ sizeLine; decide, fun q1 h1 => ⟨by show 1 ≤ sizeLine; decide, fun q2 h2 => ⟨_, rfl, _, _, rfl, rfl, q2, (n : Int) - 1, _, rfl, rfl, upd_same, by omega, by omega, ?_, fun q3 h3 => ?_⟩⟩⟩
  · show 1 * ((n : Int) - 1).toNat ≤ sizeLine
    rw [sizeLine_eq]; omega
  have s2 := s1.trans ((same_lay (o := .lst [.int 1]) h1).trans ((same_lay (o := .lst [.int 0]) h2).trans (same_lay (o := .lst (List.replicate ((n : Int) - 1).toNat [V.int 0]).flatten) h3)))
  have hl2 := ((same_lay (o := .lst [.int 1]) h1).trans ((same_lay (o := .lst [.int 0]) h2).trans (same_lay (o := .lst (List.replicate ((n : Int) - 1).toNat [V.int 0]).flatten) h3))) _ _ hl
  have hq1 := ((same_lay (o := .lst [.int 0]) h2).trans (same_lay (o := .lst (List.replicate ((n : Int) - 1).toNat [V.int 0]).flatten) h3)) q1 _ upd_same
  have hq3 : (upd (upd (upd H1 q1 (.lst [.int 1])) q2 (.lst [.int 0])) q3 (.lst (List.replicate ((n : Int) - 1).toNat [V.int 0]).flatten)) q3 = some (.lst ((List.replicate (n - 1) (0 : Int)).map V.int)) := by
    rw [upd_same]
    have e1 : ((n : Int) - 1).toNat = n - 1 := by omega
    rw [e1, List.map_replicate]
    congr 2
    generalize n - 1 = m
    induction m with
    | zero => rfl
    | succ m ih => rw [List.replicate_succ, List.flatten_cons, ih, List.replicate_succ]; rfl
  generalize upd (upd (upd H1 q1 (.lst [.int 1])) q2 (.lst [.int 0])) q3 (.lst (List.replicate ((n : Int) - 1).toNat [V.int 0]).flatten) = H3 at s2 hl2 hq1 hq3 ⊢
  refine ⟨q1, q3, _, _, rfl, rfl, hq1, hq3, ?_, fun B6 h6 => ?_⟩
  · rw [List.length_map, List.length_replicate, sizeLine_eq]
    show 1 + (n - 1) ≤ _
    omega
  refine seq_asg ?_
  refine c_read ?_
  refine seq_for fun D' hD1 hD2 => ?_
  refine ⟨_, rfl, 1, (b : Int), rfl, ⟨by omega, by omega, by omega, by omega⟩, ?_⟩
  have e0 : ((b : Int) - 1).toNat = b - 1 := by omega
  rw [e0]
  refine for_range (lo := 1) (n := b - 1) (fun i σ H' => ∃ (B : Addr) (x8 : Option V), σ = [some (.int (b : Int)), some (.int (p : Int)), some (.int (n : Int)), some (.ref l), none, none, some (.ref B), some (.int (loopM p n i (1, startM n)).1), x8, none, none] ∧ Same H H' ∧
      H' l = some (.lst ((lastsM p n).map V.int)) ∧ H' B = some (.lst ((loopM p n i (1, startM n)).2.map V.int))) ⟨B6, none, rfl, s2.trans (same_lay h6), same_lay h6 _ _ hl2, by rw [upd_same]; rfl⟩ ?_ ?_
  · rintro i σ H' hi ⟨B, x8, rfl, s3, hl3, hB⟩
    refine seq_aug ⟨_, rfl, ?_⟩
    refine cb_read (cons_read ?_)
    refine ways_read (K := K) hp hn2 hl3 hB (loop_len p n hn1 i) fun H4 D4 s4 h4 => ⟨D4, _, rfl, SqL.of h4, _, _, rfl, rfl, ?_⟩
    refine asg_read (call_read (cons_read ⟨_, rfl, cons_read ⟨_, rfl, ?_⟩⟩))
    refine ⟨B, (loopM p n i (1, startM n)).2, (p : Int), rfl, SqL.of (s4 _ _ hB), by rw [loop_len p n hn1 i]; omega, fun H5 q5 s5 n5 h5 => ?_⟩
    exact ⟨q5, _, rfl, s3.trans (s4.trans s5), s5 _ _ (s4 _ _ hl3), h5⟩
  · rintro σ H' ⟨B, x8, rfl, s3, hl3, hB⟩
    rw [hD1]
    exact ⟨_, rfl, k H' s3⟩
end
end K2

set_option Elab.async false
set_option linter.all false
set_option maxRecDepth 100000
set_option maxHeartbeats 4000000
namespace K2
open PySem PySem.Spec PyProof.Rows L2 G1 G2
abbrev sIsI : Stmt := topS 14
abbrev sWit : Stmt := topS 15
abbrev sRow : Stmt := topS 24
abbrev sChk : Stmt := topS 25
abbrev sSiz : Stmt := topS 34
theorem scIsI : FnScope ["value"] ["value"] (defScope sIsI) := ⟨rfl, rfl, rfl, by decide +kernel, rfl, by decide +kernel, by decide +kernel⟩
theorem scWit : FnScope ["value", "least", "most"] ["value", "least", "most"] (defScope sWit) := ⟨rfl, rfl, rfl, by decide +kernel, rfl, by decide +kernel, by decide +kernel⟩
theorem scRow : FnScope ["value", "pages", "limit", "word"] ["value", "pages"] (defScope sRow) := ⟨rfl, rfl, rfl, by decide +kernel, rfl, by decide +kernel, by decide +kernel⟩
theorem scChk : FnScope ["rows", "pages", "index", "row", "last"] ["rows", "pages"] (defScope sChk) := ⟨rfl, rfl, rfl, by decide +kernel, rfl, by decide +kernel, by decide +kernel⟩
theorem scSiz : FnScope ["blocks", "pages", "names"] ["blocks", "pages", "names"] (defScope sSiz) := ⟨rfl, rfl, rfl, by decide +kernel, rfl, by decide +kernel, by decide +kernel⟩
theorem bIsi : bootBuiltins "isinstance" = some (.builtin "isinstance") := by decide +kernel
theorem bBool : bootBuiltins "bool" = some (.type "bool") := by decide +kernel
theorem bTup : bootBuiltins "tuple" = some (.type "tuple") := by decide +kernel
theorem bStr : bootBuiltins "str" = some (.type "str") := by decide +kernel
theorem nx_read {D : Ends} {σ : L2.St} {H : Hp} (h : D.nx σ H) : tNext D σ H := h
theorem paired_get {α β : Type} {F : α → β → Prop} : ∀ {l₁ : List α} {l₂ : List β}, Paired F l₁ l₂ → ∀ {i : Nat} {a : α}, l₁[i]? = some a → ∃ b, l₂[i]? = some b ∧ F a b
  | _, _, .nil, i, a, h => by simp at h
  | _, _, .cons r t, 0, a, h => by
    simp at h
    subst h
    exact ⟨_, rfl, r⟩
  | _, _, .cons r t, i + 1, a, h => paired_get t (i := i) (by simpa using h)
/-! ### rows -/
abbrev RowD := Int × Str
def wordsL : List Str := ["oldest", "youngest", "least", "most"]
/-- a row of a drive with p pages -/
def RowOk (p : Nat) (r : RowD) : Prop := 0 ≤ r.1 ∧ r.1 ≤ (p : Int) ∧ r.2 ∈ wordsL
theorem Same.tup {K : PySem.W.Frag} {H H' : Hp} {a : Addr} {xs : List V} (e : Same H H') (h : SqT K H a xs) : SqT K H' a xs :=
  h.elim (fun h => .inl (h.elim (fun h => .inl (e _ _ h)) fun ⟨o, h⟩ => .inr ⟨o, e _ _ h⟩)) fun h => .inr h
/-- the tuple at t holds these rows -/
def RowsAt (K : PySem.W.Frag) (H : Hp) (t : Addr) (rows : List RowD) : Prop := ∃ rs : List Addr, SqT K H t (rs.map V.ref) ∧ Paired (fun (a : Addr) (r : RowD) => SqT K H a [.int r.1, .str r.2]) rs rows
theorem RowsAt.same {K : PySem.W.Frag} {H H' : Hp} {t : Addr} {rows : List RowD} (h : RowsAt K H t rows) (e : Same H H') : RowsAt K H' t rows := by
  obtain ⟨rs, h1, h2⟩ := h
  exact ⟨rs, K2.Same.tup e h1, Paired.mapP h2 fun _ _ z => K2.Same.tup e z⟩
/-! ### promises -/
def spIsI : Sp := fun vs H Q _ => ∃ i : Int, vs = [.int i] ∧ Q (.bl true) H
def spWit : Sp := fun vs H Q _ => ∃ v lo hi : Int, vs = [.int v, .int lo, .int hi] ∧ lo ≤ v ∧ v ≤ hi ∧ Q (.bl true) H
section
variable {P : Program} {w : World} {K : PySem.W.Frag} {mg : Str → Option Value} {base : Heap}
theorem ok_isI {f : Addr} {fd : FuncData} (F : Fun K "is_integer" "is_integer" sIsI f fd) (B : Bl mg) : FnOk P w K mg base CX0 1 f fd ["value"] spIsI := by
  refine F.ok scIsI (fun vs H Q E h => ?_) (fun cdv A outer s H vs Q E hr h => ?_)
  · obtain ⟨i, rfl, _⟩ := h
    rfl
  obtain ⟨i, rfl, k⟩ := h
  refine ⟨_, pss_one (ps_ret (pe_and (pe_callB call_isi (by rfl) B.isi bIsi (pa_cons (pv 0) (pa_cons (pe_bltn (v := .ty "int") (by rfl) B.int bInt rfl) pa_nil)))
    (pe_one (pe_not (pe_callB call_isi (by rfl) B.isi bIsi (pa_cons (pv 0) (pa_cons (pe_bltn (v := .ty "bool") (by rfl) B.boo bBool rfl) pa_nil))))))), ?_⟩
  refine ⟨_, rfl, _, _, _, _, true, rfl, .ty _, .base (.int i), kit_ty (by decide +kernel), true, rfl, iteT ?_⟩
  exact ⟨_, rfl, _, _, _, _, false, rfl, .ty _, .base (.int i), kit_ty (by decide +kernel), false, rfl, k⟩
theorem ok_wit {f fI : Addr} {fd fdI : FuncData} (F : Fun K "is_within" "is_within" sWit f fd) (GI : FnOk P w K mg base CX0 1 fI fdI ["value"] spIsI) (kI : PySem.W.keepIn K (.ref fI) = true) (bI : Binds K fdI ["value"] []) (gI : mg "is_integer" = some (.ref fI)) :
    FnOk P w K mg base CX0 2 f fd ["value", "least", "most"] spWit := by
  refine F.ok scWit (fun vs H Q E h => ?_) (fun cdv A outer s H vs Q E hr h => ?_)
  · obtain ⟨v, lo, hi, rfl, _⟩ := h
    rfl
  obtain ⟨v, lo, hi, rfl, h1, h2, k⟩ := h
  refine ⟨_, pss_one (ps_ret (pe_and (pe_call GI hr (by rfl) gI kI bI .nil pass0 (pa_cons (pv 0) pa_nil)) (pe_one (pe_chain op_le op_le (pv 1) (pv 0) (pv 2))))), ?_⟩
  refine ⟨_, rfl, v, rfl, true, rfl, iteT ?_⟩
  refine ⟨_, rfl, _, rfl, _, _, rfl, rfl, _, rfl, ?_⟩
  rw [decide_eq_true h1]
  refine iteT ⟨_, rfl, _, _, rfl, rfl, ?_⟩
  show Q (.bl (decide (v ≤ hi))) H
  rw [decide_eq_true h2]
  exact k
def WordsAt (K : PySem.W.Frag) (aW : Addr) : Prop := ∀ H : Hp, SqT K H aW (wordsL.map V.str)
def spRow (K : PySem.W.Frag) : Sp := fun vs H Q _ => ∃ (a : Addr) (p : Nat) (r : RowD), vs = [.ref a, .int (p : Int)] ∧ SqT K H a [.int r.1, .str r.2] ∧ RowOk p r ∧ Q (.bl true) H
def spChk (K : PySem.W.Frag) : Sp := fun vs H Q _ => ∃ (t : Addr) (p : Nat) (rows : List RowD), vs = [.ref t, .int (p : Int)] ∧ RowsAt K H t rows ∧ (∀ r ∈ rows, RowOk p r) ∧ rows.length ≤ 4 ∧ (∃ x y, rows = x ++ [((p : Int), y)]) ∧ ∀ H' : Hp, Same H H' → Q .non H'
theorem tup_ty {K : PySem.W.Frag} {H : Hp} {a : Addr} {xs : List V} (h : SqT K H a xs) : TyX K H (.ref a) (.type "tuple") := by
  rcases h with (h | ⟨o, h⟩) | ⟨o, its, n, hk, hc, _⟩
  · exact .base (.tup h)
  · exact .fTuple h
  · exact .kTuple hk hc
theorem inW : ∀ w ∈ wordsL, flatV (.str w) = true ∧ inV (.str w) (wordsL.map V.str) = true := by decide +kernel
theorem flatW : (wordsL.map V.str).all flatV = true := by decide +kernel
theorem ok_row {f fI aW : Addr} {fd fdI : FuncData} (F : Fun K "is_row" "is_row" sRow f fd) (B : Bl mg) (GI : FnOk P w K mg base CX0 2 fI fdI ["value", "least", "most"] spWit) (kI : PySem.W.keepIn K (.ref fI) = true) (bI : Binds K fdI ["value", "least", "most"] []) (gI : mg "is_within" = some (.ref fI))
    (gW : mg "WORDS" = some (.ref aW)) (hW : WordsAt K aW) : FnOk P w K mg base CX0 3 f fd ["value", "pages"] (spRow K) := by
  refine F.ok scRow (fun vs H Q E h => ?_) (fun cdv A outer s H vs Q E hr h => ?_)
  · obtain ⟨a, p, r, rfl, _⟩ := h
    rfl
  obtain ⟨a, p, ⟨l, x⟩, rfl, hT, ⟨h1, h2, h3⟩, k⟩ := h
  refine ⟨_, pss_cons (ps_if (PW.pt (pw_or (pt_not (pt_val (pe_callB call_isi (by rfl) B.isi bIsi (pa_cons (pv 0) (pa_cons (pe_bltn (v := .ty "tuple") (by rfl) B.tup bTup rfl) pa_nil)))))
      (pw_or1 (pt_cmpR op_ne (pe_callB call_len_seq (by rfl) B.len PySem.boot_len (pa_cons (pv 0) pa_nil)) pe_int (nomark _))))) (pss_one (ps_ret pe_bl)) pss_nil)
    (pss_cons (ps_asg (pv 0) (pg_tup rfl (pgs_cons (pg_name (i := 2) scRow.nd rfl (.inl rfl)) (pgs_cons (pg_name (i := 3) scRow.nd rfl (.inl rfl)) pgs_nil))))
    (pss_one (ps_ret (pe_and (pe_call GI hr (by rfl) gI kI bI .nil pass0 (pa_cons (pv 2) (pa_cons pe_int (pa_cons (pv 1) pa_nil))))
      (pe_and (pe_callB call_isi (by rfl) B.isi bIsi (pa_cons (pv 3) (pa_cons (pe_bltn (v := .ty "str") (by rfl) B.str bStr rfl) pa_nil)))
      (pe_one (pe_cmpR op_in_seq (pv 3) (pe_glob (v := .ref aW) rfl gW rfl) (by rfl)))))))), ?_⟩
  refine ⟨_, rfl, _, _, _, _, true, rfl, .ty _, tup_ty hT, kit_ty (by decide +kernel), true, rfl, iteF ?_⟩
  refine ⟨_, rfl, a, _, rfl, .inr hT, rfl, _, rfl, iteF ?_⟩
  refine ⟨_, rfl, a, _, rfl, hT, rfl, _, _, rfl, _, _, rfl, rfl, ?_⟩
  refine ⟨_, rfl, _, rfl, l, 0, (p : Int), rfl, h1, h2, true, rfl, iteT ?_⟩
  refine ⟨_, rfl, _, _, _, _, true, rfl, .ty _, .base (.str x), kit_ty (by decide +kernel), true, rfl, iteT ?_⟩
  refine ⟨_, rfl, aW, _, rfl, .inr (hW H), (inW x h3).1, flatW, ?_⟩
  show Q (.bl (inV (.str x) (wordsL.map V.str))) H
  rw [(inW x h3).2]
  exact k
theorem ok_chk {f fI : Addr} {fd fdI : FuncData} (F : Fun K "check_rows" "check_rows" sChk f fd) (B : Bl mg) (GI : FnOk P w K mg base CX0 3 fI fdI ["value", "pages"] (spRow K)) (kI : PySem.W.keepIn K (.ref fI) = true) (bI : Binds K fdI ["value", "pages"] []) (gI : mg "is_row" = some (.ref fI))
    (gM : ∃ t, mg "MOST_ROWS" = some (.int 4 t)) : FnOk P w K mg base CX0 4 f fd ["rows", "pages"] (spChk K) := by
  refine F.ok scChk (fun vs H Q E h => ?_) (fun cdv A outer s H vs Q E hr h => ?_)
  · obtain ⟨a, p, r, rfl, _⟩ := h
    rfl
  obtain ⟨t, p, rows, rfl, ⟨rs, hT, hP⟩, hok, h4, ⟨ini, y, e⟩, k⟩ := h
  obtain ⟨tM, cM⟩ := gM
  refine ⟨_, pss_cons (ps_if (PW.pt (pw_or (pt_not (pt_val (pe_callB call_isi (by rfl) B.isi bIsi (pa_cons (pv 0) (pa_cons (pe_bltn (v := .ty "tuple") (by rfl) B.tup bTup rfl) pa_nil)))))
      (pw_or1 (pt_not (pt_truth (pv 0) (by intro _; rfl)))))) (pss_one ps_never) pss_nil)
    (pss_cons (ps_for PassesOwn.never rfl (pi_enumT (by rfl) B.enm (pa_cons (pv 0) pa_nil)) (pg_tup rfl (pgs_cons (pg_name (i := 2) scChk.nd rfl (.inl rfl)) (pgs_cons (pg_name (i := 3) scChk.nd rfl (.inl rfl)) pgs_nil)))
      (pss_one (ps_if (PW.pt (pw_or (pt_cmpR op_eq (pv 2) (pe_glob (v := .int 4) rfl cM ⟨_, rfl⟩) (nomark _)) (pw_or1 (pt_not (pt_val (pe_call GI hr (by rfl) gI kI bI .nil pass0 (pa_cons (pv 3) (pa_cons (pv 1) pa_nil)))))))) (pss_one ps_never) pss_nil)))
    (pss_cons (ps_set (i := 4) scChk.nd rfl (.inl rfl) (pe_op op_sub (pe_callB call_len_seq (by rfl) B.len PySem.boot_len (pa_cons (pv 0) pa_nil)) pe_int))
    (pss_one (ps_if (pt_cmpR op_ne (pe_ix ix_tup (pe_ix ix_tup (pv 0) (pv 4) (fun _ _ => rfl)) pe_int (fun _ _ => rfl)) (pv 1) (nomark _)) (pss_one ps_never) pss_nil)))), ?_⟩
  have hlen : rs.length = rows.length := Paired.length hP
  have hne : rs.map V.ref ≠ [] := by
    intro z
    have : rows.length = 0 := by rw [← hlen, ← List.length_map (f := V.ref), z]; rfl
    rw [e] at this
    simp at this
  refine ⟨_, rfl, _, _, _, _, true, rfl, .ty _, tup_ty hT, kit_ty (by decide +kernel), true, rfl, iteF ?_⟩
  refine ⟨_, rfl, true, .inr (.inl ⟨_, hT, ?_⟩), iteF ?_⟩
  · cases hq : rs.map V.ref with
    | nil => exact absurd hq hne
    | cons _ _ => rfl
  unfold tNext
  dsimp only
  refine seq_for fun D' hD1 hD2 => ?_
  refine ⟨_, rfl, t, _, rfl, hT, ?_⟩
  refine for_enumT (K := K) (xs := rs.map V.ref) (fun i σ H' => ∃ x2 x3, σ = [some (.ref t), some (.int (p : Int)), x2, x3, none] ∧ Same H H') ⟨none, none, rfl, Same.refl _⟩ (fun i σ H' q => ?_) ?_ ?_
  · obtain ⟨_, _, _, s1⟩ := q
    exact K2.Same.tup s1 hT
  · rintro i x T σ H' hi ⟨x2, x3, rfl, s1⟩ hN
    rw [List.getElem?_map] at hi
    obtain ⟨a, ha, rfl⟩ : ∃ a, rs[i]? = some a ∧ V.ref a = x := by
      cases hq : rs[i]? with
      | none => rw [hq] at hi; cases hi
      | some a => rw [hq] at hi; exact ⟨a, rfl, Option.some.inj hi⟩
    have hi4 : i < 4 := by
      have z := (List.getElem?_eq_some_iff.mp ha).1
      omega
    obtain ⟨r, hr1, hr2⟩ := paired_get hP ha
    have s2 : Same H (upd H' T (.tup [.int (i : Nat), .ref a])) := s1.trans (same_lay hN)
    refine ⟨T, _, rfl, SqT.of upd_same, rfl, _, _, rfl, _, _, rfl, rfl, ?_⟩
    refine ⟨_, rfl, rfl, _, rfl, ?_⟩
    have ne4 : decide (V.int (i : Nat) = V.int 4) = false := decide_eq_false (fun z => by injection z with z; omega)
    show (if decide (V.int ((i : Nat) : Int) = V.int 4) = true then _ else _)
    rw [ne4]
    refine iteF ⟨_, rfl, _, rfl, a, p, r, rfl, K2.Same.tup s2 hr2, hok r (List.mem_of_getElem? hr1), true, rfl, ?_⟩
    exact iteF ⟨_, _, rfl, s2⟩
  · rintro σ H' ⟨x2, x3, rfl, s1⟩
    rw [hD1]
    refine ⟨_, rfl, t, _, rfl, .inr (K2.Same.tup s1 hT), _, _, rfl, rfl, ?_⟩
    have hl : rs.length = ini.length + 1 := by rw [hlen, e, List.length_append]; rfl
    obtain ⟨a, ha⟩ : ∃ a, rs[ini.length]? = some a := ⟨rs[ini.length], List.getElem?_eq_getElem (by omega)⟩
    obtain ⟨r, hr1, hr2⟩ := paired_get hP ha
    have er : r = ((p : Int), y) := by
      rw [e, List.getElem?_append_right (Nat.le_refl _), Nat.sub_self] at hr1
      exact (Option.some.inj hr1).symm
    subst er
    refine ⟨_, rfl, _, rfl, t, _, _, .ref a, rfl, rfl, K2.Same.tup s1 hT, ?_, a, _, _, .int (p : Int), rfl, rfl, K2.Same.tup s1 hr2, rfl, _, rfl, rfl, _, rfl, ?_⟩
    · have e2 : (((rs.map V.ref).length : Nat) : Int) - 1 = ((ini.length : Nat) : Int) := by rw [List.length_map]; omega
      show atI _ ((((rs.map V.ref).length : Nat) : Int) - 1) = _
      rw [e2]
      exact atI_nat (by rw [List.getElem?_map, ha]; rfl)
    · have z : (!decide (V.int (p : Int) = V.int (p : Int))) = false := by rw [decide_eq_true rfl]; rfl
      show (if (!decide (V.int (p : Int) = V.int (p : Int))) = true then _ else _)
      rw [z]
      exact iteF (k H' s1)
end
end K2

set_option Elab.async false
set_option linter.all false
set_option maxRecDepth 100000
set_option maxHeartbeats 4000000
namespace K2
open PySem PySem.Spec PyProof.Rows L2 G1 G2
abbrev sTxt : Stmt := topS 29
theorem scTxt : FnScope ["blocks", "pages", "names", "rows", "lines", "limit", "word"] ["blocks", "pages", "names", "rows"] (defScope sTxt) := ⟨rfl, rfl, rfl, by decide +kernel, rfl, by decide +kernel, by decide +kernel⟩
structure Cn (mg : Str → Option Value) : Prop where
  lb : ∃ t, mg "LEAST_BLOCKS" = some (.int 3 t)
  mb : ∃ t, mg "MOST_BLOCKS" = some (.int 6 t)
  lp : ∃ t, mg "LEAST_PAGES" = some (.int 2 t)
  mp : ∃ t, mg "MOST_PAGES" = some (.int 5 t)
  mr : ∃ t, mg "MOST_ROWS" = some (.int 4 t)
  ms : ∃ t, mg "MOST_STANDS" = some (.int 2000 t)
  wh : ∃ t, mg "WORDS_OF_HEAD" = some (.int 7 t)
  md : ∃ t, mg "MOST_DIGITS" = some (.int 2 t)
/-- sizes of a drive -/
structure Sz (b p n : Nat) : Prop where
  b0 : 3 ≤ b
  b1 : b ≤ 6
  p0 : 2 ≤ p
  p1 : p ≤ 5
  n0 : 1 ≤ n
  n1 : n ≤ p * (b - 1)
theorem Sz.n25 {b p n : Nat} (h : Sz b p n) : n < 26 := by
  have z : p * (b - 1) ≤ 5 * 5 := Nat.mul_le_mul h.p1 (by have := h.b1; omega)
  have := h.n1
  omega
def spSiz : Sp := fun vs H Q _ => ∃ b p n : Nat, vs = [.int (b : Int), .int (p : Int), .int (n : Int)] ∧ Sz b p n ∧ Q .non H
/-! ### the mirror of the text -/
def numS (i : Int) : Str := toString i
def headM (b p n : Int) : Str := ((((((Str.empty ++ ("drive " : Str)) ++ numS b) ++ (" blocks " : Str)) ++ numS p) ++ (" pages " : Str)) ++ numS n) ++ (" names" : Str)
def lineM (r : RowD) : Str := (((Str.empty ++ ("at most " : Str)) ++ numS r.1) ++ (": " : Str)) ++ r.2
def anyM (w : Str) : Str := ("any: " : Str) ++ w
def linesM (b p n : Int) (ini : List RowD) (w : Str) : List Str := headM b p n :: (ini.map lineM ++ [anyM w])
def textM (b p n : Int) (ini : List RowD) (w : Str) : Str := Txt.join ("\n" : Str) (linesM b p n ini w)
section
variable {P : Program} {w : World} {K : PySem.W.Frag} {mg : Str → Option Value} {base : Heap}
theorem ok_siz {f fI : Addr} {fd fdI : FuncData} (F : Fun K "check_sizes" "check_sizes" sSiz f fd) (C : Cn mg) (GI : FnOk P w K mg base CX0 2 fI fdI ["value", "least", "most"] spWit) (kI : PySem.W.keepIn K (.ref fI) = true) (bI : Binds K fdI ["value", "least", "most"] []) (gI : mg "is_within" = some (.ref fI)) :
    FnOk P w K mg base CX0 3 f fd ["blocks", "pages", "names"] spSiz := by
  refine F.ok scSiz (fun vs H Q E h => ?_) (fun cdv A outer s H vs Q E hr h => ?_)
  · obtain ⟨a, p, r, rfl, _⟩ := h
    rfl
  obtain ⟨b, p, n, rfl, hz, k⟩ := h
  obtain ⟨t1, c1⟩ := C.lb
  obtain ⟨t2, c2⟩ := C.mb
  obtain ⟨t3, c3⟩ := C.lp
  obtain ⟨t4, c4⟩ := C.mp
  have b0 := hz.b0
  have b1 := hz.b1
  have p0 := hz.p0
  have p1 := hz.p1
  have n0 := hz.n0
  have n1 : (n : Int) ≤ (p : Int) * ((b : Int) - 1) := by
    have z := hz.n1
    have e : ((p * (b - 1) : Nat) : Int) = (p : Int) * ((b : Int) - 1) := by
      rw [Int.natCast_mul, Int.natCast_sub (by omega)]; rfl
    omega
  refine ⟨_, pss_cons (ps_if (pt_not (pt_val (pe_call GI hr (by rfl) gI kI bI .nil pass0 (pa_cons (pv 0) (pa_cons (pe_glob (v := .int 3) rfl c1 ⟨_, rfl⟩) (pa_cons (pe_glob (v := .int 6) rfl c2 ⟨_, rfl⟩) pa_nil)))))) (pss_one ps_never) pss_nil)
    (pss_cons (ps_if (pt_not (pt_val (pe_call GI hr (by rfl) gI kI bI .nil pass0 (pa_cons (pv 1) (pa_cons (pe_glob (v := .int 2) rfl c3 ⟨_, rfl⟩) (pa_cons (pe_glob (v := .int 5) rfl c4 ⟨_, rfl⟩) pa_nil)))))) (pss_one ps_never) pss_nil)
    (pss_one (ps_if (pt_not (pt_val (pe_call GI hr (by rfl) gI kI bI .nil pass0 (pa_cons (pv 2) (pa_cons pe_int (pa_cons (pe_op op_mul (pv 1) (pe_op op_sub (pv 0) pe_int)) pa_nil)))))) (pss_one ps_never) pss_nil))), ?_⟩
  refine ⟨_, rfl, (b : Int), 3, 6, rfl, by omega, by omega, true, rfl, iteF ?_⟩
  refine ⟨_, rfl, (p : Int), 2, 5, rfl, by omega, by omega, true, rfl, iteF ?_⟩
  exact ⟨_, rfl, _, rfl, _, rfl, _, _, rfl, rfl, _, _, rfl, rfl, .inl ⟨by omega, by omega⟩, (n : Int), 1, _, rfl, by omega, n1, true, rfl, iteF k⟩
end
end K2

set_option Elab.async false
set_option linter.all false
set_option maxRecDepth 100000
set_option maxHeartbeats 4000000
namespace K2
open PySem PySem.Spec PyProof.Rows L2 G1 G2
theorem num_len : ∀ i : Nat, i < 26 → (numS (i : Int)).length ≤ 2 := by decide +kernel
theorem word_len : ∀ w ∈ wordsL, w.length ≤ 8 := by decide +kernel
theorem log_small (i : Nat) (h : i < 26) : (i : Int).natAbs.log2 < 1920 := by
  have z : ∀ j : Nat, j < 26 → (j : Int).natAbs.log2 < 1920 := by decide +kernel
  exact z i h
theorem small_line {k : Nat} (h : k ≤ 1000) : k ≤ sizeLine := by rw [sizeLine_eq]; omega
theorem six_last (xs : List V) (x : V) : HT.sIx (xs ++ [x]).length (xs ++ [x]).length (some (-1)) = xs.length := by
  unfold HT.sIx
  dsimp only
  rw [if_pos (by decide), List.length_append, List.length_singleton]
  omega
theorem cut_last (xs : List V) (x : V) : cutV (xs ++ [x]) none (some (-1)) = xs := by
  unfold cutV
  rw [HT.sIx_none, six_last, List.drop_zero, Nat.sub_zero]
  simp
theorem cut_not (xs : List V) (x : V) : ¬ (HT.sIx (xs ++ [x]).length 0 none = 0 ∧ HT.sIx (xs ++ [x]).length (xs ++ [x]).length (some (-1)) = (xs ++ [x]).length) := by
  rintro ⟨_, h⟩
  rw [six_last, List.length_append] at h
  simp at h
theorem at_last (xs : List V) (x : V) : atI (xs ++ [x]) (-1) = some x := by
  have e : ixN (xs ++ [x]).length (-1) = some xs.length := by
    unfold ixN
    rw [if_neg (by decide), List.length_append, List.length_singleton, if_pos (by omega)]
    exact congrArg some (by omega)
  unfold atI
  rw [e]
  simp
/-- the rows, but for the last one -/
def IniOk (p : Nat) (ini : List RowD) : Prop := (∀ r ∈ ini, RowOk p r) ∧ ini.length ≤ 3
theorem len_head (b p n : Nat) (hb : b < 26) (hp : p < 26) (hn : n < 26) : (headM (b : Int) (p : Int) (n : Int)).length ≤ 40 := by
  have h1 := num_len b hb
  have h2 := num_len p hp
  have h3 := num_len n hn
  unfold headM
  simp only [Str.length_append]
  have e1 : (Str.ofString "drive ").length = 6 := by decide +kernel
  have e2 : (Str.ofString " blocks ").length = 8 := by decide +kernel
  have e3 : (Str.ofString " pages ").length = 7 := by decide +kernel
  have e4 : (Str.ofString " names").length = 6 := by decide +kernel
  have e5 : Str.empty.length = 0 := by decide +kernel
  rw [e1, e2, e3, e4, e5]
  omega
theorem len_line (r : RowD) (p : Nat) (hp : p < 26) (h : RowOk p r) : (lineM r).length ≤ 40 := by
  obtain ⟨h1, h2, h3⟩ := h
  have e0 : r.1 = ((r.1.toNat : Nat) : Int) := by omega
  have n1 : (numS r.1).length ≤ 2 := by rw [e0]; exact num_len _ (by omega)
  have n2 := word_len r.2 h3
  unfold lineM
  simp only [Str.length_append]
  have e1 : (Str.ofString "at most ").length = 8 := by decide +kernel
  have e2 : (Str.ofString ": ").length = 2 := by decide +kernel
  have e5 : Str.empty.length = 0 := by decide +kernel
  rw [e1, e2, e5]
  omega
theorem len_any (w : Str) (h : w ∈ wordsL) : (anyM w).length ≤ 40 := by
  have n2 := word_len w h
  unfold anyM
  simp only [Str.length_append]
  have e1 : (Str.ofString "any: ").length = 5 := by decide +kernel
  rw [e1]
  omega
theorem empty_app (x : Str) : Str.empty ++ x = x := by
  show (⟨#[] ++ x.cps⟩ : Str) = x
  rw [Array.empty_append]
def spTxt (K : PySem.W.Frag) : Sp := fun vs H Q _ => ∃ (b p n : Nat) (t : Addr) (ini : List RowD) (y : Str), vs = [.int (b : Int), .int (p : Int), .int (n : Int), .ref t] ∧ b < 26 ∧ p < 26 ∧ n < 26 ∧ RowsAt K H t (ini ++ [((p : Int), y)]) ∧ IniOk p ini ∧ y ∈ wordsL ∧
  ∀ H' : Hp, Same H H' → Q (.str (textM (b : Int) (p : Int) (n : Int) ini y)) H'
theorem paired_split {α β : Type} {F : α → β → Prop} : ∀ {l : List α} {m : List β} {y : β}, Paired F l (m ++ [y]) → ∃ l' x, l = l' ++ [x] ∧ Paired F l' m ∧ F x y
  | [], [], y, h => nomatch h
  | [], _ :: _, y, h => nomatch h
  | _ :: _, [], y, .cons r .nil => ⟨[], _, rfl, .nil, r⟩
  | _ :: _, _ :: _, y, .cons r t => by
    obtain ⟨l', x, e, h1, h2⟩ := paired_split t
    exact ⟨_ :: l', x, by rw [e]; rfl, .cons r h1, h2⟩
theorem sum_le (l : List Str) (h : ∀ x ∈ l, x.length ≤ 40) : (l.map (·.length)).sum ≤ l.length * 40 := by
  induction l with
  | nil => exact Nat.le_refl _
  | cons a l ih =>
    have h1 := h a (List.mem_cons_self ..)
    have h2 := ih fun x hx => h x (List.mem_cons_of_mem _ hx)
    rw [List.map_cons, List.sum_cons, List.length_cons]
    omega
theorem lines_len (b p n : Nat) (hb : b < 26) (hp : p < 26) (hn : n < 26) (ini : List RowD) (hi : IniOk p ini) (y : Str) (hy : y ∈ wordsL) : (∀ x ∈ linesM (b : Int) (p : Int) (n : Int) ini y, x.length ≤ 40) ∧ (linesM (b : Int) (p : Int) (n : Int) ini y).length ≤ 5 := by
  unfold linesM
  refine ⟨fun x hx => ?_, ?_⟩
  · rcases List.mem_cons.mp hx with rfl | hx
    · exact len_head b p n hb hp hn
    rcases List.mem_append.mp hx with hx | hx
    · obtain ⟨r, hr, rfl⟩ := List.mem_map.mp hx
      exact len_line r p hp (hi.1 r hr)
    · rw [List.mem_singleton.mp hx]
      exact len_any y hy
  · have := hi.2
    simp
    omega
theorem join_fits (l : List Str) (h : (∀ x ∈ l, x.length ≤ 40) ∧ l.length ≤ 5) : (l.map (·.length)).sum + l.length * (Str.ofString "\n").length ≤ 16777216 := by
  have z := sum_le l h.1
  have e : (Str.ofString "\n").length = 1 := by decide +kernel
  have := h.2
  rw [e]
  omega
end K2

set_option Elab.async false
set_option linter.all false
set_option maxRecDepth 100000
set_option maxHeartbeats 4000000
namespace K2
open PySem PySem.Spec PyProof.Rows L2 G1 G2
theorem js_c {x acc : Str} {ts : List TE} {σ : L2.St} {H : Hp} {Q : Str → Hp → Prop} (h1 : (acc ++ x).length ≤ sizeLine) (h2 : tJs ts (acc ++ x) σ H Q) : tJs (tC (.str x) :: ts) acc σ H Q := ⟨x, rfl, h1, h2⟩
theorem js_i {te : TE} {acc : Str} {ts : List TE} {σ : L2.St} {H : Hp} {Q : Str → Hp → Prop} {i : Int} (ht : ∀ R : VK, R (.int i) H → te σ H R) (h0 : i.natAbs.log2 < 1920) (h1 : (acc ++ numS i).length ≤ sizeLine) (h2 : tJs ts (acc ++ numS i) σ H Q) : tJs (tFmt te :: ts) acc σ H Q :=
  ht _ (.inr ⟨i, rfl, h0, _, rfl, h1, h2⟩)
theorem js_s {te : TE} {acc : Str} {ts : List TE} {σ : L2.St} {H : Hp} {Q : Str → Hp → Prop} {x : Str} (ht : ∀ R : VK, R (.str x) H → te σ H R) (h0 : x.length ≤ sizeLine) (h1 : (acc ++ x).length ≤ sizeLine) (h2 : tJs ts (acc ++ x) σ H Q) : tJs (tFmt te :: ts) acc σ H Q :=
  ht _ (.inl ⟨x, rfl, h0, _, rfl, h1, h2⟩)
theorem js_0 {acc : Str} {σ : L2.St} {H : Hp} {Q : Str → Hp → Prop} (h : Q acc H) : tJs [] acc σ H Q := h
theorem head_read {t1 t2 t3 : TE} {σ : L2.St} {H : Hp} {Q : Str → Hp → Prop} {b p n : Nat} (hb : b < 26) (hp : p < 26) (hn : n < 26) (h1 : ∀ R : VK, R (.int (b : Int)) H → t1 σ H R) (h2 : ∀ R : VK, R (.int (p : Int)) H → t2 σ H R) (h3 : ∀ R : VK, R (.int (n : Int)) H → t3 σ H R)
    (k : Q (headM (b : Int) (p : Int) (n : Int)) H) : tJs [tC (.str (Str.ofString "drive ")), tFmt t1, tC (.str (Str.ofString " blocks ")), tFmt t2, tC (.str (Str.ofString " pages ")), tFmt t3, tC (.str (Str.ofString " names"))] Str.empty σ H Q := by
  have z := len_head b p n hb hp hn
  unfold headM at z
  simp only [Str.length_append] at z
  refine js_c ?_ (js_i h1 (log_small b hb) ?_ (js_c ?_ (js_i h2 (log_small p hp) ?_ (js_c ?_ (js_i h3 (log_small n hn) ?_ (js_c ?_ (js_0 k)))))))
  all_goals
    refine small_line ?_
    simp only [Str.length_append]
    omega
theorem line_read {t1 t2 : TE} {σ : L2.St} {H : Hp} {Q : Str → Hp → Prop} {r : RowD} {p : Nat} (hp : p < 26) (hr : RowOk p r) (h1 : ∀ R : VK, R (.int r.1) H → t1 σ H R) (h2 : ∀ R : VK, R (.str r.2) H → t2 σ H R)
    (k : Q (lineM r) H) : tJs [tC (.str (Str.ofString "at most ")), tFmt t1, tC (.str (Str.ofString ": ")), tFmt t2] Str.empty σ H Q := by
  have z := len_line r p hp hr
  unfold lineM at z
  simp only [Str.length_append] at z
  have hl : r.1.natAbs.log2 < 1920 := by
    obtain ⟨a1, a2, _⟩ := hr
    have e0 : r.1 = ((r.1.toNat : Nat) : Int) := by omega
    rw [e0]
    exact log_small _ (by omega)
  refine js_c ?_ (js_i h1 hl ?_ (js_c ?_ (js_s h2 ?_ ?_ (js_0 k))))
  all_goals
    refine small_line ?_
    (try simp only [Str.length_append])
    omega
theorem any_read {t1 : TE} {σ : L2.St} {H : Hp} {Q : Str → Hp → Prop} {x : Str} (hx : x ∈ wordsL) (h1 : ∀ R : VK, R (.str x) H → t1 σ H R) (k : Q (anyM x) H) : tJs [tC (.str (Str.ofString "any: ")), tFmt t1] Str.empty σ H Q := by
  have z := len_any x hx
  unfold anyM at z
  simp only [Str.length_append] at z
  refine js_c ?_ (js_s h1 ?_ ?_ (js_0 ?_))
  · rw [empty_app]; exact small_line (by omega)
  · exact small_line (by omega)
  · rw [empty_app]; simp only [Str.length_append]; exact small_line (by omega)
  · rw [empty_app]; exact k
section
variable {P : Program} {w : World} {K : PySem.W.Frag} {mg : Str → Option Value} {base : Heap}
theorem ok_txt {f : Addr} {fd : FuncData} (F : Fun K "text_of" "text_of" sTxt f fd) (B : Bl mg) : FnOk P w K mg base CX0 1 f fd ["blocks", "pages", "names", "rows"] (spTxt K) := by
  refine F.ok scTxt (fun vs H Q E h => ?_) (fun cdv A outer s H vs Q E hr h => ?_)
  · obtain ⟨b, p, n, t, ini, y, rfl, _⟩ := h
    rfl
  obtain ⟨b, p, n, t, ini, y, rfl, hb, hp, hn, ⟨rs0, hT0, hP0⟩, hini, hy, k⟩ := h
  obtain ⟨rs, rl, rfl, hP, hl⟩ := paired_split hP0
  have hT : SqT K H t (rs.map V.ref ++ [V.ref rl]) := by
    have e : (rs ++ [rl]).map V.ref = rs.map V.ref ++ [V.ref rl] := by simp
    rwa [e] at hT0
  refine ⟨_, pss_cons (ps_set (i := 4) scTxt.nd rfl (.inl rfl) (pe_lst (pa_cons (pe_joined (.cons pe_str (.cons (pe_fmt (pv 0)) (.cons pe_str (.cons (pe_fmt (pv 1)) (.cons pe_str (.cons (pe_fmt (pv 2)) (.cons pe_str .nil)))))))) pa_nil)))
    (pss_cons (ps_for PassesOwn.never rfl (pi_tup (pe_slice sl_tup (pv 3) po_none (po_some (pe_un un_neg pe_int)))) (pg_tup rfl (pgs_cons (pg_name (i := 5) scTxt.nd rfl (.inl rfl)) (pgs_cons (pg_name (i := 6) scTxt.nd rfl (.inl rfl)) pgs_nil)))
      (pss_one (ps_expr (pe_bm PySem.F.plainAttrs_list PySem.F.slot_list_append PySem.F.type_list_append mt_append (pv 4) (pa_cons (pe_joined (.cons pe_str (.cons (pe_fmt (pv 5)) (.cons pe_str (.cons (pe_fmt (pv 6)) .nil))))) pa_nil)))))
    (pss_cons (ps_expr (pe_bm PySem.F.plainAttrs_list PySem.F.slot_list_append PySem.F.type_list_append mt_append (pv 4) (pa_cons (pe_joined (.cons pe_str (.cons (pe_fmt (pe_ix ix_tup (pe_ix ix_tup (pv 3) (pe_un un_neg pe_int) (fun _ _ => rfl)) pe_int (fun _ _ => rfl))) .nil))) pa_nil)))
    (pss_one (ps_ret (pe_join pe_str (pv 4)))))), ?_⟩
  refine seq_asg (lst_read (cons_read ?_))
  refine head_read hb hp hn (fun R q => ⟨_, rfl, q⟩) (fun R q => ⟨_, rfl, q⟩) (fun R q => ⟨_, rfl, q⟩) ?_
  refine nil_read ⟨by show 1 ≤ sizeLine; decide, fun l nl => ?_⟩
  refine seq_for fun D' hD1 hD2 => ?_
  have s1 : Same H (upd H l (.lst [.str (headM (b : Int) (p : Int) (n : Int))])) := same_lay nl
  refine ⟨_, rfl, _, rfl, _, rfl, t, _, rfl, K2.Same.tup s1 hT, cut_not _ _, fun u nu => ?_⟩
  rw [show (-(1 : Int)) = -1 from rfl, cut_last]
  have hu : (upd (upd H l (.lst [.str (headM (b : Int) (p : Int) (n : Int))])) u (.tup (rs.map V.ref))) u = some (.tup (rs.map V.ref)) := upd_same
  refine ⟨u, rfl, ⟨_, SqT.of hu⟩, ?_⟩
  have nul : u ≠ l := fun z => by rw [z, upd_same] at nu; cases nu
  refine for_tup (K := K) (xs := rs.map V.ref) (fun i σ H' => ∃ x5 x6, σ = [some (.int (b : Int)), some (.int (p : Int)), some (.int (n : Int)), some (.ref t), some (.ref l), x5, x6] ∧ Same H H' ∧ H' u = some (.tup (rs.map V.ref)) ∧
      H' l = some (.lst ((headM (b : Int) (p : Int) (n : Int) :: (ini.take i).map lineM).map V.str))) ⟨none, none, rfl, s1.trans (same_lay nu), hu, ?_⟩ (fun i σ H' _ q => ?_) ?_ ?_
  · rw [upd_ne (Ne.symm nul), upd_same]; rfl
  · obtain ⟨_, _, _, _, q, _⟩ := q
    exact SqT.of q
  · rintro i x σ H' hi ⟨x5, x6, rfl, s2, q1, q2⟩
    rw [List.getElem?_map] at hi
    obtain ⟨a, ha, rfl⟩ : ∃ a, rs[i]? = some a ∧ V.ref a = x := by
      cases hq : rs[i]? with
      | none => rw [hq] at hi; cases hi
      | some a => rw [hq] at hi; exact ⟨a, rfl, Option.some.inj hi⟩
    obtain ⟨r, hr1, hr2⟩ := paired_get hP ha
    have hrok : RowOk p r := hini.1 r (List.mem_of_getElem? hr1)
    refine ⟨a, _, rfl, K2.Same.tup s2 hr2, rfl, _, _, rfl, _, _, rfl, rfl, ?_⟩
    refine ⟨_, rfl, .inl ⟨rfl, _, SqL.of q2⟩, ?_⟩
    refine line_read hp hrok (fun R q => ⟨_, rfl, q⟩) (fun R q => ⟨_, rfl, q⟩) ?_
    refine ⟨l, _, _, rfl, rfl, q2, ?_, _, _, rfl, fun b o e => ?_, ?_, ?_⟩
    · rw [List.length_map, List.length_cons, List.length_map, List.length_take, sizeLine_eq]
      have := hini.2
      omega
    · rw [upd_ne (ne_of_none e nl)]; exact s2 _ _ e
    · rw [upd_ne nul]; exact q1
    · rw [upd_same, List.take_add_one, hr1]
      simp
  · rintro σ H' ⟨x5, x6, rfl, s2, q1, q2⟩
    rw [hD1]
    have el : (rs.map V.ref).length = ini.length := by rw [List.length_map]; exact Paired.length hP
    rw [el, List.take_length] at q2
    refine ⟨_, rfl, .inl ⟨rfl, _, SqL.of q2⟩, ?_⟩
    refine any_read hy (fun R q => ⟨_, rfl, _, rfl, t, _, _, .ref rl, rfl, rfl, K2.Same.tup s2 hT, at_last _ _, rl, _, _, .str y, rfl, rfl, K2.Same.tup s2 hl, rfl, q⟩) ?_
    refine ⟨l, _, _, rfl, rfl, q2, ?_, ?_⟩
    · rw [List.length_map, List.length_cons, List.length_map, sizeLine_eq]
      have := hini.2
      omega
    have q3 : (upd H' l (.lst ((headM (b : Int) (p : Int) (n : Int) :: ini.map lineM).map V.str ++ [.str (anyM y)]))) l = some (.lst ((linesM (b : Int) (p : Int) (n : Int) ini y).map V.str)) := by
      rw [upd_same]
      unfold linesM
      simp
    refine ⟨⟨_, rfl⟩, _, rfl, _, l, linesM (b : Int) (p : Int) (n : Int) ini y, rfl, rfl, .inl (SqL.of q3), join_fits _ (lines_len b p n hb hp hn ini hini y hy), k _ fun c o e => ?_⟩
    rw [upd_ne (ne_of_none e nl)]; exact s2 _ _ e
end
end K2

set_option Elab.async false
set_option linter.all false
set_option maxRecDepth 100000
set_option maxHeartbeats 4000000
namespace K2
open PySem PySem.Spec PyProof.Rows L2 G1 G2
abbrev sDrv : Stmt := topS 35
abbrev sIni : Stmt := inClass sDrv 0
theorem scIni : FnScope ["self", "blocks", "pages", "names", "rows"] ["self", "blocks", "pages", "names", "rows"] (defScope sIni) := ⟨rfl, rfl, rfl, by decide +kernel, rfl, by decide +kernel, by decide +kernel⟩
/-- what the written part says of the class -/
structure DCls (K : PySem.W.Frag) (C : Addr) : Prop where
  cl : Cls K C
  nb : NoAttr K C "kept_blocks"
  np : NoAttr K C "kept_pages"
  nn : NoAttr K C "kept_names"
  nr : NoAttr K C "kept_rows"
  nt : NoAttr K C "kept_text"
def drvF (b p n : Nat) (t : Addr) (x : Str) : List (Str × V) := [("kept_blocks", .int (b : Int)), ("kept_pages", .int (p : Int)), ("kept_names", .int (n : Int)), ("kept_rows", .ref t), ("kept_text", .str x)]
def Keep (x : Addr) (H H' : Hp) : Prop := ∀ a o, H a = some o → a ≠ x → H' a = some o
theorem Keep.tup {K : PySem.W.Frag} {x a C dx : Addr} {H H' : Hp} {fs : List (Str × V)} {xs : List V} (k : Keep x H H') (hx : H x = some (.ins C dx fs)) (h : SqT K H a xs) : SqT K H' a xs := by
  rcases h with (h | ⟨o, h⟩) | h
  · exact .inl (.inl (k _ _ h (ne_of h hx (by intro z; cases z))))
  · exact .inl (.inr ⟨o, k _ _ h (ne_of h hx (by intro z; cases z))⟩)
  · exact .inr h
theorem Keep.rows {K : PySem.W.Frag} {x t C dx : Addr} {H H' : Hp} {fs : List (Str × V)} {rows : List RowD} (k : Keep x H H') (hx : H x = some (.ins C dx fs)) (h : RowsAt K H t rows) : RowsAt K H' t rows := by
  obtain ⟨rs, h1, h2⟩ := h
  exact ⟨rs, k.tup hx h1, Paired.mapP h2 fun _ _ z => k.tup hx z⟩
theorem Keep.refl (x : Addr) (H : Hp) : Keep x H H := fun _ _ h _ => h
theorem Keep.trans {x : Addr} {H H1 H2 : Hp} (a : Keep x H H1) (b : Keep x H1 H2) : Keep x H H2 := fun c o h n => b c o (a c o h n) n
theorem Keep.of {x : Addr} {H H' : Hp} (s : Same H H') : Keep x H H' := fun a o h _ => s a o h
theorem Keep.upd (x : Addr) (H : Hp) (o : HO) : Keep x H (L2.upd H x o) := fun a u h n => by rw [upd_ne n]; exact h
/-- what a drive is made of -/
structure DP (b p n : Nat) (ini : List RowD) (y : Str) : Prop where
  sz : Sz b p n
  few : cntM b p n ≤ 2000
  ini : IniOk p ini
  y : y ∈ wordsL
def spIni (K : PySem.W.Frag) (C : Addr) : Sp := fun vs H Q _ => ∃ (x dx t : Addr) (b p n : Nat) (ini : List RowD) (y : Str), vs = [.ref x, .int (b : Int), .int (p : Int), .int (n : Int), .ref t] ∧ H x = some (.ins C dx []) ∧ DP b p n ini y ∧ RowsAt K H t (ini ++ [((p : Int), y)]) ∧
  ∀ H' : Hp, Keep x H H' → H' x = some (.ins C dx (drvF b p n t (textM (b : Int) (p : Int) (n : Int) ini y))) → Q .non H'
/-- the defs that a drive is made with -/
structure Base (P : Program) (w : World) (K : PySem.W.Frag) (mg : Str → Option Value) (base : Heap) (fZ fR fT fC : Addr) (dZ dR dT dC : FuncData) : Prop where
  Z : FnOk P w K mg base CX0 3 fZ dZ ["blocks", "pages", "names"] spSiz
  kZ : PySem.W.keepIn K (.ref fZ) = true
  bZ : Binds K dZ ["blocks", "pages", "names"] []
  gZ : mg "check_sizes" = some (.ref fZ)
  R : FnOk P w K mg base CX0 4 fR dR ["rows", "pages"] (spChk K)
  kR : PySem.W.keepIn K (.ref fR) = true
  bR : Binds K dR ["rows", "pages"] []
  gR : mg "check_rows" = some (.ref fR)
  T : FnOk P w K mg base CX0 1 fT dT ["blocks", "pages", "names", "rows"] (spTxt K)
  kT : PySem.W.keepIn K (.ref fT) = true
  bT : Binds K dT ["blocks", "pages", "names", "rows"] []
  gT : mg "text_of" = some (.ref fT)
  C : FnOk P w K mg base CX0 2 fC dC ["blocks", "pages", "names"] spCnt
  kC : PySem.W.keepIn K (.ref fC) = true
  bC : Binds K dC ["blocks", "pages", "names"] []
  gC : mg "count_stands" = some (.ref fC)
theorem rows_ok {p : Nat} {ini : List RowD} {y : Str} (h : IniOk p ini) (hy : y ∈ wordsL) : (∀ r ∈ ini ++ [((p : Int), y)], RowOk p r) ∧ (ini ++ [((p : Int), y)]).length ≤ 4 := by
  refine ⟨fun r hr => ?_, ?_⟩
  · rcases List.mem_append.mp hr with hr | hr
    · exact h.1 r hr
    · rw [List.mem_singleton.mp hr]
      exact ⟨by omega, by omega, hy⟩
  · rw [List.length_append]
    have := h.2
    simp
    omega
section
variable {P : Program} {w : World} {K : PySem.W.Frag} {mg : Str → Option Value} {base : Heap}
theorem ok_ini {f C fZ fR fT fC : Addr} {fd dZ dR dT dC : FuncData} (F : Fun K "__init__" "Drive.__init__" sIni f fd) (T : DCls K C) (Cm : Cn mg) (G : Base P w K mg base fZ fR fT fC dZ dR dT dC) :
    FnOk P w K mg base CX0 5 f fd ["self", "blocks", "pages", "names", "rows"] (spIni K C) := by
  refine F.ok scIni (fun vs H Q E h => ?_) (fun cdv A outer s H vs Q E hr h => ?_)
  · obtain ⟨x, dx, t, b, p, n, ini, y, rfl, _⟩ := h
    rfl
  obtain ⟨x, dx, t, b, p, n, ini, y, rfl, hx, ⟨hz, hfew, hini, hy⟩, hR, k⟩ := h
  obtain ⟨tm, cm⟩ := Cm.ms
  have hr1 : Room 1 _ := hr.mono (by decide)
  have hr2 : Room 2 _ := hr.mono (by decide)
  have hr3 : Room 3 _ := hr.mono (by decide)
  refine ⟨_, pss_cons (ps_expr (pe_call G.Z hr3 (by rfl) G.gZ G.kZ G.bZ .nil pass0 (pa_cons (pv 1) (pa_cons (pv 2) (pa_cons (pv 3) pa_nil)))))
    (pss_cons (ps_expr (pe_call G.R hr (by rfl) G.gR G.kR G.bR .nil pass0 (pa_cons (pv 4) (pa_cons (pv 2) pa_nil))))
    (pss_cons (ps_fld (pv 0) (pv 1) rfl) (pss_cons (ps_fld (pv 0) (pv 2) rfl) (pss_cons (ps_fld (pv 0) (pv 3) rfl) (pss_cons (ps_fld (pv 0) (pv 4) rfl)
    (pss_cons (ps_fld (pv 0) (pe_call G.T hr1 (by rfl) G.gT G.kT G.bT .nil pass0 (pa_cons (pv 1) (pa_cons (pv 2) (pa_cons (pv 3) (pa_cons (pv 4) pa_nil))))) rfl)
    (pss_one (ps_if (pt_cmpR op_gt (pe_call G.C hr2 (by rfl) G.gC G.kC G.bC .nil pass0 (pa_cons (pv 1) (pa_cons (pv 2) (pa_cons (pv 3) pa_nil)))) (pe_glob (v := .int 2000) rfl cm ⟨_, rfl⟩) (nomark _)) (pss_one ps_never) pss_nil)))))))), ?_⟩
  refine ⟨_, rfl, _, rfl, _, rfl, b, p, n, rfl, hz, ?_⟩
  refine ⟨_, rfl, _, rfl, t, p, _, rfl, hR, (rows_ok hini hy).1, (rows_ok hini hy).2, ⟨ini, y, rfl⟩, fun H1 s1 => ?_⟩
  have hx1 := s1 _ _ hx
  refine ⟨_, rfl, _, rfl, x, C, dx, _, rfl, hx1, T.cl, T.nb, by decide, ?_⟩
  refine ⟨_, rfl, _, rfl, x, C, dx, _, rfl, upd_same, T.cl, T.np, by show 1 < 1000; decide, ?_⟩
  rw [upd_upd]
  refine ⟨_, rfl, _, rfl, x, C, dx, _, rfl, upd_same, T.cl, T.nn, by show 2 < 1000; decide, ?_⟩
  rw [upd_upd]
  refine ⟨_, rfl, _, rfl, x, C, dx, _, rfl, upd_same, T.cl, T.nr, by show 3 < 1000; decide, ?_⟩
  rw [upd_upd]
  have k1 := Keep.upd x H1 (.ins C dx [("kept_blocks", .int (b : Int)), ("kept_pages", .int (p : Int)), ("kept_names", .int (n : Int)), ("kept_rows", .ref t)])
  have e1 : (upd H1 x (.ins C dx [("kept_blocks", .int (b : Int)), ("kept_pages", .int (p : Int)), ("kept_names", .int (n : Int)), ("kept_rows", .ref t)])) x = some (.ins C dx [("kept_blocks", .int (b : Int)), ("kept_pages", .int (p : Int)), ("kept_names", .int (n : Int)), ("kept_rows", .ref t)]) := upd_same
  show tSeq _ _ _ _ (upd H1 x (.ins C dx [("kept_blocks", .int (b : Int)), ("kept_pages", .int (p : Int)), ("kept_names", .int (n : Int)), ("kept_rows", .ref t)]))
  generalize upd H1 x (.ins C dx [("kept_blocks", .int (b : Int)), ("kept_pages", .int (p : Int)), ("kept_names", .int (n : Int)), ("kept_rows", .ref t)]) = H2 at k1 e1 ⊢
  have kA : Keep x H H2 := (Keep.of s1).trans k1
  have n25 := hz.n25
  have hp1 := hz.p1
  have hb1 := hz.b1
  refine ⟨_, rfl, _, rfl, _, rfl, _, rfl, b, p, n, t, ini, y, rfl, by omega, by omega, n25, kA.rows hx hR, hini, hy, fun H3 s3 => ?_⟩
  refine ⟨_, rfl, x, C, dx, _, rfl, s3 _ _ e1, T.cl, T.nt, by show 4 < 1000; decide, ?_⟩
  have hb0 := hz.b0
  have hn0 := hz.n0
  refine ⟨_, rfl, _, rfl, _, rfl, b, p, n, rfl, by omega, hn0, n25, by omega, by omega, fun H4 s4 => ?_⟩
  refine ⟨_, _, rfl, rfl, _, rfl, ?_⟩
  have z : decide ((2000 : Int) < cntM b p n) = false := decide_eq_false (by omega)
  show (if decide ((2000 : Int) < cntM b p n) = true then _ else _)
  rw [z]
  refine iteF (k H4 ?_ ?_)
  · exact kA.trans ((Keep.of s3).trans ((Keep.upd x H3 _).trans (Keep.of s4)))
  · exact s4 _ _ upd_same
end
end K2

set_option Elab.async false
set_option linter.all false
set_option maxRecDepth 100000
set_option maxHeartbeats 4000000
namespace K2
open PySem PySem.Spec PyProof.Rows L2 G1 G2
abbrev sNum : Stmt := topS 30
abbrev sRof : Stmt := topS 31
theorem scNum : FnScope ["word"] ["word"] (defScope sNum) := ⟨rfl, rfl, rfl, by decide +kernel, rfl, by decide +kernel, by decide +kernel⟩
theorem scRof : FnScope ["line", "pages", "start", "colon", "word", "limit"] ["line", "pages"] (defScope sRof) := ⟨rfl, rfl, rfl, by decide +kernel, rfl, by decide +kernel, by decide +kernel⟩
theorem num_facts : ∀ i : Nat, i < 26 → Txt.isascii (numS (i : Int)) = true ∧ Txt.isdigit (numS (i : Int)) = true ∧ PySem.intText? (numS (i : Int)) = some (i : Int) := by decide +kernel
theorem line_facts : ∀ l : Nat, l < 6 → ∀ w ∈ wordsL, Txt.partition (lineM ((l : Int), w)) (Str.ofString ": ") = (Str.ofString "at most " ++ numS (l : Int), Str.ofString ": ", w) ∧ (Str.ofString "at most " ++ numS (l : Int) = Str.ofString "any") = False ∧
    Txt.removeprefix (Str.ofString "at most " ++ numS (l : Int)) (Str.ofString "at most ") = numS (l : Int) := by
  have z : ∀ l : Nat, l < 6 → ∀ w ∈ wordsL, Txt.partition (lineM ((l : Int), w)) (Str.ofString ": ") = (Str.ofString "at most " ++ numS (l : Int), Str.ofString ": ", w) ∧ ¬ (Str.ofString "at most " ++ numS (l : Int) = Str.ofString "any") ∧
    Txt.removeprefix (Str.ofString "at most " ++ numS (l : Int)) (Str.ofString "at most ") = numS (l : Int) := by decide +kernel
  intro l hl w hw
  obtain ⟨a, b, c⟩ := z l hl w hw
  exact ⟨a, eq_false b, c⟩
theorem any_facts : ∀ w ∈ wordsL, Txt.partition (anyM w) (Str.ofString ": ") = (Str.ofString "any", Str.ofString ": ", w) := by decide +kernel
def spNum : Sp := fun vs H Q _ => ∃ i : Nat, vs = [.str (numS (i : Int))] ∧ i < 26 ∧ Q (.int (i : Int)) H
def LineOf (p : Nat) (ln : Str) (r : RowD) : Prop := (ln = lineM r ∧ RowOk p r) ∨ (ln = anyM r.2 ∧ r.1 = (p : Int) ∧ r.2 ∈ wordsL)
def spRof : Sp := fun vs H Q _ => ∃ (p : Nat) (ln : Str) (r : RowD), vs = [.str ln, .int (p : Int)] ∧ p < 6 ∧ LineOf p ln r ∧ ∀ (H' : Hp) (q : Addr), Same H H' → H q = none → H' q = some (.tup [.int r.1, .str r.2]) → Q (.ref q) H'
section
variable {P : Program} {w : World} {K : PySem.W.Frag} {mg : Str → Option Value} {base : Heap}
theorem ok_num {f : Addr} {fd : FuncData} (F : Fun K "number_of" "number_of" sNum f fd) (B : Bl mg) (C : Cn mg) : FnOk P w K mg base CX0 1 f fd ["word"] spNum := by
  refine F.ok scNum (fun vs H Q E h => ?_) (fun cdv A outer s H vs Q E hr h => ?_)
  · obtain ⟨i, rfl, _⟩ := h
    rfl
  obtain ⟨i, rfl, hi, k⟩ := h
  obtain ⟨tm, cm⟩ := C.md
  obtain ⟨f1, f2, f3⟩ := num_facts i hi
  have f4 := num_len i hi
  refine ⟨_, pss_cons (ps_if (PW.pt (pw_and (pt_val (pe_bm0 PySem.F.plainAttrs_str PySem.F.slot_str_isascii PySem.F.type_str_isascii mt_isascii (pv 0)))
      (pw_and (pt_val (pe_bm0 PySem.F.plainAttrs_str PySem.F.slot_str_isdigit PySem.F.type_str_isdigit mt_isdigit (pv 0)))
      (pw_and1 (pt_cmpR op_le (pe_callB call_len (by rfl) B.len PySem.boot_len (pa_cons (pv 0) pa_nil)) (pe_glob (v := .int 2) rfl cm ⟨_, rfl⟩) (nomark _))))))
      (pss_one (ps_ret (pe_callTy call_int_str (by rfl) B.int bInt (pa_cons (pv 0) pa_nil)))) pss_nil)
    (pss_one (ps_ret pe_non)), ?_⟩
  refine ⟨_, rfl, rfl, _, rfl, rfl, trivial, _, rfl, ?_⟩
  rw [f1]
  refine iteT ⟨_, rfl, rfl, _, rfl, rfl, trivial, _, rfl, ?_⟩
  rw [f2]
  refine iteT ⟨_, rfl, _, _, rfl, ⟨small_line (by omega), rfl⟩, _, _, rfl, rfl, _, rfl, ?_⟩
  have z : decide (((numS (i : Int)).length : Int) ≤ 2) = true := decide_eq_true (by omega)
  show (if decide (((numS (i : Int)).length : Int) ≤ 2) = true then _ else _)
  rw [z]
  exact iteT ⟨_, rfl, _, _, rfl, f3, by omega, k⟩
theorem ok_rof {f fN : Addr} {fd fdN : FuncData} (F : Fun K "row_of" "row_of" sRof f fd) (GN : FnOk P w K mg base CX0 1 fN fdN ["word"] spNum) (kN : PySem.W.keepIn K (.ref fN) = true) (bN : Binds K fdN ["word"] []) (gN : mg "number_of" = some (.ref fN)) :
    FnOk P w K mg base CX0 2 f fd ["line", "pages"] spRof := by
  refine F.ok scRof (fun vs H Q E h => ?_) (fun cdv A outer s H vs Q E hr h => ?_)
  · obtain ⟨p, ln, r, rfl, _⟩ := h
    rfl
  obtain ⟨p, ln, ⟨l, x⟩, rfl, hp, hl, k⟩ := h
  refine ⟨_, pss_cons (ps_asg (pe_partition (pv 0) pe_str) (pg_tup rfl (pgs_cons (pg_name (i := 2) scRof.nd rfl (.inl rfl)) (pgs_cons (pg_name (i := 3) scRof.nd rfl (.inl rfl)) (pgs_cons (pg_name (i := 4) scRof.nd rfl (.inl rfl)) pgs_nil)))))
    (pss_cons (ps_set (i := 5) scRof.nd rfl (.inl rfl) (pe_ifExp (pt_cmpR op_eq (pv 2) pe_str (nomark _)) (pv 1)
      (pe_call GN hr (by rfl) gN kN bN .nil pass0 (pa_cons (pe_bm PySem.F.plainAttrs_str PySem.F.slot_str_removeprefix PySem.F.type_str_removeprefix mt_removeprefix (pv 2) (pa_cons pe_str pa_nil)) pa_nil))))
    (pss_one (ps_ret (pe_tup (pa_cons (pv 5) (pa_cons (pv 4) pa_nil)))))), ?_⟩
  have lnl : ln.length ≤ sizeLine := by
    rcases hl with ⟨rfl, h⟩ | ⟨rfl, _, h⟩
    · exact small_line (Nat.le_trans (len_line _ p (by omega) h) (by decide))
    · exact small_line (Nat.le_trans (len_any _ h) (by decide))
  refine ⟨_, rfl, ⟨_, rfl⟩, _, _, rfl, rfl, by decide +kernel, lnl, fun t nt => ?_⟩
  refine ⟨t, _, rfl, SqT.of upd_same, rfl, _, _, rfl, _, _, rfl, _, _, rfl, rfl, ?_⟩
  have s1 : Same H (upd H t (.tup [.str (Txt.partition ln (Str.ofString ": ")).1, .str (Txt.partition ln (Str.ofString ": ")).2.1, .str (Txt.partition ln (Str.ofString ": ")).2.2])) := same_lay nt
  generalize upd H t (.tup [.str (Txt.partition ln (Str.ofString ": ")).1, .str (Txt.partition ln (Str.ofString ": ")).2.1, .str (Txt.partition ln (Str.ofString ": ")).2.2]) = H1 at s1 ⊢
  dsimp only
  refine seq_asg ?_
  rcases hl with ⟨rfl, h1, h2, h3⟩ | ⟨rfl, rfl, h3⟩
  · obtain ⟨j, rfl⟩ : ∃ j : Nat, l = (j : Int) := ⟨l.toNat, by show l = _; dsimp only at h1; omega⟩
    have hj : j < 6 := by dsimp only at h2; omega
    obtain ⟨e1, e2, e3⟩ := line_facts j hj x h3
    rw [e1]
    dsimp only
    refine ⟨_, rfl, rfl, _, rfl, ?_⟩
    have z : decide (V.str (Str.ofString "at most " ++ numS (j : Int)) = V.str (Str.ofString "any")) = false := decide_eq_false (fun z => by injection z with z; rw [e2] at z; exact z)
    show (if decide (V.str (Str.ofString "at most " ++ numS (j : Int)) = V.str (Str.ofString "any")) = true then _ else _)
    rw [z]
    refine iteF ⟨_, rfl, rfl, _, _, rfl, rfl, ?_, j, ?_, by omega, ?_⟩
    · rw [Str.length_append]
      have := num_len j (by omega)
      have e : (Str.ofString "at most ").length = 8 := by decide +kernel
      exact small_line (by omega)
    · rw [e3]; rfl
    · exact ⟨_, rfl, _, rfl, by show 2 ≤ sizeLine; decide, fun q nq => k _ q (s1.trans (same_lay nq)) (s1.free nq) upd_same⟩
  · dsimp only
    rw [any_facts x h3]
    dsimp only
    refine ⟨_, rfl, rfl, _, rfl, ?_⟩
    have z : decide (V.str (Str.ofString "any") = V.str (Str.ofString "any")) = true := decide_eq_true rfl
    show (if decide (V.str (Str.ofString "any") = V.str (Str.ofString "any")) = true then _ else _)
    rw [z]
    refine iteT ⟨_, rfl, ?_⟩
    exact ⟨_, rfl, _, rfl, by show 2 ≤ sizeLine; decide, fun q nq => k _ q (s1.trans (same_lay nq)) (s1.free nq) upd_same⟩
end
end K2

set_option Elab.async false
set_option linter.all false
set_option maxRecDepth 100000
set_option maxHeartbeats 4000000
namespace K2
open PySem PySem.Spec PyProof.Rows L2 G1 G2
abbrev sPar : Stmt := topS 32
abbrev NP : List Str := ["text", "head", "lines", "words", "blocks", "pages", "names", "word", "rows", "line"]
theorem scPar : FnScope NP ["text"] (defScope sPar) := ⟨rfl, rfl, rfl, by decide +kernel, rfl, by decide +kernel, by decide +kernel⟩
theorem join_len (sep : Str) (B : Nat) : ∀ l : List Str, (∀ x ∈ l, x.length ≤ B) → (Str.join sep l).length ≤ l.length * (B + sep.length)
  | [], _ => by
    show Str.empty.length ≤ _
    have e : Str.empty.length = 0 := by decide +kernel
    rw [e]
    exact Nat.zero_le _
  | [x], h => by
    show x.length ≤ 1 * (B + sep.length)
    have := h x (List.mem_singleton.mpr rfl)
    omega
  | x :: z :: r, h => by
    show (x ++ sep ++ Str.join sep (z :: r)).length ≤ _
    have h1 := h x (List.mem_cons_self ..)
    have h2 := join_len sep B (z :: r) fun y hy => h y (List.mem_cons_of_mem _ hy)
    rw [Str.length_append, Str.length_append, List.length_cons, Nat.succ_mul]
    omega
theorem text_len (b p n : Nat) (hb : b < 26) (hp : p < 26) (hn : n < 26) (ini : List RowD) (hi : IniOk p ini) (y : Str) (hy : y ∈ wordsL) : (textM (b : Int) (p : Int) (n : Int) ini y).length ≤ 205 := by
  have z := lines_len b p n hb hp hn ini hi y hy
  unfold textM
  rw [TL.join_eq]
  have q := join_len (Str.ofString "\n") 40 _ z.1
  have e : (Str.ofString "\n").length = 1 := by decide +kernel
  rw [e] at q
  have q2 : (linesM (b : Int) (p : Int) (n : Int) ini y).length * (40 + 1) ≤ 5 * 41 := Nat.mul_le_mul z.2 (Nat.le_refl _)
  omega
theorem num_nl : ∀ i : Nat, i < 26 → 10 ∉ TL.tl (numS (i : Int)) ∧ 32 ∉ TL.tl (numS (i : Int)) := by decide +kernel
theorem nl_head (b p n : Nat) (hb : b < 26) (hp : p < 26) (hn : n < 26) : 10 ∉ TL.tl (headM (b : Int) (p : Int) (n : Int)) := by
  have h1 := (num_nl b hb).1
  have h2 := (num_nl p hp).1
  have h3 := (num_nl n hn).1
  have c0 : 10 ∉ TL.tl Str.empty := by decide +kernel
  have c1 : 10 ∉ TL.tl (Str.ofString "drive ") := by decide +kernel
  have c2 : 10 ∉ TL.tl (Str.ofString " blocks ") := by decide +kernel
  have c3 : 10 ∉ TL.tl (Str.ofString " pages ") := by decide +kernel
  have c4 : 10 ∉ TL.tl (Str.ofString " names") := by decide +kernel
  unfold headM
  rw [TL.tl_append, TL.tl_append, TL.tl_append, TL.tl_append, TL.tl_append, TL.tl_append, TL.tl_append]
  intro h
  simp only [List.mem_append] at h
  rcases h with ((((((h | h) | h) | h) | h) | h) | h) | h <;> contradiction
theorem nl_line : ∀ l : Nat, l < 6 → ∀ w ∈ wordsL, 10 ∉ TL.tl (lineM ((l : Int), w)) := by decide +kernel
theorem nl_any : ∀ w ∈ wordsL, 10 ∉ TL.tl (anyM w) := by decide +kernel
theorem app_assoc (a b c : Str) : a ++ b ++ c = a ++ (b ++ c) := by
  show (⟨(a.cps ++ b.cps) ++ c.cps⟩ : Str) = ⟨a.cps ++ (b.cps ++ c.cps)⟩
  rw [Array.append_assoc]
theorem split_head (b p n : Nat) (hb : b < 26) (hp : p < 26) (hn : n < 26) : Txt.split (headM (b : Int) (p : Int) (n : Int)) (Str.ofString " ") = [Str.ofString "drive", numS (b : Int), Str.ofString "blocks", numS (p : Int), Str.ofString "pages", numS (n : Int), Str.ofString "names"] := by
  have e : headM (b : Int) (p : Int) (n : Int) = Txt.join (Str.ofString " ") [Str.ofString "drive", numS (b : Int), Str.ofString "blocks", numS (p : Int), Str.ofString "pages", numS (n : Int), Str.ofString "names"] := by
    rw [TL.join_eq]
    show headM (b : Int) (p : Int) (n : Int) = Str.ofString "drive" ++ Str.ofString " " ++ (numS (b : Int) ++ Str.ofString " " ++ (Str.ofString "blocks" ++ Str.ofString " " ++ (numS (p : Int) ++ Str.ofString " " ++ (Str.ofString "pages" ++ Str.ofString " " ++ (numS (n : Int) ++ Str.ofString " " ++ Str.ofString "names")))))
    have e1 : Str.ofString "drive " = Str.ofString "drive" ++ Str.ofString " " := by decide +kernel
    have e2 : Str.ofString " blocks " = Str.ofString " " ++ (Str.ofString "blocks" ++ Str.ofString " ") := by decide +kernel
    have e3 : Str.ofString " pages " = Str.ofString " " ++ (Str.ofString "pages" ++ Str.ofString " ") := by decide +kernel
    have e4 : Str.ofString " names" = Str.ofString " " ++ Str.ofString "names" := by decide +kernel
    unfold headM
    rw [empty_app, e1, e2, e3, e4]
    simp only [app_assoc]
  rw [e]
  refine TL.split_join (s := 32) (S := []) (by decide +kernel) (by decide +kernel) (by simp) fun x hx => ?_
  have c1 : 32 ∉ TL.tl (Str.ofString "drive") := by decide +kernel
  have c2 : 32 ∉ TL.tl (Str.ofString "blocks") := by decide +kernel
  have c3 : 32 ∉ TL.tl (Str.ofString "pages") := by decide +kernel
  have c4 : 32 ∉ TL.tl (Str.ofString "names") := by decide +kernel
  simp only [List.mem_cons, List.mem_nil_iff, or_false] at hx
  rcases hx with rfl | rfl | rfl | rfl | rfl | rfl | rfl
  · exact c1
  · exact (num_nl b hb).2
  · exact c2
  · exact (num_nl p hp).2
  · exact c3
  · exact (num_nl n hn).2
  · exact c4
theorem split_text (b p n : Nat) (hb : b < 26) (hp : p < 6) (hn : n < 26) (ini : List RowD) (hi : IniOk p ini) (y : Str) (hy : y ∈ wordsL) : Txt.split (textM (b : Int) (p : Int) (n : Int) ini y) (Str.ofString "\n") = linesM (b : Int) (p : Int) (n : Int) ini y := by
  unfold textM
  refine TL.split_join (s := 10) (S := []) (by decide +kernel) (by decide +kernel) (by unfold linesM; simp) fun x hx => ?_
  unfold linesM at hx
  rcases List.mem_cons.mp hx with rfl | hx
  · exact nl_head b p n hb (by omega) hn
  rcases List.mem_append.mp hx with hx | hx
  · obtain ⟨⟨l, w⟩, hr, rfl⟩ := List.mem_map.mp hx
    obtain ⟨a1, a2, a3⟩ := hi.1 _ hr
    dsimp only at a1 a2 a3
    obtain ⟨j, rfl⟩ : ∃ j : Nat, l = (j : Int) := ⟨l.toNat, by omega⟩
    exact nl_line j (by omega) w a3
  · rw [List.mem_singleton.mp hx]
    exact nl_any y hy
end K2

set_option Elab.async false
set_option linter.all false
set_option maxRecDepth 100000
set_option maxHeartbeats 4000000
namespace K2
open PySem PySem.Spec PyProof.Rows L2 G1 G2
def spPar (K : PySem.W.Frag) : Sp := fun vs H Q _ => ∃ (b p n : Nat) (ini : List RowD) (y : Str), vs = [.str (textM (b : Int) (p : Int) (n : Int) ini y)] ∧ b < 26 ∧ p < 6 ∧ n < 26 ∧ IniOk p ini ∧ y ∈ wordsL ∧
  ∀ (H' : Hp) (t q : Addr), Same H H' → RowsAt K H' t (ini ++ [((p : Int), y)]) → H' q = some (.tup [.int (b : Int), .int (p : Int), .int (n : Int), .ref t]) → Q (.ref q) H'
theorem lines_of (p : Nat) (ini : List RowD) (hi : IniOk p ini) (y : Str) (hy : y ∈ wordsL) (i : Nat) (x : V) (h : ((ini.map lineM ++ [anyM y]).map V.str)[i]? = some x) : ∃ (ln : Str) (r : RowD), x = .str ln ∧ (ini ++ [((p : Int), y)])[i]? = some r ∧ LineOf p ln r := by
  rw [List.getElem?_map] at h
  by_cases hlt : i < ini.length
  · have e1 : (ini.map lineM ++ [anyM y])[i]? = some (lineM ini[i]) := by
      rw [List.getElem?_append_left (by rw [List.length_map]; exact hlt), List.getElem?_map, List.getElem?_eq_getElem hlt]
      rfl
    rw [e1] at h
    refine ⟨lineM ini[i], ini[i], (Option.some.inj h).symm, ?_, .inl ⟨rfl, hi.1 _ (List.getElem_mem _)⟩⟩
    rw [List.getElem?_append_left hlt, List.getElem?_eq_getElem hlt]
  · by_cases he : i = ini.length
    · subst he
      have e1 : (ini.map lineM ++ [anyM y])[ini.length]? = some (anyM y) := by
        rw [List.getElem?_append_right (by rw [List.length_map]; exact Nat.le_refl _), List.length_map, Nat.sub_self]
        rfl
      rw [e1] at h
      refine ⟨anyM y, ((p : Int), y), (Option.some.inj h).symm, ?_, .inr ⟨rfl, rfl, hy⟩⟩
      rw [List.getElem?_append_right (Nat.le_refl _), Nat.sub_self]
      rfl
    · have e1 : (ini.map lineM ++ [anyM y])[i]? = none := List.getElem?_eq_none (by simp; omega)
      rw [e1] at h
      cases h
theorem paired_snoc {α β : Type} {F : α → β → Prop} : ∀ {l : List α} {m : List β} {a : α} {b : β}, Paired F l m → F a b → Paired F (l ++ [a]) (m ++ [b])
  | _, _, _, _, .nil, h => .cons h .nil
  | _, _, _, _, .cons r t, h => .cons r (paired_snoc t h)
section
variable {P : Program} {w : World} {K : PySem.W.Frag} {mg : Str → Option Value} {base : Heap}
theorem ok_par {f fN fR fT : Addr} {fd fdN fdR fdT : FuncData} (F : Fun K "parts_of" "parts_of" sPar f fd) (B : Bl mg) (C : Cn mg)
    (GN : FnOk P w K mg base CX0 1 fN fdN ["word"] spNum) (kN : PySem.W.keepIn K (.ref fN) = true) (bN : Binds K fdN ["word"] []) (gN : mg "number_of" = some (.ref fN))
    (GR : FnOk P w K mg base CX0 2 fR fdR ["line", "pages"] spRof) (kR : PySem.W.keepIn K (.ref fR) = true) (bR : Binds K fdR ["line", "pages"] []) (gR : mg "row_of" = some (.ref fR))
    (GT : FnOk P w K mg base CX0 1 fT fdT ["blocks", "pages", "names", "rows"] (spTxt K)) (kT : PySem.W.keepIn K (.ref fT) = true) (bT : Binds K fdT ["blocks", "pages", "names", "rows"] []) (gT : mg "text_of" = some (.ref fT)) :
    FnOk P w K mg base CX0 3 f fd ["text"] (spPar K) := by
  refine F.ok scPar (fun vs H Q E h => ?_) (fun cdv A outer s H vs Q E hr h => ?_)
  · obtain ⟨b, p, n, ini, y, rfl, _⟩ := h
    rfl
  obtain ⟨b, p, n, ini, y, rfl, hb, hp, hn, hini, hy, k⟩ := h
  obtain ⟨tw, cw⟩ := C.wh
  have hr1 : Room 1 _ := hr.mono (by decide)
  refine ⟨_, pss_cons (ps_asg (pe_split (pv 0) pe_str) (pg_star rfl (pg_name (i := 1) scPar.nd rfl (.inl rfl)) (pg_name (i := 2) scPar.nd rfl (.inl rfl))))
    (pss_cons (ps_set (i := 3) scPar.nd rfl (.inl rfl) (pe_split (pv 1) pe_str))
    (pss_cons (ps_if (PW.pt (pw_or (pt_cmpR op_ne (pe_callB call_len_seq (by rfl) B.len PySem.boot_len (pa_cons (pv 3) pa_nil)) (pe_glob (v := .int 7) rfl cw ⟨_, rfl⟩) (nomark _)) (pw_or1 (pt_not (pt_truth (pv 2) (by intro _; rfl)))))) (pss_one (ps_ret pe_non)) pss_nil)
    (pss_cons (ps_asg (pe_lc (own := [("word", 7)]) (g := gName 7) (tt := tYes) (te := tCall spNum [] E0 (tCons (tVar 7) tNil)) rfl scPar.nd (pi_list (pe_odd (pv 3))) (blkOk_by (own := [("word", 7)]) (N := NP) (sc := defScope sPar) (by decide +kernel))
        (fun _ _ _ _ _ => pg_name (i := 7) scPar.nd rfl (Or.inl rfl)) (fun _ _ _ _ _ => pts_nil) (fun _ _ _ _ _ => pe_call GN hr1 (by rfl) gN kN bN .nil pass0 (pa_cons (pv 7) pa_nil)))
      (pg_unl rfl (pgs_cons (pg_name (i := 4) scPar.nd rfl (.inl rfl)) (pgs_cons (pg_name (i := 5) scPar.nd rfl (.inr rfl)) (pgs_cons (pg_name (i := 6) scPar.nd rfl (.inl rfl)) pgs_nil)))))
    (pss_cons (ps_set (i := 8) scPar.nd rfl (.inl rfl) (pe_callTy call_tuple_of (by rfl) B.tup bTup (pa_cons (pe_lc (own := [("line", 9)]) (g := gName 9) (tt := tYes) (te := tCall spRof [] E0 (tCons (tVar 9) (tCons (tVar 5) tNil))) rfl scPar.nd (pi_list (pv 2))
        (blkOk_by (own := [("line", 9)]) (N := NP) (sc := defScope sPar) (by decide +kernel)) (fun _ _ _ _ _ => pg_name (i := 9) scPar.nd rfl (Or.inl rfl)) (fun _ _ _ _ _ => pts_nil)
        (fun _ _ _ _ _ => pe_call GR hr (by rfl) gR kR bR .nil pass0 (pa_cons (pv 9) (pa_cons (pv 5) pa_nil)))) pa_nil)))
    (pss_cons (ps_if (pt_cmpR op_ne (pe_call GT hr1 (by rfl) gT kT bT .nil pass0 (pa_cons (pv 4) (pa_cons (pv 5) (pa_cons (pv 6) (pa_cons (pv 8) pa_nil))))) (pv 0) (nomark _)) (pss_one (ps_ret pe_non)) pss_nil)
    (pss_one (ps_ret (pe_tup (pa_cons (pv 4) (pa_cons (pv 5) (pa_cons (pv 6) (pa_cons (pv 8) pa_nil)))))))))))), ?_⟩
  have tl := text_len b p n hb (by omega) hn ini hini y hy
  refine ⟨_, rfl, ⟨_, rfl⟩, _, _, rfl, rfl, by decide +kernel, ?_, fun l nl => ?_⟩
  · rw [sizeLine_eq]; omega
  rw [split_text b p n hb hp hn ini hini y hy]
  have s1 : Same H (upd H l (.lst ((linesM (b : Int) (p : Int) (n : Int) ini y).map V.str))) := same_lay nl
  have e1 : (upd H l (.lst ((linesM (b : Int) (p : Int) (n : Int) ini y).map V.str))) l = some (.lst (.str (headM (b : Int) (p : Int) (n : Int)) :: (ini.map lineM ++ [anyM y]).map V.str)) := upd_same
  generalize upd H l (.lst ((linesM (b : Int) (p : Int) (n : Int) ini y).map V.str)) = H1 at s1 e1 ⊢
  have hi3 := hini.2
  refine ⟨l, _, _, rfl, SqL.of e1, ?_, fun l2 n2 => ?_⟩
  · simp
    omega
  have s2 : Same H (upd H1 l2 (.lst ((ini.map lineM ++ [anyM y]).map V.str))) := s1.trans (same_lay n2)
  have e2 : (upd H1 l2 (.lst ((ini.map lineM ++ [anyM y]).map V.str))) l2 = some (.lst ((ini.map lineM ++ [anyM y]).map V.str)) := upd_same
  generalize upd H1 l2 (.lst ((ini.map lineM ++ [anyM y]).map V.str)) = H2 at s2 e2 ⊢
  have hl := len_head b p n hb (by omega) hn
  refine ⟨_, rfl, ⟨_, rfl⟩, _, _, rfl, rfl, by decide +kernel, ?_, fun l3 n3 => ?_⟩
  · rw [sizeLine_eq]; omega
  rw [split_head b p n hb (by omega) hn]
  have s3 : Same H2 (upd H2 l3 (.lst ([Str.ofString "drive", numS (b : Int), Str.ofString "blocks", numS (p : Int), Str.ofString "pages", numS (n : Int), Str.ofString "names"].map V.str))) := same_lay n3
  have e3 : (upd H2 l3 (.lst ([Str.ofString "drive", numS (b : Int), Str.ofString "blocks", numS (p : Int), Str.ofString "pages", numS (n : Int), Str.ofString "names"].map V.str))) l3 = some (.lst [.str (Str.ofString "drive"), .str (numS (b : Int)), .str (Str.ofString "blocks"), .str (numS (p : Int)), .str (Str.ofString "pages"), .str (numS (n : Int)), .str (Str.ofString "names")]) := upd_same
  generalize upd H2 l3 (.lst ([Str.ofString "drive", numS (b : Int), Str.ofString "blocks", numS (p : Int), Str.ofString "pages", numS (n : Int), Str.ofString "names"].map V.str)) = H3 at s3 e3 ⊢
  refine ⟨_, rfl, l3, _, rfl, .inl (SqL.of e3), rfl, _, rfl, iteF ?_⟩
  refine ⟨_, rfl, true, .inl ⟨_, SqL.of (s3 _ _ e2), ?_⟩, iteF ?_⟩
  · cases ini <;> rfl
  unfold tNext
  dsimp only
  refine seq_asg ?_
  refine ⟨_, rfl, l3, _, _, _, _, _, _, _, rfl, SqL.of e3, fun l4 n4 => ?_⟩
  have e4 : (upd H3 l4 (.lst [.str (numS (b : Int)), .str (numS (p : Int)), .str (numS (n : Int))])) l4 = some (.lst ([numS (b : Int), numS (p : Int), numS (n : Int)].map V.str)) := upd_same
  have s4 : Same H3 (upd H3 l4 (.lst [.str (numS (b : Int)), .str (numS (p : Int)), .str (numS (n : Int))])) := same_lay n4
  generalize upd H3 l4 (.lst [.str (numS (b : Int)), .str (numS (p : Int)), .str (numS (n : Int))]) = H4 at s4 e4 ⊢
  refine ⟨l4, rfl, ⟨_, SqL.of e4⟩, fun D nD => ?_⟩
  refine lc_list (K := K) (a := l4) (xs := [numS (b : Int), numS (p : Int), numS (n : Int)].map V.str) (fun i H' => Same H4 H' ∧ H' D = some (.lst (([(b : Int), (p : Int), (n : Int)].take i).map V.int))) ⟨same_lay nD, by rw [upd_same]; rfl⟩ (fun i H' _ q => SqL.of (q.1 _ _ e4)) ?_ ?_
  · rintro i x H' hi ⟨q1, q2⟩
    obtain ⟨j, ex, ej, hj, hi3⟩ : ∃ j : Nat, x = .str (numS (j : Int)) ∧ [(b : Int), (p : Int), (n : Int)][i]? = some (j : Int) ∧ j < 26 ∧ i < 3 := by
      match i, hi with
      | 0, hi => exact ⟨b, (Option.some.inj hi).symm, rfl, hb, by decide⟩
      | 1, hi => exact ⟨p, (Option.some.inj hi).symm, rfl, by omega, by decide⟩
      | 2, hi => exact ⟨n, (Option.some.inj hi).symm, rfl, hn, by decide⟩
    subst ex
    refine ⟨rfl, ?_⟩
    unfold tYes
    dsimp only
    rw [if_pos rfl]
    refine ⟨_, rfl, j, rfl, hj, _, q2, ?_, ?_, ?_⟩
    · rw [List.length_map, List.length_take, sizeLine_eq]; omega
    · exact fun c o z => by rw [upd_ne (ne_of_none z nD)]; exact q1 _ _ z
    · rw [upd_same, List.take_add_one, ej]
      simp
  rintro H5 ⟨s5, e5⟩
  have s6 : Same H2 H5 := s3.trans (s4.trans s5)
  refine ⟨D, _, rfl, SqL.of e5, rfl, _, _, rfl, _, _, rfl, _, _, rfl, rfl, ?_⟩
  refine seq_asg (cb_read (cons_read ?_))
  refine ⟨_, rfl, l2, rfl, ⟨_, SqL.of (s6 _ _ e2)⟩, fun D2 nD2 => ?_⟩
  refine lc_list (K := K) (a := l2) (xs := (ini.map lineM ++ [anyM y]).map V.str) (fun i H' => ∃ rs : List Addr, Same H5 H' ∧ H' D2 = some (.lst (rs.map V.ref)) ∧ rs.length = i ∧ Paired (fun (a : Addr) (r : RowD) => H' a = some (.tup [.int r.1, .str r.2])) rs ((ini ++ [((p : Int), y)]).take i))
    ⟨[], same_lay nD2, upd_same, rfl, .nil⟩ (fun i H' _ q => ?_) ?_ ?_
  · obtain ⟨_, q, _⟩ := q
    exact SqL.of (q _ _ (s6 _ _ e2))
  · rintro i x H' hi ⟨rs, q1, q2, q3, q4⟩
    have hil : i < 5 := by
      have z := (List.getElem?_eq_some_iff.mp hi).1
      simp at z
      omega
    obtain ⟨ln, r, rfl, er, hln⟩ := lines_of p ini hini y hy i x hi
    refine ⟨rfl, ?_⟩
    unfold tYes
    dsimp only
    rw [if_pos rfl]
    refine ⟨_, rfl, _, rfl, p, ln, r, rfl, hp, hln, fun H6 q s7 nq hq => ⟨rs.map V.ref, s7 _ _ q2, ?_, rs ++ [q], ?_, ?_, ?_, ?_⟩⟩
    · rw [List.length_map, q3, sizeLine_eq]; omega
    · exact fun c o z => by rw [upd_ne (ne_of_none z nD2)]; exact s7 _ _ (q1 _ _ z)
    · rw [upd_same]; simp
    · rw [List.length_append, q3]; rfl
    · rw [List.take_add_one, er]
      have nqD : q ≠ D2 := fun z => by rw [z, q2] at nq; cases nq
      refine paired_snoc (Paired.mapP q4 fun a r z => ?_) (by rw [upd_ne nqD]; exact hq)
      have na : a ≠ D2 := fun z2 => by rw [z2, q2] at z; cases z
      rw [upd_ne na]
      exact s7 _ _ z
  rintro H6 ⟨rs, q1, q2, q3, q4⟩
  have eT : (ini ++ [((p : Int), y)]).take ((ini.map lineM ++ [anyM y]).map V.str).length = ini ++ [((p : Int), y)] := List.take_of_length_le (by simp)
  rw [eT] at q4
  refine ⟨D2, _, rfl, .inl ⟨SqL.of q2, fun t nt => ?_⟩⟩
  have s8 : Same H (upd H6 t (.tup (rs.map V.ref))) := s2.trans (s6.trans (q1.trans (same_lay nt)))
  have hR : RowsAt K (upd H6 t (.tup (rs.map V.ref))) t (ini ++ [((p : Int), y)]) := ⟨rs, SqT.of upd_same, Paired.mapP q4 fun a r z => SqT.of (same_lay nt _ _ z)⟩
  generalize upd H6 t (.tup (rs.map V.ref)) = H7 at s8 hR ⊢
  refine ⟨_, rfl, _, rfl, _, rfl, _, rfl, b, p, n, t, ini, y, rfl, hb, by omega, hn, hR, hini, hy, fun H8 s9 => ?_⟩
  refine ⟨_, rfl, rfl, _, rfl, ?_⟩
  have z : (!decide (V.str (textM (b : Int) (p : Int) (n : Int) ini y) = V.str (textM (b : Int) (p : Int) (n : Int) ini y))) = false := by rw [decide_eq_true rfl]; rfl
  show (if (!decide (V.str (textM (b : Int) (p : Int) (n : Int) ini y) = V.str (textM (b : Int) (p : Int) (n : Int) ini y))) = true then _ else _)
  rw [z]
  refine iteF ⟨_, rfl, _, rfl, _, rfl, _, rfl, by show 4 ≤ sizeLine; decide, fun q nq => ?_⟩
  exact k _ t q (s8.trans (s9.trans (same_lay nq))) (hR.same (s9.trans (same_lay nq))) upd_same
end
end K2

set_option Elab.async false
set_option linter.all false
set_option maxRecDepth 100000
set_option maxHeartbeats 4000000
namespace K2
open PySem PySem.Spec PyProof.Rows L2 G1 G2
abbrev sSim : Stmt := inClass sDrv 1
abbrev sRead : Stmt := inClass sDrv 2
abbrev sEq : Stmt := inClass sDrv 9
abbrev sStr : Stmt := inClass sDrv 10
abbrev sLen : Stmt := inClass sDrv 11
theorem scSim : FnScope ["cls", "blocks", "pages", "names", "word"] ["cls", "blocks", "pages", "names", "word"] (defScope sSim) := ⟨rfl, rfl, rfl, by decide +kernel, rfl, by decide +kernel, by decide +kernel⟩
theorem scRead : FnScope ["cls", "text", "parts", "blocks", "pages", "names", "rows"] ["cls", "text"] (defScope sRead) := ⟨rfl, rfl, rfl, by decide +kernel, rfl, by decide +kernel, by decide +kernel⟩
theorem scEq : FnScope ["self", "other"] ["self", "other"] (defScope sEq) := ⟨rfl, rfl, rfl, by decide +kernel, rfl, by decide +kernel, by decide +kernel⟩
theorem scStr : FnScope ["self"] ["self"] (defScope sStr) := ⟨rfl, rfl, rfl, by decide +kernel, rfl, by decide +kernel, by decide +kernel⟩
theorem scLen : FnScope ["self"] ["self"] (defScope sLen) := ⟨rfl, rfl, rfl, by decide +kernel, rfl, by decide +kernel, by decide +kernel⟩
def DrvAt (K : PySem.W.Frag) (C : Addr) (H : Hp) (x : Addr) (b p n : Nat) (ini : List RowD) (y : Str) : Prop := ∃ dx t, H x = some (.ins C dx (drvF b p n t (textM (b : Int) (p : Int) (n : Int) ini y))) ∧ RowsAt K H t (ini ++ [((p : Int), y)])
theorem DrvAt.same {K : PySem.W.Frag} {C x : Addr} {H H' : Hp} {b p n : Nat} {ini : List RowD} {y : Str} (h : DrvAt K C H x b p n ini y) (s : Same H H') : DrvAt K C H' x b p n ini y := by
  obtain ⟨dx, t, h1, h2⟩ := h
  exact ⟨dx, t, s _ _ h1, h2.same s⟩
/-- what follows the making of a drive -/
def Made (K : PySem.W.Frag) (C : Addr) (H : Hp) (Q : VK) (b p n : Nat) (ini : List RowD) (y : Str) : Prop := ∀ (H' : Hp) (x : Addr), Same H H' → H x = none → DrvAt K C H' x b p n ini y → Q (.ref x) H'
theorem make_read {K : PySem.W.Frag} {C : Addr} {H : Hp} {Q : VK} {E : XK} {b p n : Nat} {ini : List RowD} {y : Str} {t : Addr} (d : DP b p n ini y) (hR : RowsAt K H t (ini ++ [((p : Int), y)])) (k : Made K C H Q b p n ini y) :
    ∀ x dx, H x = none → H dx = none → dx ≠ x → spIni K C (.ref x :: ([.int (b : Int), .int (p : Int), .int (n : Int), .ref t] ++ [])) (upd (upd H dx (.own x)) x (.ins C dx [])) (fun v H2 => v = .non ∧ Q (.ref x) H2) E := by
  intro x dx nx nd ne
  have sm : Same H (upd (upd H dx (.own x)) x (.ins C dx [])) := fun c o e => by rw [upd_ne (ne_of_none e nx), upd_ne (ne_of_none e nd)]; exact e
  refine ⟨x, dx, t, b, p, n, ini, y, rfl, upd_same, d, hR.same sm, fun H' kp e => ⟨rfl, ?_⟩⟩
  have sm2 : Same H H' := fun c o e => kp c o (sm c o e) (ne_of_none e nx)
  exact k H' x sm2 nx ⟨dx, t, e, hR.same sm2⟩
/-! ### promises -/
def spSim (K : PySem.W.Frag) (C : Addr) : Sp := fun vs H Q _ => ∃ (b p n : Nat) (y : Str), vs = [.ref C, .int (b : Int), .int (p : Int), .int (n : Int), .str y] ∧ DP b p n [] y ∧ Made K C H Q b p n [] y
def spRead (K : PySem.W.Frag) (C : Addr) : Sp := fun vs H Q _ => ∃ (b p n : Nat) (ini : List RowD) (y : Str), vs = [.ref C, .str (textM (b : Int) (p : Int) (n : Int) ini y)] ∧ DP b p n ini y ∧ Made K C H Q b p n ini y
def spEqD (K : PySem.W.Frag) (C : Addr) : Sp := fun vs H Q _ => ∃ (a dx : Addr) (fs : List (Str × V)) (t1 : Str) (v : V), vs = [.ref a, v] ∧ H a = some (.ins C dx fs) ∧ fs.lookup (Str.ofString "kept_text") = some (V.str t1) ∧
  ((∃ (a2 dx2 : Addr) (fs2 : List (Str × V)) (t2 : Str), v = .ref a2 ∧ H a2 = some (.ins C dx2 fs2) ∧ fs2.lookup (Str.ofString "kept_text") = some (V.str t2) ∧ Q (.bl (decide (V.str t1 = V.str t2))) H) ∨ (Bare K H v ∧ Q (.bl false) H))
def spStrD (C : Addr) : Sp := fun vs H Q _ => ∃ (a dx : Addr) (fs : List (Str × V)) (t1 : Str), vs = [.ref a] ∧ H a = some (.ins C dx fs) ∧ fs.lookup (Str.ofString "kept_text") = some (V.str t1) ∧ Q (.str t1) H
def spLenD (K : PySem.W.Frag) (C : Addr) : Sp := fun vs H Q _ => ∃ (a dx t : Addr) (fs : List (Str × V)) (xs : List V), vs = [.ref a] ∧ H a = some (.ins C dx fs) ∧ fs.lookup (Str.ofString "kept_rows") = some (.ref t) ∧ SqT K H t xs ∧ Q (.int xs.length) H
/-- isinstance(.., Drive) -/
structure DKit (K : PySem.W.Frag) (C : Addr) : Prop where
  own : PySem.W.kitOne K (.ref C) (.ref C) = some true
  non : PySem.W.kitOne K (.type "NoneType") (.ref C) = some false
  bl : PySem.W.kitOne K (.type "bool") (.ref C) = some false
  int : PySem.W.kitOne K (.type "int") (.ref C) = some false
  str : PySem.W.kitOne K (.type "str") (.ref C) = some false
  tup : PySem.W.kitOne K (.type "tuple") (.ref C) = some false
  lst : PySem.W.kitOne K (.type "list") (.ref C) = some false
  ha : PySem.W.findIn K (.ref C) "__class__" = some (some (.builtin "object.__class__"))
  hn : PySem.W.specialIn K (.builtin "object.__class__") "__get__" = some (some (.builtin "getset_descriptor.__get__"))
  htk : PySem.W.takesIn K (.builtin "object.__class__") = some true
  hm : PySem.W.mroIn K C (.type "object") = some true
theorem lst_ty {K : PySem.W.Frag} {H : Hp} {a : Addr} {xs : List V} (h : SqL K H a xs) : TyX K H (.ref a) (.type "list") := by
  rcases h with (h | ⟨o, h⟩) | ⟨o, its, n, hk, hc, _⟩
  · exact .base (.lst h)
  · exact .base (.frz h)
  · exact .kList hk hc
theorem bare_ty {K : PySem.W.Frag} {C : Addr} {H : Hp} {v : V} (D : DKit K C) (h : Bare K H v) : ∃ t, TyX K H v t ∧ PySem.W.kitOne K t (.ref C) = some false := by
  cases h with
  | non => exact ⟨_, .base .non, D.non⟩
  | bl b => exact ⟨_, .base (.bl b), D.bl⟩
  | int i => exact ⟨_, .base (.int i), D.int⟩
  | str x => exact ⟨_, .base (.str x), D.str⟩
  | tup h => exact ⟨_, tup_ty h, D.tup⟩
  | lst h => exact ⟨_, lst_ty h, D.lst⟩
section
variable {P : Program} {w : World} {K : PySem.W.Frag} {mg : Str → Option Value} {base : Heap}
theorem ok_eq {f C : Addr} {fd : FuncData} (F : Fun K "__eq__" "Drive.__eq__" sEq f fd) (B : Bl mg) (T : DCls K C) (D : DKit K C) (gD : mg "Drive" = some (.ref C)) : FnOk P w K mg base CX0 1 f fd ["self", "other"] (spEqD K C) := by
  refine F.ok scEq (fun vs H Q E h => ?_) (fun cdv A outer s H vs Q E hr h => ?_)
  · obtain ⟨a, dx, fs, t1, v, rfl, _⟩ := h
    rfl
  obtain ⟨a, dx, fs, t1, v, rfl, ha, h1, h2⟩ := h
  refine ⟨_, pss_one (ps_ret (pe_and (pe_callB call_isi (by rfl) B.isi bIsi (pa_cons (pv 1) (pa_cons (pe_glob (v := .ref C) rfl gD rfl) pa_nil)))
    (pe_one (pe_cmpR op_eq (pe_fld (pv 0) rfl) (pe_fld (pv 1) rfl) (nomark _))))), ?_⟩
  rcases h2 with ⟨a2, dx2, fs2, t2, rfl, ha2, h3, k⟩ | ⟨hb, k⟩
  · refine ⟨_, rfl, _, _, _, _, true, rfl, .own C, .base (.ins ha2 T.cl D.ha D.hn D.htk D.hm), D.own, true, rfl, iteT ?_⟩
    exact ⟨_, rfl, a, C, dx, fs, _, rfl, ha, T.cl, T.nt, h1, _, rfl, a2, C, dx2, fs2, _, rfl, ha2, T.cl, T.nt, h3, rfl, k⟩
  · obtain ⟨t, ty, kf⟩ := bare_ty D hb
    exact ⟨_, rfl, _, _, _, _, false, rfl, .own C, ty, kf, false, rfl, iteF k⟩
theorem ok_str {f C : Addr} {fd : FuncData} (F : Fun K "__str__" "Drive.__str__" sStr f fd) (B : Bl mg) (T : DCls K C) : FnOk P w K mg base CX0 1 f fd ["self"] (spStrD C) := by
  refine F.ok scStr (fun vs H Q E h => ?_) (fun cdv A outer s H vs Q E hr h => ?_)
  · obtain ⟨a, dx, fs, t1, rfl, _⟩ := h
    rfl
  obtain ⟨a, dx, fs, t1, rfl, ha, h1, k⟩ := h
  refine ⟨_, pss_one (ps_ret (pe_callTy SkE.call_str_str (by rfl) B.str bStr (pa_cons (pe_fld (pv 0) rfl) pa_nil))), ?_⟩
  exact ⟨_, rfl, a, C, dx, fs, _, rfl, ha, T.cl, T.nt, h1, _, rfl, k⟩
theorem ok_len {f C : Addr} {fd : FuncData} (F : Fun K "__len__" "Drive.__len__" sLen f fd) (B : Bl mg) (T : DCls K C) : FnOk P w K mg base CX0 1 f fd ["self"] (spLenD K C) := by
  refine F.ok scLen (fun vs H Q E h => ?_) (fun cdv A outer s H vs Q E hr h => ?_)
  · obtain ⟨a, dx, t, fs, xs, rfl, _⟩ := h
    rfl
  obtain ⟨a, dx, t, fs, xs, rfl, ha, h1, hT, k⟩ := h
  refine ⟨_, pss_one (ps_ret (pe_callB call_len_seq (by rfl) B.len PySem.boot_len (pa_cons (pe_fld (pv 0) rfl) pa_nil))), ?_⟩
  exact ⟨_, rfl, a, C, dx, fs, _, rfl, ha, T.cl, T.nr, h1, t, _, rfl, .inr hT, k⟩
theorem ok_sim {f C fI : Addr} {fd fdI : FuncData} {dvs : List V} {kws : List (Str × V)} (F : FunD K "simple" "Drive.simple" (defArgs sSim) (defBody sSim) (defScope sSim) dvs kws f fd) (M : Mk K C fI)
    (GI : FnOk P w K mg base CX0 5 fI fdI ["self", "blocks", "pages", "names", "rows"] (spIni K C)) (bI : Binds K fdI ["self", "blocks", "pages", "names", "rows"] []) :
    FnOk P w K mg base CX0 7 f fd ["cls", "blocks", "pages", "names", "word"] (spSim K C) := by
  refine F.ok (CX := CX0) scSim (fun vs H Q E h => ?_) (fun cdv A outer s H vs Q E hr h => ?_)
  · obtain ⟨b, p, n, y, rfl, _⟩ := h
    rfl
  obtain ⟨b, p, n, y, rfl, hd, k⟩ := h
  refine ⟨_, pss_one (ps_ret (pe_makeV 0 M GI hr rfl (.inl rfl) bI .nil pass0 (pa_cons (pv 1) (pa_cons (pv 2) (pa_cons (pv 3) (pa_cons (pe_tup (pa_cons (pe_tup (pa_cons (pv 2) (pa_cons (pv 4) pa_nil))) pa_nil)) pa_nil)))))), ?_⟩
  refine ⟨rfl, _, rfl, _, rfl, _, rfl, _, rfl, _, rfl, by show 2 ≤ sizeLine; decide, fun r nr => ⟨by show 1 ≤ sizeLine; decide, fun t nt => ?_⟩⟩
  have s1 : Same H (upd (upd H r (.tup [.int (p : Int), .str y])) t (.tup [.ref r])) := (same_lay nr).trans (same_lay nt)
  have hR : RowsAt K (upd (upd H r (.tup [.int (p : Int), .str y])) t (.tup [.ref r])) t ([] ++ [((p : Int), y)]) := ⟨[r], SqT.of upd_same, .cons (SqT.of (same_lay nt _ _ upd_same)) .nil⟩
  exact make_read (ini := []) hd hR fun H' x s2 nx dv => k H' x (s1.trans s2) (s1.free nx) dv
theorem ok_read {f C fI fP : Addr} {fd fdI fdP : FuncData} (F : Fun K "read" "Drive.read" sRead f fd) (B : Bl mg) (M : Mk K C fI)
    (GI : FnOk P w K mg base CX0 5 fI fdI ["self", "blocks", "pages", "names", "rows"] (spIni K C)) (bI : Binds K fdI ["self", "blocks", "pages", "names", "rows"] [])
    (GP : FnOk P w K mg base CX0 3 fP fdP ["text"] (spPar K)) (kP : PySem.W.keepIn K (.ref fP) = true) (bP : Binds K fdP ["text"] []) (gP : mg "parts_of" = some (.ref fP)) :
    FnOk P w K mg base CX0 7 f fd ["cls", "text"] (spRead K C) := by
  refine F.ok scRead (fun vs H Q E h => ?_) (fun cdv A outer s H vs Q E hr h => ?_)
  · obtain ⟨b, p, n, ini, y, rfl, _⟩ := h
    rfl
  obtain ⟨b, p, n, ini, y, rfl, hd, k⟩ := h
  have hr3 : Room 3 _ := hr.mono (by decide)
  refine ⟨_, pss_cons (ps_set (i := 2) scRead.nd rfl (.inl rfl) (pe_ifExp (pt_val (pe_callB call_isi (by rfl) B.isi bIsi (pa_cons (pv 1) (pa_cons (pe_bltn (v := .ty "str") (by rfl) B.str bStr rfl) pa_nil))))
      (pe_call GP hr3 (by rfl) gP kP bP .nil pass0 (pa_cons (pv 1) pa_nil)) pe_non))
    (pss_cons (ps_if (pt_cmpR op_isN (pv 2) pe_non (nomark _)) (pss_one ps_never) pss_nil)
    (pss_cons (ps_asg (pv 2) (pg_tup rfl (pgs_cons (pg_name (i := 3) scRead.nd rfl (.inl rfl)) (pgs_cons (pg_name (i := 4) scRead.nd rfl (.inl rfl)) (pgs_cons (pg_name (i := 5) scRead.nd rfl (.inl rfl)) (pgs_cons (pg_name (i := 6) scRead.nd rfl (.inl rfl)) pgs_nil))))))
    (pss_one (ps_try_thru0 (pss_one (ps_ret (pe_makeV 0 M GI hr rfl (.inl rfl) bI .nil pass0 (pa_cons (pv 3) (pa_cons (pv 4) (pa_cons (pv 5) (pa_cons (pv 6) pa_nil))))))))))), ?_⟩
  have hz := hd.sz
  have z1 := hz.b1
  have z2 := hz.p1
  refine ⟨_, rfl, _, _, _, _, true, rfl, .ty _, .base (.str _), kit_ty (by decide +kernel), true, rfl, iteT ?_⟩
  refine ⟨_, rfl, b, p, n, ini, y, rfl, by omega, by omega, hz.n25, hd.ini, hd.y, fun H1 t q s1 hR hq => ?_⟩
  refine ⟨_, rfl, rfl, _, rfl, ?_⟩
  have z : decide (V.ref q = V.non) = false := decide_eq_false (fun z => nomatch z)
  show (if decide (V.ref q = V.non) = true then _ else _)
  rw [z]
  refine iteF ⟨_, rfl, q, _, rfl, SqT.of hq, rfl, _, _, rfl, _, _, rfl, _, _, rfl, _, _, rfl, rfl, ?_⟩
  refine ⟨rfl, _, rfl, _, rfl, _, rfl, _, rfl, ?_⟩
  exact make_read hd hR fun H' x s2 nx dv => k H' x (s1.trans s2) (s1.free nx) dv
end
end K2

set_option Elab.async false
set_option linter.all false
set_option maxRecDepth 100000
set_option maxHeartbeats 4000000
namespace K2
open PySem PySem.Spec PyProof.Rows L2 G1 G2
abbrev sShp : Stmt := topS 40
abbrev sTab : Stmt := topS 41
theorem scShp : FnScope ["_law_pool_here", "_law_many", "_law_size", "_law_room"] ["_law_pool_here"] (defScope sShp) := ⟨rfl, rfl, rfl, by decide +kernel, rfl, by decide +kernel, by decide +kernel⟩
theorem scTab : FnScope ["_law_pool_here", "_law_size", "_law_tones", "_law_some", "_law_k"] ["_law_pool_here", "_law_size"] (defScope sTab) := ⟨rfl, rfl, rfl, by decide +kernel, rfl, by decide +kernel, by decide +kernel⟩
/-- the pool at p, and nothing else of what was there, has changed -/
def Stp (p : Addr) (H H' : Hp) : Prop := (∃ i j n : Int, H' p = some (.lst [.int i, .int j, .int n]) ∧ 0 ≤ i ∧ i < 2 ^ 31) ∧ ∀ b o, b ≠ p → H b = some o → H' b = some o
def PoolAt (H : Hp) (p : Addr) : Prop := ∃ i j n : Int, H p = some (.lst [.int i, .int j, .int n]) ∧ 0 ≤ i ∧ i < 2 ^ 31
theorem Stp.trans {p : Addr} {H H1 H2 : Hp} (a : Stp p H H1) (b : Stp p H1 H2) : Stp p H H2 := ⟨b.1, fun c o n e => b.2 c o n (a.2 c o n e)⟩
theorem Stp.upd {p : Addr} {H : Hp} {i j n : Int} (h0 : 0 ≤ i) (h1 : i < 2 ^ 31) : Stp p H (L2.upd H p (.lst [.int i, .int j, .int n])) := ⟨⟨i, j, n, upd_same, h0, h1⟩, fun b o hb e => by rw [upd_ne hb]; exact e⟩
theorem Stp.of {p : Addr} {H H' : Hp} (hp : PoolAt H p) (s : Same H H') : Stp p H H' := by
  obtain ⟨i, j, n, e, h0, h1⟩ := hp
  exact ⟨⟨i, j, n, s _ _ e, h0, h1⟩, fun b o _ z => s _ _ z⟩
theorem Stp.tup {K : PySem.W.Frag} {p a : Addr} {H H' : Hp} {xs : List V} (s : Stp p H H') (hp : PoolAt H p) (h : SqT K H a xs) : SqT K H' a xs := by
  obtain ⟨i, j, n, e, _⟩ := hp
  rcases h with (h | ⟨o, h⟩) | h
  · exact .inl (.inl (s.2 _ _ (ne_of h e (by intro z; cases z)) h))
  · exact .inl (.inr ⟨o, s.2 _ _ (ne_of h e (by intro z; cases z)) h⟩)
  · exact .inr h
theorem Stp.rows {K : PySem.W.Frag} {p t : Addr} {H H' : Hp} {rows : List RowD} (s : Stp p H H') (hp : PoolAt H p) (h : RowsAt K H t rows) : RowsAt K H' t rows := by
  obtain ⟨rs, h1, h2⟩ := h
  exact ⟨rs, s.tup hp h1, Paired.mapP h2 fun _ _ z => s.tup hp z⟩
theorem draw_read {H : Hp} {Q : VK} {E : XK} {p : Addr} {m : Int} (hp : PoolAt H p) (m0 : 0 < m) (m1 : m < 2 ^ 60) (k : ∀ (H' : Hp) (r : Int), Stp p H H' → 0 ≤ r → r < m → Q (.int r) H') : spDraw [.ref p, .int m] H Q E := by
  obtain ⟨i, j, n, e, h0, h1⟩ := hp
  exact ⟨p, m, i, j, n, rfl, e, h0, h1, m0, m1, fun i' j' n' r a0 a1 r0 r1 => k _ r (Stp.upd a0 a1) r0 r1⟩
theorem draw_c {σ : L2.St} {H : Hp} {Q : VK} {p : Addr} {i : Nat} {m : Int} (hσ : σ[i]? = some (some (.ref p))) (hp : PoolAt H p) (m0 : 0 < m) (m1 : m < 2 ^ 60) (k : ∀ (H' : Hp) (r : Int), Stp p H H' → 0 ≤ r → r < m → Q (.int r) H') :
    tCall spDraw [] E0 (tCons (tVar i) (tCons (tC (.int m)) tNil)) σ H Q := ⟨_, hσ, draw_read (E := E0) (m := m) hp m0 m1 k⟩
theorem draw_v {σ : L2.St} {H : Hp} {Q : VK} {p : Addr} {i j : Nat} {m : Int} (hσ : σ[i]? = some (some (.ref p))) (hj : σ[j]? = some (some (.int m))) (hp : PoolAt H p) (m0 : 0 < m) (m1 : m < 2 ^ 60) (k : ∀ (H' : Hp) (r : Int), Stp p H H' → 0 ≤ r → r < m → Q (.int r) H') :
    tCall spDraw [] E0 (tCons (tVar i) (tCons (tVar j) tNil)) σ H Q := ⟨_, hσ, _, hj, draw_read (E := E0) (m := m) hp m0 m1 k⟩
theorem draw_t {σ : L2.St} {H : Hp} {Q : VK} {p : Addr} {i : Nat} {m : Int} {te : TE} (hσ : σ[i]? = some (some (.ref p))) (ht : ∀ R : VK, R (.int m) H → te σ H R) (hp : PoolAt H p) (m0 : 0 < m) (m1 : m < 2 ^ 60) (k : ∀ (H' : Hp) (r : Int), Stp p H H' → 0 ≤ r → r < m → Q (.int r) H') :
    tCall spDraw [] E0 (tCons (tVar i) (tCons te tNil)) σ H Q := ⟨_, hσ, ht _ (draw_read (E := E0) (m := m) hp m0 m1 k)⟩
/-! ### displays of pairs -/
def tPair (q : Int × Int) : TE := tTup (tCons (tC (.int q.1)) (tCons (tC (.int q.2)) tNil))
def taPairs : List (Int × Int) → TA
  | [] => tNil
  | q :: l => tCons (tPair q) (taPairs l)
theorem pairs_read {σ : L2.St} : ∀ (l : List (Int × Int)) (H : Hp) (Q : List V → Hp → Prop), (∀ (H' : Hp) (as : List Addr), Same H H' → Paired (fun (a : Addr) (q : Int × Int) => H' a = some (.tup [.int q.1, .int q.2])) as l → Q (as.map V.ref) H') → taPairs l σ H Q
  | [], H, Q, k => k H [] (Same.refl H) .nil
  | q :: l, H, Q, k => by
    refine cons_read (tup_read (cons_read (c_read (cons_read (c_read (nil_read ⟨by show 2 ≤ sizeLine; decide, fun a na => ?_⟩))))))
    refine pairs_read l _ _ fun H' as s h => ?_
    refine k H' (a :: as) ((same_lay na).trans s) (.cons (s _ _ upd_same) h)
def shapesL : List (Int × Int) := [(3, 2), (3, 3), (4, 2), (3, 4), (4, 3), (3, 5), (5, 2), (4, 2)]
/-- a shape that the law draws -/
def Shp (b p n : Nat) : Prop := (b, p) ∈ [(3, 2), (3, 3), (3, 4), (3, 5), (4, 2), (4, 3), (5, 2)] ∧ 1 ≤ n ∧ n ≤ p * (b - 1)
theorem Shp.sz {b p n : Nat} (h : Shp b p n) : Sz b p n := by
  obtain ⟨h1, h2, h3⟩ := h
  simp only [List.mem_cons, List.mem_nil_iff, or_false, Prod.mk.injEq] at h1
  rcases h1 with ⟨rfl, rfl⟩ | ⟨rfl, rfl⟩ | ⟨rfl, rfl⟩ | ⟨rfl, rfl⟩ | ⟨rfl, rfl⟩ | ⟨rfl, rfl⟩ | ⟨rfl, rfl⟩ <;> exact ⟨by omega, by omega, by omega, by omega, h2, h3⟩
theorem Shp.few {b p n : Nat} (h : Shp b p n) : cntM b p n ≤ 2000 := by
  obtain ⟨h1, h2, h3⟩ := h
  refine cnt_small (b, p) h1 n ?_
  simp only [List.mem_cons, List.mem_nil_iff, or_false, Prod.mk.injEq] at h1
  rcases h1 with ⟨rfl, rfl⟩ | ⟨rfl, rfl⟩ | ⟨rfl, rfl⟩ | ⟨rfl, rfl⟩ | ⟨rfl, rfl⟩ | ⟨rfl, rfl⟩ | ⟨rfl, rfl⟩ <;> omega
theorem shape_at : ∀ q ∈ shapesL, ∃ b p : Nat, q = ((b : Int), (p : Int)) ∧ (b, p) ∈ [(3, 2), (3, 3), (3, 4), (3, 5), (4, 2), (4, 3), (5, 2)] := by
  intro q hq
  simp only [shapesL, List.mem_cons, List.mem_nil_iff, or_false] at hq
  rcases hq with rfl | rfl | rfl | rfl | rfl | rfl | rfl | rfl
  · exact ⟨3, 2, rfl, by decide⟩
  · exact ⟨3, 3, rfl, by decide⟩
  · exact ⟨4, 2, rfl, by decide⟩
  · exact ⟨3, 4, rfl, by decide⟩
  · exact ⟨4, 3, rfl, by decide⟩
  · exact ⟨3, 5, rfl, by decide⟩
  · exact ⟨5, 2, rfl, by decide⟩
  · exact ⟨4, 2, rfl, by decide⟩
def spShp (K : PySem.W.Frag) : Sp := fun vs H Q _ => ∃ pl : Addr, vs = [.ref pl] ∧ PoolAt H pl ∧ ∀ (H' : Hp) (q : Addr) (b p n : Nat), Stp pl H H' → Shp b p n → H' q = some (.tup [.int (b : Int), .int (p : Int), .int (n : Int)]) → Q (.ref q) H'
section
variable {P : Program} {w : World} {K : PySem.W.Frag} {mg : Str → Option Value} {base : Heap}
theorem ok_shp {f fD : Addr} {fd fdD : FuncData} (F : Fun K "_law_shape" "_law_shape" sShp f fd) (GD : FnOk P w K mg base CX0 1 fD fdD ["_law_pool_here", "_law_many"] spDraw) (kD : PySem.W.keepIn K (.ref fD) = true) (bD : Binds K fdD ["_law_pool_here", "_law_many"] [])
    (gD : mg "_law_draw" = some (.ref fD)) : FnOk P w K mg base CX0 2 f fd ["_law_pool_here"] (spShp K) := by
  refine F.ok scShp (fun vs H Q E h => ?_) (fun cdv A outer s H vs Q E hr h => ?_)
  · obtain ⟨pl, rfl, _⟩ := h
    rfl
  obtain ⟨pl, rfl, hp, k⟩ := h
  refine ⟨_, pss_cons (ps_asg (pe_ix ix_list (pe_lst (pa_cons (pe_tup (pa_cons pe_int (pa_cons pe_int pa_nil))) (pa_cons (pe_tup (pa_cons pe_int (pa_cons pe_int pa_nil))) (pa_cons (pe_tup (pa_cons pe_int (pa_cons pe_int pa_nil))) (pa_cons (pe_tup (pa_cons pe_int (pa_cons pe_int pa_nil)))
      (pa_cons (pe_tup (pa_cons pe_int (pa_cons pe_int pa_nil))) (pa_cons (pe_tup (pa_cons pe_int (pa_cons pe_int pa_nil))) (pa_cons (pe_tup (pa_cons pe_int (pa_cons pe_int pa_nil))) (pa_cons (pe_tup (pa_cons pe_int (pa_cons pe_int pa_nil))) pa_nil)))))))))
      (pe_call GD hr (by rfl) gD kD bD .nil pass0 (pa_cons (pv 0) (pa_cons pe_int pa_nil))) (fun _ _ => rfl)) (pg_tup rfl (pgs_cons (pg_name (i := 1) scShp.nd rfl (.inl rfl)) (pgs_cons (pg_name (i := 2) scShp.nd rfl (.inl rfl)) pgs_nil))))
    (pss_cons (ps_set (i := 3) scShp.nd rfl (.inl rfl) (pe_op op_mul (pv 2) (pe_op op_sub (pv 1) pe_int)))
    (pss_cons (ps_if (pt_cmpR op_eq (pe_call GD hr (by rfl) gD kD bD .nil pass0 (pa_cons (pv 0) (pa_cons pe_int pa_nil))) pe_int (nomark _)) (pss_one (ps_ret (pe_tup (pa_cons (pv 1) (pa_cons (pv 2) (pa_cons (pv 3) pa_nil)))))) pss_nil)
    (pss_one (ps_ret (pe_tup (pa_cons (pv 1) (pa_cons (pv 2) (pa_cons (pe_op op_add pe_int (pe_call GD hr (by rfl) gD kD bD .nil pass0 (pa_cons (pv 0) (pa_cons (pv 3) pa_nil)))) pa_nil)))))))), ?_⟩
  refine seq_asg (op_read (lst_read ?_))
  refine pairs_read shapesL H _ fun H1 as s1 hP => ⟨by rw [List.length_map, Paired.length hP, sizeLine_eq]; decide, fun l nl => ?_⟩
  have s2 : Same H1 (upd H1 l (.lst (as.map V.ref))) := same_lay nl
  have S2 : Stp pl H (upd H1 l (.lst (as.map V.ref))) := Stp.of hp (s1.trans s2)
  have hl : (upd H1 l (.lst (as.map V.ref))) l = some (.lst (as.map V.ref)) := upd_same
  have hP2 : Paired (fun (a : Addr) (q : Int × Int) => (upd H1 l (.lst (as.map V.ref))) a = some (.tup [.int q.1, .int q.2])) as shapesL := Paired.mapP hP fun _ _ z => s2 _ _ z
  have npl : l ≠ pl := by
    obtain ⟨i, j, n, e, _⟩ := hp
    exact fun z => by rw [z] at nl; rw [s1 _ _ e] at nl; cases nl
  generalize upd H1 l (.lst (as.map V.ref)) = H2 at s2 S2 hl hP2 ⊢
  refine draw_c (p := pl) rfl S2.1 (by decide) (by decide) fun H3 r S3 r0 r1 => ?_
  have hlen : as.length = 8 := Paired.length hP
  obtain ⟨a, ha⟩ : ∃ a, as[r.toNat]? = some a := ⟨as[r.toNat]'(by omega), List.getElem?_eq_getElem (by omega)⟩
  obtain ⟨q, hq1, hq2⟩ := paired_get hP2 ha
  obtain ⟨b, p, rfl, hbp⟩ := shape_at q (List.mem_of_getElem? hq1)
  have hl3 := S3.2 _ _ npl hl
  have ea : r = ((r.toNat : Nat) : Int) := by omega
  refine ⟨l, _, r, .ref a, rfl, rfl, SqL.of hl3, ?_, ?_⟩
  · rw [ea]
    exact atI_nat (by rw [List.getElem?_map, ha]; rfl)
  have ha3 : H3 a = some (.tup [.int (b : Int), .int (p : Int)]) := by
    refine S3.2 _ _ ?_ hq2
    obtain ⟨i, j, n, e, _⟩ := S2.1
    exact ne_of hq2 e (by intro z; cases z)
  refine ⟨a, _, rfl, SqT.of ha3, rfl, _, _, rfl, _, _, rfl, rfl, ?_⟩
  have S4 := S2.trans S3
  have hz : 3 ≤ b ∧ b ≤ 6 ∧ 2 ≤ p ∧ p ≤ 5 := by
    simp only [List.mem_cons, List.mem_nil_iff, or_false, Prod.mk.injEq] at hbp
    omega
  obtain ⟨z1, z2, z3, z4⟩ := hz
  have eroom : (p : Int) * ((b : Int) - 1) = ((p * (b - 1) : Nat) : Int) := by rw [Int.natCast_mul, Int.natCast_sub (by omega)]; rfl
  have hroom : 1 ≤ p * (b - 1) := Nat.mul_pos (by omega) (by omega)
  have hroom2 : p * (b - 1) ≤ 5 * 5 := Nat.mul_le_mul z4 (by omega)
  refine ⟨_, rfl, _, rfl, _, _, rfl, rfl, _, _, rfl, rfl, .inl ⟨by omega, by omega⟩, ?_⟩
  refine draw_c (p := pl) rfl S4.1 (by decide) (by decide) fun H5 r2 S5 r20 r21 => ?_
  refine ⟨rfl, _, rfl, ite2 (fun _ => ?_) (fun _ => ?_)⟩
  · refine ⟨_, rfl, _, rfl, _, rfl, by show 3 ≤ sizeLine; decide, fun q nq => ?_⟩
    refine k _ q b p (p * (b - 1)) ((S4.trans S5).trans (Stp.of S5.1 (same_lay nq))) ⟨hbp, hroom, Nat.le_refl _⟩ ?_
    rw [upd_same, ← eroom]
  · refine ⟨_, rfl, _, rfl, ?_⟩
    refine draw_v (p := pl) rfl rfl S5.1 (by rw [eroom]; omega) (by rw [eroom]; omega) fun H6 r3 S6 r30 r31 => ?_
    rw [eroom] at r31
    refine ⟨_, _, rfl, rfl, by show 3 ≤ sizeLine; decide, fun q nq => ?_⟩
    refine k _ q b p (1 + r3.toNat) ((S4.trans S5).trans (S6.trans (Stp.of S6.1 (same_lay nq)))) ⟨hbp, by omega, by omega⟩ ?_
    rw [upd_same]
    have e : ((1 + r3.toNat : Nat) : Int) = 1 + r3 := by omega
    rw [e]
end
end K2

set_option Elab.async false
set_option linter.all false
set_option maxRecDepth 100000
set_option maxHeartbeats 4000000
namespace K2
open PySem PySem.Spec PyProof.Rows L2 G1 G2
def spTab (K : PySem.W.Frag) : Sp := fun vs H Q _ => ∃ (pl : Addr) (p : Nat), vs = [.ref pl, .int (p : Int)] ∧ PoolAt H pl ∧ p < 26 ∧ ∀ (H' : Hp) (t : Addr) (ini : List RowD) (y : Str), Stp pl H H' → RowsAt K H' t (ini ++ [((p : Int), y)]) → IniOk p ini → y ∈ wordsL → Q (.ref t) H'
theorem tone_at (r : Int) (h0 : 0 ≤ r) (h1 : r < 4) : ∃ w ∈ wordsL, atI (wordsL.map V.str) r = some (.str w) := by
  have c : r = 0 ∨ r = 1 ∨ r = 2 ∨ r = 3 := by omega
  rcases c with rfl | rfl | rfl | rfl
  · exact ⟨Str.ofString "oldest", by decide, rfl⟩
  · exact ⟨Str.ofString "youngest", by decide, rfl⟩
  · exact ⟨Str.ofString "least", by decide, rfl⟩
  · exact ⟨Str.ofString "most", by decide, rfl⟩
theorem pool_ne {H : Hp} {pl a : Addr} {xs : List V} (hp : PoolAt H pl) (ha : H a = some (.tup xs)) : a ≠ pl := by
  obtain ⟨i, j, n, e, _⟩ := hp
  exact ne_of ha e (by intro z; cases z)
theorem pool_new {H : Hp} {pl a : Addr} (hp : PoolAt H pl) (ha : H a = none) : a ≠ pl := by
  obtain ⟨i, j, n, e, _⟩ := hp
  exact fun z => by rw [z, e] at ha; cases ha
section
variable {P : Program} {w : World} {K : PySem.W.Frag} {mg : Str → Option Value} {base : Heap}
theorem ok_tab {f fD : Addr} {fd fdD : FuncData} (F : Fun K "_law_table" "_law_table" sTab f fd) (B : Bl mg) (GD : FnOk P w K mg base CX0 1 fD fdD ["_law_pool_here", "_law_many"] spDraw) (kD : PySem.W.keepIn K (.ref fD) = true) (bD : Binds K fdD ["_law_pool_here", "_law_many"] [])
    (gD : mg "_law_draw" = some (.ref fD)) : FnOk P w K mg base CX0 2 f fd ["_law_pool_here", "_law_size"] (spTab K) := by
  refine F.ok scTab (fun vs H Q E h => ?_) (fun cdv A outer s H vs Q E hr h => ?_)
  · obtain ⟨pl, p, rfl, _⟩ := h
    rfl
  obtain ⟨pl, p, rfl, hp, hp26, k⟩ := h
  refine ⟨_, pss_cons (ps_set (i := 2) scTab.nd rfl (.inl rfl) (pe_lst (pa_cons pe_str (pa_cons pe_str (pa_cons pe_str (pa_cons pe_str pa_nil))))))
    (pss_cons (ps_set (i := 3) scTab.nd rfl (.inl rfl) (pe_lst pa_nil))
    (pss_cons (ps_for PassesOwn.never rfl (pi_range1 (by rfl) B.range (pa_cons (pe_call GD hr (by rfl) gD kD bD .nil pass0 (pa_cons (pv 0) (pa_cons pe_int pa_nil))) pa_nil)) (pg_name (i := 4) scTab.nd rfl (.inl rfl))
      (pss_one (ps_expr (pe_bm PySem.F.plainAttrs_list PySem.F.slot_list_append PySem.F.type_list_append mt_append (pv 3) (pa_cons (pe_tup (pa_cons (pe_call GD hr (by rfl) gD kD bD .nil pass0 (pa_cons (pv 0) (pa_cons (pe_op op_add (pv 1) pe_int) pa_nil)))
        (pa_cons (pe_ix ix_list (pv 2) (pe_call GD hr (by rfl) gD kD bD .nil pass0 (pa_cons (pv 0) (pa_cons pe_int pa_nil))) (fun _ _ => rfl)) pa_nil))) pa_nil)))))
    (pss_cons (ps_expr (pe_bm PySem.F.plainAttrs_list PySem.F.slot_list_append PySem.F.type_list_append mt_append (pv 3) (pa_cons (pe_tup (pa_cons (pv 1)
        (pa_cons (pe_ix ix_list (pv 2) (pe_call GD hr (by rfl) gD kD bD .nil pass0 (pa_cons (pv 0) (pa_cons pe_int pa_nil))) (fun _ _ => rfl)) pa_nil))) pa_nil)))
    (pss_one (ps_ret (pe_callTy call_tuple_of (by rfl) B.tup bTup (pa_cons (pv 3) pa_nil))))))), ?_⟩
  refine seq_asg ⟨by show 4 ≤ sizeLine; decide, fun tn ntn => ?_⟩
  have s1 : Same H (upd H tn (.lst (wordsL.map V.str))) := same_lay ntn
  have e1 : (upd H tn (.lst (wordsL.map V.str))) tn = some (.lst (wordsL.map V.str)) := upd_same
  show tSeq _ _ _ _ (upd H tn (.lst (wordsL.map V.str)))
  generalize upd H tn (.lst (wordsL.map V.str)) = H1 at s1 e1 ⊢
  refine seq_asg ⟨by show 0 ≤ sizeLine; decide, fun sm nsm => ?_⟩
  have nts : tn ≠ sm := ne_of_none e1 nsm
  have s2 : Same H (upd H1 sm (.lst [])) := s1.trans (same_lay nsm)
  have e2 : (upd H1 sm (.lst [])) sm = some (.lst (([] : List Addr).map V.ref)) := upd_same
  have e3 : (upd H1 sm (.lst [])) tn = some (.lst (wordsL.map V.str)) := by rw [upd_ne nts]; exact e1
  have nH : H sm = none := s1.free nsm
  generalize upd H1 sm (.lst []) = H2 at s2 e2 e3 ⊢
  have ntp : tn ≠ pl := pool_new hp ntn
  have nsp : sm ≠ pl := pool_new hp nH
  refine seq_for fun D' hD1 hD2 => ?_
  refine draw_c (p := pl) rfl (Stp.of hp s2).1 (by decide) (by decide) fun H3 m S3 m0 m1 => ⟨m, rfl, by omega, by omega, ?_⟩
  have S0 : Stp pl H H3 := (Stp.of hp s2).trans S3
  refine for_range (lo := 0) (n := m.toNat) (fun i σ H' => ∃ (x4 : Option V) (rs : List Addr) (rows : List RowD), σ = [some (.ref pl), some (.int (p : Int)), some (.ref tn), some (.ref sm), x4] ∧ Stp pl H H' ∧ H' tn = some (.lst (wordsL.map V.str)) ∧ H' sm = some (.lst (rs.map V.ref)) ∧
      Paired (fun (a : Addr) (r : RowD) => H' a = some (.tup [.int r.1, .str r.2])) rs rows ∧ rows.length = i ∧ ∀ r ∈ rows, RowOk p r) ⟨none, [], [], rfl, S0, S3.2 _ _ ntp e3, S3.2 _ _ nsp e2, .nil, rfl, fun _ z => nomatch z⟩ ?_ ?_
  · rintro i σ H' hi ⟨x4, rs, rows, rfl, S4, q1, q2, q3, q4, q5⟩
    refine ⟨_, rfl, .inl ⟨rfl, _, SqL.of q2⟩, ?_⟩
    refine cons_read (tup_read (cons_read ?_))
    refine draw_t (p := pl) (m := (p : Int) + 1) rfl (fun R q => ⟨_, rfl, _, _, rfl, rfl, q⟩) S4.1 (by omega) (by omega) fun H5 l S5 l0 l1 => ?_
    refine cons_read (op_read ⟨_, rfl, ?_⟩)
    refine draw_c (p := pl) rfl S5.1 (by decide) (by decide) fun H6 r S6 r0 r1 => ?_
    have S56 := S5.trans S6
    obtain ⟨x, hx, ex⟩ := tone_at r r0 r1
    refine ⟨tn, _, r, _, rfl, rfl, SqL.of (S56.2 _ _ ntp q1), ex, ?_⟩
    refine nil_read ⟨by show 2 ≤ sizeLine; decide, fun a na => ?_⟩
    have s7 : Same H6 (upd H6 a (.tup [.int l, .str x])) := same_lay na
    have hs6 := S56.2 _ _ nsp q2
    refine ⟨sm, _, _, rfl, rfl, s7 _ _ hs6, ?_, _, rs ++ [a], rows ++ [(l, x)], rfl, ?_, ?_, ?_, ?_, ?_, ?_⟩
    · have hl2 := Paired.length q3
      rw [List.length_map, sizeLine_eq]
      omega
    · have S7 : Stp pl H (upd H6 a (.tup [.int l, .str x])) := S4.trans (S56.trans (Stp.of S56.1 s7))
      obtain ⟨i1, j1, n1, z1, z2, z3⟩ := S7.1
      refine ⟨⟨i1, j1, n1, by rw [upd_ne (Ne.symm nsp)]; exact z1, z2, z3⟩, fun c o hc e => ?_⟩
      rw [upd_ne (ne_of_none e nH)]
      exact S7.2 c o hc e
    · rw [upd_ne nts]; exact s7 _ _ (S56.2 _ _ ntp q1)
    · rw [upd_same]; simp
    · have nas : a ≠ sm := fun z => by rw [z, hs6] at na; cases na
      refine paired_snoc (Paired.mapP q3 fun c r z => ?_) (by rw [upd_ne nas, upd_same])
      have hcp := pool_ne S4.1 z
      have hcs : c ≠ sm := ne_of z q2 (by intro z; cases z)
      rw [upd_ne hcs]
      exact s7 _ _ (S56.2 _ _ hcp z)
    · rw [List.length_append, q4]; rfl
    · intro r' hr'
      rcases List.mem_append.mp hr' with hr' | hr'
      · exact q5 r' hr'
      · rw [List.mem_singleton.mp hr']
        exact ⟨l0, by omega, hx⟩
  · rintro σ H' ⟨x4, rs, rows, rfl, S4, q1, q2, q3, q4, q5⟩
    rw [hD1]
    refine ⟨_, rfl, .inl ⟨rfl, _, SqL.of q2⟩, ?_⟩
    refine cons_read (tup_read (cons_read ⟨_, rfl, cons_read (op_read ⟨_, rfl, ?_⟩)⟩))
    refine draw_c (p := pl) rfl S4.1 (by decide) (by decide) fun H6 r S6 r0 r1 => ?_
    obtain ⟨x, hx, ex⟩ := tone_at r r0 r1
    refine ⟨tn, _, r, _, rfl, rfl, SqL.of (S6.2 _ _ ntp q1), ex, ?_⟩
    refine nil_read ⟨by show 2 ≤ sizeLine; decide, fun a na => ?_⟩
    have s7 : Same H6 (upd H6 a (.tup [.int (p : Int), .str x])) := same_lay na
    have hs6 := S6.2 _ _ nsp q2
    have hl2 := Paired.length q3
    refine ⟨sm, _, _, rfl, rfl, s7 _ _ hs6, ?_, ?_⟩
    · rw [List.length_map, sizeLine_eq]
      omega
    have S7 : Stp pl H (upd H6 a (.tup [.int (p : Int), .str x])) := S4.trans (S6.trans (Stp.of S6.1 s7))
    have hsm : (upd (upd H6 a (.tup [.int (p : Int), .str x])) sm (.lst (rs.map V.ref ++ [.ref a]))) sm = some (.lst ((rs ++ [a]).map V.ref)) := by rw [upd_same]; simp
    have S8 : Stp pl H (upd (upd H6 a (.tup [.int (p : Int), .str x])) sm (.lst (rs.map V.ref ++ [.ref a]))) := by
      obtain ⟨i1, j1, n1, z1, z2, z3⟩ := S7.1
      refine ⟨⟨i1, j1, n1, by rw [upd_ne (Ne.symm nsp)]; exact z1, z2, z3⟩, fun c o hc e => ?_⟩
      rw [upd_ne (ne_of_none e nH)]
      exact S7.2 c o hc e
    have hPr : Paired (fun (c : Addr) (r : RowD) => (upd (upd H6 a (.tup [.int (p : Int), .str x])) sm (.lst (rs.map V.ref ++ [.ref a]))) c = some (.tup [.int r.1, .str r.2])) (rs ++ [a]) (rows ++ [((p : Int), x)]) := by
      have nas : a ≠ sm := fun z => by rw [z, hs6] at na; cases na
      refine paired_snoc (Paired.mapP q3 fun c r z => ?_) (by rw [upd_ne nas, upd_same])
      have hcp := pool_ne S4.1 z
      have hcs : c ≠ sm := ne_of z q2 (by intro z; cases z)
      rw [upd_ne hcs]
      exact s7 _ _ (S6.2 _ _ hcp z)
    generalize upd (upd H6 a (.tup [.int (p : Int), .str x])) sm (.lst (rs.map V.ref ++ [.ref a])) = H8 at hsm S8 hPr ⊢
    refine ⟨_, rfl, sm, _, rfl, .inl ⟨SqL.of hsm, fun t nt => ?_⟩⟩
    refine k _ t rows x (S8.trans (Stp.of S8.1 (same_lay nt))) ⟨rs ++ [a], SqT.of upd_same, Paired.mapP hPr fun c r z => SqT.of (same_lay nt _ _ z)⟩ ⟨q5, by omega⟩ hx
end
end K2

set_option Elab.async false
set_option linter.all false
set_option maxRecDepth 100000
set_option maxHeartbeats 4000000
namespace K2
open PySem PySem.Spec PyProof.Rows L2 G1 G2
abbrev sMad : Stmt := topS 42
abbrev sLTx : Stmt := topS 43
theorem scMad : FnScope ["_law_shape_here", "_law_table_here"] ["_law_shape_here", "_law_table_here"] (defScope sMad) := ⟨rfl, rfl, rfl, by decide +kernel, rfl, by decide +kernel, by decide +kernel⟩
theorem scLTx : FnScope ["_law_shape_here", "_law_table_here", "_law_lines", "_law_bound", "_law_tone"] ["_law_shape_here", "_law_table_here"] (defScope sLTx) := ⟨rfl, rfl, rfl, by decide +kernel, rfl, by decide +kernel, by decide +kernel⟩
def ShpAt (K : PySem.W.Frag) (H : Hp) (s : Addr) (b p n : Nat) : Prop := SqT K H s [.int (b : Int), .int (p : Int), .int (n : Int)]
def spMad (K : PySem.W.Frag) (C : Addr) : Sp := fun vs H Q _ => ∃ (s t : Addr) (b p n : Nat) (ini : List RowD) (y : Str), vs = [.ref s, .ref t] ∧ ShpAt K H s b p n ∧ DP b p n ini y ∧ RowsAt K H t (ini ++ [((p : Int), y)]) ∧ Made K C H Q b p n ini y
def spLTx (K : PySem.W.Frag) : Sp := fun vs H Q _ => ∃ (s t : Addr) (b p n : Nat) (ini : List RowD) (y : Str), vs = [.ref s, .ref t] ∧ ShpAt K H s b p n ∧ DP b p n ini y ∧ RowsAt K H t (ini ++ [((p : Int), y)]) ∧ ∀ H' : Hp, Same H H' → Q (.str (textM (b : Int) (p : Int) (n : Int) ini y)) H'
section
variable {P : Program} {w : World} {K : PySem.W.Frag} {mg : Str → Option Value} {base : Heap}
theorem ok_mad {f C fI : Addr} {fd fdI : FuncData} (F : Fun K "_law_made" "_law_made" sMad f fd) (M : Mk K C fI) (GI : FnOk P w K mg base CX0 5 fI fdI ["self", "blocks", "pages", "names", "rows"] (spIni K C)) (bI : Binds K fdI ["self", "blocks", "pages", "names", "rows"] []) (gD : mg "Drive" = some (.ref C)) :
    FnOk P w K mg base CX0 7 f fd ["_law_shape_here", "_law_table_here"] (spMad K C) := by
  refine F.ok scMad (fun vs H Q E h => ?_) (fun cdv A outer s H vs Q E hr h => ?_)
  · obtain ⟨s, t, b, p, n, ini, y, rfl, _⟩ := h
    rfl
  obtain ⟨s, t, b, p, n, ini, y, rfl, hs, hd, hR, k⟩ := h
  refine ⟨_, pss_one (ps_ret (pe_make M GI hr (by rfl) gD bI .nil pass0 (pa_cons (pe_ix ix_tup (pv 0) pe_int (fun _ _ => rfl)) (pa_cons (pe_ix ix_tup (pv 0) pe_int (fun _ _ => rfl)) (pa_cons (pe_ix ix_tup (pv 0) pe_int (fun _ _ => rfl)) (pa_cons (pv 1) pa_nil)))))), ?_⟩
  refine ⟨_, rfl, s, _, _, _, rfl, rfl, hs, rfl, _, rfl, s, _, _, _, rfl, rfl, hs, rfl, _, rfl, s, _, _, _, rfl, rfl, hs, rfl, _, rfl, ?_⟩
  exact make_read hd hR k
theorem ok_ltx {f : Addr} {fd : FuncData} (F : Fun K "_law_text" "_law_text" sLTx f fd) : FnOk P w K mg base CX0 1 f fd ["_law_shape_here", "_law_table_here"] (spLTx K) := by
  refine F.ok scLTx (fun vs H Q E h => ?_) (fun cdv A outer s H vs Q E hr h => ?_)
  · obtain ⟨s, t, b, p, n, ini, y, rfl, _⟩ := h
    rfl
  obtain ⟨s, t, b, p, n, ini, y, rfl, hs, hd, ⟨rs0, hT0, hP0⟩, k⟩ := h
  have hini := hd.ini
  have hy := hd.y
  have hz := hd.sz
  have hb : b < 26 := by have := hz.b1; omega
  have hp : p < 26 := by have := hz.p1; omega
  have hn := hz.n25
  obtain ⟨rs, rl, rfl, hP, hl⟩ := paired_split hP0
  have hT : SqT K H t (rs.map V.ref ++ [V.ref rl]) := by
    have e : (rs ++ [rl]).map V.ref = rs.map V.ref ++ [V.ref rl] := by simp
    rwa [e] at hT0
  refine ⟨_, pss_cons (ps_set (i := 2) scLTx.nd rfl (.inl rfl) (pe_lst (pa_cons (pe_joined (.cons pe_str (.cons (pe_fmt (pe_ix ix_tup (pv 0) pe_int (fun _ _ => rfl))) (.cons pe_str (.cons (pe_fmt (pe_ix ix_tup (pv 0) pe_int (fun _ _ => rfl))) (.cons pe_str (.cons (pe_fmt (pe_ix ix_tup (pv 0) pe_int (fun _ _ => rfl))) (.cons pe_str .nil)))))))) pa_nil)))
    (pss_cons (ps_for PassesOwn.never rfl (pi_tup (pe_slice sl_tup (pv 1) po_none (po_some (pe_un un_neg pe_int)))) (pg_tup rfl (pgs_cons (pg_name (i := 3) scLTx.nd rfl (.inl rfl)) (pgs_cons (pg_name (i := 4) scLTx.nd rfl (.inl rfl)) pgs_nil)))
      (pss_one (ps_expr (pe_bm PySem.F.plainAttrs_list PySem.F.slot_list_append PySem.F.type_list_append mt_append (pv 2) (pa_cons (pe_joined (.cons pe_str (.cons (pe_fmt (pv 3)) (.cons pe_str (.cons (pe_fmt (pv 4)) .nil))))) pa_nil)))))
    (pss_one (ps_ret (pe_join pe_str (pe_op op_cat (pv 2) (pe_lst (pa_cons (pe_op op_add_str pe_str (pe_ix ix_tup (pe_ix ix_tup (pv 1) (pe_un un_neg pe_int) (fun _ _ => rfl)) pe_int (fun _ _ => rfl))) pa_nil))))))), ?_⟩
  refine seq_asg (lst_read (cons_read ?_))
  refine head_read hb hp hn (fun R q => ⟨_, rfl, s, _, _, _, rfl, rfl, hs, rfl, q⟩) (fun R q => ⟨_, rfl, s, _, _, _, rfl, rfl, hs, rfl, q⟩) (fun R q => ⟨_, rfl, s, _, _, _, rfl, rfl, hs, rfl, q⟩) ?_
  refine nil_read ⟨by show 1 ≤ sizeLine; decide, fun l nl => ?_⟩
  refine seq_for fun D' hD1 hD2 => ?_
  have s1 : Same H (upd H l (.lst [.str (headM (b : Int) (p : Int) (n : Int))])) := same_lay nl
  refine ⟨_, rfl, _, rfl, _, rfl, t, _, rfl, K2.Same.tup s1 hT, cut_not _ _, fun u nu => ?_⟩
  rw [show (-(1 : Int)) = -1 from rfl, cut_last]
  have hu : (upd (upd H l (.lst [.str (headM (b : Int) (p : Int) (n : Int))])) u (.tup (rs.map V.ref))) u = some (.tup (rs.map V.ref)) := upd_same
  refine ⟨u, rfl, ⟨_, SqT.of hu⟩, ?_⟩
  have nul : u ≠ l := fun z => by rw [z, upd_same] at nu; cases nu
  refine for_tup (K := K) (xs := rs.map V.ref) (fun i σ H' => ∃ x3 x4, σ = [some (.ref s), some (.ref t), some (.ref l), x3, x4] ∧ Same H H' ∧ H' u = some (.tup (rs.map V.ref)) ∧
      H' l = some (.lst ((headM (b : Int) (p : Int) (n : Int) :: (ini.take i).map lineM).map V.str))) ⟨none, none, rfl, s1.trans (same_lay nu), hu, ?_⟩ (fun i σ H' _ q => ?_) ?_ ?_
  · rw [upd_ne (Ne.symm nul), upd_same]; rfl
  · obtain ⟨_, _, _, _, q, _⟩ := q
    exact SqT.of q
  · rintro i x σ H' hi ⟨x3, x4, rfl, s2, q1, q2⟩
    rw [List.getElem?_map] at hi
    obtain ⟨a, ha, rfl⟩ : ∃ a, rs[i]? = some a ∧ V.ref a = x := by
      cases hq : rs[i]? with
      | none => rw [hq] at hi; cases hi
      | some a => rw [hq] at hi; exact ⟨a, rfl, Option.some.inj hi⟩
    obtain ⟨r, hr1, hr2⟩ := paired_get hP ha
    have hrok : RowOk p r := hini.1 r (List.mem_of_getElem? hr1)
    refine ⟨a, _, rfl, K2.Same.tup s2 hr2, rfl, _, _, rfl, _, _, rfl, rfl, ?_⟩
    refine ⟨_, rfl, .inl ⟨rfl, _, SqL.of q2⟩, ?_⟩
    refine line_read hp hrok (fun R q => ⟨_, rfl, q⟩) (fun R q => ⟨_, rfl, q⟩) ?_
    refine ⟨l, _, _, rfl, rfl, q2, ?_, _, _, rfl, fun b o e => ?_, ?_, ?_⟩
    · rw [List.length_map, List.length_cons, List.length_map, List.length_take, sizeLine_eq]
      have := hini.2
      omega
    · rw [upd_ne (ne_of_none e nl)]; exact s2 _ _ e
    · rw [upd_ne nul]; exact q1
    · rw [upd_same, List.take_add_one, hr1]
      simp
  · rintro σ H' ⟨x3, x4, rfl, s2, q1, q2⟩
    rw [hD1]
    have el : (rs.map V.ref).length = ini.length := by rw [List.length_map]; exact Paired.length hP
    rw [el, List.take_length] at q2
    have hal := len_any y hy
    have hwl := word_len y hy
    refine ⟨⟨_, rfl⟩, _, rfl, ?_⟩
    refine lst_read (cons_read (op_read (c_read ?_)))
    refine ⟨_, rfl, _, rfl, t, _, _, .ref rl, rfl, rfl, K2.Same.tup s2 hT, at_last _ _, rl, _, _, .str y, rfl, rfl, K2.Same.tup s2 hl, rfl, _, _, rfl, rfl, ?_, ?_⟩
    · have e1 : (Str.ofString "any: ").length = 5 := by decide +kernel
      exact small_line (by omega)
    refine nil_read ⟨by show 1 ≤ sizeLine; decide, fun l2 n2 => ?_⟩
    refine ⟨l, l2, _, _, rfl, rfl, same_lay n2 _ _ q2, upd_same, ?_, fun l3 n3 => ?_⟩
    · rw [List.length_map, List.length_cons, List.length_map, sizeLine_eq]
      have := hini.2
      show ini.length + 1 + 1 ≤ _
      omega
    have q3 : (upd (upd H' l2 (.lst [.str (anyM y)])) l3 (.lst ((headM (b : Int) (p : Int) (n : Int) :: ini.map lineM).map V.str ++ [.str (anyM y)]))) l3 = some (.lst ((linesM (b : Int) (p : Int) (n : Int) ini y).map V.str)) := by
      rw [upd_same]
      unfold linesM
      simp
    exact ⟨_, l3, linesM (b : Int) (p : Int) (n : Int) ini y, rfl, rfl, .inl (SqL.of q3), join_fits _ (lines_len b p n hb hp hn ini hini y hy), k _ (s2.trans ((same_lay n2).trans (same_lay n3)))⟩
end
end K2

set_option Elab.async false
set_option linter.all false
set_option maxRecDepth 100000
set_option maxHeartbeats 4000000
namespace K2
open PySem PySem.Spec PyProof.Rows L2 G1 G2
def rowD (r : RowD) : PyData := .tuple [.int r.1, .str r.2]
def seenD (b p n : Int) (rows : List RowD) (x : Str) : PyData := .list [.int b, .int p, .int n, .tuple (rows.map rowD), .int (rows.length : Int), .str x]
/-- a bundle of what repr and == ask of a datum -/
structure Fine (d : PyData) (k : Nat) : Prop where
  sh : d.showable = true
  ls : d.leavesShort 1921 = true
  wt : d.weight ≤ k
  dp : d.depth ≤ 3
  cl : d.canLay0 = true
  eq : PyData.eqv d d = true
  hd : d.hasDict = false
theorem fine_row : ∀ j : Nat, j < 26 → ∀ w ∈ wordsL, (rowD ((j : Int), w)).showable = true ∧ (rowD ((j : Int), w)).leavesShort 1921 = true ∧ (rowD ((j : Int), w)).weight ≤ 30 ∧ (rowD ((j : Int), w)).depth ≤ 1 ∧ (rowD ((j : Int), w)).canLay0 = true ∧
    PyData.eqv (rowD ((j : Int), w)) (rowD ((j : Int), w)) = true ∧ (rowD ((j : Int), w)).hasDict = false := by decide +kernel
theorem fine_int : ∀ j : Nat, j < 26 → (PyData.int (j : Int)).showable = true ∧ (PyData.int (j : Int)).leavesShort 1921 = true ∧ (PyData.int (j : Int)).weight ≤ 30 := by decide +kernel
theorem fine_rows (p : Nat) (hp : p < 26) : ∀ rows : List RowD, (∀ r ∈ rows, RowOk p r) → PyData.showableAll (rows.map rowD) = true ∧ PyData.leavesShortAll 1921 (rows.map rowD) = true ∧ PyData.weightAll (rows.map rowD) ≤ rows.length * 31 ∧ PyData.depthAll (rows.map rowD) ≤ 1 ∧
    PyData.canLayAll0 (rows.map rowD) = true ∧ PyData.eqvAll (rows.map rowD) (rows.map rowD) = true ∧ PyData.hasDictAll (rows.map rowD) = false
  | [], _ => by simp [PyData.showableAll, PyData.leavesShortAll, PyData.weightAll, PyData.depthAll, PyData.canLayAll0, PyData.eqvAll, PyData.hasDictAll]
  | (l, w) :: rows, h => by
    obtain ⟨a1, a2, a3⟩ := h _ (List.mem_cons_self ..)
    dsimp only at a1 a2 a3
    obtain ⟨j, rfl⟩ : ∃ j : Nat, l = (j : Int) := ⟨l.toNat, by omega⟩
    obtain ⟨c1, c2, c3, c4, c5, c6, c7⟩ := fine_row j (by omega) w a3
    obtain ⟨d1, d2, d3, d4, d5, d6, d7⟩ := fine_rows p hp rows fun r hr => h r (List.mem_cons_of_mem _ hr)
    rw [List.map_cons]
    refine ⟨?_, ?_, ?_, ?_, ?_, ?_, ?_⟩
    · rw [PyData.showableAll, c1, d1]; rfl
    · rw [PyData.leavesShortAll, c2, d2]; rfl
    · rw [PyData.weightAll, List.length_cons]; omega
    · rw [PyData.depthAll]; omega
    · rw [PyData.canLayAll0, c5, d5]; rfl
    · rw [PyData.eqvAll, c6, d6]; rfl
    · rw [PyData.hasDictAll, c7, d7]; rfl
/-! ### the text is plain -/
def Plain (x : Str) : Prop := ∀ c ∈ TL.tl x, c < 128
theorem plain_app {x y : Str} (hx : Plain x) (hy : Plain y) : Plain (x ++ y) := by
  intro c hc
  rw [TL.tl_append] at hc
  rcases List.mem_append.mp hc with h | h
  · exact hx c h
  · exact hy c h
theorem plain_join {sep : Str} (hs : Plain sep) : ∀ l : List Str, (∀ x ∈ l, Plain x) → Plain (Str.join sep l)
  | [], _ => by show Plain Str.empty; unfold Plain; decide +kernel
  | [x], h => h x (List.mem_singleton.mpr rfl)
  | x :: z :: r, h => by
    show Plain (x ++ sep ++ Str.join sep (z :: r))
    exact plain_app (plain_app (h x (List.mem_cons_self ..)) hs) (plain_join hs (z :: r) fun y hy => h y (List.mem_cons_of_mem _ hy))
theorem plain_num : ∀ i : Nat, i < 26 → ∀ c ∈ TL.tl (numS (i : Int)), c < 128 := by decide +kernel
theorem plain_word : ∀ w ∈ wordsL, ∀ c ∈ TL.tl w, c < 128 := by decide +kernel
theorem plain_text (b p n : Nat) (hb : b < 26) (hp : p < 26) (hn : n < 26) (ini : List RowD) (hi : IniOk p ini) (y : Str) (hy : y ∈ wordsL) : Plain (textM (b : Int) (p : Int) (n : Int) ini y) := by
  unfold textM
  rw [TL.join_eq]
  have e0 : Plain Str.empty := by unfold Plain; decide +kernel
  refine plain_join (by unfold Plain; decide +kernel) _ fun x hx => ?_
  unfold linesM at hx
  rcases List.mem_cons.mp hx with rfl | hx
  · unfold headM
    exact plain_app (plain_app (plain_app (plain_app (plain_app (plain_app (plain_app e0 (by unfold Plain; decide +kernel)) (plain_num b hb)) (by unfold Plain; decide +kernel)) (plain_num p hp)) (by unfold Plain; decide +kernel)) (plain_num n hn)) (by unfold Plain; decide +kernel)
  rcases List.mem_append.mp hx with hx | hx
  · obtain ⟨⟨l, w⟩, hr, rfl⟩ := List.mem_map.mp hx
    obtain ⟨a1, a2, a3⟩ := hi.1 _ hr
    dsimp only at a1 a2 a3
    obtain ⟨j, rfl⟩ : ∃ j : Nat, l = (j : Int) := ⟨l.toNat, by omega⟩
    unfold lineM
    exact plain_app (plain_app (plain_app (plain_app e0 (by unfold Plain; decide +kernel)) (plain_num j (by omega))) (by unfold Plain; decide +kernel)) (plain_word w a3)
  · rw [List.mem_singleton.mp hx]
    unfold anyM
    exact plain_app (by unfold Plain; decide +kernel) (plain_word y hy)
theorem fine_str {x : Str} (h : Plain x) : (PyData.str x).showable = true ∧ (PyData.str x).leavesShort 1921 = true ∧ (PyData.str x).canLay0 = true := by
  refine ⟨by simp [PyData.showable], ?_, ?_⟩
  · simp only [PyData.leavesShort, List.all_eq_true, decide_eq_true_eq]
    intro c hc
    have := h c hc
    omega
  · simp only [PyData.canLay0]
    unfold PyData.strOk
    rw [← Array.all_toList, List.all_eq_true]
    intro c hc
    have := h c hc
    exact decide_eq_true (by omega)
theorem fine_seen (b p n : Nat) (hb : b < 26) (hp : p < 26) (hn : n < 26) (rows : List RowD) (hr : ∀ r ∈ rows, RowOk p r) (h4 : rows.length ≤ 4) (x : Str) (hx : Plain x) (hl : x.length ≤ 205) : Fine (seenD (b : Int) (p : Int) (n : Int) rows x) 1000 := by
  obtain ⟨d1, d2, d3, d4, d5, d6, d7⟩ := fine_rows p hp rows hr
  obtain ⟨s1, s2, s3⟩ := fine_str hx
  obtain ⟨b1, b2, b3⟩ := fine_int b hb
  obtain ⟨p1, p2, p3⟩ := fine_int p hp
  obtain ⟨n1, n2, n3⟩ := fine_int n hn
  obtain ⟨l1, l2, l3⟩ := fine_int rows.length (by omega)
  unfold seenD
  refine ⟨?_, ?_, ?_, ?_, ?_, ?_, ?_⟩
  · simp only [PyData.showable, PyData.showableAll] at b1 p1 n1 l1 s1 d1 ⊢
    simp only [b1, p1, n1, l1, d1, Bool.and_self]
  · simp only [PyData.leavesShort, PyData.leavesShortAll] at b2 p2 n2 l2 s2 d2 ⊢
    simp only [b2, p2, n2, l2, s2, d2, Bool.and_self]
  · have hx2 : (PyData.str x).weight ≤ 205 := by simp only [PyData.weight]; exact hl
    rw [PyData.weight]
    simp only [PyData.weightAll]
    have ht : (PyData.tuple (rows.map rowD)).weight = PyData.weightAll (rows.map rowD) := by rw [PyData.weight]
    omega
  · rw [PyData.depth]
    simp only [PyData.depthAll, PyData.depth]
    omega
  · simp only [PyData.canLay0, PyData.canLayAll0] at s3 d5 ⊢
    simp only [s3, d5, Bool.and_self]
  · simp only [PyData.eqv, PyData.eqvAll, d6, beq_self_eq_true, Bool.and_self]
  · simp only [PyData.hasDict, PyData.hasDictAll, d7, Bool.or_self]
theorem gd_fine {d : PyData} (h : Fine d 1000) : Gd d := by
  refine ⟨h.sh, ?_, by have := h.dp; omega⟩
  have z := PyData.shown_le 1921 (by decide) d h.ls
  have := h.wt
  rw [sizeLine_eq]
  omega
theorem tg_fine {K : PySem.W.Frag} {H : Hp} {v : V} {d : PyData} (h : Fine d 1000) (hd : Dp K H v d) : Tg K H v d := by
  refine .dp hd ?_ h.eq h.hd
  unfold SeqAt.shaped
  rw [h.cl, Bool.true_and, decide_eq_true_eq]
  have := h.dp
  omega
theorem dp_rows {K : PySem.W.Frag} {H : Hp} : ∀ {rs : List Addr} {rows : List RowD}, Paired (fun (a : Addr) (r : RowD) => SqT K H a [.int r.1, .str r.2]) rs rows → DpAll K H (rs.map V.ref) (rows.map rowD)
  | _, _, .nil => .nil
  | _, _, .cons r t => .cons (.tup r (.cons (.int _) (.cons (.str _) .nil))) (dp_rows t)
theorem dp_tab {K : PySem.W.Frag} {H : Hp} {t : Addr} {rows : List RowD} (h : RowsAt K H t rows) : Dp K H (.ref t) (.tuple (rows.map rowD)) := by
  obtain ⟨rs, h1, h2⟩ := h
  exact .tup h1 (dp_rows h2)
/-- what is seen of a drive -/
def seenM (b p n : Nat) (ini : List RowD) (y : Str) : Str := (seenD (b : Int) (p : Int) (n : Int) (ini ++ [((p : Int), y)]) (textM (b : Int) (p : Int) (n : Int) ini y)).shown
theorem fine_dp {b p n : Nat} {ini : List RowD} {y : Str} (h : DP b p n ini y) : Fine (seenD (b : Int) (p : Int) (n : Int) (ini ++ [((p : Int), y)]) (textM (b : Int) (p : Int) (n : Int) ini y)) 1000 := by
  have hz := h.sz
  have b1 := hz.b1
  have p1 := hz.p1
  obtain ⟨r1, r2⟩ := rows_ok h.ini h.y
  exact fine_seen b p n (by omega) (by omega) hz.n25 _ r1 r2 _ (plain_text b p n (by omega) (by omega) hz.n25 ini h.ini y h.y) (text_len b p n (by omega) (by omega) hz.n25 ini h.ini y h.y)
end K2

set_option Elab.async false
set_option linter.all false
set_option maxRecDepth 100000
set_option maxHeartbeats 4000000
namespace K2
open PySem PySem.Spec PyProof.Rows L2 G1 G2
abbrev sSee : Stmt := topS 45
abbrev sDue : Stmt := topS 46
theorem scSee : FnScope ["_law_mine"] ["_law_mine"] (defScope sSee) := ⟨rfl, rfl, rfl, by decide +kernel, rfl, by decide +kernel, by decide +kernel⟩
theorem scDue : FnScope ["_law_shape_here", "_law_table_here"] ["_law_shape_here", "_law_table_here"] (defScope sDue) := ⟨rfl, rfl, rfl, by decide +kernel, rfl, by decide +kernel, by decide +kernel⟩
theorem bRepr : bootBuiltins "repr" = some (.builtin "repr") := by decide +kernel
structure PrpOk (P : Program) (w : World) (K : PySem.W.Frag) (mg : Str → Option Value) (base : Heap) (C : Addr) (nm fld : Str) : Prop where
  ex : ∃ (p g : Addr) (fd : FuncData), PropOf K C nm p g ∧ FnOk P w K mg base CX0 1 g fd ["self"] (getSp C fld) ∧ Binds K fd ["self"] []
/-- a drive's methods -/
structure DD (P : Program) (w : World) (K : PySem.W.Frag) (mg : Str → Option Value) (base : Heap) (C : Addr) : Prop where
  T : DCls K C
  D : DKit K C
  N : NoSub K C
  pb : PrpOk P w K mg base C "blocks" "kept_blocks"
  pp : PrpOk P w K mg base C "pages" "kept_pages"
  pn : PrpOk P w K mg base C "names" "kept_names"
  pr : PrpOk P w K mg base C "rows" "kept_rows"
  st : ∃ g, PySem.W.findIn K (.ref C) "__str__" = some (some (.ref g)) ∧ PySem.W.isFn K (.ref g) = true ∧ FnR P w K mg base CX0 1 g (spStrD C)
  ln : ∃ g, PySem.W.findIn K (.ref C) "__len__" = some (some (.ref g)) ∧ PySem.W.isFn K (.ref g) = true ∧ FnR P w K mg base CX0 1 g (spLenD K C)
  eq : ∃ g, PySem.W.findIn K (.ref C) "__eq__" = some (some (.ref g)) ∧ PySem.W.isFn K (.ref g) = true ∧ FnR P w K mg base CX0 1 g (spEqD K C)
  ne : PySem.W.findIn K (.ref C) "__ne__" = some (some (.builtin "object.__ne__"))
  nb : PySem.W.findIn K (.ref C) "__bool__" = some none
  gD : mg "Drive" = some (.ref C)
def spSee (K : PySem.W.Frag) (C : Addr) : Sp := fun vs H Q _ => ∃ (x : Addr) (b p n : Nat) (ini : List RowD) (y : Str), vs = [.ref x] ∧ DrvAt K C H x b p n ini y ∧ DP b p n ini y ∧ ∀ H' : Hp, Same H H' → Q (.str (seenM b p n ini y)) H'
def spDue (K : PySem.W.Frag) : Sp := fun vs H Q _ => ∃ (s t : Addr) (b p n : Nat) (ini : List RowD) (y : Str), vs = [.ref s, .ref t] ∧ ShpAt K H s b p n ∧ DP b p n ini y ∧ RowsAt K H t (ini ++ [((p : Int), y)]) ∧ ∀ H' : Hp, Same H H' → Q (.str (seenM b p n ini y)) H'
section
variable {P : Program} {w : World} {K : PySem.W.Frag} {mg : Str → Option Value} {base : Heap}
theorem rows_len {H : Hp} {t : Addr} {rows : List RowD} (h : RowsAt K H t rows) : ∃ xs : List V, SqT K H t xs ∧ xs.length = rows.length := by
  obtain ⟨rs, h1, h2⟩ := h
  exact ⟨_, h1, by rw [List.length_map]; exact Paired.length h2⟩
theorem ok_see {f C : Addr} {fd : FuncData} (F : Fun K "_law_seen" "_law_seen" sSee f fd) (B : Bl mg) (M : DD P w K mg base C) : FnG P w K mg base 4 f fd ["_law_mine"] (spSee K C) := by
  refine okG F scSee (fun vs H Q E h => ?_) (fun cdv A outer s H vs Q E hgu hr h => ?_)
  · obtain ⟨x, b, p, n, ini, y, rfl, _⟩ := h
    rfl
  obtain ⟨x, b, p, n, ini, y, rfl, ⟨dx, t, hx, hR⟩, hd, k⟩ := h
  have hr2 : Room 2 _ := hr.mono (by decide)
  have hr3 : Room 3 _ := hr
  obtain ⟨pb, gb, fb, P1, F1, B1⟩ := M.pb.ex
  obtain ⟨pp, gp, fp, P2, F2, B2⟩ := M.pp.ex
  obtain ⟨pn, gn, fn, P3, F3, B3⟩ := M.pn.ex
  obtain ⟨pr, gr, fr, P4, F4, B4⟩ := M.pr.ex
  obtain ⟨gs, S1, S2, S3⟩ := M.st
  obtain ⟨gl, L1, L2', L3⟩ := M.ln
  refine ⟨_, pss_one (ps_ret (pe_callB (call_repr hgu hr.units) (by rfl) B.repr bRepr (pa_cons (pe_lst (pa_cons (pe_prop (pv 0) M.T.cl P1 F1 hr2 B1 .nil pass0 rfl) (pa_cons (pe_prop (pv 0) M.T.cl P2 F2 hr2 B2 .nil pass0 rfl) (pa_cons (pe_prop (pv 0) M.T.cl P3 F3 hr2 B3 .nil pass0 rfl)
    (pa_cons (pe_prop (pv 0) M.T.cl P4 F4 hr2 B4 .nil pass0 rfl) (pa_cons (pe_callB (call_lenO L1 L2' L3 hr2 pass0) (by rfl) B.len PySem.boot_len (pa_cons (pv 0) pa_nil)) (pa_cons (pe_callTy (call_strO S1 S2 S3 hr3 pass0) (by rfl) B.str bStr (pa_cons (pv 0) pa_nil)) pa_nil))))))) pa_nil))), ?_⟩
  obtain ⟨xs, hT, hl⟩ := rows_len hR
  have hini := hd.ini.2
  refine ⟨_, rfl, x, dx, _, rfl, hx, x, dx, _, _, rfl, hx, rfl, ?_⟩
  refine ⟨_, rfl, x, dx, _, rfl, hx, x, dx, _, _, rfl, hx, rfl, ?_⟩
  refine ⟨_, rfl, x, dx, _, rfl, hx, x, dx, _, _, rfl, hx, rfl, ?_⟩
  refine ⟨_, rfl, x, dx, _, rfl, hx, x, dx, _, _, rfl, hx, rfl, ?_⟩
  refine ⟨_, rfl, x, dx, _, rfl, hx, x, dx, t, _, xs, rfl, hx, rfl, hT, (xs.length : Int), rfl, by omega, ?_, ?_⟩
  · rw [hl, List.length_append]
    show ((ini.length + 1 : Nat) : Int) < _
    omega
  refine ⟨_, rfl, x, dx, _, rfl, hx, x, dx, _, _, rfl, hx, rfl, _, rfl, by show 6 ≤ sizeLine; decide, fun l nl => ?_⟩
  have sl : Same H (upd H l (.lst [.int (b : Int), .int (p : Int), .int (n : Int), .ref t, .int (xs.length : Int), .str (textM (b : Int) (p : Int) (n : Int) ini y)])) := same_lay nl
  refine ⟨.ref l, _, rfl, tg_fine (fine_dp hd) (.lst (SqL.of upd_same) (.cons (.int _) (.cons (.int _) (.cons (.int _) (.cons (dp_tab (hR.same sl)) (.cons ?_ (.cons (.str _) .nil))))))), gd_fine (fine_dp hd), k _ sl⟩
  rw [hl]
  exact .int _
theorem ok_due {f fT : Addr} {fd fdT : FuncData} (F : Fun K "_law_due" "_law_due" sDue f fd) (B : Bl mg) (GT : FnOk P w K mg base CX0 1 fT fdT ["_law_shape_here", "_law_table_here"] (spLTx K)) (kT : PySem.W.keepIn K (.ref fT) = true) (bT : Binds K fdT ["_law_shape_here", "_law_table_here"] [])
    (gT : mg "_law_text" = some (.ref fT)) : FnG P w K mg base 4 f fd ["_law_shape_here", "_law_table_here"] (spDue K) := by
  refine okG F scDue (fun vs H Q E h => ?_) (fun cdv A outer s H vs Q E hgu hr h => ?_)
  · obtain ⟨s, t, b, p, n, ini, y, rfl, _⟩ := h
    rfl
  obtain ⟨s, t, b, p, n, ini, y, rfl, hs, hd, hR, k⟩ := h
  have hr1 : Room 1 _ := hr.mono (by decide)
  refine ⟨_, pss_one (ps_ret (pe_callB (call_repr hgu hr.units) (by rfl) B.repr bRepr (pa_cons (pe_lst (pa_cons (pe_ix ix_tup (pv 0) pe_int (fun _ _ => rfl)) (pa_cons (pe_ix ix_tup (pv 0) pe_int (fun _ _ => rfl)) (pa_cons (pe_ix ix_tup (pv 0) pe_int (fun _ _ => rfl)) (pa_cons (pv 1)
    (pa_cons (pe_callB call_len_seq (by rfl) B.len PySem.boot_len (pa_cons (pv 1) pa_nil)) (pa_cons (pe_call GT hr1 (by rfl) gT kT bT .nil pass0 (pa_cons (pv 0) (pa_cons (pv 1) pa_nil))) pa_nil))))))) pa_nil))), ?_⟩
  obtain ⟨xs, hT, hl⟩ := rows_len hR
  refine ⟨_, rfl, s, _, _, _, rfl, rfl, hs, rfl, _, rfl, s, _, _, _, rfl, rfl, hs, rfl, _, rfl, s, _, _, _, rfl, rfl, hs, rfl, _, rfl, ?_⟩
  refine ⟨_, rfl, t, _, rfl, .inr hT, ?_⟩
  refine ⟨_, rfl, _, rfl, s, t, b, p, n, ini, y, rfl, hs, hd, hR, fun H1 s1 => ⟨by show 6 ≤ sizeLine; decide, fun l nl => ?_⟩⟩
  have sl : Same H1 (upd H1 l (.lst [.int (b : Int), .int (p : Int), .int (n : Int), .ref t, .int (xs.length : Int), .str (textM (b : Int) (p : Int) (n : Int) ini y)])) := same_lay nl
  refine ⟨.ref l, _, rfl, tg_fine (fine_dp hd) (.lst (SqL.of upd_same) (.cons (.int _) (.cons (.int _) (.cons (.int _) (.cons (dp_tab ((hR.same s1).same sl)) (.cons ?_ (.cons (.str _) .nil))))))), gd_fine (fine_dp hd), k _ (s1.trans sl)⟩
  rw [hl]
  exact .int _
end
end K2

set_option Elab.async false
set_option linter.all false
set_option maxRecDepth 100000
set_option maxHeartbeats 4000000
namespace K2
open PySem PySem.Spec PyProof.Rows L2 G1 G2
abbrev sOth : Stmt := topS 44
theorem scOth : FnScope ["_law_shape_here", "_law_table_here", "_law_many", "_law_size", "_law_room", "_law_tones", "_law_found", "_law_tone"] ["_law_shape_here", "_law_table_here"] (defScope sOth) := ⟨rfl, rfl, rfl, by decide +kernel, rfl, by decide +kernel, by decide +kernel⟩
/-- a shape and a table, in a tuple -/
def FarAt (K : PySem.W.Frag) (H : Hp) (a : Addr) : Prop := ∃ (s t : Addr) (b p n : Nat) (ini : List RowD) (y : Str), SqT K H a [.ref s, .ref t] ∧ ShpAt K H s b p n ∧ Shp b p n ∧ RowsAt K H t (ini ++ [((p : Int), y)]) ∧ IniOk p ini ∧ y ∈ wordsL
theorem FarAt.same {K : PySem.W.Frag} {H H' : Hp} {a : Addr} (h : FarAt K H a) (e : Same H H') : FarAt K H' a := by
  obtain ⟨s, t, b, p, n, ini, y, h1, h2, h3, h4, h5, h6⟩ := h
  exact ⟨s, t, b, p, n, ini, y, K2.Same.tup e h1, K2.Same.tup e h2, h3, h4.same e, h5, h6⟩
theorem keepL_tup {K : PySem.W.Frag} {x a : Addr} {H : Hp} {zs : List V} {o : HO} {xs : List V} (hx : H x = some (.lst zs)) (h : SqT K H a xs) : SqT K (upd H x o) a xs := by
  rcases h with (h | ⟨u, h⟩) | h
  · exact .inl (.inl (by show (upd H x o) a = _; rw [upd_ne (ne_of h hx (by intro z; cases z))]; exact h))
  · exact .inl (.inr ⟨u, by rw [upd_ne (ne_of h hx (by intro z; cases z))]; exact h⟩)
  · exact .inr h
theorem keepL_rows {K : PySem.W.Frag} {x t : Addr} {H : Hp} {zs : List V} {o : HO} {rows : List RowD} (hx : H x = some (.lst zs)) (h : RowsAt K H t rows) : RowsAt K (upd H x o) t rows := by
  obtain ⟨rs, h1, h2⟩ := h
  exact ⟨rs, keepL_tup hx h1, Paired.mapP h2 fun _ _ z => keepL_tup hx z⟩
theorem keepL_far {K : PySem.W.Frag} {x a : Addr} {H : Hp} {zs : List V} {o : HO} (hx : H x = some (.lst zs)) (h : FarAt K H a) : FarAt K (upd H x o) a := by
  obtain ⟨s, t, b, p, n, ini, y, h1, h2, h3, h4, h5, h6⟩ := h
  exact ⟨s, t, b, p, n, ini, y, keepL_tup hx h1, keepL_tup hx h2, h3, keepL_rows hx h4, h5, h6⟩
/-- what is found so far -/
structure FInv (K : PySem.W.Frag) (H0 : Hp) (fo : Addr) (H : Hp) (as : List Addr) : Prop where
  nf : H0 fo = none
  sm : Same H0 H
  at_ : H fo = some (.lst (as.map V.ref))
  far : ∀ a ∈ as, FarAt K H a
theorem app_stmt {K : PySem.W.Frag} {H0 H : Hp} {fo : Addr} {as : List Addr} {σ : L2.St} {D : Ends} {tS tT : TE} (hσ : σ[6]? = some (some (.ref fo))) (I : FInv K H0 fo H as) (hlen : as.length ≤ 30)
    (hc : ∀ R : List V → Hp → Prop, (∀ (H1 : Hp) (s t : Addr) (b p n : Nat) (ini : List RowD) (y : Str), Same H H1 → ShpAt K H1 s b p n → Shp b p n → RowsAt K H1 t (ini ++ [((p : Int), y)]) → IniOk p ini → y ∈ wordsL → R [.ref s, .ref t] H1) → tCons tS (tCons tT tNil) σ H R)
    (k : ∀ (H' : Hp) (as' : List Addr), FInv K H0 fo H' as' → as'.length = as.length + 1 → D.nx σ H') : tDrop (tBM K "list" rAppend (tVar 6) (tCons (tTup (tCons tS (tCons tT tNil))) tNil)) D σ H := by
  refine ⟨_, hσ, .inl ⟨rfl, _, SqL.of I.at_⟩, ?_⟩
  refine cons_read (tup_read (hc _ fun H1 s t b p n ini y s1 h1 h2 h3 h4 h5 => ⟨by show 2 ≤ sizeLine; decide, fun a na => ?_⟩))
  have s2 : Same H (upd H1 a (.tup [.ref s, .ref t])) := s1.trans (same_lay na)
  have sa : Same H1 (upd H1 a (.tup [.ref s, .ref t])) := same_lay na
  have hfo := s2 _ _ I.at_
  have hfar : FarAt K (upd H1 a (.tup [.ref s, .ref t])) a := ⟨s, t, b, p, n, ini, y, SqT.of upd_same, K2.Same.tup sa h1, h2, h3.same sa, h4, h5⟩
  refine nil_read ⟨fo, _, _, rfl, rfl, hfo, ?_, ?_⟩
  · rw [List.length_map, sizeLine_eq]; omega
  refine k _ (as ++ [a]) ⟨I.nf, fun c o e => ?_, ?_, ?_⟩ (by rw [List.length_append]; rfl)
  · rw [upd_ne (ne_of_none e I.nf)]
    exact s2 _ _ (I.sm _ _ e)
  · rw [upd_same]; simp
  · intro c hc'
    rcases List.mem_append.mp hc' with h | h
    · exact keepL_far hfo ((I.far c h).same s2)
    · rw [List.mem_singleton.mp h]
      exact keepL_far hfo hfar
/-! ### pieces of tables -/
theorem cat_rows {K : PySem.W.Frag} {H : Hp} {Q : VK} {a c : Addr} {xs ys : List RowD} (h1 : RowsAt K H a xs) (h2 : RowsAt K H c ys) (hl : xs.length + ys.length ≤ 100) (k : ∀ (H' : Hp) (d : Addr), Same H H' → RowsAt K H' d (xs ++ ys) → Q (.ref d) H') : rCatA K (.ref a) (.ref c) H Q := by
  obtain ⟨rs, a1, a2⟩ := id h1
  obtain ⟨rt, b1, b2⟩ := id h2
  have l1 := Paired.length a2
  have l2 := Paired.length b2
  refine ⟨a, c, _, _, rfl, rfl, a1, b1, ?_, fun e => ?_, fun _ e => ?_, fun _ _ p np => ?_⟩
  · rw [List.length_map, List.length_map, sizeLine_eq]; omega
  · have e0 : rs = [] := List.map_eq_nil_iff.mp e
    subst e0
    cases a2
    exact k H c (Same.refl H) (by simpa using h2)
  · have e0 : rt = [] := List.map_eq_nil_iff.mp e
    subst e0
    cases b2
    exact k H a (Same.refl H) (by simpa using h1)
  · refine k _ p (same_lay np) ⟨rs ++ rt, SqT.of (by rw [upd_same]; simp), ?_⟩
    have z : ∀ {l1 : List Addr} {m1 : List RowD}, Paired (fun (a : Addr) (r : RowD) => SqT K H a [.int r.1, .str r.2]) l1 m1 → Paired (fun (a : Addr) (r : RowD) => SqT K (upd H p (.tup (rs.map V.ref ++ rt.map V.ref))) a [.int r.1, .str r.2]) (l1 ++ rt) (m1 ++ ys) := by
      intro l1 m1 h
      induction h with
      | nil => exact Paired.mapP b2 fun _ _ z => K2.Same.tup (same_lay np) z
      | cons r t ih => exact .cons (K2.Same.tup (same_lay np) r) ih
    exact z a2
theorem tail_rows {K : PySem.W.Frag} {H : Hp} {Q : VK} {t : Addr} {r : RowD} {rows : List RowD} (h : RowsAt K H t (r :: rows)) (k : ∀ (H' : Hp) (d : Addr), Same H H' → RowsAt K H' d rows → Q (.ref d) H') : rSlA K (.ref t) (some 1) none H Q := by
  obtain ⟨rs, a1, a2⟩ := h
  cases a2 with
  | @cons a _ l _ ra rt =>
    refine ⟨t, _, rfl, a1, fun e => ?_, fun _ p np => ?_⟩
    · have z := e.1
      have e1 : HT.sIx ((a :: l).map V.ref).length 0 (some 1) = 1 := by
        rw [show (1 : Int) = ((1 : Nat) : Int) from rfl, HT.sIx_nat]
        simp
      rw [e1] at z
      cases z
    · refine k _ p (same_lay np) ⟨l, SqT.of ?_, Paired.mapP rt fun _ _ z => K2.Same.tup (same_lay np) z⟩
      rw [upd_same]
      unfold cutV
      have e1 : HT.sIx ((a :: l).map V.ref).length 0 (some 1) = 1 := by
        rw [show (1 : Int) = ((1 : Nat) : Int) from rfl, HT.sIx_nat]
        simp
      rw [e1, HT.sIx_none]
      simp
      exact List.take_of_length_le (by simp)
theorem init_rows {K : PySem.W.Frag} {H : Hp} {Q : VK} {t : Addr} {r : RowD} {rows : List RowD} (h : RowsAt K H t (rows ++ [r])) (k : ∀ (H' : Hp) (d : Addr), Same H H' → RowsAt K H' d rows → Q (.ref d) H') : rSlA K (.ref t) none (some (-1)) H Q := by
  obtain ⟨rs, a1, a2⟩ := h
  obtain ⟨l, x, rfl, b1, b2⟩ := paired_split a2
  have e : (l ++ [x]).map V.ref = l.map V.ref ++ [V.ref x] := by simp
  rw [e] at a1
  refine ⟨t, _, rfl, a1, fun z => absurd z (cut_not _ _), fun _ p np => ?_⟩
  refine k _ p (same_lay np) ⟨l, SqT.of ?_, Paired.mapP b1 fun _ _ z => K2.Same.tup (same_lay np) z⟩
  rw [upd_same, cut_last]
theorem one_row {K : PySem.W.Frag} {H : Hp} {Q : VK} {σ : L2.St} {tl tw : TE} {r : RowD} (h1 : ∀ (H1 : Hp) (R : VK), Same H H1 → R (.int r.1) H1 → tl σ H1 R) (h2 : ∀ (H1 : Hp) (R : VK), Same H H1 → R (.str r.2) H1 → tw σ H1 R) (k : ∀ (H' : Hp) (d : Addr), Same H H' → RowsAt K H' d [r] → Q (.ref d) H') :
    tTup (tCons (tTup (tCons tl (tCons tw tNil))) tNil) σ H Q := by
  refine tup_read (cons_read (tup_read (cons_read (h1 H _ (Same.refl H) (cons_read (h2 H _ (Same.refl H) (nil_read ⟨by show 2 ≤ sizeLine; decide, fun a na => ?_⟩)))))))
  refine nil_read ⟨by show 1 ≤ sizeLine; decide, fun c nc => ?_⟩
  exact k _ c ((same_lay na).trans (same_lay nc)) ⟨[a], SqT.of upd_same, .cons (SqT.of (same_lay nc _ _ upd_same)) .nil⟩
end K2

set_option Elab.async false
set_option linter.all false
set_option maxRecDepth 100000
set_option maxHeartbeats 4000000
namespace K2
open PySem PySem.Spec PyProof.Rows L2 G1 G2
def spOth (K : PySem.W.Frag) : Sp := fun vs H Q _ => ∃ (s t : Addr) (b p n : Nat) (ini : List RowD) (y : Str), vs = [.ref s, .ref t] ∧ ShpAt K H s b p n ∧ Shp b p n ∧ RowsAt K H t (ini ++ [((p : Int), y)]) ∧ IniOk p ini ∧ y ∈ wordsL ∧
  ∀ (H' : Hp) (q : Addr) (as : List Addr), Same H H' → H' q = some (.lst (as.map V.ref)) → (∀ a ∈ as, FarAt K H' a) → Q (.ref q) H'
theorem IniOk.tail {p : Nat} {r : RowD} {l : List RowD} (h : IniOk p (r :: l)) : IniOk p l := ⟨fun x hx => h.1 x (List.mem_cons_of_mem _ hx), by have := h.2; rw [List.length_cons] at this; omega⟩
theorem IniOk.chg {p : Nat} {r r2 : RowD} {l : List RowD} (h : IniOk p (r :: l)) (h2 : RowOk p r2) : IniOk p (r2 :: l) := ⟨fun x hx => by
  rcases List.mem_cons.mp hx with rfl | hx
  · exact h2
  · exact h.1 x (List.mem_cons_of_mem _ hx), by have := h.2; rw [List.length_cons] at this ⊢; omega⟩
/-- a table by its first row -/
theorem split_first (p : Nat) (ini : List RowD) (y : Str) (hi : IniOk p ini) (hy : y ∈ wordsL) : ∃ (r0 : RowD) (R : List RowD), ini ++ [((p : Int), y)] = r0 :: R ∧ RowOk p r0 ∧ R.length ≤ 3 ∧
    (∀ w ∈ wordsL, ∃ (i2 : List RowD) (y2 : Str), (r0.1, w) :: R = i2 ++ [((p : Int), y2)] ∧ IniOk p i2 ∧ y2 ∈ wordsL) ∧ (R ≠ [] → ∃ i2 : List RowD, R = i2 ++ [((p : Int), y)] ∧ IniOk p i2 ∧ ∀ r2 : RowD, RowOk p r2 → ∃ i3 : List RowD, r2 :: R = i3 ++ [((p : Int), y)] ∧ IniOk p i3) := by
  cases ini with
  | nil => exact ⟨((p : Int), y), [], rfl, ⟨by omega, by omega, hy⟩, by decide, fun w hw => ⟨[], w, rfl, hi, hw⟩, fun z => absurd rfl z⟩
  | cons r l =>
    have hl := hi.2
    rw [List.length_cons] at hl
    refine ⟨r, l ++ [((p : Int), y)], rfl, hi.1 r (List.mem_cons_self ..), by rw [List.length_append]; show l.length + 1 ≤ 3; omega, fun w hw => ⟨(r.1, w) :: l, y, rfl, ?_, hy⟩, fun _ => ⟨l, rfl, hi.tail, fun r2 h2 => ⟨r2 :: l, rfl, hi.chg h2⟩⟩⟩
    have h1 := hi.1 r (List.mem_cons_self ..)
    exact hi.chg ⟨h1.1, h1.2.1, hw⟩
abbrev s8 (s t : Addr) (b p n : Nat) (tn fo : Addr) (x7 : Option V) : L2.St := [some (.ref s), some (.ref t), some (.int (b : Int)), some (.int (p : Int)), some (.int (n : Int)), some (.ref tn), some (.ref fo), x7]
section
variable {P : Program} {w : World} {K : PySem.W.Frag} {mg : Str → Option Value} {base : Heap}
theorem at_first (x : V) (xs : List V) : atI (x :: xs) 0 = some x := atI_nat (j := 0) rfl
/-- table[0][j], table[-1][j] -/
theorem first_row {H : Hp} {t : Addr} {r : RowD} {rows : List RowD} (h : RowsAt K H t (r :: rows)) : ∃ (a : Addr) (xs : List V), SqT K H t (.ref a :: xs) ∧ SqT K H a [.int r.1, .str r.2] := by
  obtain ⟨rs, a1, a2⟩ := h
  cases a2 with
  | @cons a _ l _ ra rt => exact ⟨a, _, a1, ra⟩
theorem last_row {H : Hp} {t : Addr} {r : RowD} {rows : List RowD} (h : RowsAt K H t (rows ++ [r])) : ∃ (a : Addr) (xs : List V), SqT K H t (xs ++ [.ref a]) ∧ SqT K H a [.int r.1, .str r.2] := by
  obtain ⟨rs, a1, a2⟩ := h
  obtain ⟨l, x, rfl, b1, b2⟩ := paired_split a2
  have e : (l ++ [x]).map V.ref = l.map V.ref ++ [V.ref x] := by simp
  rw [e] at a1
  exact ⟨x, _, a1, b2⟩
theorem ok_oth {f : Addr} {fd : FuncData} (F : Fun K "_law_others" "_law_others" sOth f fd) (B : Bl mg) : FnOk P w K mg base CX0 1 f fd ["_law_shape_here", "_law_table_here"] (spOth K) := by
  refine F.ok scOth (fun vs H Q E h => ?_) (fun cdv A outer s H vs Q E hr h => ?_)
  · obtain ⟨s, t, b, p, n, ini, y, rfl, _⟩ := h
    rfl
  obtain ⟨s, t, b, p, n, ini, y, rfl, hs, hsh, hR, hini, hy, k⟩ := h
  refine ⟨_, pss_cons (ps_asg (pv 0) (pg_tup rfl (pgs_cons (pg_name (i := 2) scOth.nd rfl (.inl rfl)) (pgs_cons (pg_name (i := 3) scOth.nd rfl (.inl rfl)) (pgs_cons (pg_name (i := 4) scOth.nd rfl (.inl rfl)) pgs_nil)))))
    (pss_cons (ps_set (i := 5) scOth.nd rfl (.inl rfl) (pe_lst (pa_cons pe_str (pa_cons pe_str (pa_cons pe_str (pa_cons pe_str pa_nil))))))
    (pss_cons (ps_set (i := 6) scOth.nd rfl (.inl rfl) (pe_lst pa_nil))
    (pss_cons (ps_for PassesOwn.never rfl (pi_list (pv 5)) (pg_name (i := 7) scOth.nd rfl (.inl rfl))
      (C8.pss_cut (ps_if (pt_cmpR op_ne (pv 7) (pe_ix ix_tup (pe_ix ix_tup (pv 1) pe_int (fun _ _ => rfl)) pe_int (fun _ _ => rfl)) (nomark _))
        (pss_one (ps_expr (pe_bm PySem.F.plainAttrs_list PySem.F.slot_list_append PySem.F.type_list_append mt_append (pv 6) (pa_cons (pe_tup (pa_cons (pv 0) (pa_cons (pe_op op_catA (pe_tup (pa_cons (pe_tup (pa_cons (pe_ix ix_tup (pe_ix ix_tup (pv 1) pe_int (fun _ _ => rfl)) pe_int (fun _ _ => rfl)) (pa_cons (pv 7) pa_nil))) pa_nil)) (pe_slice sl_tupA (pv 1) (po_some pe_int) po_none)) pa_nil))) pa_nil)))) pss_nil)
      (pss_one (ps_if (pt_cmpR op_ne (pv 7) (pe_ix ix_tup (pe_ix ix_tup (pv 1) (pe_un un_neg pe_int) (fun _ _ => rfl)) pe_int (fun _ _ => rfl)) (nomark _))
        (pss_one (ps_expr (pe_bm PySem.F.plainAttrs_list PySem.F.slot_list_append PySem.F.type_list_append mt_append (pv 6) (pa_cons (pe_tup (pa_cons (pv 0) (pa_cons (pe_op op_catA (pe_slice sl_tupA (pv 1) po_none (po_some (pe_un un_neg pe_int))) (pe_tup (pa_cons (pe_tup (pa_cons (pv 3) (pa_cons (pv 7) pa_nil))) pa_nil))) pa_nil))) pa_nil)))) pss_nil))))
    (C8.pss_cut (ps_if (pt_cmpR op_gt (pe_callB call_len_seq (by rfl) B.len PySem.boot_len (pa_cons (pv 1) pa_nil)) pe_int (nomark _))
      (pss_cons (ps_expr (pe_bm PySem.F.plainAttrs_list PySem.F.slot_list_append PySem.F.type_list_append mt_append (pv 6) (pa_cons (pe_tup (pa_cons (pv 0) (pa_cons (pe_slice sl_tupA (pv 1) (po_some pe_int) po_none) pa_nil))) pa_nil)))
      (pss_one (ps_expr (pe_bm PySem.F.plainAttrs_list PySem.F.slot_list_append PySem.F.type_list_append mt_append (pv 6) (pa_cons (pe_tup (pa_cons (pv 0) (pa_cons (pe_op op_catA (pe_tup (pa_cons (pe_tup (pa_cons (pe_op op_sub (pv 3) (pe_ix ix_tup (pe_ix ix_tup (pv 1) pe_int (fun _ _ => rfl)) pe_int (fun _ _ => rfl))) (pa_cons (pe_ix ix_tup (pe_ix ix_tup (pv 1) pe_int (fun _ _ => rfl)) pe_int (fun _ _ => rfl)) pa_nil))) pa_nil)) (pe_slice sl_tupA (pv 1) (po_some pe_int) po_none)) pa_nil))) pa_nil))))) pss_nil)
    (C8.pss_cut (ps_if (pt_cmpR op_lt (pe_callB call_len_seq (by rfl) B.len PySem.boot_len (pa_cons (pv 1) pa_nil)) pe_int (nomark _))
      (pss_one (ps_expr (pe_bm PySem.F.plainAttrs_list PySem.F.slot_list_append PySem.F.type_list_append mt_append (pv 6) (pa_cons (pe_tup (pa_cons (pv 0) (pa_cons (pe_op op_catA (pe_tup (pa_cons (pe_tup (pa_cons pe_int (pa_cons pe_str pa_nil))) pa_nil)) (pv 1)) pa_nil))) pa_nil)))) pss_nil)
    (C8.pss_cut (ps_if (pt_cmpR op_gt (pv 4) pe_int (nomark _))
      (pss_one (ps_expr (pe_bm PySem.F.plainAttrs_list PySem.F.slot_list_append PySem.F.type_list_append mt_append (pv 6) (pa_cons (pe_tup (pa_cons (pe_tup (pa_cons (pv 2) (pa_cons (pv 3) (pa_cons (pe_op op_sub (pv 4) pe_int) pa_nil)))) (pa_cons (pv 1) pa_nil))) pa_nil)))) pss_nil)
    (C8.pss_cut (ps_if (PW.pt (pw_and (pt_cmpR op_eq (pv 2) pe_int (nomark _)) (pw_and1 (pt_cmpR op_lt (pv 3) pe_int (nomark _)))))
      (pss_one (ps_expr (pe_bm PySem.F.plainAttrs_list PySem.F.slot_list_append PySem.F.type_list_append mt_append (pv 6) (pa_cons (pe_tup (pa_cons (pe_tup (pa_cons pe_int (pa_cons (pv 3) (pa_cons (pv 4) pa_nil)))) (pa_cons (pv 1) pa_nil))) pa_nil)))) pss_nil)
    (pss_one (ps_ret (pv 6)))))))))), ?_⟩
  obtain ⟨r0, R, eR, hr0, hR3, hchg, htl⟩ := split_first p ini y hini hy
  have hz := hsh.sz
  refine ⟨_, rfl, s, _, rfl, hs, rfl, _, _, rfl, _, _, rfl, _, _, rfl, rfl, ?_⟩
  dsimp only
  refine seq_asg ⟨by show 4 ≤ sizeLine; decide, fun tn ntn => ?_⟩
  have s1 : Same H (upd H tn (.lst (wordsL.map V.str))) := same_lay ntn
  have e1 : (upd H tn (.lst (wordsL.map V.str))) tn = some (.lst (wordsL.map V.str)) := upd_same
  show tSeq _ _ _ _ (upd H tn (.lst (wordsL.map V.str)))
  generalize upd H tn (.lst (wordsL.map V.str)) = H1 at s1 e1 ⊢
  refine seq_asg ⟨by show 0 ≤ sizeLine; decide, fun fo nfo => ?_⟩
  have I0 : FInv K H1 fo (upd H1 fo (.lst [])) [] := ⟨nfo, same_lay nfo, upd_same, fun _ z => nomatch z⟩
  have hs1 : ShpAt K H1 s b p n := K2.Same.tup s1 hs
  have hR1 : RowsAt K H1 t (ini ++ [((p : Int), y)]) := hR.same s1
  refine seq_for fun D' hD1 hD2 => ?_
  refine ⟨_, rfl, tn, rfl, ⟨_, SqL.of (I0.sm _ _ e1)⟩, ?_⟩
  refine for_list (K := K) (a := tn) (xs := wordsL.map V.str) (fun i σ H' => ∃ (x7 : Option V) (as : List Addr), σ = s8 s t b p n tn fo x7 ∧ FInv K H1 fo H' as ∧ as.length ≤ 2 * i) ⟨none, [], rfl, I0, by decide⟩ (fun i σ H' _ q => ?_) ?_ ?_
  · obtain ⟨_, _, _, q, _⟩ := q
    exact SqL.of (q.sm _ _ e1)
  · rintro i x σ H' hi ⟨x7, as, rfl, I, hl⟩
    have hi4 : i < 4 := by
      have z := (List.getElem?_eq_some_iff.mp hi).1
      exact z
    obtain ⟨w, hw, rfl⟩ : ∃ w ∈ wordsL, V.str w = x := by
      have hm := List.mem_of_getElem? hi
      obtain ⟨w, hw, e⟩ := List.mem_map.mp hm
      exact ⟨w, hw, e⟩
    have hRi : RowsAt K H' t (r0 :: R) := by rw [← eR]; exact hR1.same I.sm
    obtain ⟨a0, xs0, f1, f2⟩ := first_row hRi
    refine ⟨fun σ' H'' => ∃ as' : List Addr, σ' = s8 s t b p n tn fo (some (.str w)) ∧ FInv K H1 fo H'' as' ∧ as'.length ≤ 2 * i + 1, ?_, ?_⟩
    · refine ⟨_, rfl, _, rfl, t, _, _, .ref a0, rfl, rfl, f1, at_first _ _, a0, _, _, .str r0.2, rfl, rfl, f2, rfl, rfl, _, rfl, ite2 (fun _ => ?_) (fun _ => ?_)⟩
      · refine app_stmt (K := K) (fo := fo) rfl I (by omega) (fun Rk hk => ?_) fun H2 as2 I2 hl2 => ⟨as2, rfl, I2, by omega⟩
        refine cons_read ⟨_, rfl, cons_read (op_read ?_)⟩
        refine one_row (K := K) (r := (r0.1, w)) (fun H3 Rr s3 q => ⟨_, rfl, t, _, _, .ref a0, rfl, rfl, K2.Same.tup s3 f1, at_first _ _, a0, _, _, .int r0.1, rfl, rfl, K2.Same.tup s3 f2, rfl, q⟩) (fun H3 Rr s3 q => ⟨_, rfl, q⟩) fun H3 d s3 hd => ?_
        refine ⟨_, rfl, 1, rfl, ?_⟩
        dsimp only [tNoPart]
        refine tail_rows (hRi.same s3) fun H4 d2 s4 hd2 => ?_
        refine cat_rows (hd.same s4) hd2 (by show 1 + R.length ≤ 100; omega) fun H5 d3 s5 hd3 => ?_
        obtain ⟨i2, y2, e2, hi2, hy2⟩ := hchg w hw
        have s6 := s3.trans (s4.trans s5)
        exact nil_read (hk H5 s d3 b p n i2 y2 s6 (K2.Same.tup (I.sm.trans s6) hs1) hsh (by rw [← e2]; exact hd3) hi2 hy2)
      · exact ⟨as, rfl, I, by omega⟩
    · rintro σ' H'' ⟨as2, rfl, I2, hl2⟩
      have hRj : RowsAt K H'' t (ini ++ [((p : Int), y)]) := hR1.same I2.sm
      obtain ⟨a1, xs1, g1, g2⟩ := last_row hRj
      refine ⟨_, rfl, _, rfl, _, rfl, t, _, _, .ref a1, rfl, rfl, g1, at_last _ _, a1, _, _, .str y, rfl, rfl, g2, rfl, rfl, _, rfl, ite2 (fun _ => ?_) (fun _ => ?_)⟩
      · refine app_stmt (K := K) (fo := fo) rfl I2 (by omega) (fun Rk hk => ?_) fun H2 as3 I3 hl3 => ⟨_, as3, rfl, I3, by omega⟩
        refine cons_read ⟨_, rfl, cons_read (op_read ⟨_, rfl, _, rfl, _, rfl, ?_⟩)⟩
        refine init_rows hRj fun H3 d s3 hd => ?_
        refine one_row (K := K) (r := ((p : Int), w)) (fun H4 Rr s4 q => ⟨_, rfl, q⟩) (fun H4 Rr s4 q => ⟨_, rfl, q⟩) fun H4 d2 s4 hd2 => ?_
        refine cat_rows (hd.same s4) hd2 (by have := hini.2; show ini.length + 1 ≤ 100; omega) fun H5 d3 s5 hd3 => ?_
        have s6 := s3.trans (s4.trans s5)
        exact nil_read (hk H5 s d3 b p n ini w s6 (K2.Same.tup (I2.sm.trans s6) hs1) hsh hd3 hini hw)
      · exact ⟨_, as2, rfl, I2, by omega⟩
  · rintro σ H' ⟨x7, as, rfl, I, hl⟩
    rw [hD1]
    have hl8 : as.length ≤ 8 := hl
    clear hl
    refine ⟨fun σ' H'' => ∃ as' : List Addr, σ' = s8 s t b p n tn fo x7 ∧ FInv K H1 fo H'' as' ∧ as'.length ≤ 10, ?_, ?_⟩
    · have hRi : RowsAt K H' t (r0 :: R) := by rw [← eR]; exact hR1.same I.sm
      obtain ⟨xs, hx1, hx2⟩ := rows_len hRi
      refine ⟨_, rfl, t, _, rfl, .inr hx1, _, _, rfl, rfl, _, rfl, ite2 (fun c => ?_) (fun _ => ?_)⟩
      · have hne : R ≠ [] := by
          intro z
          have c' := of_decide_eq_true c
          rw [hx2, z] at c'
          simp at c'
        obtain ⟨i2, e2, hi2, hmk⟩ := htl hne
        refine app_stmt (K := K) (fo := fo) rfl I (by omega) (fun Rk hk => ?_) fun H2 as2 I2 hl2 => ?_
        · refine cons_read ⟨_, rfl, cons_read ⟨_, rfl, 1, rfl, ?_⟩⟩
          dsimp only [tNoPart]
          refine tail_rows hRi fun H4 d2 s4 hd2 => ?_
          exact nil_read (hk H4 s d2 b p n i2 y s4 (K2.Same.tup (I.sm.trans s4) hs1) hsh (by rw [← e2]; exact hd2) hi2 hy)
        · have hRj : RowsAt K H2 t (r0 :: R) := by rw [← eR]; exact hR1.same I2.sm
          obtain ⟨a0, xs0, f1, f2⟩ := first_row hRj
          refine app_stmt (K := K) (fo := fo) rfl I2 (by omega) (fun Rk hk => ?_) fun H3 as3 I3 hl3 => ⟨as3, rfl, I3, by omega⟩
          refine cons_read ⟨_, rfl, cons_read (op_read ?_)⟩
          refine one_row (K := K) (r := ((p : Int) - r0.1, r0.2)) (fun H3 Rr s3 q => ⟨_, rfl, _, rfl, t, _, _, .ref a0, rfl, rfl, K2.Same.tup s3 f1, at_first _ _, a0, _, _, .int r0.1, rfl, rfl, K2.Same.tup s3 f2, rfl, _, _, rfl, rfl, q⟩)
            (fun H3 Rr s3 q => ⟨_, rfl, t, _, _, .ref a0, rfl, rfl, K2.Same.tup s3 f1, at_first _ _, a0, _, _, .str r0.2, rfl, rfl, K2.Same.tup s3 f2, rfl, q⟩) fun H3 d s3 hd => ?_
          refine ⟨_, rfl, 1, rfl, ?_⟩
          dsimp only [tNoPart]
          refine tail_rows (hRj.same s3) fun H4 d2 s4 hd2 => ?_
          refine cat_rows (hd.same s4) hd2 (by show 1 + R.length ≤ 100; omega) fun H5 d3 s5 hd3 => ?_
          obtain ⟨q1, q2, q3⟩ := hr0
          obtain ⟨i3, e3, hi3⟩ := hmk ((p : Int) - r0.1, r0.2) ⟨by show 0 ≤ (p : Int) - r0.1; omega, by show (p : Int) - r0.1 ≤ (p : Int); omega, q3⟩
          have s6 := s3.trans (s4.trans s5)
          exact nil_read (hk H5 s d3 b p n i3 y s6 (K2.Same.tup (I2.sm.trans s6) hs1) hsh (by rw [← e3]; exact hd3) hi3 hy)
      · exact ⟨as, rfl, I, by omega⟩
    rintro σ' H2 ⟨as2, rfl, I2, hl2⟩
    refine ⟨fun σ' H'' => ∃ as' : List Addr, σ' = s8 s t b p n tn fo x7 ∧ FInv K H1 fo H'' as' ∧ as'.length ≤ 11, ?_, ?_⟩
    · have hRi : RowsAt K H2 t (ini ++ [((p : Int), y)]) := hR1.same I2.sm
      obtain ⟨xs, hx1, hx2⟩ := rows_len hRi
      refine ⟨_, rfl, t, _, rfl, .inr hx1, _, _, rfl, rfl, _, rfl, ite2 (fun c => ?_) (fun _ => ?_)⟩
      · have hshort : ini.length ≤ 2 := by
          have c' := of_decide_eq_true c
          rw [hx2, List.length_append] at c'
          have c2 : ((ini.length + 1 : Nat) : Int) < 4 := c'
          omega
        refine app_stmt (K := K) (fo := fo) rfl I2 (by omega) (fun Rk hk => ?_) fun H3 as3 I3 hl3 => ⟨as3, rfl, I3, by omega⟩
        refine cons_read ⟨_, rfl, cons_read (op_read ?_)⟩
        refine one_row (K := K) (r := ((0 : Int), Str.ofString "oldest")) (fun H3 Rr s3 q => q) (fun H3 Rr s3 q => q) fun H3 d s3 hd => ?_
        refine ⟨_, rfl, ?_⟩
        refine cat_rows hd (hRi.same s3) (by rw [List.length_append]; show 1 + (ini.length + 1) ≤ 100; omega) fun H5 d3 s5 hd3 => ?_
        have s6 := s3.trans s5
        refine nil_read (hk H5 s d3 b p n ((0, Str.ofString "oldest") :: ini) y s6 (K2.Same.tup (I2.sm.trans s6) hs1) hsh hd3 ⟨fun r hr => ?_, by rw [List.length_cons]; omega⟩ hy)
        rcases List.mem_cons.mp hr with rfl | hr
        · exact ⟨by decide, by show (0 : Int) ≤ p; omega, by decide⟩
        · exact hini.1 r hr
      · exact ⟨as2, rfl, I2, by omega⟩
    rintro σ' H3 ⟨as3, rfl, I3, hl3⟩
    refine ⟨fun σ' H'' => ∃ as' : List Addr, σ' = s8 s t b p n tn fo x7 ∧ FInv K H1 fo H'' as' ∧ as'.length ≤ 12, ?_, ?_⟩
    · refine ⟨_, rfl, _, _, rfl, rfl, _, rfl, ite2 (fun c => ?_) (fun _ => ?_)⟩
      · have c' : (1 : Int) < (n : Int) := of_decide_eq_true c
        refine app_stmt (K := K) (fo := fo) rfl I3 (by omega) (fun Rk hk => ?_) fun H4 as4 I4 hl4 => ⟨as4, rfl, I4, by omega⟩
        refine cons_read (tup_read (cons_read ⟨_, rfl, cons_read ⟨_, rfl, cons_read ⟨_, rfl, _, _, rfl, rfl, nil_read ⟨by show 3 ≤ sizeLine; decide, fun q nq => ?_⟩⟩⟩⟩))
        refine cons_read ⟨_, rfl, nil_read ?_⟩
        have s4 : Same H3 (upd H3 q (.tup [.int (b : Int), .int (p : Int), .int ((n : Int) - 1)])) := same_lay nq
        refine hk _ q t b p (n - 1) ini y s4 (SqT.of ?_) ⟨hsh.1, by omega, by have := hsh.2.2; omega⟩ ((hR1.same I3.sm).same s4) hini hy
        rw [upd_same]
        have e : ((n - 1 : Nat) : Int) = (n : Int) - 1 := by omega
        rw [e]
      · exact ⟨as3, rfl, I3, by omega⟩
    rintro σ' H4 ⟨as4, rfl, I4, hl4⟩
    refine ⟨fun σ' H'' => ∃ as' : List Addr, σ' = s8 s t b p n tn fo x7 ∧ FInv K H1 fo H'' as' ∧ as'.length ≤ 13, ?_, ?_⟩
    · refine ⟨_, rfl, rfl, _, rfl, ite2 (fun c => ?_) (fun _ => ?_)⟩
      · have c1 : V.int (b : Int) = V.int 3 := of_decide_eq_true c
        injection c1 with c1
        have hb3 : b = 3 := by omega
        refine ⟨_, rfl, _, _, rfl, rfl, _, rfl, ite2 (fun c2 => ?_) (fun _ => ?_)⟩
        · have c3 : (p : Int) < 4 := of_decide_eq_true c2
          refine app_stmt (K := K) (fo := fo) rfl I4 (by omega) (fun Rk hk => ?_) fun H5 as5 I5 hl5 => ⟨as5, rfl, I5, by omega⟩
          refine cons_read (tup_read (cons_read (c_read (cons_read ⟨_, rfl, cons_read ⟨_, rfl, nil_read ⟨by show 3 ≤ sizeLine; decide, fun q nq => ?_⟩⟩⟩))))
          refine cons_read ⟨_, rfl, nil_read ?_⟩
          have s4 : Same H4 (upd H4 q (.tup [.int 4, .int (p : Int), .int (n : Int)])) := same_lay nq
          have hp0 := hz.p0
          refine hk _ q t 4 p n ini y s4 (SqT.of upd_same) ⟨?_, hsh.2.1, ?_⟩ ((hR1.same I4.sm).same s4) hini hy
          · have hp23 : p = 2 ∨ p = 3 := by omega
            rcases hp23 with rfl | rfl <;> decide
          · have z := hsh.2.2
            subst hb3
            have z2 : p * (3 - 1) ≤ p * (4 - 1) := Nat.mul_le_mul (Nat.le_refl _) (by decide)
            omega
        · exact ⟨as4, rfl, I4, by omega⟩
      · exact ⟨as4, rfl, I4, by omega⟩
    rintro σ' H5 ⟨as5, rfl, I5, hl5⟩
    exact ⟨_, rfl, k H5 fo as5 (s1.trans I5.sm) I5.at_ I5.far⟩
end
end K2

set_option Elab.async false
set_option linter.all false
set_option maxRecDepth 100000
set_option maxHeartbeats 4000000
/-! Calls by keywords: Drive(..), Drive.simple(..). -/
namespace K2
open PySem PySem.Spec PyProof.Rows L2 G1 G2
theorem vals_rev {vs : List V} {us : List Value} (h : Vals vs us) : Vals vs.reverse us.reverse := by
  induction h with
  | nil => exact .nil
  | cons r t ih => rw [List.reverse_cons, List.reverse_cons]; exact ih.append (.cons r .nil)
abbrev gRev {α : Type} (us ws : List α) : List α := us ++ ws.reverse
theorem kb_ini {K : PySem.W.Frag} {f : Addr} {fd : FuncData} (F : Fun K "__init__" "Drive.__init__" sIni f fd) : KBn K fd ["self", "blocks", "pages", "names", "rows"] 1 ["rows", "names", "pages", "blocks"] gRev gRev := by
  obtain ⟨oc, od, kV, doc, pm, an, cdv, ct, osl, rfl, lk, hcd⟩ := F.ex
  refine ⟨fun s us ws X l1 l2 => BindsTo.of_eq ?_, fun r1 r2 => r1.append (vals_rev r2)⟩
  match us, l1, ws, l2 with
  | [a], _, [b, c, d, e], _ => rfl
theorem kb_sim {K : PySem.W.Frag} {f : Addr} {fd : FuncData} (F : FunD K "simple" "Drive.simple" (defArgs sSim) (defBody sSim) (defScope sSim) [.str (Str.ofString "least")] [] f fd) :
    KBn K fd ["cls", "blocks", "pages", "names", "word"] 1 ["word", "names", "pages", "blocks"] gRev gRev := by
  obtain ⟨its, h⟩ := F.kbindsD (ps := ["cls", "blocks", "pages", "names", "word"]) 1 ["word", "names", "pages", "blocks"] (fun us _ ws => gRev us ws) (by simp) (fun r1 _ r2 => r1.append (vals_rev r2)) (fun T kV doc pm an cdv ct us its ws l1 l2 l3 => by
    match us, l1, its, l2, ws, l3 with
    | [a], _, [z], _, [b, c, d, e], _ => exact ⟨_, rfl, rfl⟩)
  exact h
theorem b_sim4 {K : PySem.W.Frag} {f : Addr} {fd : FuncData} (F : FunD K "simple" "Drive.simple" (defArgs sSim) (defBody sSim) (defScope sSim) [.str (Str.ofString "least")] [] f fd) :
    Binds K fd ["cls", "blocks", "pages", "names", "word"] [] := by
  obtain ⟨ds, h1, h2⟩ := F.binds1 (ps := ["cls", "blocks", "pages", "names", "word"]) 5 1 (by simp) rfl (fun T kV doc pm an cdv ct us its l1 l2 => by
    match us, l1, its, l2 with
    | [a, b, c, d, e], _, [z], _ => exact ⟨_, rfl, rfl⟩)
  cases h1
  exact h2
theorem b_sim3 {K : PySem.W.Frag} {f : Addr} {fd : FuncData} (F : FunD K "simple" "Drive.simple" (defArgs sSim) (defBody sSim) (defScope sSim) [.str (Str.ofString "least")] [] f fd) :
    ∃ ds, Vals [V.str (Str.ofString "least")] ds ∧ Binds K fd ["cls", "blocks", "pages", "names", "word"] ds := by
  exact F.binds1 (ps := ["cls", "blocks", "pages", "names", "word"]) 4 0 (by simp) rfl (fun T kV doc pm an cdv ct us its l1 l2 => by
    match us, l1, its, l2 with
    | [a, b, c, d], _, [z], _ => exact ⟨_, rfl, rfl⟩)
end K2

set_option Elab.async false
set_option linter.all false
set_option maxRecDepth 100000
set_option maxHeartbeats 4000000
namespace K2
open PySem PySem.Spec PyProof.Rows L2 G1 G2 ClX
abbrev sSRt : Stmt := topS 47
theorem scSRt : FnScope ["_law_shape_here", "_law_tone", "_law_mine", "_law_mate", "_law_must", "_law_bare"] ["_law_shape_here"] (defScope sSRt) := ⟨rfl, rfl, rfl, by decide +kernel, rfl, by decide +kernel, by decide +kernel⟩
/-- no builtin type asks ahead of a drive -/
structure NotF (K : PySem.W.Frag) (C : Addr) : Prop where
  own : PySem.W.notFirst K C (.ref C) = true
  non : PySem.W.notFirst K C (.type "NoneType") = true
  bl : PySem.W.notFirst K C (.type "bool") = true
  int : PySem.W.notFirst K C (.type "int") = true
  str : PySem.W.notFirst K C (.type "str") = true
  tup : PySem.W.notFirst K C (.type "tuple") = true
  lst : PySem.W.notFirst K C (.type "list") = true
/-- a def of the law, called by its name -/
structure GAt (P : Program) (w : World) (K : PySem.W.Frag) (mg : Str → Option Value) (base : Heap) (k : Nat) (x : Str) (ps : List Str) (sp : Sp) : Prop where
  ex : ∃ (f : Addr) (fd : FuncData), FnG P w K mg base k f fd ps sp ∧ PySem.W.keepIn K (.ref f) = true ∧ Binds K fd ps [] ∧ mg x = some (.ref f)
structure FAt (P : Program) (w : World) (K : PySem.W.Frag) (mg : Str → Option Value) (base : Heap) (k : Nat) (x : Str) (ps : List Str) (sp : Sp) : Prop where
  ex : ∃ (f : Addr) (fd : FuncData), FnOk P w K mg base CX0 k f fd ps sp ∧ PySem.W.keepIn K (.ref f) = true ∧ Binds K fd ps [] ∧ mg x = some (.ref f)
/-- Drive, as the law calls it -/
structure DC (P : Program) (w : World) (K : PySem.W.Frag) (mg : Str → Option Value) (base : Heap) (C : Addr) : Prop where
  M : DD P w K mg base C
  F : NotF K C
  sim : ∃ (mc : Value) (p g : Addr) (fd : FuncData), CRead K C mc ∧ CMet K C mc "simple" p g ∧ FnOk P w K mg base CX0 7 g fd ["cls", "blocks", "pages", "names", "word"] (spSim K C) ∧ FunD K "simple" "Drive.simple" (defArgs sSim) (defBody sSim) (defScope sSim) [.str (Str.ofString "least")] [] g fd
  rd : ∃ (mc : Value) (p g : Addr) (fd : FuncData), CRead K C mc ∧ CMet K C mc "read" p g ∧ FnOk P w K mg base CX0 7 g fd ["cls", "text"] (spRead K C) ∧ Binds K fd ["cls", "text"] []
  ini : ∃ (f : Addr) (fd : FuncData), Mk K C f ∧ FnOk P w K mg base CX0 5 f fd ["self", "blocks", "pages", "names", "rows"] (spIni K C) ∧ Fun K "__init__" "Drive.__init__" sIni f fd
section
variable {P : Program} {w : World} {K : PySem.W.Frag} {mg : Str → Option Value} {base : Heap} {C : Addr}
theorem bare_not {H : Hp} {v : V} (F : NotF K C) (h : Bare K H v) : Beside K C H v := by
  cases h with
  | non => exact ⟨_, .base .non, F.non⟩
  | bl b => exact ⟨_, .base (.bl b), F.bl⟩
  | int i => exact ⟨_, .base (.int i), F.int⟩
  | str x => exact ⟨_, .base (.str x), F.str⟩
  | tup h => exact ⟨_, tup_ty h, F.tup⟩
  | lst h => exact ⟨_, lst_ty h, F.lst⟩
theorem drv_not {H : Hp} {x : Addr} {b p n : Nat} {ini : List RowD} {y : Str} (D : DKit K C) (T : DCls K C) (F : NotF K C) (h : DrvAt K C H x b p n ini y) : Beside K C H (.ref x) := by
  obtain ⟨dx, t, h1, _⟩ := h
  exact ⟨_, .base (.ins h1 T.cl D.ha D.hn D.htk D.hm), F.own⟩
theorem eq_in {H : Hp} {Q : VK} {E : XK} {x z : Addr} {b p n b' p' n' : Nat} {ini ini' : List RowD} {y y' : Str} (hx : DrvAt K C H x b p n ini y) (hz : DrvAt K C H z b' p' n' ini' y')
    (k : Q (.bl (decide (V.str (textM (b : Int) (p : Int) (n : Int) ini y) = V.str (textM (b' : Int) (p' : Int) (n' : Int) ini' y')))) H) : spEqD K C [.ref x, .ref z] H Q E := by
  obtain ⟨dx, t, h1, _⟩ := hx
  obtain ⟨dz, u, h2, _⟩ := hz
  exact ⟨x, dx, _, _, _, rfl, h1, rfl, .inl ⟨z, dz, _, _, rfl, h2, rfl, k⟩⟩
theorem eq_drv {H : Hp} {Q : VK} {E : XK} {x z : Addr} {b p n b' p' n' : Nat} {ini ini' : List RowD} {y y' : Str} (D : DKit K C) (T : DCls K C) (F : NotF K C) (hx : DrvAt K C H x b p n ini y) (hz : DrvAt K C H z b' p' n' ini' y')
    (k : Q (.bl (decide (V.str (textM (b : Int) (p : Int) (n : Int) ini y) = V.str (textM (b' : Int) (p' : Int) (n' : Int) ini' y')))) H) : rEqO K C (spEqD K C) E (.ref x) (.ref z) H Q := by
  have h := hx
  obtain ⟨dx, t, h1, _⟩ := h
  exact ⟨x, dx, _, rfl, h1, drv_not D T F hz, eq_in hx hz ⟨_, rfl, k⟩⟩
theorem ne_drv {H : Hp} {Q : VK} {E : XK} {x z : Addr} {b p n b' p' n' : Nat} {ini ini' : List RowD} {y y' : Str} (D : DKit K C) (T : DCls K C) (F : NotF K C) (hx : DrvAt K C H x b p n ini y) (hz : DrvAt K C H z b' p' n' ini' y')
    (k : Q (.bl (!decide (V.str (textM (b : Int) (p : Int) (n : Int) ini y) = V.str (textM (b' : Int) (p' : Int) (n' : Int) ini' y')))) H) : rNeO K C (spEqD K C) E (.ref x) (.ref z) H Q := by
  have h := hx
  obtain ⟨dx, t, h1, _⟩ := h
  exact ⟨x, dx, _, rfl, h1, drv_not D T F hz, eq_in hx hz ⟨_, rfl, k⟩⟩
theorem bare_in {H : Hp} {Q : VK} {E : XK} {x : Addr} {v : V} {b p n : Nat} {ini : List RowD} {y : Str} (hx : DrvAt K C H x b p n ini y) (hv : Bare K H v) (k : Q (.bl false) H) : spEqD K C [.ref x, v] H Q E := by
  obtain ⟨dx, t, h1, _⟩ := hx
  exact ⟨x, dx, _, _, _, rfl, h1, rfl, .inr ⟨hv, k⟩⟩
theorem eq_bare {H : Hp} {Q : VK} {E : XK} {x : Addr} {v : V} {b p n : Nat} {ini : List RowD} {y : Str} (F : NotF K C) (hx : DrvAt K C H x b p n ini y) (hv : Bare K H v) (k : Q (.bl false) H) : rEqO K C (spEqD K C) E (.ref x) v H Q := by
  have h := hx
  obtain ⟨dx, t, h1, _⟩ := h
  exact ⟨x, dx, _, rfl, h1, bare_not F hv, bare_in hx hv ⟨_, rfl, k⟩⟩
theorem ne_bare {H : Hp} {Q : VK} {E : XK} {x : Addr} {v : V} {b p n : Nat} {ini : List RowD} {y : Str} (F : NotF K C) (hx : DrvAt K C H x b p n ini y) (hv : Bare K H v) (k : Q (.bl true) H) : rNeO K C (spEqD K C) E (.ref x) v H Q := by
  have h := hx
  obtain ⟨dx, t, h1, _⟩ := h
  exact ⟨x, dx, _, rfl, h1, bare_not F hv, bare_in hx hv ⟨_, rfl, k⟩⟩
theorem bare_eq {H : Hp} {Q : VK} {E : XK} {x : Addr} {v : V} {b p n : Nat} {ini : List RowD} {y : Str} (hx : DrvAt K C H x b p n ini y) (hv : Bare K H v) (k : Q (.bl false) H) : rEqR K C (spEqD K C) E v (.ref x) H Q := by
  have h := hx
  obtain ⟨dx, t, h1, _⟩ := h
  exact ⟨x, dx, _, rfl, h1, hv, bare_in hx hv ⟨_, rfl, k⟩⟩
theorem str_same (x : Str) : decide (V.str x = V.str x) = true := decide_eq_true rfl
def spSRt (K : PySem.W.Frag) : Sp := fun vs H Q _ => ∃ (s : Addr) (b p n : Nat), vs = [.ref s] ∧ ShpAt K H s b p n ∧ Shp b p n ∧ ∀ H' : Hp, Same H H' → Q (.bl true) H'
theorem one_table {H : Hp} {a c : Addr} {p : Nat} {y : Str} (na : H a = none) (nc : (upd H a (.tup [.int (p : Int), .str y])) c = none) : RowsAt K (upd (upd H a (.tup [.int (p : Int), .str y])) c (.tup [.ref a])) c ([] ++ [((p : Int), y)]) :=
  ⟨[a], SqT.of upd_same, .cons (SqT.of (same_lay nc _ _ upd_same)) .nil⟩
theorem Shp.dp {b p n : Nat} {ini : List RowD} {y : Str} (h : Shp b p n) (hi : IniOk p ini) (hy : y ∈ wordsL) : DP b p n ini y := ⟨h.sz, h.few, hi, hy⟩
theorem nil_ini (p : Nat) : IniOk p [] := ⟨fun _ z => (nomatch z), Nat.zero_le _⟩
end
end K2

set_option Elab.async false
set_option linter.all false
set_option maxRecDepth 100000
set_option maxHeartbeats 4000000
namespace K2
open PySem PySem.Spec PyProof.Rows L2 G1 G2 ClX
section
variable {P : Program} {w : World} {K : PySem.W.Frag} {mg : Str → Option Value} {base : Heap} {C : Addr}
theorem ok_srt {f : Addr} {fd : FuncData} (F : Fun K "_law_simple_right" "_law_simple_right" sSRt f fd) (D : DC P w K mg base C) (S : GAt P w K mg base 4 "_law_seen" ["_law_mine"] (spSee K C)) (U : GAt P w K mg base 4 "_law_due" ["_law_shape_here", "_law_table_here"] (spDue K))
    (A7 : FAt P w K mg base 7 "_law_made" ["_law_shape_here", "_law_table_here"] (spMad K C)) : FnG P w K mg base 8 f fd ["_law_shape_here"] (spSRt K) := by
  refine okG F scSRt (fun vs H Q E h => ?_) (fun cdv A outer s H vs Q E hgu hr h => ?_)
  · obtain ⟨s, b, p, n, rfl, _⟩ := h
    rfl
  obtain ⟨s, b, p, n, rfl, hs, hsh, k⟩ := h
  obtain ⟨fS, dS, GS, kS, bS, gS⟩ := S.ex
  obtain ⟨fU, dU, GU, kU, bU, gU⟩ := U.ex
  obtain ⟨fM, dM, GM, kM, bM, gM⟩ := A7.ex
  obtain ⟨mc, pc, gc, dc, cr, cm, Gc, Fc⟩ := D.sim
  obtain ⟨ge, e1, e2, e3⟩ := D.M.eq
  obtain ⟨d3, v3, b3⟩ := b_sim3 Fc
  have hr4 : Room 4 _ := hr.mono (by decide)
  have hr1 : Room 1 _ := hr.mono (by decide)
  have hr2 : Room 2 _ := hr.mono (by decide)
  have gD := D.M.gD
  refine ⟨_, pss_cons (ps_for PassesOwn.never rfl (pi_list (pe_lst (pa_cons pe_str (pa_cons pe_str (pa_cons pe_str (pa_cons pe_str pa_nil)))))) (pg_name (i := 1) scSRt.nd rfl (.inl rfl))
      (pss_cons (ps_set (i := 2) scSRt.nd rfl (.inl rfl) (pe_cmeth (pe_glob (v := .ref C) rfl gD rfl) cr cm (Gc.raw (b_sim4 Fc) .nil) hr pass0 (pa_cons (pe_ix ix_tup (pv 0) pe_int (fun _ _ => rfl)) (pa_cons (pe_ix ix_tup (pv 0) pe_int (fun _ _ => rfl)) (pa_cons (pe_ix ix_tup (pv 0) pe_int (fun _ _ => rfl)) (pa_cons (pv 1) pa_nil))))))
      (pss_cons (ps_set (i := 3) scSRt.nd rfl (.inl rfl) (pe_cmethK (pe_glob (v := .ref C) rfl gD rfl) cr cm Gc hr (kb_sim Fc) pass0 (pk_cons (pv 1) (pk_cons (pe_ix ix_tup (pv 0) pe_int (fun _ _ => rfl)) (pk_cons (pe_ix ix_tup (pv 0) pe_int (fun _ _ => rfl)) (pk_cons (pe_ix ix_tup (pv 0) pe_int (fun _ _ => rfl)) pk_nil))))))
      (pss_cons (ps_set (i := 4) scSRt.nd rfl (.inl rfl) (pe_tup (pa_cons (pe_tup (pa_cons (pe_ix ix_tup (pv 0) pe_int (fun _ _ => rfl)) (pa_cons (pv 1) pa_nil))) pa_nil)))
      (pss_one (ps_if (PW.pt (pw_or (pt_cmpR op_ne (pe_callG GS hgu hr4 (by rfl) gS kS bS (pa_cons (pv 2) pa_nil)) (pe_callG GU hgu hr4 (by rfl) gU kU bU (pa_cons (pv 0) (pa_cons (pv 4) pa_nil))) (nomark _))
        (pw_or (pt_not (pt_cmpR (op_eqO e1 e2 e3 hr1 pass0) (pv 2) (pv 3) (nomark _)))
        (pw_or1 (pt_cmpR (op_neO D.M.ne D.M.D.hm e1 e2 e3 hr2 pass0) (pv 3) (pe_call GM hr (by rfl) gM kM bM .nil pass0 (pa_cons (pv 0) (pa_cons (pv 4) pa_nil))) (nomark _))))))
        (pss_one (ps_ret pe_bl)) pss_nil))))))
    (pss_cons (ps_set (i := 5) scSRt.nd rfl (.inl rfl) (pe_cmeth (pe_glob (v := .ref C) rfl gD rfl) cr cm (Gc.raw b3 v3) hr pass0 (pa_cons (pe_ix ix_tup (pv 0) pe_int (fun _ _ => rfl)) (pa_cons (pe_ix ix_tup (pv 0) pe_int (fun _ _ => rfl)) (pa_cons (pe_ix ix_tup (pv 0) pe_int (fun _ _ => rfl)) pa_nil)))))
    (pss_one (ps_ret (pe_cmpR op_eq (pe_callG GS hgu hr4 (by rfl) gS kS bS (pa_cons (pv 5) pa_nil)) (pe_callG GU hgu hr4 (by rfl) gU kU bU (pa_cons (pv 0) (pa_cons (pe_tup (pa_cons (pe_tup (pa_cons (pe_ix ix_tup (pv 0) pe_int (fun _ _ => rfl)) (pa_cons pe_str pa_nil))) pa_nil)) pa_nil))) (nomark _))))), ?_⟩
  have hy4 : ∀ y ∈ wordsL, DP b p n [] y := fun y hy => hsh.dp (nil_ini p) hy
  refine seq_for fun D' hD1 hD2 => ?_
  refine lst_read ⟨by show 4 ≤ sizeLine; decide, fun tn ntn => ?_⟩
  have s1 : Same H (upd H tn (.lst (wordsL.map V.str))) := same_lay ntn
  have e1 : (upd H tn (.lst (wordsL.map V.str))) tn = some (.lst (wordsL.map V.str)) := upd_same
  refine ⟨tn, rfl, ⟨_, SqL.of e1⟩, ?_⟩
  refine for_list (K := K) (a := tn) (xs := wordsL.map V.str) (fun i σ H' => ∃ (x1 x2 x3 x4 : Option V), σ = [some (.ref s), x1, x2, x3, x4, none] ∧ Same (upd H tn (.lst (wordsL.map V.str))) H') ⟨none, none, none, none, rfl, Same.refl _⟩ (fun i σ H' _ q => ?_) ?_ ?_
  · obtain ⟨_, _, _, _, _, q⟩ := q
    exact SqL.of (q _ _ e1)
  · rintro i x σ H' hi ⟨x1, x2, x3, x4, rfl, q1⟩
    obtain ⟨y, hy, rfl⟩ : ∃ y ∈ wordsL, V.str y = x := by
      have hm := List.mem_of_getElem? hi
      obtain ⟨y, hy, e⟩ := List.mem_map.mp hm
      exact ⟨y, hy, e⟩
    have hs1 : ShpAt K H' s b p n := K2.Same.tup (s1.trans q1) hs
    refine seq_asg ⟨rfl, _, rfl, s, _, _, _, rfl, rfl, hs1, rfl, _, rfl, s, _, _, _, rfl, rfl, hs1, rfl, _, rfl, s, _, _, _, rfl, rfl, hs1, rfl, _, rfl, ?_⟩
    refine ⟨b, p, n, y, rfl, hy4 y hy, fun H1 x a1 nx hx => ?_⟩
    have hs2 : ShpAt K H1 s b p n := K2.Same.tup a1 hs1
    refine seq_asg ⟨rfl, _, rfl, _, rfl, s, _, _, _, rfl, rfl, hs2, rfl, _, rfl, s, _, _, _, rfl, rfl, hs2, rfl, _, rfl, s, _, _, _, rfl, rfl, hs2, rfl, rfl, ?_⟩
    refine ⟨b, p, n, y, rfl, hy4 y hy, fun H2 z a2 nz hz => ?_⟩
    have hs3 : ShpAt K H2 s b p n := K2.Same.tup a2 hs2
    refine seq_asg (tup_read (cons_read (tup_read (cons_read ⟨_, rfl, s, _, _, _, rfl, rfl, hs3, rfl, cons_read ⟨_, rfl, nil_read ⟨by show 2 ≤ sizeLine; decide, fun r nr => ?_⟩⟩⟩))))
    refine nil_read ⟨by show 1 ≤ sizeLine; decide, fun t nt => ?_⟩
    have a3 : Same H2 (upd (upd H2 r (.tup [.int (p : Int), .str y])) t (.tup [.ref r])) := (same_lay nr).trans (same_lay nt)
    have hR := one_table (K := K) nr nt
    generalize upd (upd H2 r (.tup [.int (p : Int), .str y])) t (.tup [.ref r]) = H3 at a3 hR ⊢
    have hs4 : ShpAt K H3 s b p n := K2.Same.tup a3 hs3
    refine ⟨_, rfl, x, b, p, n, [], y, rfl, (hx.same a2).same a3, hy4 y hy, fun H4 a4 => ?_⟩
    refine ⟨_, rfl, _, rfl, s, t, b, p, n, [], y, rfl, K2.Same.tup a4 hs4, hy4 y hy, hR.same a4, fun H5 a5 => ⟨rfl, _, rfl, ?_⟩⟩
    rw [str_same]
    refine iteF ?_
    have a6 := a2.trans (a3.trans (a4.trans a5))
    have a7 := a3.trans (a4.trans a5)
    have hx5 := hx.same a6
    have hz5 := hz.same a7
    refine ⟨_, rfl, _, rfl, eq_drv D.M.D D.M.T D.F hx5 hz5 ⟨_, rfl, ?_⟩⟩
    rw [str_same]
    refine iteF ?_
    refine ⟨_, rfl, _, rfl, _, rfl, s, t, b, p, n, [], y, rfl, K2.Same.tup (a4.trans a5) hs4, hy4 y hy, hR.same (a4.trans a5), fun H6 u a8 nu hu => ?_⟩
    refine ne_drv D.M.D D.M.T D.F (hz5.same a8) hu ⟨_, rfl, ?_⟩
    rw [str_same]
    refine iteF ⟨_, _, _, _, rfl, q1.trans (a1.trans (a6.trans a8))⟩
  · rintro σ H' ⟨x1, x2, x3, x4, rfl, q1⟩
    rw [hD1]
    have hs1 : ShpAt K H' s b p n := K2.Same.tup (s1.trans q1) hs
    have hyl : Str.ofString "least" ∈ wordsL := by decide
    refine seq_asg ⟨rfl, _, rfl, s, _, _, _, rfl, rfl, hs1, rfl, _, rfl, s, _, _, _, rfl, rfl, hs1, rfl, _, rfl, s, _, _, _, rfl, rfl, hs1, rfl, ?_⟩
    refine ⟨b, p, n, Str.ofString "least", rfl, hy4 _ hyl, fun H1 x a1 nx hx => ?_⟩
    have hs2 : ShpAt K H1 s b p n := K2.Same.tup a1 hs1
    refine ret_read (op_read ⟨_, rfl, x, b, p, n, [], _, rfl, hx, hy4 _ hyl, fun H2 a2 => ?_⟩)
    have hs3 : ShpAt K H2 s b p n := K2.Same.tup a2 hs2
    refine call_read (cons_read ⟨_, rfl, cons_read (tup_read (cons_read (tup_read (cons_read ⟨_, rfl, s, _, _, _, rfl, rfl, hs3, rfl, cons_read (c_read (nil_read ⟨by show 2 ≤ sizeLine; decide, fun r nr => ?_⟩))⟩))))⟩)
    refine nil_read ⟨by show 1 ≤ sizeLine; decide, fun t nt => ?_⟩
    have a3 : Same H2 (upd (upd H2 r (.tup [.int (p : Int), .str (Str.ofString "least")])) t (.tup [.ref r])) := (same_lay nr).trans (same_lay nt)
    have hR := one_table (K := K) nr nt
    refine nil_read ⟨s, t, b, p, n, [], _, rfl, K2.Same.tup a3 hs3, hy4 _ hyl, hR, fun H4 a4 => ⟨rfl, ?_⟩⟩
    rw [str_same]
    exact k H4 (s1.trans (q1.trans (a1.trans (a2.trans (a3.trans a4)))))
end
end K2

set_option Elab.async false
set_option linter.all false
set_option maxRecDepth 100000
set_option maxHeartbeats 4000000
/-! Texts of drives are equal only where all is the same. -/
namespace K2
open PySem PySem.Spec PyProof.Rows L2 G1 G2 ClX
theorem line_inj : ∀ l : Nat, l < 6 → ∀ w ∈ wordsL, ∀ l' : Nat, l' < 6 → ∀ w' ∈ wordsL, lineM ((l : Int), w) = lineM ((l' : Int), w') → l = l' ∧ w = w' := by decide +kernel
theorem any_inj : ∀ w ∈ wordsL, ∀ w' ∈ wordsL, anyM w = anyM w' → w = w' := by decide +kernel
theorem num_inj {i j : Nat} (hi : i < 26) (hj : j < 26) (h : numS (i : Int) = numS (j : Int)) : i = j := by
  have a := (num_facts i hi).2.2
  have b := (num_facts j hj).2.2
  rw [h, b] at a
  injection a with a
  omega
theorem lines_inj {p p' : Nat} (hp : p < 6) (hp' : p' < 6) : ∀ (l l' : List RowD), (∀ r ∈ l, RowOk p r) → (∀ r ∈ l', RowOk p' r) → l.map lineM = l'.map lineM → l = l'
  | [], [], _, _, _ => rfl
  | [], _ :: _, _, _, h => by simp at h
  | _ :: _, [], _, _, h => by simp at h
  | (i, w) :: l, (j, w') :: l', h1, h2, h => by
    rw [List.map_cons, List.map_cons] at h
    injection h with ha hb
    obtain ⟨a1, a2, a3⟩ := h1 _ (List.mem_cons_self ..)
    obtain ⟨b1, b2, b3⟩ := h2 _ (List.mem_cons_self ..)
    dsimp only at a1 a2 a3 b1 b2 b3
    obtain ⟨i, rfl⟩ : ∃ k : Nat, i = (k : Int) := ⟨i.toNat, by omega⟩
    obtain ⟨j, rfl⟩ : ∃ k : Nat, j = (k : Int) := ⟨j.toNat, by omega⟩
    obtain ⟨e1, e2⟩ := line_inj i (by omega) w a3 j (by omega) w' b3 ha
    rw [e1, e2, lines_inj hp hp' l l' (fun r hr => h1 r (List.mem_cons_of_mem _ hr)) (fun r hr => h2 r (List.mem_cons_of_mem _ hr)) hb]
theorem text_inj {b p n b' p' n' : Nat} {ini ini' : List RowD} {y y' : Str} (d : DP b p n ini y) (d' : DP b' p' n' ini' y') (h : textM (b : Int) (p : Int) (n : Int) ini y = textM (b' : Int) (p' : Int) (n' : Int) ini' y') :
    (b = b' ∧ p = p' ∧ n = n') ∧ ini = ini' ∧ y = y' := by
  have z := d.sz
  have z' := d'.sz
  have b1 := z.b1
  have p1 := z.p1
  have b1' := z'.b1
  have p1' := z'.p1
  have e := congrArg (fun t => Txt.split t (Str.ofString "\n")) h
  try dsimp only at e
  rw [split_text b p n (by omega) (by omega) z.n25 ini d.ini y d.y, split_text b' p' n' (by omega) (by omega) z'.n25 ini' d'.ini y' d'.y] at e
  unfold linesM at e
  injection e with e1 e2
  have f := congrArg (fun t => Txt.split t (Str.ofString " ")) e1
  try dsimp only at f
  rw [split_head b p n (by omega) (by omega) z.n25, split_head b' p' n' (by omega) (by omega) z'.n25] at f
  injection f with _ f
  injection f with f1 f
  injection f with _ f
  injection f with f2 f
  injection f with _ f
  injection f with f3 f
  have hl : (ini.map lineM).length = (ini'.map lineM).length := by
    have q := congrArg List.length e2
    rw [List.length_append, List.length_append] at q
    exact Nat.add_right_cancel q
  obtain ⟨g1, g2⟩ := List.append_inj e2 hl
  injection g2 with g2
  exact ⟨⟨num_inj (by omega) (by omega) f1, num_inj (by omega) (by omega) f2, num_inj z.n25 z'.n25 f3⟩, lines_inj (by omega) (by omega) _ _ d.ini.1 d'.ini.1 g1, any_inj y d.y y' d'.y g2⟩
/-! ### and so it is with == of shapes and tables -/
def shpD (b p n : Nat) : PyData := .tuple [.int (b : Int), .int (p : Int), .int (n : Int)]
theorem eqv_shp (b p n b' p' n' : Nat) : PyData.eqv (shpD b p n) (shpD b' p' n') = decide (b = b' ∧ p = p' ∧ n = n') := by
  unfold shpD
  rw [Bool.eq_iff_iff]
  simp [PyData.eqv, PyData.eqvAll, and_assoc]
  omega
theorem eqv_rows : ∀ l l' : List RowD, PyData.eqvAll (l.map rowD) (l'.map rowD) = decide (l = l')
  | [], [] => by simp [PyData.eqvAll]
  | [], _ :: _ => by simp [PyData.eqvAll]
  | _ :: _, [] => by simp [PyData.eqvAll]
  | (i, w) :: l, (j, w') :: l' => by
    rw [List.map_cons, List.map_cons, PyData.eqvAll, eqv_rows l l', Bool.eq_iff_iff]
    simp [rowD, PyData.eqv, PyData.eqvAll]
theorem eqv_tab (l l' : List RowD) : PyData.eqv (.tuple (l.map rowD)) (.tuple (l'.map rowD)) = decide (l = l') := by
  rw [PyData.eqv, eqv_rows]
end K2

set_option Elab.async false
set_option linter.all false
set_option maxRecDepth 100000
set_option maxHeartbeats 4000000
/-! What is seen of a drive is plain. -/
namespace K2
open PySem PySem.Spec PyProof.Rows L2 G1 G2 ClX
theorem hex_plain : ∀ c : Nat, c < 128 → ∀ d ∈ (Nat.toDigits 16 c).map Char.toNat, d < 128 := by decide +kernel
theorem char_plain {q c : Nat} (hq : q < 128) (hc : c < 128) : ∀ d ∈ Builtin.Str.reprChar q c, d < 128 := by
  intro d hd
  unfold Builtin.Str.reprChar at hd
  dsimp only at hd
  have hh : ∀ k, ∀ d ∈ List.replicate k 48 ++ (Nat.toDigits 16 c).map Char.toNat, d < 128 := by
    intro k d hd
    rcases List.mem_append.mp hd with h | h
    · rw [(List.mem_replicate.mp h).2]; decide
    · exact hex_plain c hc d h
  split at hd
  · simp at hd; omega
  split at hd
  · simp at hd; omega
  split at hd
  · simp at hd; omega
  split at hd
  · simp at hd; omega
  split at hd
  · simp at hd; omega
  split at hd
  · rcases List.mem_append.mp hd with h | h
    · simp at h; omega
    · exact hh _ d h
  · omega
theorem fold_plain {q : Nat} (hq : q < 128) : ∀ (l : List Nat) (acc : Array Nat), (∀ c ∈ l, c < 128) → (∀ c ∈ acc.toList, c < 128) → ∀ c ∈ (l.foldl (fun out c => out ++ (Builtin.Str.reprChar q c).toArray) acc).toList, c < 128
  | [], acc, _, h, c, hc => h c hc
  | x :: l, acc, h1, h2, c, hc => by
    refine fold_plain hq l _ (fun c hc => h1 c (List.mem_cons_of_mem _ hc)) (fun d hd => ?_) c hc
    simp only [Array.toList_append, List.mem_append] at hd
    rcases hd with hd | hd
    · exact h2 d hd
    · exact char_plain hq (h1 x (List.mem_cons_self ..)) d hd
theorem plain_repr {x : Str} (h : Plain x) : Plain (reprText x) := by
  have hq : reprQuote x < 128 := by
    unfold reprQuote
    split <;> decide
  intro c hc
  have e : TL.tl (reprText x) = ((x.cps.toList.foldl (fun out c => out ++ (Builtin.Str.reprChar (reprQuote x) c).toArray) #[reprQuote x]).push (reprQuote x)).toList := by
    unfold TL.tl reprText
    rw [← Array.foldl_toList]
  rw [e, Array.toList_push] at hc
  rcases List.mem_append.mp hc with hc | hc
  · exact fold_plain hq x.cps.toList _ h (fun d hd => by rw [List.mem_singleton.mp hd]; exact hq) c hc
  · rw [List.mem_singleton.mp hc]; exact hq
theorem plain_from : ∀ (ts : List Str) (k : Nat) (acc : Str), Plain acc → (∀ t ∈ ts, Plain t) → Plain (textFrom k acc ts)
  | [], _, acc, h, _ => h
  | t :: ts, k, acc, h, h2 => by
    refine plain_from ts (k + 1) _ (plain_app (plain_app h ?_) (h2 t (List.mem_cons_self ..))) fun x hx => h2 x (List.mem_cons_of_mem _ hx)
    split <;> (unfold Plain; decide +kernel)
theorem plain_list {ts : List Str} (h : ∀ t ∈ ts, Plain t) : Plain (listText ts) := plain_app (plain_from ts 0 _ (by unfold Plain; decide +kernel) h) (by unfold Plain; decide +kernel)
theorem plain_tup {ts : List Str} (h : ∀ t ∈ ts, Plain t) : Plain (tupleText ts) := by
  unfold tupleText
  refine plain_app (plain_app (by unfold Plain; decide +kernel) (plain_join (by unfold Plain; decide +kernel) ts h)) ?_
  split <;> (unfold Plain; decide +kernel)
theorem plain_int : ∀ i : Nat, i < 26 → ∀ c ∈ TL.tl ((PyData.int (i : Int)).shown), c < 128 := by decide +kernel
theorem plain_rows {p : Nat} (hp : p < 26) : ∀ rows : List RowD, (∀ r ∈ rows, RowOk p r) → ∀ t ∈ PyData.shownAll (rows.map rowD), Plain t
  | [], _, t, h => by simp [PyData.shownAll] at h
  | (l, w) :: rows, h, t, ht => by
    rw [List.map_cons, PyData.shownAll] at ht
    obtain ⟨a1, a2, a3⟩ := h _ (List.mem_cons_self ..)
    dsimp only at a1 a2 a3
    obtain ⟨j, rfl⟩ : ∃ j : Nat, l = (j : Int) := ⟨l.toNat, by omega⟩
    rcases List.mem_cons.mp ht with rfl | ht
    · unfold rowD
      rw [PyData.shown]
      refine plain_tup fun t ht => ?_
      rw [PyData.shownAll, PyData.shownAll, PyData.shownAll] at ht
      rcases List.mem_cons.mp ht with rfl | ht
      · exact plain_int j (by omega)
      · rw [List.mem_singleton.mp ht, PyData.shown]
        exact plain_repr (plain_word w a3)
    · exact plain_rows hp rows (fun r hr => h r (List.mem_cons_of_mem _ hr)) t ht
theorem plain_seen {b p n : Nat} {ini : List RowD} {y : Str} (d : DP b p n ini y) : Plain (seenM b p n ini y) := by
  have hz := d.sz
  have b1 := hz.b1
  have p1 := hz.p1
  obtain ⟨r1, r2⟩ := rows_ok d.ini d.y
  unfold seenM seenD
  rw [PyData.shown]
  refine plain_list fun t ht => ?_
  simp only [PyData.shownAll] at ht
  rcases List.mem_cons.mp ht with rfl | ht
  · exact plain_int b (by omega)
  rcases List.mem_cons.mp ht with rfl | ht
  · exact plain_int p (by omega)
  rcases List.mem_cons.mp ht with rfl | ht
  · exact plain_int n hz.n25
  rcases List.mem_cons.mp ht with rfl | ht
  · rw [PyData.shown]
    exact plain_tup (plain_rows (by omega) _ r1)
  rcases List.mem_cons.mp ht with rfl | ht
  · exact plain_int _ (by omega)
  rw [List.mem_singleton.mp ht, PyData.shown]
  exact plain_repr (plain_text b p n (by omega) (by omega) hz.n25 ini d.ini y d.y)
/-- three texts, in a list -/
def triD (x : Str) : PyData := .list [.str x, .str x, .str x]
theorem tri_shaped {x : Str} (h : Plain x) : SeqAt.shaped (triD x) = true := by
  have z := (fine_str h).2.2
  unfold SeqAt.shaped triD
  simp only [PyData.canLay0, PyData.canLayAll0, PyData.depth, PyData.depthAll] at z ⊢
  simp [z]
theorem tri_eqv (x : Str) : PyData.eqv (triD x) (triD x) = true := by
  unfold triD
  simp [PyData.eqv, PyData.eqvAll]
theorem shp_shaped (b p n : Nat) : SeqAt.shaped (shpD b p n) = true := by
  unfold SeqAt.shaped shpD
  simp [PyData.canLay0, PyData.canLayAll0, PyData.depth, PyData.depthAll]
theorem tab_shaped {p : Nat} (hp : p < 26) (rows : List RowD) (h : ∀ r ∈ rows, RowOk p r) : SeqAt.shaped (.tuple (rows.map rowD)) = true := by
  obtain ⟨d1, d2, d3, d4, d5, d6, d7⟩ := fine_rows p hp rows h
  unfold SeqAt.shaped
  rw [PyData.canLay0, d5, Bool.true_and, decide_eq_true_eq, PyData.depth]
  omega
theorem shp_dp {K : PySem.W.Frag} {H : Hp} {s : Addr} {b p n : Nat} (h : ShpAt K H s b p n) : Dp K H (.ref s) (shpD b p n) := .tup h (.cons (.int _) (.cons (.int _) (.cons (.int _) .nil)))
end K2

set_option Elab.async false
set_option linter.all false
set_option maxRecDepth 100000
set_option maxHeartbeats 4000000
namespace K2
open PySem PySem.Spec PyProof.Rows L2 G1 G2 ClX
abbrev sRgt : Stmt := topS 48
theorem scRgt : FnScope ["_law_pool_here", "_law_shape_here", "_law_table_here", "_law_mine", "_law_mate", "_law_back", "_law_must", "_law_thing", "_law_far_shape", "_law_far_table", "_law_far", "_law_is_same"] ["_law_pool_here"] (defScope sRgt) := ⟨rfl, rfl, rfl, by decide +kernel, rfl, by decide +kernel, by decide +kernel⟩
def spRgt : Sp := fun vs H Q _ => ∃ pl : Addr, vs = [.ref pl] ∧ PoolAt H pl ∧ ∀ H' : Hp, Stp pl H H' → Q (.bl true) H'
/-- the defs that _law_right calls -/
structure LR (P : Program) (w : World) (K : PySem.W.Frag) (mg : Str → Option Value) (base : Heap) (C : Addr) : Prop where
  D : DC P w K mg base C
  shp : FAt P w K mg base 2 "_law_shape" ["_law_pool_here"] (spShp K)
  tab : FAt P w K mg base 2 "_law_table" ["_law_pool_here", "_law_size"] (spTab K)
  mad : FAt P w K mg base 7 "_law_made" ["_law_shape_here", "_law_table_here"] (spMad K C)
  ltx : FAt P w K mg base 1 "_law_text" ["_law_shape_here", "_law_table_here"] (spLTx K)
  oth : FAt P w K mg base 1 "_law_others" ["_law_shape_here", "_law_table_here"] (spOth K)
  see : GAt P w K mg base 4 "_law_seen" ["_law_mine"] (spSee K C)
  due : GAt P w K mg base 4 "_law_due" ["_law_shape_here", "_law_table_here"] (spDue K)
  srt : GAt P w K mg base 8 "_law_simple_right" ["_law_shape_here"] (spSRt K)
section
variable {P : Program} {w : World} {K : PySem.W.Frag} {mg : Str → Option Value} {base : Heap} {C : Addr}
abbrev s12 (pl s t x z u : Addr) (m : Str) (y7 y8 y9 y10 y11 : Option V) : L2.St := [some (.ref pl), some (.ref s), some (.ref t), some (.ref x), some (.ref z), some (.ref u), some (.str m), y7, y8, y9, y10, y11]
theorem str_read {H : Hp} {Q : VK} {E : XK} {x : Addr} {b p n : Nat} {ini : List RowD} {y : Str} (hx : DrvAt K C H x b p n ini y) (k : Q (.str (textM (b : Int) (p : Int) (n : Int) ini y)) H) : rStrO C (spStrD C) E [.ref x] H Q := by
  obtain ⟨dx, t, h1, _⟩ := hx
  exact ⟨x, dx, _, rfl, h1, x, dx, _, _, rfl, h1, rfl, _, rfl, k⟩
theorem tru_read {H : Hp} {Q : Bool → Hp → Prop} {E : XK} {x : Addr} {b p n : Nat} {ini : List RowD} {y : Str} (hx : DrvAt K C H x b p n ini y) (hi : IniOk p ini) (k : Q true H) : rTruO C (spLenD K C) E (.ref x) H Q := by
  obtain ⟨dx, t, h1, hR⟩ := hx
  obtain ⟨xs, hT, hl⟩ := rows_len hR
  have hl2 : xs.length = ini.length + 1 := by rw [hl, List.length_append]; rfl
  have hi2 := hi.2
  refine ⟨x, dx, _, rfl, h1, x, dx, t, _, xs, rfl, h1, rfl, hT, (xs.length : Int), rfl, by omega, by omega, ?_⟩
  have e : ((xs.length : Int) != 0) = true := by
    rw [bne_iff_ne]
    omega
  rw [e]
  exact k
theorem and_read {ta tb : TE} {σ : L2.St} {H : Hp} {Q : VK} {c1 c2 : Bool} (h1 : ∀ R : VK, R (.bl c1) H → ta σ H R) (h2 : ∀ R : VK, R (.bl c2) H → tb σ H R) (k : Q (.bl (c1 && c2)) H) : tAndV ta tb σ H Q := by
  refine h1 _ ⟨c1, rfl, ?_⟩
  cases c1 with
  | true => exact iteT (h2 _ k)
  | false => exact iteF k
theorem same_key {b p n b' p' n' : Nat} {ini ini' : List RowD} {y y' : Str} (d : DP b p n ini y) (d' : DP b' p' n' ini' y') : (decide (b' = b ∧ p' = p ∧ n' = n) && decide (ini' ++ [((p' : Int), y')] = ini ++ [((p : Int), y)])) = decide (V.str (textM (b : Int) (p : Int) (n : Int) ini y) = V.str (textM (b' : Int) (p' : Int) (n' : Int) ini' y')) := by
  rw [← Bool.decide_and]
  refine decide_eq_decide.mpr ⟨fun h => ?_, fun h => ?_⟩
  · obtain ⟨⟨rfl, rfl, rfl⟩, h⟩ := h
    obtain ⟨h1, h2⟩ := List.append_inj' h rfl
    injection h2 with h2
    injection h2 with _ h2
    rw [h1, h2]
  · injection h with h
    obtain ⟨⟨rfl, rfl, rfl⟩, rfl, rfl⟩ := text_inj d d' h
    exact ⟨⟨rfl, rfl, rfl⟩, rfl⟩
theorem bl_same (c : Bool) : decide (V.bl c = V.bl c) = true := decide_eq_true rfl
theorem bl_not (c : Bool) : decide (V.bl (!c) = V.bl c) = false := by
  cases c <;> exact decide_eq_false (fun z => by cases z)
theorem make_readK {H : Hp} {Q : VK} {E : XK} {b p n : Nat} {ini : List RowD} {y : Str} {t : Addr} (d : DP b p n ini y) (hR : RowsAt K H t (ini ++ [((p : Int), y)])) (k : Made K C H Q b p n ini y) :
    ∀ x dx, H x = none → H dx = none → dx ≠ x → spIni K C (gRev [.ref x] [.ref t, .int (n : Int), .int (p : Int), .int (b : Int)]) (upd (upd H dx (.own x)) x (.ins C dx [])) (fun v H2 => v = .non ∧ Q (.ref x) H2) E := make_read d hR k
theorem mate_read {σ : L2.St} {H : Hp} {Q : VK} {E : XK} {b p n : Nat} {ini : List RowD} {y : Str} {s t : Addr} (h1 : σ[1]? = some (some (.ref s))) (h2 : σ[2]? = some (some (.ref t))) (hs : ShpAt K H s b p n) (d : DP b p n ini y) (hR : RowsAt K H t (ini ++ [((p : Int), y)])) (k : Made K C H Q b p n ini y) :
    tMakeN C 0 4 (spIni K C) gRev E tNil (tCons (tVar 2) (tCons (tOp (rIxT K) (tVar 1) (tC (.int 2))) (tCons (tOp (rIxT K) (tVar 1) (tC (.int 1))) (tCons (tOp (rIxT K) (tVar 1) (tC (.int 0))) tNil)))) σ H Q :=
  ⟨_, h2, _, h1, s, _, _, _, rfl, rfl, hs, rfl, _, h1, s, _, _, _, rfl, rfl, hs, rfl, _, h1, s, _, _, _, rfl, rfl, hs, rfl, rfl, rfl, make_readK d hR k⟩
theorem seq_if0 {tt : TT} {t t2 : TS} {D : Ends} {σ : L2.St} {H : Hp} (h : tt σ H fun c H1 => if c = true then t { D with nx := t2 D } σ H1 else t2 D σ H1) : tSeq (tIfS tt t tNext) t2 D σ H := h
theorem test_read {te : TE} {σ : L2.St} {H : Hp} {Q : Bool → Hp → Prop} (h : te σ H fun x H1 => ∃ k, x = .bl k ∧ Q k H1) : tTest te σ H Q := h
theorem ok_rgt {f : Addr} {fd : FuncData} (F : Fun K "_law_right" "_law_right" sRgt f fd) (B : Bl mg) (L : LR P w K mg base C) : FnG P w K mg base 9 f fd ["_law_pool_here"] spRgt := by
  refine okG F scRgt (fun vs H Q E h => ?_) (fun cdv A outer s H vs Q E hgu hr h => ?_)
  · obtain ⟨pl, rfl, _⟩ := h
    rfl
  obtain ⟨pl, rfl, hp, k⟩ := h
  have D := L.D
  obtain ⟨fH, dH, GH, kH, bH, gH⟩ := L.shp.ex
  obtain ⟨fT, dT, GT, kT, bT, gT⟩ := L.tab.ex
  obtain ⟨fM, dM, GM, kM, bM, gM⟩ := L.mad.ex
  obtain ⟨fX, dX, GX, kX, bX, gX⟩ := L.ltx.ex
  obtain ⟨fO, dO, GO, kO, bO, gO⟩ := L.oth.ex
  obtain ⟨fS, dS, GS, kS, bS, gS⟩ := L.see.ex
  obtain ⟨fU, dU, GU, kU, bU, gU⟩ := L.due.ex
  obtain ⟨fR, dR, GR, kR, bR, gR⟩ := L.srt.ex
  obtain ⟨mc, pc, gc, dc, cr, cm, Gc, bc⟩ := D.rd
  obtain ⟨fI, dI, MI, GI, FI⟩ := D.ini
  obtain ⟨ge, e1, e2, e3⟩ := D.M.eq
  obtain ⟨gs, S1, S2, S3⟩ := D.M.st
  obtain ⟨gl, L1, L2', L3⟩ := D.M.ln
  have hr1 : Room 1 _ := hr.mono (by decide)
  have hr2 : Room 2 _ := hr.mono (by decide)
  have hr3 : Room 3 _ := hr.mono (by decide)
  have hr4 : Room 4 _ := hr.mono (by decide)
  have hr6 : Room 6 _ := hr.mono (by decide)
  have hr7 : Room 7 _ := hr.mono (by decide)
  have gD := D.M.gD
  refine ⟨_, pss_cons (ps_set (i := 1) scRgt.nd rfl (.inl rfl) (pe_call GH hr2 (by rfl) gH kH bH .nil pass0 (pa_cons (pv 0) pa_nil)))
    (pss_cons (ps_set (i := 2) scRgt.nd rfl (.inl rfl) (pe_call GT hr2 (by rfl) gT kT bT .nil pass0 (pa_cons (pv 0) (pa_cons (pe_ix ix_tup (pv 1) pe_int (fun _ _ => rfl)) pa_nil))))
    (pss_cons (ps_set (i := 3) scRgt.nd rfl (.inl rfl) (pe_call GM hr7 (by rfl) gM kM bM .nil pass0 (pa_cons (pv 1) (pa_cons (pv 2) pa_nil))))
    (pss_cons (ps_set (i := 4) scRgt.nd rfl (.inl rfl) (G2.pe_makeK MI GI hr6 (by rfl) gD (kb_ini FI) pass0 (pk_cons (pv 2) (pk_cons (pe_ix ix_tup (pv 1) pe_int (fun _ _ => rfl)) (pk_cons (pe_ix ix_tup (pv 1) pe_int (fun _ _ => rfl)) (pk_cons (pe_ix ix_tup (pv 1) pe_int (fun _ _ => rfl)) pk_nil))))))
    (pss_cons (ps_set (i := 5) scRgt.nd rfl (.inl rfl) (pe_cmeth (pe_glob (v := .ref C) rfl gD rfl) cr cm (Gc.raw bc .nil) hr7 pass0 (pa_cons (pe_call GX hr1 (by rfl) gX kX bX .nil pass0 (pa_cons (pv 1) (pa_cons (pv 2) pa_nil))) pa_nil)))
    (pss_cons (ps_set (i := 6) scRgt.nd rfl (.inl rfl) (pe_callG GU hgu hr4 (by rfl) gU kU bU (pa_cons (pv 1) (pa_cons (pv 2) pa_nil))))
    (pss_cons (ps_if (pt_cmpR (op_neD hr.units) (pe_lst (pa_cons (pe_callG GS hgu hr4 (by rfl) gS kS bS (pa_cons (pv 3) pa_nil)) (pa_cons (pe_callG GS hgu hr4 (by rfl) gS kS bS (pa_cons (pv 4) pa_nil)) (pa_cons (pe_callG GS hgu hr4 (by rfl) gS kS bS (pa_cons (pv 5) pa_nil)) pa_nil))))
        (pe_lst (pa_cons (pv 6) (pa_cons (pv 6) (pa_cons (pv 6) pa_nil)))) (nomark _)) (pss_one (ps_ret pe_bl)) pss_nil)
    (pss_cons (ps_if (PW.pt (pw_or (pt_not (pt_cmpR (op_eqO e1 e2 e3 hr1 pass0) (pv 3) (pv 4) (nomark _))) (pw_or (pt_cmpR (op_neO D.M.ne D.M.D.hm e1 e2 e3 hr2 pass0) (pv 3) (pv 5) (nomark _))
        (pw_or (pt_not (pt_cmpR (op_eqO e1 e2 e3 hr1 pass0) (pv 4) (pv 5) (nomark _))) (pw_or1 (pt_not (pt_truO (tru_lenO D.M.nb L1 L2' L3 hr2 pass0) (pv 3) (fun _ => rfl)))))))) (pss_one (ps_ret pe_bl)) pss_nil)
    (pss_cons (ps_for PassesOwn.never rfl (pi_list (pe_lst (pa_cons pe_non (pa_cons pe_bl (pa_cons (pe_callTy (call_strO S1 S2 S3 hr3 pass0) (by rfl) B.str bStr (pa_cons (pv 3) pa_nil)) (pa_cons (pv 2) (pa_cons (pv 1) (pa_cons pe_int (pa_cons (pe_lst pa_nil) (pa_cons (pe_tup (pa_cons (pe_callTy (call_strO S1 S2 S3 hr3 pass0) (by rfl) B.str bStr (pa_cons (pv 3) pa_nil)) pa_nil)) pa_nil)))))))))) (pg_name (i := 7) scRgt.nd rfl (.inl rfl))
      (pss_one (ps_if (PW.pt (pw_or (pt_cmpR (op_eqO e1 e2 e3 hr1 pass0) (pv 3) (pv 7) (nomark _)) (pw_or (pt_cmpR (op_eqR D.M.N e1 e2 e3 hr1 pass0) (pv 7) (pv 3) (nomark _)) (pw_or1 (pt_not (pt_cmpR (op_neO D.M.ne D.M.D.hm e1 e2 e3 hr2 pass0) (pv 3) (pv 7) (nomark _))))))) (pss_one (ps_ret pe_bl)) pss_nil)))
    (pss_cons (ps_for PassesOwn.never rfl (pi_list (pe_call GO hr1 (by rfl) gO kO bO .nil pass0 (pa_cons (pv 1) (pa_cons (pv 2) pa_nil)))) (pg_tup rfl (pgs_cons (pg_name (i := 8) scRgt.nd rfl (.inl rfl)) (pgs_cons (pg_name (i := 9) scRgt.nd rfl (.inl rfl)) pgs_nil)))
      (pss_cons (ps_set (i := 10) scRgt.nd rfl (.inl rfl) (pe_call GM hr7 (by rfl) gM kM bM .nil pass0 (pa_cons (pv 8) (pa_cons (pv 9) pa_nil))))
      (pss_cons (ps_set (i := 11) scRgt.nd rfl (.inl rfl) (pe_and (pe_cmpR (op_eqD hr.units) (pv 8) (pv 1) (nomark _)) (pe_one (pe_cmpR (op_eqD hr.units) (pv 9) (pv 2) (nomark _)))))
      (pss_one (ps_if (PW.pt (pw_or (pt_cmpR op_ne (pe_cmpR (op_eqO e1 e2 e3 hr1 pass0) (pv 3) (pv 10) (nomark _)) (pv 11) (nomark _)) (pw_or (pt_cmpR op_eq (pe_cmpR (op_neO D.M.ne D.M.D.hm e1 e2 e3 hr2 pass0) (pv 10) (pv 3) (nomark _)) (pv 11) (nomark _))
        (pw_or1 (pt_cmpR op_ne (pe_callG GS hgu hr4 (by rfl) gS kS bS (pa_cons (pv 10) pa_nil)) (pe_callG GU hgu hr4 (by rfl) gU kU bU (pa_cons (pv 8) (pa_cons (pv 9) pa_nil))) (nomark _)))))) (pss_one (ps_ret pe_bl)) pss_nil)))))
    (pss_one (ps_ret (pe_and (pe_callG GR hgu hr (by rfl) gR kR bR (pa_cons (pv 1) pa_nil)) (pe_one (pe_cmpR op_eq (pe_callG GS hgu hr4 (by rfl) gS kS bS (pa_cons (pv 3) pa_nil)) (pv 6) (nomark _))))))))))))))), ?_⟩
  refine seq_asg ⟨_, rfl, pl, rfl, hp, fun H1 s b p n st1 hsh es => ?_⟩
  have hp1 : PoolAt H1 pl := st1.1
  have hs1 : ShpAt K H1 s b p n := SqT.of es
  have hz := hsh.sz
  have zp := hz.p1
  refine seq_asg ⟨_, rfl, _, rfl, s, _, _, _, rfl, rfl, hs1, rfl, pl, p, rfl, hp1, by omega, fun H2 t ini y st2 hR hini hy => ?_⟩
  have hs2 : ShpAt K H2 s b p n := st2.tup hp1 hs1
  have hp2 : PoolAt H2 pl := st2.1
  have st := st1.trans st2
  have d : DP b p n ini y := hsh.dp hini hy
  have hpm := plain_seen d
  obtain ⟨ro1, ro2⟩ := rows_ok hini hy
  have hsp := tab_shaped (p := p) (by omega) _ ro1
  clear es hp1 hs1 st1 st2
  refine seq_asg ⟨_, rfl, _, rfl, s, t, b, p, n, ini, y, rfl, hs2, d, hR, fun H3 x a3 nx hx => ?_⟩
  have hs3 : ShpAt K H3 s b p n := K2.Same.tup a3 hs2
  refine seq_asg (mate_read rfl rfl hs3 d (hR.same a3) fun H4 z a4 nz hzz => ?_)
  have b4 := a3.trans a4
  refine seq_asg ⟨rfl, _, rfl, _, rfl, s, t, b, p, n, ini, y, rfl, K2.Same.tup b4 hs2, d, hR.same b4, fun H5 a5 => ?_⟩
  refine ⟨b, p, n, ini, y, rfl, d, fun H6 u a6 nu hu => ?_⟩
  have b6 := b4.trans (a5.trans a6)
  refine seq_asg ⟨_, rfl, _, rfl, s, t, b, p, n, ini, y, rfl, K2.Same.tup b6 hs2, d, hR.same b6, fun H7 a7 => ?_⟩
  have b7 := b6.trans a7
  have hx7 := hx.same (a4.trans (a5.trans (a6.trans a7)))
  have hz7 := hzz.same (a5.trans (a6.trans a7))
  have hu7 := hu.same a7
  have hs7 : ShpAt K H7 s b p n := K2.Same.tup b7 hs2
  have hR7 := hR.same b7
  clear hs3 hu hx hzz a3 a4 a5 a6 a7 b4 b6 nx nz nu
  refine seq_if0 (test_read (op_read (lst_read (cons_read ⟨_, rfl, x, b, p, n, ini, y, rfl, hx7, d, fun H8 a8 => cons_read ⟨_, rfl, z, b, p, n, ini, y, rfl, hz7.same a8, d, fun H9 a9 => cons_read ⟨_, rfl, u, b, p, n, ini, y, rfl, hu7.same (a8.trans a9), d, fun Ha aa => nil_read ⟨by show 3 ≤ sizeLine; decide, fun l1 n1 => ?_⟩⟩⟩⟩))))
  refine lst_read (cons_read ⟨_, rfl, cons_read ⟨_, rfl, cons_read ⟨_, rfl, nil_read ⟨by show 3 ≤ sizeLine; decide, fun l2 n2 => ?_⟩⟩⟩⟩)
  refine ⟨triD (seenM b p n ini y), triD (seenM b p n ini y), .lst (SqL.of (same_lay n2 _ _ upd_same)) (.cons (.str _) (.cons (.str _) (.cons (.str _) .nil))), .lst (SqL.of upd_same) (.cons (.str _) (.cons (.str _) (.cons (.str _) .nil))), tri_shaped hpm, tri_shaped hpm, _, rfl, ?_⟩
  rw [tri_eqv]
  refine iteF ?_
  have b8 : Same H7 (upd (upd Ha l1 (.lst [.str (seenM b p n ini y), .str (seenM b p n ini y), .str (seenM b p n ini y)])) l2 (.lst [.str (seenM b p n ini y), .str (seenM b p n ini y), .str (seenM b p n ini y)])) := a8.trans (a9.trans (aa.trans ((same_lay n1).trans (same_lay n2))))
  generalize upd (upd Ha l1 (.lst [.str (seenM b p n ini y), .str (seenM b p n ini y), .str (seenM b p n ini y)])) l2 (.lst [.str (seenM b p n ini y), .str (seenM b p n ini y), .str (seenM b p n ini y)]) = Hb at b8 ⊢
  have bb := b7.trans b8
  have hxb := hx7.same b8
  have hzb := hz7.same b8
  have hub := hu7.same b8
  have hsb : ShpAt K Hb s b p n := K2.Same.tup b8 hs7
  have hRb := hR7.same b8
  clear b8 n1 n2 aa a8 a9 hx7 hz7 hu7 hs7 hR7 b7
  refine seq_if0 ?_
  refine ⟨_, rfl, _, rfl, eq_drv D.M.D D.M.T D.F hxb hzb ⟨_, rfl, ?_⟩⟩
  rw [str_same]
  refine iteF ?_
  refine ⟨_, rfl, _, rfl, ne_drv D.M.D D.M.T D.F hxb hub ⟨_, rfl, ?_⟩⟩
  rw [str_same]
  refine iteF ?_
  refine ⟨_, rfl, _, rfl, eq_drv D.M.D D.M.T D.F hzb hub ⟨_, rfl, ?_⟩⟩
  rw [str_same]
  refine iteF ?_
  refine ⟨_, rfl, tru_read hxb hini (iteF ?_)⟩
  refine seq_for fun D' hD1 hD2 => ?_
  refine lst_read (cons_read (c_read (cons_read (c_read (cons_read ⟨_, rfl, str_read hxb (cons_read ⟨_, rfl, cons_read ⟨_, rfl, cons_read (c_read (cons_read (lst_read (nil_read ⟨by show 0 ≤ sizeLine; decide, fun e ne => ?_⟩))))⟩⟩)⟩)))))
  have c1 : Same Hb (upd Hb e (.lst [])) := same_lay ne
  refine cons_read (tup_read (cons_read ⟨_, rfl, str_read (hxb.same c1) (nil_read ⟨by show 1 ≤ sizeLine; decide, fun q nq => ?_⟩)⟩))
  refine nil_read ⟨by show 8 ≤ sizeLine; decide, fun l nl => ?_⟩
  have c2 : Same (upd Hb e (.lst [])) (upd (upd Hb e (.lst [])) q (.tup [.str (textM (b : Int) (p : Int) (n : Int) ini y)])) := same_lay nq
  have q1 : (upd (upd Hb e (.lst [])) q (.tup [.str (textM (b : Int) (p : Int) (n : Int) ini y)])) q = some (.tup [.str (textM (b : Int) (p : Int) (n : Int) ini y)]) := upd_same
  have q2 : (upd (upd Hb e (.lst [])) q (.tup [.str (textM (b : Int) (p : Int) (n : Int) ini y)])) e = some (.lst []) := c2 _ _ upd_same
  generalize upd (upd Hb e (.lst [])) q (.tup [.str (textM (b : Int) (p : Int) (n : Int) ini y)]) = Hc at c2 q1 q2 nl ⊢
  generalize hxs : [V.non, V.bl true, V.str (textM (b : Int) (p : Int) (n : Int) ini y), V.ref t, V.ref s, V.int 5, V.ref e, V.ref q] = xs
  have c3 : Same Hc (upd Hc l (.lst xs)) := same_lay nl
  have el : (upd Hc l (.lst xs)) l = some (.lst xs) := upd_same
  have hbare : ∀ v ∈ xs, Bare K (upd Hc l (.lst xs)) v := by
    have cc := c1.trans (c2.trans c3)
    obtain ⟨rs, w1, w2⟩ := hRb
    intro v hv
    rw [← hxs] at hv
    simp only [List.mem_cons, List.mem_nil_iff, or_false] at hv
    rcases hv with rfl | rfl | rfl | rfl | rfl | rfl | rfl | rfl
    · exact .non
    · exact .bl _
    · exact .str _
    · exact .tup (K2.Same.tup cc w1)
    · exact .tup (K2.Same.tup cc hsb)
    · exact .int _
    · exact .lst (SqL.of (c3 _ _ q2))
    · exact .tup (SqT.of (c3 _ _ q1))
  have cc := c1.trans (c2.trans c3)
  generalize upd Hc l (.lst xs) = Hd at c3 el hbare cc ⊢
  have hxd := hxb.same cc
  have hsd : ShpAt K Hd s b p n := K2.Same.tup cc hsb
  have hRd := hRb.same cc
  have bd := bb.trans cc
  clear hxb hzb hub hsb hRb bb c1 c2 c3 cc q1 q2 hxs nl nq ne
  refine ⟨l, rfl, ⟨_, SqL.of el⟩, ?_⟩
  refine for_list (K := K) (a := l) (xs := xs) (fun i σ H' => H' = Hd ∧ ∃ y7 : Option V, σ = s12 pl s t x z u (seenM b p n ini y) y7 none none none none) ⟨rfl, none, rfl⟩ (fun i σ H' _ q => ?_) ?_ ?_
  · rw [q.1]
    exact SqL.of el
  · rintro i v σ H' hi ⟨rfl, y7, rfl⟩
    have hb := hbare v (List.mem_of_getElem? hi)
    refine ⟨_, rfl, _, rfl, eq_bare D.F hxd hb ⟨_, rfl, iteF ?_⟩⟩
    refine ⟨_, rfl, _, rfl, bare_eq hxd hb ⟨_, rfl, iteF ?_⟩⟩
    exact ⟨_, rfl, _, rfl, ne_bare D.F hxd hb ⟨_, rfl, iteF ⟨rfl, _, rfl⟩⟩⟩
  rintro σ H' ⟨rfl, y7, rfl⟩
  rw [hD1]
  refine seq_for fun D2 hD3 hD4 => ?_
  refine ⟨_, rfl, _, rfl, s, t, b, p, n, ini, y, rfl, hsd, hsh, hRd, hini, hy, fun He q as ae hq far => ?_⟩
  refine ⟨q, rfl, ⟨_, SqL.of hq⟩, ?_⟩
  refine for_list (K := K) (a := q) (xs := as.map V.ref) (fun i σ H' => Same He H' ∧ ∃ y8 y9 y10 y11 : Option V, σ = s12 pl s t x z u (seenM b p n ini y) y7 y8 y9 y10 y11) ⟨Same.refl _, none, none, none, none, rfl⟩ (fun i σ H' _ r => ?_) ?_ ?_
  · exact SqL.of (r.1 _ _ hq)
  · rintro i v σ H' hi ⟨r1, y8, y9, y10, y11, rfl⟩
    obtain ⟨a, ha, rfl⟩ : ∃ a ∈ as, V.ref a = v := by
      have hm := List.mem_of_getElem? hi
      obtain ⟨a, ha, e⟩ := List.mem_map.mp hm
      exact ⟨a, ha, e⟩
    obtain ⟨s2, t2, b2, p2, n2, ini2, y2, f1, f2, f3, f4, f5, f6⟩ := (far a ha).same r1
    have r2 := ae.trans r1
    have d2 : DP b2 p2 n2 ini2 y2 := f3.dp f5 f6
    obtain ⟨fo1, fo2⟩ := rows_ok f5 f6
    have zp2 := f3.sz.p1
    refine ⟨a, _, rfl, f1, rfl, _, _, rfl, _, _, rfl, rfl, ?_⟩
    refine seq_asg ⟨_, rfl, _, rfl, s2, t2, b2, p2, n2, ini2, y2, rfl, f2, d2, f4, fun Hf v av nv hv => ?_⟩
    have r3 := r2.trans av
    have hs3 : ShpAt K Hf s b p n := K2.Same.tup r3 hsd
    have hR3 := hRd.same r3
    have f2' : ShpAt K Hf s2 b2 p2 n2 := K2.Same.tup av f2
    have f4' := f4.same av
    refine seq_asg (and_read (fun R hk => ⟨_, rfl, _, rfl, shpD b2 p2 n2, shpD b p n, shp_dp f2', shp_dp hs3, shp_shaped _ _ _, shp_shaped _ _ _, (by rw [eqv_shp]; exact hk)⟩)
      (fun R hk => ⟨_, rfl, _, rfl, _, _, dp_tab f4', dp_tab hR3, tab_shaped (p := p2) (by omega) _ fo1, hsp, (by rw [eqv_tab]; exact hk)⟩) ?_)
    rw [same_key d d2]
    refine ⟨_, rfl, _, rfl, eq_drv D.M.D D.M.T D.F (hxd.same r3) hv ⟨_, rfl, rfl, _, rfl, ?_⟩⟩
    rw [bl_same]
    refine iteF ?_
    refine ⟨_, rfl, _, rfl, ne_drv D.M.D D.M.T D.F hv (hxd.same r3) ⟨_, rfl, rfl, _, rfl, ?_⟩⟩
    have ec : decide (V.str (textM (b2 : Int) (p2 : Int) (n2 : Int) ini2 y2) = V.str (textM (b : Int) (p : Int) (n : Int) ini y)) = decide (V.str (textM (b : Int) (p : Int) (n : Int) ini y) = V.str (textM (b2 : Int) (p2 : Int) (n2 : Int) ini2 y2)) := decide_eq_decide.mpr ⟨Eq.symm, Eq.symm⟩
    rw [ec, bl_not]
    refine iteF ?_
    refine ⟨_, rfl, v, b2, p2, n2, ini2, y2, rfl, hv, d2, fun Hg ag => ?_⟩
    refine ⟨_, rfl, _, rfl, s2, t2, b2, p2, n2, ini2, y2, rfl, K2.Same.tup ag f2', d2, f4'.same ag, fun Hh ah => ⟨rfl, _, rfl, ?_⟩⟩
    rw [str_same]
    exact iteF ⟨r1.trans (av.trans (ag.trans ah)), _, _, _, _, rfl⟩
  rintro σ H' ⟨r1, y8, y9, y10, y11, rfl⟩
  rw [hD3]
  have r2 := ae.trans r1
  refine ⟨_, rfl, s, b, p, n, rfl, K2.Same.tup r2 hsd, hsh, fun Hf af => ⟨_, rfl, iteT ?_⟩⟩
  refine ⟨_, rfl, x, b, p, n, ini, y, rfl, hxd.same (r2.trans af), d, fun Hg ag => ⟨_, rfl, rfl, ?_⟩⟩
  rw [str_same]
  exact k Hg (st.trans (Stp.of hp2 (bd.trans (r2.trans (af.trans ag)))))
end
end K2

set_option Elab.async false
set_option linter.all false
set_option maxRecDepth 100000
set_option maxHeartbeats 4000000
namespace K2
open PySem PySem.Spec PyProof.Rows L2 G1 G2 ClX
abbrev sLaw : Stmt := topS 49
theorem scLaw : FnScope ["_law_cells", "_law_k"] ["_law_cells"] (defScope sLaw) := ⟨rfl, rfl, rfl, by decide +kernel, rfl, by decide +kernel, by decide +kernel⟩
theorem bAll : bootBuiltins "all" = some (.builtin "all") := by decide +kernel
def spLaw (K : PySem.W.Frag) : Sp := fun vs H Q _ => ∃ (l : Addr) (ns : List Int), vs = [.ref l] ∧ SqL K H l (ns.map V.int) ∧ ns.length ≤ 63 ∧ ∀ H' : Hp, Q (.bl true) H'
section
variable {P : Program} {w : World} {K : PySem.W.Frag} {mg : Str → Option Value} {base : Heap} {C : Addr}
theorem ok_law {f : Addr} {fd : FuncData} (F : Fun K "law" "law" sLaw f fd) (B : Bl mg) (GC : FAt P w K mg base 1 "_law_cell" ["_law_cells", "_law_k"] (spCell K)) (GP : FAt P w K mg base 1 "_law_pool" ["_law_cell_here"] spPool)
    (GR : GAt P w K mg base 9 "_law_right" ["_law_pool_here"] spRgt) : FnG P w K mg base 10 f fd ["_law_cells"] (spLaw K) := by
  refine okG F scLaw (fun vs H Q E h => ?_) (fun cdv A outer s H vs Q E hgu hr h => ?_)
  · obtain ⟨l, ns, rfl, _⟩ := h
    rfl
  obtain ⟨l, ns, rfl, hS, hlen, k⟩ := h
  have hr1 : Room 1 _ := hr.mono (by decide)
  obtain ⟨fC, dC, GC, kC, bC, gC⟩ := GC.ex
  obtain ⟨fP, dP, GP, kP, bP, gP⟩ := GP.ex
  obtain ⟨fR, dR, GR, kR, bR, gR⟩ := GR.ex
  refine ⟨_, pss_one (ps_ret (pe_callB (cr_all rfl) (by rfl) B.all bAll (pa_cons (pe_lc (own := [("_law_k", 1)]) (g := gName 1) (tt := tYes)
      (te := tCall spRgt [] E0 (tCons (tCall spPool [] E0 (tCons (tCall (spCell K) [] E0 (tCons (tVar 0) (tCons (tVar 1) tNil))) tNil)) tNil)) rfl scLaw.nd
      (pi_range1 (by rfl) B.range (pa_cons (pe_callB (call_max2 rfl) (by rfl) B.max bMax (pa_cons pe_int (pa_cons (pe_callB (call_min2 rfl) (by rfl) B.min bMin (pa_cons (pe_callB call_len_seq (by rfl) B.len PySem.boot_len (pa_cons (pv 0) pa_nil)) (pa_cons pe_int pa_nil))) pa_nil))) pa_nil))
      (blkOk_by (own := [("_law_k", 1)]) (N := ["_law_cells", "_law_k"]) (sc := defScope sLaw) (by decide +kernel))
      (fun _ _ _ _ _ => pg_name (i := 1) scLaw.nd rfl (Or.inl rfl)) (fun _ _ _ _ _ => pts_nil)
      (fun _ _ _ _ _ => pe_callG GR hgu hr (by rfl) gR kR bR (pa_cons (pe_call GP hr1 (by rfl) gP kP bP .nil pass0 (pa_cons (pe_call GC hr1 (by rfl) gC kC bC .nil pass0 (pa_cons (pv 0) (pa_cons (pv 1) pa_nil))) pa_nil)) pa_nil))) pa_nil))), ?_⟩
  refine ret_read (cb_read (cons_read ?_))
  refine ⟨_, rfl, l, _, rfl, .inl hS, _, _, rfl, _, _, rfl, _, rfl, ?_, ?_, fun D hD => ?_⟩
  · rw [List.length_map]
    split <;> (try split) <;> omega
  · rw [List.length_map]
    split <;> (try split) <;> omega
  generalize hm : (if (if (4 : Int) < ((ns.map V.int).length : Int) then 4 else ((ns.map V.int).length : Int)) > 2 then (if (4 : Int) < ((ns.map V.int).length : Int) then 4 else ((ns.map V.int).length : Int)) else 2) = m
  have m3 : m ≤ 4 := by
    rw [← hm]
    split <;> (try split) <;> omega
  refine lc_range (lo := 0) (n := m.toNat) (fun i H' => Same H H' ∧ H' D = some (.lst (List.replicate i (V.bl true)))) ⟨same_lay hD, upd_same⟩ ?_ ?_
  · rintro i H' hi ⟨s1, hy⟩
    refine ⟨rfl, ?_⟩
    unfold tYes
    dsimp only
    rw [if_pos rfl]
    refine ⟨_, rfl, _, rfl, l, ns, i, by show [V.ref l, V.int (0 + (i : Int))] = _; rw [Int.zero_add], s1.seq hS, hlen, by omega, fun H5 z s5 => ⟨z, rfl, fun p a b c np a0 a1 => ⟨p, rfl, ⟨a, b, c, upd_same, a0, a1⟩, fun H6 st => ?_⟩⟩⟩
    have s6 : Same H5 H6 := fun x o e => by
      have ne : x ≠ p := ne_of_none e np
      exact st.2 x o ne (by rw [upd_ne ne]; exact e)
    refine ⟨_, s6 _ _ (s5 _ _ hy), ?_, fun x o z => ?_, ?_⟩
    · rw [List.length_replicate, sizeLine_eq]
      omega
    · rw [upd_ne (ne_of_none z hD)]
      exact s6 _ _ (s5 _ _ (s1 _ _ z))
    · rw [upd_same, List.replicate_succ']
  · rintro H' ⟨s1, hy⟩
    refine nil_read ⟨D, List.replicate m.toNat true, rfl, SqL.of (by rw [hy, List.map_replicate]), ?_⟩
    have e : (List.replicate m.toNat true).all id = true := by
      rw [List.all_eq_true]
      intro x hx
      rw [(List.mem_replicate.mp hx).2]
      rfl
    rw [e]
    exact k H'
end
end K2

set_option Elab.async false
set_option linter.all false
set_option maxRecDepth 100000
set_option maxHeartbeats 4000000
namespace K2
open PySem PySem.Spec PyProof.Rows L2 G1 G2 ClX
abbrev sGb : Stmt := inClass sDrv 3
abbrev sGp : Stmt := inClass sDrv 4
abbrev sGn : Stmt := inClass sDrv 5
abbrev sGr : Stmt := inClass sDrv 6
theorem scGb : FnScope ["self"] ["self"] (defScope sGb) := ⟨rfl, rfl, rfl, by decide +kernel, rfl, by decide +kernel, by decide +kernel⟩
theorem scGp : FnScope ["self"] ["self"] (defScope sGp) := ⟨rfl, rfl, rfl, by decide +kernel, rfl, by decide +kernel, by decide +kernel⟩
theorem scGn : FnScope ["self"] ["self"] (defScope sGn) := ⟨rfl, rfl, rfl, by decide +kernel, rfl, by decide +kernel, by decide +kernel⟩
theorem scGr : FnScope ["self"] ["self"] (defScope sGr) := ⟨rfl, rfl, rfl, by decide +kernel, rfl, by decide +kernel, by decide +kernel⟩
section
variable {P : Program} {w : World} {K : PySem.W.Frag} {mg : Str → Option Value} {base : Heap} {C : Addr}
theorem ok_gb {f : Addr} {fd : FuncData} (F : Fun K "blocks" "Drive.blocks" sGb f fd) (T : DCls K C) : FnOk P w K mg base CX0 1 f fd ["self"] (getSp C "kept_blocks") := by
  refine F.ok scGb (fun vs H Q E h => ?_) (fun cdv A outer s H vs Q E hr h => ?_)
  · obtain ⟨a, dx, fs, v, rfl, _⟩ := h
    rfl
  obtain ⟨a, dx, fs, v, rfl, ha, h1, k⟩ := h
  exact ⟨_, pss_one (ps_ret (pe_fld (pv 0) rfl)), _, rfl, a, C, dx, fs, _, rfl, ha, T.cl, T.nb, h1, k⟩
theorem ok_gp {f : Addr} {fd : FuncData} (F : Fun K "pages" "Drive.pages" sGp f fd) (T : DCls K C) : FnOk P w K mg base CX0 1 f fd ["self"] (getSp C "kept_pages") := by
  refine F.ok scGp (fun vs H Q E h => ?_) (fun cdv A outer s H vs Q E hr h => ?_)
  · obtain ⟨a, dx, fs, v, rfl, _⟩ := h
    rfl
  obtain ⟨a, dx, fs, v, rfl, ha, h1, k⟩ := h
  exact ⟨_, pss_one (ps_ret (pe_fld (pv 0) rfl)), _, rfl, a, C, dx, fs, _, rfl, ha, T.cl, T.np, h1, k⟩
theorem ok_gn {f : Addr} {fd : FuncData} (F : Fun K "names" "Drive.names" sGn f fd) (T : DCls K C) : FnOk P w K mg base CX0 1 f fd ["self"] (getSp C "kept_names") := by
  refine F.ok scGn (fun vs H Q E h => ?_) (fun cdv A outer s H vs Q E hr h => ?_)
  · obtain ⟨a, dx, fs, v, rfl, _⟩ := h
    rfl
  obtain ⟨a, dx, fs, v, rfl, ha, h1, k⟩ := h
  exact ⟨_, pss_one (ps_ret (pe_fld (pv 0) rfl)), _, rfl, a, C, dx, fs, _, rfl, ha, T.cl, T.nn, h1, k⟩
theorem ok_gr {f : Addr} {fd : FuncData} (F : Fun K "rows" "Drive.rows" sGr f fd) (T : DCls K C) : FnOk P w K mg base CX0 1 f fd ["self"] (getSp C "kept_rows") := by
  refine F.ok scGr (fun vs H Q E h => ?_) (fun cdv A outer s H vs Q E hr h => ?_)
  · obtain ⟨a, dx, fs, v, rfl, _⟩ := h
    rfl
  obtain ⟨a, dx, fs, v, rfl, ha, h1, k⟩ := h
  exact ⟨_, pss_one (ps_ret (pe_fld (pv 0) rfl)), _, rfl, a, C, dx, fs, _, rfl, ha, T.cl, T.nr, h1, k⟩
/-- what the top has written of a def -/
structure DF (K : PySem.W.Frag) (x : Str) (st : Stmt) (f : Addr) : Prop where
  ns : PySem.W.nsIn K mainGlobals x = some (some (.ref f))
  lk : ∃ (oc : Value) (od : Option Addr) (kV dc pm : Value) (an : Option Addr) (cd ct : Value) (sl : Array (Option Value)),
    K.lookup f = some ⟨oc, od, .func (PySem.W.fnOf x x (defArgs st) (defBody st) (defScope st) .none kV dc pm an cd ct), sl⟩ ∧ PySem.W.codeIn K cd x = true
  kp : PySem.W.keepIn K (.ref f) = true
/-- .. of a def in the class -/
structure MF (K : PySem.W.Frag) (x q : Str) (st : Stmt) (f : Addr) : Prop where
  lk : ∃ (oc : Value) (od : Option Addr) (kV dc pm : Value) (an : Option Addr) (cd ct : Value) (sl : Array (Option Value)),
    K.lookup f = some ⟨oc, od, .func (PySem.W.fnOf x q (defArgs st) (defBody st) (defScope st) .none kV dc pm an cd ct), sl⟩ ∧ PySem.W.codeIn K cd q = true
  kp : PySem.W.keepIn K (.ref f) = true
theorem DF.fn {x : Str} {st : Stmt} {f : Addr} (D : DF K x st f) : ∃ fd, Fun K x x st f fd ∧ ∃ (kV dc pm : Value) (an : Option Addr) (cd ct : Value), fd = PySem.W.fnOf x x (defArgs st) (defBody st) (defScope st) .none kV dc pm an cd ct := by
  obtain ⟨oc, od, kV, dc, pm, an, cd, ct, sl, l, h⟩ := D.lk
  exact ⟨_, fun_mk l h D.kp, kV, dc, pm, an, cd, ct, rfl⟩
theorem MF.fn {x q : Str} {st : Stmt} {f : Addr} (D : MF K x q st f) : ∃ fd, Fun K x q st f fd := by
  obtain ⟨oc, od, kV, dc, pm, an, cd, ct, sl, l, h⟩ := D.lk
  exact ⟨_, fun_mk l h D.kp⟩
/-- .. of Drive.simple, whose word stands if nothing is said -/
structure SF (K : PySem.W.Frag) (f : Addr) : Prop where
  ex : ∃ (oc : Value) (od : Option Addr) (T : Addr) (kV dc pm : Value) (an : Option Addr) (cd ct : Value) (sl : Array (Option Value)) (tc : Value) (td : Option Addr) (n : Nat) (tk : Tok) (ts : Array (Option Value)),
    K.lookup f = some ⟨oc, od, .func (PySem.W.fnOf "simple" "Drive.simple" (defArgs sSim) (defBody sSim) (defScope sSim) (.ref T) kV dc pm an cd ct), sl⟩ ∧ PySem.W.codeIn K cd "Drive.simple" = true ∧
    K.lookup T = some ⟨tc, td, .seq [Value.str (Str.ofString "least") tk].toArray n, ts⟩
  kp : PySem.W.keepIn K (.ref f) = true
theorem SF.fn {f : Addr} (D : SF K f) : ∃ fd, FunD K "simple" "Drive.simple" (defArgs sSim) (defBody sSim) (defScope sSim) [.str (Str.ofString "least")] [] f fd := by
  obtain ⟨oc, od, T, kV, dc, pm, an, cd, ct, sl, tc, td, n, tk, ts, l, h, hT⟩ := D.ex
  exact ⟨_, ⟨oc, od, _, kV, dc, pm, an, cd, ct, sl, rfl, l, h, .inr ⟨by simp, T, _, _, n, rfl, hT, rfl, .cons ⟨_, rfl⟩ .nil⟩, .inl rfl⟩, D.kp⟩
/-- .. of the words -/
structure WF (K : PySem.W.Frag) (a : Addr) : Prop where
  ex : ∃ (od : Option Addr) (n : Nat) (t1 t2 t3 t4 : Tok) (sl : Array (Option Value)),
    K.lookup a = some ⟨.type "tuple", od, .seq #[Value.str (Str.ofString "oldest") t1, Value.str (Str.ofString "youngest") t2, Value.str (Str.ofString "least") t3, Value.str (Str.ofString "most") t4] n, sl⟩
theorem WF.at_ {a : Addr} (W : WF K a) : WordsAt K a := by
  obtain ⟨od, n, t1, t2, t3, t4, sl, l⟩ := W.ex
  exact fun H => .inr ⟨_, _, n, l, rfl, rfl, by show 4 ≤ sizeLine; decide, .cons ⟨_, rfl⟩ (.cons ⟨_, rfl⟩ (.cons ⟨_, rfl⟩ (.cons ⟨_, rfl⟩ .nil)))⟩
end
end K2

set_option Elab.async false
set_option linter.all false
set_option maxRecDepth 100000
set_option maxHeartbeats 8000000
namespace K2
open PySem PySem.Spec PyProof.Rows L2 G1 G2 ClX
/-- all that the top has written -/
structure All (K : PySem.W.Frag) (C aW I0 I1 I2 I3 P0 P1 P2 P3 P4 P5 G0 G1' G2' G3 G4 G5 : Addr) (mc : Value) (dA : Nat → Addr) : Prop where
  nC : PySem.W.nsIn K mainGlobals "Drive" = some (some (.ref C))
  nW : PySem.W.nsIn K mainGlobals "WORDS" = some (some (.ref aW))
  W : WF K aW
  T : DCls K C
  D : DKit K C
  N : NoSub K C
  F : NotF K C
  mk_ : Mk K C I0
  ini : MF K "__init__" "Drive.__init__" sIni I0
  eq_f : PySem.W.findIn K (.ref C) "__eq__" = some (some (.ref I1))
  eq_i : PySem.W.isFn K (.ref I1) = true
  eq_m : MF K "__eq__" "Drive.__eq__" sEq I1
  st_f : PySem.W.findIn K (.ref C) "__str__" = some (some (.ref I2))
  st_i : PySem.W.isFn K (.ref I2) = true
  st_m : MF K "__str__" "Drive.__str__" sStr I2
  ln_f : PySem.W.findIn K (.ref C) "__len__" = some (some (.ref I3))
  ln_i : PySem.W.isFn K (.ref I3) = true
  ln_m : MF K "__len__" "Drive.__len__" sLen I3
  ne : PySem.W.findIn K (.ref C) "__ne__" = some (some (.builtin "object.__ne__"))
  nb : PySem.W.findIn K (.ref C) "__bool__" = some none
  pb : PropOf K C "blocks" P0 G0
  pb_m : MF K "blocks" "Drive.blocks" sGb G0
  pp : PropOf K C "pages" P1 G1'
  pp_m : MF K "pages" "Drive.pages" sGp G1'
  pn : PropOf K C "names" P2 G2'
  pn_m : MF K "names" "Drive.names" sGn G2'
  pr : PropOf K C "rows" P3 G3
  pr_m : MF K "rows" "Drive.rows" sGr G3
  cr : CRead K C mc
  cs : CMet K C mc "simple" P4 G4
  sf : SF K G4
  cd : CMet K C mc "read" P5 G5
  rf : MF K "read" "Drive.read" sRead G5
  d0 : DF K "spread" sSpr (dA 0)
  d1 : DF K "count_stands" sCnt (dA 1)
  d2 : DF K "is_integer" sIsI (dA 2)
  d3 : DF K "is_within" sWit (dA 3)
  d4 : DF K "is_row" sRow (dA 4)
  d5 : DF K "check_rows" sChk (dA 5)
  d6 : DF K "check_sizes" sSiz (dA 6)
  d7 : DF K "text_of" sTxt (dA 7)
  d8 : DF K "number_of" sNum (dA 8)
  d9 : DF K "row_of" sRof (dA 9)
  d10 : DF K "parts_of" sPar (dA 10)
  d11 : DF K "_law_cell" sCell (dA 11)
  d12 : DF K "_law_pool" sPool (dA 12)
  d13 : DF K "_law_draw" sDraw (dA 13)
  d14 : DF K "_law_shape" sShp (dA 14)
  d15 : DF K "_law_table" sTab (dA 15)
  d16 : DF K "_law_made" sMad (dA 16)
  d17 : DF K "_law_text" sLTx (dA 17)
  d18 : DF K "_law_others" sOth (dA 18)
  d19 : DF K "_law_seen" sSee (dA 19)
  d20 : DF K "_law_due" sDue (dA 20)
  d21 : DF K "_law_simple_right" sSRt (dA 21)
  d22 : DF K "_law_right" sRgt (dA 22)
  d23 : DF K "law" sLaw (dA 23)
  k_lb : ∃ t, PySem.W.nsIn K mainGlobals "LEAST_BLOCKS" = some (some (.int 3 t))
  k_mb : ∃ t, PySem.W.nsIn K mainGlobals "MOST_BLOCKS" = some (some (.int 6 t))
  k_lp : ∃ t, PySem.W.nsIn K mainGlobals "LEAST_PAGES" = some (some (.int 2 t))
  k_mp : ∃ t, PySem.W.nsIn K mainGlobals "MOST_PAGES" = some (some (.int 5 t))
  k_mr : ∃ t, PySem.W.nsIn K mainGlobals "MOST_ROWS" = some (some (.int 4 t))
  k_ms : ∃ t, PySem.W.nsIn K mainGlobals "MOST_STANDS" = some (some (.int 2000 t))
  k_wh : ∃ t, PySem.W.nsIn K mainGlobals "WORDS_OF_HEAD" = some (some (.int 7 t))
  k_md : ∃ t, PySem.W.nsIn K mainGlobals "MOST_DIGITS" = some (some (.int 2 t))
  z_len : PySem.W.nsIn K mainGlobals "len" = some none
  z_int : PySem.W.nsIn K mainGlobals "int" = some none
  z_abs : PySem.W.nsIn K mainGlobals "abs" = some none
  z_repr : PySem.W.nsIn K mainGlobals "repr" = some none
  z_isi : PySem.W.nsIn K mainGlobals "isinstance" = some none
  z_range : PySem.W.nsIn K mainGlobals "range" = some none
  z_max : PySem.W.nsIn K mainGlobals "max" = some none
  z_min : PySem.W.nsIn K mainGlobals "min" = some none
  z_all : PySem.W.nsIn K mainGlobals "all" = some none
  z_sum : PySem.W.nsIn K mainGlobals "sum" = some none
  z_enm : PySem.W.nsIn K mainGlobals "enumerate" = some none
  z_tup : PySem.W.nsIn K mainGlobals "tuple" = some none
  z_boo : PySem.W.nsIn K mainGlobals "bool" = some none
  z_str : PySem.W.nsIn K mainGlobals "str" = some none
theorem rawN {P : Program} {w : World} {K : PySem.W.Frag} {mg : Str → Option Value} {base : Heap} {CX : CXT} {k : Nat} {f : Addr} {sp : Sp} {fd : FuncData} {ps : List Str} (F : FnOk P w K mg base CX k f fd ps sp) (b : Binds K fd ps []) : FnR P w K mg base CX k f sp := by
  intro A outer s H us vs Q E hr he hv h
  refine F.raw (dvs := []) b .nil A outer s H us vs Q E hr he hv ?_
  show sp (vs ++ []) H Q E
  rw [List.append_nil]
  exact h
theorem All.law {P : Program} {w : World} {K : PySem.W.Frag} {mg : Str → Option Value} {h : Heap} {fa : Addr} {C aW I0 I1 I2 I3 P0 P1 P2 P3 P4 P5 G0 G1' G2' G3 G4 G5 : Addr} {mc : Value} {dA : Nat → Addr} (A : All K C aW I0 I1 I2 I3 P0 P1 P2 P3 P4 P5 G0 G1' G2' G3 G4 G5 mc dA)
    (X : K.In h) (G : h.Ns mainGlobals mg) (hfa : mg "law" = some (.ref fa)) :
    ∃ fd : FuncData, (∀ (s : Shared) (u : Value), BindsTo s fd ⟨[u], []⟩ [("_law_cells", u)]) ∧ ∀ base : Heap, FnG P w K mg base 10 fa fd ["_law_cells"] (spLaw K) := by
  have B : Bl mg := ⟨PySem.W.mg_none_of X G A.z_len, PySem.W.mg_none_of X G A.z_int, PySem.W.mg_none_of X G A.z_abs, PySem.W.mg_none_of X G A.z_repr, PySem.W.mg_none_of X G A.z_isi, PySem.W.mg_none_of X G A.z_range, PySem.W.mg_none_of X G A.z_max, PySem.W.mg_none_of X G A.z_min, PySem.W.mg_none_of X G A.z_all, PySem.W.mg_none_of X G A.z_sum, PySem.W.mg_none_of X G A.z_enm, PySem.W.mg_none_of X G A.z_tup, PySem.W.mg_none_of X G A.z_boo, PySem.W.mg_none_of X G A.z_str⟩
  have Cm : Cn mg := ⟨(let ⟨t, e⟩ := A.k_lb; ⟨t, PySem.W.mg_of X G e⟩), (let ⟨t, e⟩ := A.k_mb; ⟨t, PySem.W.mg_of X G e⟩), (let ⟨t, e⟩ := A.k_lp; ⟨t, PySem.W.mg_of X G e⟩), (let ⟨t, e⟩ := A.k_mp; ⟨t, PySem.W.mg_of X G e⟩), (let ⟨t, e⟩ := A.k_mr; ⟨t, PySem.W.mg_of X G e⟩), (let ⟨t, e⟩ := A.k_ms; ⟨t, PySem.W.mg_of X G e⟩), (let ⟨t, e⟩ := A.k_wh; ⟨t, PySem.W.mg_of X G e⟩), (let ⟨t, e⟩ := A.k_md; ⟨t, PySem.W.mg_of X G e⟩)⟩
  have gD := PySem.W.mg_of X G A.nC
  have gW := PySem.W.mg_of X G A.nW
  obtain ⟨fd0, F0, kV0, dc0, pm0, an0, cd0, ct0, e0⟩ := A.d0.fn
  have b0 := F0.binds (ps := ["before", "pages"]) fun _ _ _ _ _ _ us hl => match us, hl with | [_, _], _ => rfl
  have g0 := PySem.W.mg_of X G A.d0.ns
  obtain ⟨fd1, F1, kV1, dc1, pm1, an1, cd1, ct1, e1⟩ := A.d1.fn
  have b1 := F1.binds (ps := ["blocks", "pages", "names"]) fun _ _ _ _ _ _ us hl => match us, hl with | [_, _, _], _ => rfl
  have g1 := PySem.W.mg_of X G A.d1.ns
  obtain ⟨fd2, F2, kV2, dc2, pm2, an2, cd2, ct2, e2⟩ := A.d2.fn
  have b2 := F2.binds (ps := ["value"]) fun _ _ _ _ _ _ us hl => match us, hl with | [_], _ => rfl
  have g2 := PySem.W.mg_of X G A.d2.ns
  obtain ⟨fd3, F3, kV3, dc3, pm3, an3, cd3, ct3, e3⟩ := A.d3.fn
  have b3 := F3.binds (ps := ["value", "least", "most"]) fun _ _ _ _ _ _ us hl => match us, hl with | [_, _, _], _ => rfl
  have g3 := PySem.W.mg_of X G A.d3.ns
  obtain ⟨fd4, F4, kV4, dc4, pm4, an4, cd4, ct4, e4⟩ := A.d4.fn
  have b4 := F4.binds (ps := ["value", "pages"]) fun _ _ _ _ _ _ us hl => match us, hl with | [_, _], _ => rfl
  have g4 := PySem.W.mg_of X G A.d4.ns
  obtain ⟨fd5, F5, kV5, dc5, pm5, an5, cd5, ct5, e5⟩ := A.d5.fn
  have b5 := F5.binds (ps := ["rows", "pages"]) fun _ _ _ _ _ _ us hl => match us, hl with | [_, _], _ => rfl
  have g5 := PySem.W.mg_of X G A.d5.ns
  obtain ⟨fd6, F6, kV6, dc6, pm6, an6, cd6, ct6, e6⟩ := A.d6.fn
  have b6 := F6.binds (ps := ["blocks", "pages", "names"]) fun _ _ _ _ _ _ us hl => match us, hl with | [_, _, _], _ => rfl
  have g6 := PySem.W.mg_of X G A.d6.ns
  obtain ⟨fd7, F7, kV7, dc7, pm7, an7, cd7, ct7, e7⟩ := A.d7.fn
  have b7 := F7.binds (ps := ["blocks", "pages", "names", "rows"]) fun _ _ _ _ _ _ us hl => match us, hl with | [_, _, _, _], _ => rfl
  have g7 := PySem.W.mg_of X G A.d7.ns
  obtain ⟨fd8, F8, kV8, dc8, pm8, an8, cd8, ct8, e8⟩ := A.d8.fn
  have b8 := F8.binds (ps := ["word"]) fun _ _ _ _ _ _ us hl => match us, hl with | [_], _ => rfl
  have g8 := PySem.W.mg_of X G A.d8.ns
  obtain ⟨fd9, F9, kV9, dc9, pm9, an9, cd9, ct9, e9⟩ := A.d9.fn
  have b9 := F9.binds (ps := ["line", "pages"]) fun _ _ _ _ _ _ us hl => match us, hl with | [_, _], _ => rfl
  have g9 := PySem.W.mg_of X G A.d9.ns
  obtain ⟨fd10, F10, kV10, dc10, pm10, an10, cd10, ct10, e10⟩ := A.d10.fn
  have b10 := F10.binds (ps := ["text"]) fun _ _ _ _ _ _ us hl => match us, hl with | [_], _ => rfl
  have g10 := PySem.W.mg_of X G A.d10.ns
  obtain ⟨fd11, F11, kV11, dc11, pm11, an11, cd11, ct11, e11⟩ := A.d11.fn
  have b11 := F11.binds (ps := ["_law_cells", "_law_k"]) fun _ _ _ _ _ _ us hl => match us, hl with | [_, _], _ => rfl
  have g11 := PySem.W.mg_of X G A.d11.ns
  obtain ⟨fd12, F12, kV12, dc12, pm12, an12, cd12, ct12, e12⟩ := A.d12.fn
  have b12 := F12.binds (ps := ["_law_cell_here"]) fun _ _ _ _ _ _ us hl => match us, hl with | [_], _ => rfl
  have g12 := PySem.W.mg_of X G A.d12.ns
  obtain ⟨fd13, F13, kV13, dc13, pm13, an13, cd13, ct13, e13⟩ := A.d13.fn
  have b13 := F13.binds (ps := ["_law_pool_here", "_law_many"]) fun _ _ _ _ _ _ us hl => match us, hl with | [_, _], _ => rfl
  have g13 := PySem.W.mg_of X G A.d13.ns
  obtain ⟨fd14, F14, kV14, dc14, pm14, an14, cd14, ct14, e14⟩ := A.d14.fn
  have b14 := F14.binds (ps := ["_law_pool_here"]) fun _ _ _ _ _ _ us hl => match us, hl with | [_], _ => rfl
  have g14 := PySem.W.mg_of X G A.d14.ns
  obtain ⟨fd15, F15, kV15, dc15, pm15, an15, cd15, ct15, e15⟩ := A.d15.fn
  have b15 := F15.binds (ps := ["_law_pool_here", "_law_size"]) fun _ _ _ _ _ _ us hl => match us, hl with | [_, _], _ => rfl
  have g15 := PySem.W.mg_of X G A.d15.ns
  obtain ⟨fd16, F16, kV16, dc16, pm16, an16, cd16, ct16, e16⟩ := A.d16.fn
  have b16 := F16.binds (ps := ["_law_shape_here", "_law_table_here"]) fun _ _ _ _ _ _ us hl => match us, hl with | [_, _], _ => rfl
  have g16 := PySem.W.mg_of X G A.d16.ns
  obtain ⟨fd17, F17, kV17, dc17, pm17, an17, cd17, ct17, e17⟩ := A.d17.fn
  have b17 := F17.binds (ps := ["_law_shape_here", "_law_table_here"]) fun _ _ _ _ _ _ us hl => match us, hl with | [_, _], _ => rfl
  have g17 := PySem.W.mg_of X G A.d17.ns
  obtain ⟨fd18, F18, kV18, dc18, pm18, an18, cd18, ct18, e18⟩ := A.d18.fn
  have b18 := F18.binds (ps := ["_law_shape_here", "_law_table_here"]) fun _ _ _ _ _ _ us hl => match us, hl with | [_, _], _ => rfl
  have g18 := PySem.W.mg_of X G A.d18.ns
  obtain ⟨fd19, F19, kV19, dc19, pm19, an19, cd19, ct19, e19⟩ := A.d19.fn
  have b19 := F19.binds (ps := ["_law_mine"]) fun _ _ _ _ _ _ us hl => match us, hl with | [_], _ => rfl
  have g19 := PySem.W.mg_of X G A.d19.ns
  obtain ⟨fd20, F20, kV20, dc20, pm20, an20, cd20, ct20, e20⟩ := A.d20.fn
  have b20 := F20.binds (ps := ["_law_shape_here", "_law_table_here"]) fun _ _ _ _ _ _ us hl => match us, hl with | [_, _], _ => rfl
  have g20 := PySem.W.mg_of X G A.d20.ns
  obtain ⟨fd21, F21, kV21, dc21, pm21, an21, cd21, ct21, e21⟩ := A.d21.fn
  have b21 := F21.binds (ps := ["_law_shape_here"]) fun _ _ _ _ _ _ us hl => match us, hl with | [_], _ => rfl
  have g21 := PySem.W.mg_of X G A.d21.ns
  obtain ⟨fd22, F22, kV22, dc22, pm22, an22, cd22, ct22, e22⟩ := A.d22.fn
  have b22 := F22.binds (ps := ["_law_pool_here"]) fun _ _ _ _ _ _ us hl => match us, hl with | [_], _ => rfl
  have g22 := PySem.W.mg_of X G A.d22.ns
  obtain ⟨fd23, F23, kV23, dc23, pm23, an23, cd23, ct23, e23⟩ := A.d23.fn
  have b23 := F23.binds (ps := ["_law_cells"]) fun _ _ _ _ _ _ us hl => match us, hl with | [_], _ => rfl
  have g23 := PySem.W.mg_of X G A.d23.ns
  obtain ⟨fd_ini, F_ini⟩ := A.ini.fn
  have b_ini := F_ini.binds (ps := ["self", "blocks", "pages", "names", "rows"]) fun _ _ _ _ _ _ us hl => match us, hl with | [_, _, _, _, _], _ => rfl
  obtain ⟨fd_eq, F_eq⟩ := A.eq_m.fn
  have b_eq := F_eq.binds (ps := ["self", "other"]) fun _ _ _ _ _ _ us hl => match us, hl with | [_, _], _ => rfl
  obtain ⟨fd_st, F_st⟩ := A.st_m.fn
  have b_st := F_st.binds (ps := ["self"]) fun _ _ _ _ _ _ us hl => match us, hl with | [_], _ => rfl
  obtain ⟨fd_ln, F_ln⟩ := A.ln_m.fn
  have b_ln := F_ln.binds (ps := ["self"]) fun _ _ _ _ _ _ us hl => match us, hl with | [_], _ => rfl
  obtain ⟨fd_pb, F_pb⟩ := A.pb_m.fn
  have b_pb := F_pb.binds (ps := ["self"]) fun _ _ _ _ _ _ us hl => match us, hl with | [_], _ => rfl
  obtain ⟨fd_pp, F_pp⟩ := A.pp_m.fn
  have b_pp := F_pp.binds (ps := ["self"]) fun _ _ _ _ _ _ us hl => match us, hl with | [_], _ => rfl
  obtain ⟨fd_pn, F_pn⟩ := A.pn_m.fn
  have b_pn := F_pn.binds (ps := ["self"]) fun _ _ _ _ _ _ us hl => match us, hl with | [_], _ => rfl
  obtain ⟨fd_pr, F_pr⟩ := A.pr_m.fn
  have b_pr := F_pr.binds (ps := ["self"]) fun _ _ _ _ _ _ us hl => match us, hl with | [_], _ => rfl
  obtain ⟨fd_rd, F_rd⟩ := A.rf.fn
  have b_rd := F_rd.binds (ps := ["cls", "text"]) fun _ _ _ _ _ _ us hl => match us, hl with | [_, _], _ => rfl
  obtain ⟨fd_sim, F_sim⟩ := A.sf.fn
  have e := hfa.symm.trans g23
  cases e
  refine ⟨fd23, fun s u => ?_, fun base => ?_⟩
  · rw [e23]
    exact .of_eq rfl
  have T := A.T
  have o_isI : FnOk P w K mg base CX0 1 (dA 2) fd2 ["value"] spIsI := ok_isI F2 B
  have o_wit : FnOk P w K mg base CX0 2 (dA 3) fd3 ["value", "least", "most"] spWit := ok_wit F3 o_isI F2.kp b2 g2
  have o_row : FnOk P w K mg base CX0 3 (dA 4) fd4 ["value", "pages"] (spRow K) := ok_row F4 B o_wit F3.kp b3 g3 gW A.W.at_
  have o_chk : FnOk P w K mg base CX0 4 (dA 5) fd5 ["rows", "pages"] (spChk K) := ok_chk F5 B o_row F4.kp b4 g4 Cm.mr
  have o_siz : FnOk P w K mg base CX0 3 (dA 6) fd6 ["blocks", "pages", "names"] spSiz := ok_siz F6 Cm o_wit F3.kp b3 g3
  have o_txt : FnOk P w K mg base CX0 1 (dA 7) fd7 ["blocks", "pages", "names", "rows"] (spTxt K) := ok_txt F7 B
  have o_spr : FnOk P w K mg base CX0 1 (dA 0) fd0 ["before", "pages"] (spSpr K) := ok_spr F0 B
  have o_cnt : FnOk P w K mg base CX0 2 (dA 1) fd1 ["blocks", "pages", "names"] spCnt := ok_cnt F1 B o_spr F0.kp b0 g0
  have o_num : FnOk P w K mg base CX0 1 (dA 8) fd8 ["word"] spNum := ok_num F8 B Cm
  have o_rof : FnOk P w K mg base CX0 2 (dA 9) fd9 ["line", "pages"] spRof := ok_rof F9 o_num F8.kp b8 g8
  have o_par : FnOk P w K mg base CX0 3 (dA 10) fd10 ["text"] (spPar K) := ok_par F10 B Cm o_num F8.kp b8 g8 o_rof F9.kp b9 g9 o_txt F7.kp b7 g7
  have o_ini : FnOk P w K mg base CX0 5 I0 fd_ini ["self", "blocks", "pages", "names", "rows"] (spIni K C) := ok_ini F_ini T Cm ⟨o_siz, F6.kp, b6, g6, o_chk, F5.kp, b5, g5, o_txt, F7.kp, b7, g7, o_cnt, F1.kp, b1, g1⟩
  have o_sim : FnOk P w K mg base CX0 7 G4 fd_sim ["cls", "blocks", "pages", "names", "word"] (spSim K C) := ok_sim F_sim A.mk_ o_ini b_ini
  have o_rd : FnOk P w K mg base CX0 7 G5 fd_rd ["cls", "text"] (spRead K C) := ok_read F_rd B A.mk_ o_ini b_ini o_par F10.kp b10 g10
  have o_drw : FnOk P w K mg base CX0 1 (dA 13) fd13 ["_law_pool_here", "_law_many"] spDraw := ok_draw F13 B
  have o_ltx : FnOk P w K mg base CX0 1 (dA 17) fd17 ["_law_shape_here", "_law_table_here"] (spLTx K) := ok_ltx F17
  have o_mad : FnOk P w K mg base CX0 7 (dA 16) fd16 ["_law_shape_here", "_law_table_here"] (spMad K C) := ok_mad F16 A.mk_ o_ini b_ini gD
  have M : DD P w K mg base C := ⟨T, A.D, A.N, ⟨_, _, _, A.pb, ok_gb F_pb T, b_pb⟩, ⟨_, _, _, A.pp, ok_gp F_pp T, b_pp⟩, ⟨_, _, _, A.pn, ok_gn F_pn T, b_pn⟩, ⟨_, _, _, A.pr, ok_gr F_pr T, b_pr⟩,
    ⟨_, A.st_f, A.st_i, rawN (ok_str F_st B T) b_st⟩, ⟨_, A.ln_f, A.ln_i, rawN (ok_len F_ln B T) b_ln⟩, ⟨_, A.eq_f, A.eq_i, rawN (ok_eq F_eq B T A.D gD) b_eq⟩, A.ne, A.nb, gD⟩
  have DC' : DC P w K mg base C := ⟨M, A.F, ⟨mc, P4, G4, fd_sim, A.cr, A.cs, o_sim, F_sim⟩, ⟨mc, P5, G5, fd_rd, A.cr, A.cd, o_rd, b_rd⟩, ⟨I0, fd_ini, A.mk_, o_ini, F_ini⟩⟩
  have S : GAt P w K mg base 4 "_law_seen" ["_law_mine"] (spSee K C) := ⟨_, _, ok_see F19 B M, F19.kp, b19, g19⟩
  have U : GAt P w K mg base 4 "_law_due" ["_law_shape_here", "_law_table_here"] (spDue K) := ⟨_, _, ok_due F20 B o_ltx F17.kp b17 g17, F20.kp, b20, g20⟩
  have A7 : FAt P w K mg base 7 "_law_made" ["_law_shape_here", "_law_table_here"] (spMad K C) := ⟨_, _, o_mad, F16.kp, b16, g16⟩
  have LR' : LR P w K mg base C := ⟨DC', ⟨_, _, ok_shp F14 o_drw F13.kp b13 g13, F14.kp, b14, g14⟩, ⟨_, _, ok_tab F15 B o_drw F13.kp b13 g13, F15.kp, b15, g15⟩, A7, ⟨_, _, o_ltx, F17.kp, b17, g17⟩, ⟨_, _, ok_oth F18 B, F18.kp, b18, g18⟩, S, U, ⟨_, _, ok_srt F21 DC' S U A7, F21.kp, b21, g21⟩⟩
  exact ok_law F23 B ⟨_, _, ok_cell F11 B, F11.kp, b11, g11⟩ ⟨_, _, ok_pool F12 B, F12.kp, b12, g12⟩ ⟨_, _, ok_rgt F22 B LR', F22.kp, b22, g22⟩
end K2

set_option maxHeartbeats 8000000
namespace K2
open PySem PySem.Spec PyProof.Rows L2 G1 G2 ClX
def dA : Nat → Addr
  | 0 => 26
  | 1 => 31
  | 2 => 178
  | 3 => 185
  | 4 => 193
  | 5 => 200
  | 6 => 233
  | 7 => 207
  | 8 => 214
  | 9 => 221
  | 10 => 226
  | 11 => 349
  | 12 => 356
  | 13 => 363
  | 14 => 370
  | 15 => 377
  | 16 => 384
  | 17 => 391
  | 18 => 398
  | 19 => 405
  | 20 => 412
  | 21 => 419
  | 22 => 426
  | 23 => 431
  | _ => 0
section
variable {K : PySem.W.Frag} {C f : Addr}
theorem dcls_mk (pg : PySem.W.plainGet K C "" = true) (hd : PySem.W.hasDictIn K C = true) (po : PySem.W.plainOver K C = true) (sa : PySem.W.findIn K (.ref C) "__setattr__" = some (some (.builtin "object.__setattr__")))
    (nb : PySem.W.findIn K (.ref C) "kept_blocks" = some none) (np : PySem.W.findIn K (.ref C) "kept_pages" = some none) (nn : PySem.W.findIn K (.ref C) "kept_names" = some none) (nr : PySem.W.findIn K (.ref C) "kept_rows" = some none) (nt : PySem.W.findIn K (.ref C) "kept_text" = some none) : DCls K C := ⟨⟨pg, hd, po, sa⟩, nb, np, nn, nr, nt⟩
theorem prop_mk {x : Str} {p g : Addr} {rest : List Value} (h1 : PySem.W.findIn K (.ref C) x = some (some (.ref p))) (h2 : PySem.W.specialIn K (.ref p) "__get__" = some (some (.builtin "property.__get__"))) (h3 : PySem.W.takesIn K (.ref p) = some true) (h4 : PySem.W.recIn K p "property" = some (.ref g :: rest)) : PropOf K C x p g := ⟨h1, h2, h3, rest, h4⟩
theorem cmet_mk {mc : Value} {x : Str} {p g : Addr} {rest : List Value} (h1 : PySem.W.findCls K (.ref C) mc x = some (PySem.W.CFound.get (.builtin "classmethod.__get__") (.ref p) .none (.ref C))) (h2 : PySem.W.recIn K p "classmethod" = some (.ref g :: rest)) (h3 : PySem.W.fnIn K g = true) : CMet K C mc x p g := ⟨h1, ⟨rest, h2⟩, h3⟩
theorem mf_mk {x q : Str} {st : Stmt} {oc : Value} {od : Option Addr} {kV dc pm : Value} {an : Option Addr} {cd ct : Value} {sl : Array (Option Value)}
    (l : K.lookup f = some ⟨oc, od, .func (PySem.W.fnOf x q (defArgs st) (defBody st) (defScope st) .none kV dc pm an cd ct), sl⟩) (h : PySem.W.codeIn K cd q = true) (kp : PySem.W.keepIn K (.ref f) = true) : MF K x q st f := ⟨⟨oc, od, kV, dc, pm, an, cd, ct, sl, l, h⟩, kp⟩
theorem df_mk {x : Str} {st : Stmt} {oc : Value} {od : Option Addr} {kV dc pm : Value} {an : Option Addr} {cd ct : Value} {sl : Array (Option Value)} (n : PySem.W.nsIn K mainGlobals x = some (some (.ref f)))
    (l : K.lookup f = some ⟨oc, od, .func (PySem.W.fnOf x x (defArgs st) (defBody st) (defScope st) .none kV dc pm an cd ct), sl⟩) (h : PySem.W.codeIn K cd x = true) (kp : PySem.W.keepIn K (.ref f) = true) : DF K x st f := ⟨n, ⟨oc, od, kV, dc, pm, an, cd, ct, sl, l, h⟩, kp⟩
theorem sf_mk {oc : Value} {od : Option Addr} {T : Addr} {kV dc pm : Value} {an : Option Addr} {cd ct : Value} {sl : Array (Option Value)} {tc : Value} {td : Option Addr} {n : Nat} {tk : Tok} {ts : Array (Option Value)}
    (l : K.lookup f = some ⟨oc, od, .func (PySem.W.fnOf "simple" "Drive.simple" (defArgs sSim) (defBody sSim) (defScope sSim) (.ref T) kV dc pm an cd ct), sl⟩) (h : PySem.W.codeIn K cd "Drive.simple" = true)
    (hT : K.lookup T = some ⟨tc, td, .seq [Value.str (Str.ofString "least") tk].toArray n, ts⟩) (kp : PySem.W.keepIn K (.ref f) = true) : SF K f := ⟨⟨oc, od, T, kV, dc, pm, an, cd, ct, sl, tc, td, n, tk, ts, l, h, hT⟩, kp⟩
theorem wf_mk {od : Option Addr} {n : Nat} {t1 t2 t3 t4 : Tok} {sl : Array (Option Value)}
    (l : K.lookup f = some ⟨.type "tuple", od, .seq #[Value.str (Str.ofString "oldest") t1, Value.str (Str.ofString "youngest") t2, Value.str (Str.ofString "least") t3, Value.str (Str.ofString "most") t4] n, sl⟩) : WF K f := ⟨⟨od, n, t1, t2, t3, t4, sl, l⟩⟩
theorem ct_mk {x : Str} {i : Int} {t : Tok} (n : PySem.W.nsIn K mainGlobals x = some (some (.int i t))) : ∃ t, PySem.W.nsIn K mainGlobals x = some (some (.int i t)) := ⟨t, n⟩
end
end K2
open PySem PySem.W PyProof.Rows
set_option maxRecDepth 100000 in
set_option maxHeartbeats 0 in
theorem PySem.Challenge.cw_spareblocks_k02_drives_made_holds : PySem.Challenge.rw_spareblocks_k02_drives_made.Holds := by
  w_on; o_law; k_head; (case hw => w_witness2)
  k_fill
  refine G1.walkG (l := PySem.Challenge.rw_spareblocks_k02_drives_made) (n := 63) (k := 10) (x := "_law_cells") (sp := fun w => K2.spLaw _) rfl (by decide) rfl ⟨rfl, by decide, by decide⟩ (fun w h Y => PySem.W.kIn_of Y) ?F (fun _ _ a ns hl hS => ⟨a, ns, rfl, hS, hl, fun _ => rfl⟩)
  case F =>
    intro w mg fa h KX G hmg
    have A : K2.All (L2.KOf KX) 338 186 247 321 328 335 276 284 292 300 257 267 275 283 291 299 255 265 (.type "type") K2.dA := by
      clear hmg G
      have nC : PySem.W.nsIn (L2.KOf KX) mainGlobals "Drive" = some (some (.ref 338)) := by unfold L2.KOf; k_is
      have nW : PySem.W.nsIn (L2.KOf KX) mainGlobals "WORDS" = some (some (.ref 186)) := by unfold L2.KOf; k_is
      have hW : K2.WF (L2.KOf KX) 186 := by unfold L2.KOf; refine' K2.wf_mk ?l; (case l => k_is)
      have hT : K2.DCls (L2.KOf KX) 338 := by unfold L2.KOf; refine' K2.dcls_mk ?pg ?hd ?po ?sa ?nb ?np ?nn ?nr ?nt; (case pg => k_is); (case hd => k_is); (case po => k_is); (case sa => k_is); (case nb => k_is); (case np => k_is); (case nn => k_is); (case nr => k_is); (case nt => k_is)
      have hD : K2.DKit (L2.KOf KX) 338 := by unfold L2.KOf; refine' K2.DKit.mk ?a1 ?a2 ?a3 ?a4 ?a5 ?a6 ?a7 ?a8 ?a9 ?b1 ?b2; (case a1 => kit_is); (case a2 => kit_is); (case a3 => kit_is); (case a4 => kit_is); (case a5 => kit_is); (case a6 => kit_is); (case a7 => kit_is); (case a8 => k_is); (case a9 => k_is); (case b1 => k_is); (case b2 => k_is)
      have hN : G2.NoSub (L2.KOf KX) 338 := by unfold L2.KOf; refine' G2.NoSub.mk ?a1 ?a2 ?a3 ?a4 ?a5 ?a6; (case a1 => k_is); (case a2 => k_is); (case a3 => k_is); (case a4 => k_is); (case a5 => k_is); (case a6 => k_is)
      have hF : K2.NotF (L2.KOf KX) 338 := by unfold L2.KOf; refine' K2.NotF.mk ?a1 ?a2 ?a3 ?a4 ?a5 ?a6 ?a7; (case a1 => k_is); (case a2 => k_is); (case a3 => k_is); (case a4 => k_is); (case a5 => k_is); (case a6 => k_is); (case a7 => k_is)
      have hM : L2.Mk (L2.KOf KX) 338 247 := by unfold L2.KOf; refine' L2.Mk.mk ?a1 ?a2 ?a3 ?a4; (case a1 => k_is); (case a2 => k_is); (case a3 => k_is); (case a4 => k_is)
      have hI : K2.MF (L2.KOf KX) "__init__" "Drive.__init__" K2.sIni 247 := by unfold L2.KOf; refine' K2.mf_mk ?l ?h ?kp; (case l => k_is); (case h => k_is); (case kp => k_is)
      have eq_f : PySem.W.findIn (L2.KOf KX) (.ref 338) "__eq__" = some (some (.ref 321)) := by unfold L2.KOf; k_is
      have eq_i : PySem.W.isFn (L2.KOf KX) (.ref 321) = true := by unfold L2.KOf; k_is
      have eq_m : K2.MF (L2.KOf KX) "__eq__" "Drive.__eq__" K2.sEq 321 := by unfold L2.KOf; refine' K2.mf_mk ?l ?h ?kp; (case l => k_is); (case h => k_is); (case kp => k_is)
      have st_f : PySem.W.findIn (L2.KOf KX) (.ref 338) "__str__" = some (some (.ref 328)) := by unfold L2.KOf; k_is
      have st_i : PySem.W.isFn (L2.KOf KX) (.ref 328) = true := by unfold L2.KOf; k_is
      have st_m : K2.MF (L2.KOf KX) "__str__" "Drive.__str__" K2.sStr 328 := by unfold L2.KOf; refine' K2.mf_mk ?l ?h ?kp; (case l => k_is); (case h => k_is); (case kp => k_is)
      have ln_f : PySem.W.findIn (L2.KOf KX) (.ref 338) "__len__" = some (some (.ref 335)) := by unfold L2.KOf; k_is
      have ln_i : PySem.W.isFn (L2.KOf KX) (.ref 335) = true := by unfold L2.KOf; k_is
      have ln_m : K2.MF (L2.KOf KX) "__len__" "Drive.__len__" K2.sLen 335 := by unfold L2.KOf; refine' K2.mf_mk ?l ?h ?kp; (case l => k_is); (case h => k_is); (case kp => k_is)
      have ne_ : PySem.W.findIn (L2.KOf KX) (.ref 338) "__ne__" = some (some (.builtin "object.__ne__")) := by unfold L2.KOf; k_is
      have nb_ : PySem.W.findIn (L2.KOf KX) (.ref 338) "__bool__" = some none := by unfold L2.KOf; k_is
      have pb : L2.PropOf (L2.KOf KX) 338 "blocks" 276 275 := by unfold L2.KOf; refine' K2.prop_mk ?a1 ?a2 ?a3 ?a4; (case a1 => k_is); (case a2 => k_is); (case a3 => k_is); (case a4 => k_is)
      have pb_m : K2.MF (L2.KOf KX) "blocks" "Drive.blocks" K2.sGb 275 := by unfold L2.KOf; refine' K2.mf_mk ?l ?h ?kp; (case l => k_is); (case h => k_is); (case kp => k_is)
      have pp : L2.PropOf (L2.KOf KX) 338 "pages" 284 283 := by unfold L2.KOf; refine' K2.prop_mk ?a1 ?a2 ?a3 ?a4; (case a1 => k_is); (case a2 => k_is); (case a3 => k_is); (case a4 => k_is)
      have pp_m : K2.MF (L2.KOf KX) "pages" "Drive.pages" K2.sGp 283 := by unfold L2.KOf; refine' K2.mf_mk ?l ?h ?kp; (case l => k_is); (case h => k_is); (case kp => k_is)
      have pn : L2.PropOf (L2.KOf KX) 338 "names" 292 291 := by unfold L2.KOf; refine' K2.prop_mk ?a1 ?a2 ?a3 ?a4; (case a1 => k_is); (case a2 => k_is); (case a3 => k_is); (case a4 => k_is)
      have pn_m : K2.MF (L2.KOf KX) "names" "Drive.names" K2.sGn 291 := by unfold L2.KOf; refine' K2.mf_mk ?l ?h ?kp; (case l => k_is); (case h => k_is); (case kp => k_is)
      have pr : L2.PropOf (L2.KOf KX) 338 "rows" 300 299 := by unfold L2.KOf; refine' K2.prop_mk ?a1 ?a2 ?a3 ?a4; (case a1 => k_is); (case a2 => k_is); (case a3 => k_is); (case a4 => k_is)
      have pr_m : K2.MF (L2.KOf KX) "rows" "Drive.rows" K2.sGr 299 := by unfold L2.KOf; refine' K2.mf_mk ?l ?h ?kp; (case l => k_is); (case h => k_is); (case kp => k_is)
      have hcr : ClX.CRead (L2.KOf KX) 338 (.type "type") := by unfold L2.KOf; refine' ClX.CRead.mk ?a1 ?a2; (case a1 => k_is); (case a2 => k_is)
      have hcs : ClX.CMet (L2.KOf KX) 338 (.type "type") "simple" 257 255 := by unfold L2.KOf; refine' K2.cmet_mk ?a1 ?a2 ?a3; (case a1 => k_is); (case a2 => k_is); (case a3 => k_is)
      have hsf : K2.SF (L2.KOf KX) 255 := by unfold L2.KOf; refine' K2.sf_mk ?l ?h ?hT ?kp; (case l => k_is); (case h => k_is); (case hT => k_is); (case kp => k_is)
      have hcd : ClX.CMet (L2.KOf KX) 338 (.type "type") "read" 267 265 := by unfold L2.KOf; refine' K2.cmet_mk ?a1 ?a2 ?a3; (case a1 => k_is); (case a2 => k_is); (case a3 => k_is)
      have hrf : K2.MF (L2.KOf KX) "read" "Drive.read" K2.sRead 265 := by unfold L2.KOf; refine' K2.mf_mk ?l ?h ?kp; (case l => k_is); (case h => k_is); (case kp => k_is)
      have d0 : K2.DF (L2.KOf KX) "spread" K2.sSpr 26 := by unfold L2.KOf; refine' K2.df_mk ?n ?l ?h ?kp; (case n => k_is); (case l => k_is); (case h => k_is); (case kp => k_is)
      have d1 : K2.DF (L2.KOf KX) "count_stands" K2.sCnt 31 := by unfold L2.KOf; refine' K2.df_mk ?n ?l ?h ?kp; (case n => k_is); (case l => k_is); (case h => k_is); (case kp => k_is)
      have d2 : K2.DF (L2.KOf KX) "is_integer" K2.sIsI 178 := by unfold L2.KOf; refine' K2.df_mk ?n ?l ?h ?kp; (case n => k_is); (case l => k_is); (case h => k_is); (case kp => k_is)
      have d3 : K2.DF (L2.KOf KX) "is_within" K2.sWit 185 := by unfold L2.KOf; refine' K2.df_mk ?n ?l ?h ?kp; (case n => k_is); (case l => k_is); (case h => k_is); (case kp => k_is)
      have d4 : K2.DF (L2.KOf KX) "is_row" K2.sRow 193 := by unfold L2.KOf; refine' K2.df_mk ?n ?l ?h ?kp; (case n => k_is); (case l => k_is); (case h => k_is); (case kp => k_is)
      have d5 : K2.DF (L2.KOf KX) "check_rows" K2.sChk 200 := by unfold L2.KOf; refine' K2.df_mk ?n ?l ?h ?kp; (case n => k_is); (case l => k_is); (case h => k_is); (case kp => k_is)
      have d6 : K2.DF (L2.KOf KX) "check_sizes" K2.sSiz 233 := by unfold L2.KOf; refine' K2.df_mk ?n ?l ?h ?kp; (case n => k_is); (case l => k_is); (case h => k_is); (case kp => k_is)
      have d7 : K2.DF (L2.KOf KX) "text_of" K2.sTxt 207 := by unfold L2.KOf; refine' K2.df_mk ?n ?l ?h ?kp; (case n => k_is); (case l => k_is); (case h => k_is); (case kp => k_is)
      have d8 : K2.DF (L2.KOf KX) "number_of" K2.sNum 214 := by unfold L2.KOf; refine' K2.df_mk ?n ?l ?h ?kp; (case n => k_is); (case l => k_is); (case h => k_is); (case kp => k_is)
      have d9 : K2.DF (L2.KOf KX) "row_of" K2.sRof 221 := by unfold L2.KOf; refine' K2.df_mk ?n ?l ?h ?kp; (case n => k_is); (case l => k_is); (case h => k_is); (case kp => k_is)
      have d10 : K2.DF (L2.KOf KX) "parts_of" K2.sPar 226 := by unfold L2.KOf; refine' K2.df_mk ?n ?l ?h ?kp; (case n => k_is); (case l => k_is); (case h => k_is); (case kp => k_is)
      have d11 : K2.DF (L2.KOf KX) "_law_cell" K2.sCell 349 := by unfold L2.KOf; refine' K2.df_mk ?n ?l ?h ?kp; (case n => k_is); (case l => k_is); (case h => k_is); (case kp => k_is)
      have d12 : K2.DF (L2.KOf KX) "_law_pool" K2.sPool 356 := by unfold L2.KOf; refine' K2.df_mk ?n ?l ?h ?kp; (case n => k_is); (case l => k_is); (case h => k_is); (case kp => k_is)
      have d13 : K2.DF (L2.KOf KX) "_law_draw" K2.sDraw 363 := by unfold L2.KOf; refine' K2.df_mk ?n ?l ?h ?kp; (case n => k_is); (case l => k_is); (case h => k_is); (case kp => k_is)
      have d14 : K2.DF (L2.KOf KX) "_law_shape" K2.sShp 370 := by unfold L2.KOf; refine' K2.df_mk ?n ?l ?h ?kp; (case n => k_is); (case l => k_is); (case h => k_is); (case kp => k_is)
      have d15 : K2.DF (L2.KOf KX) "_law_table" K2.sTab 377 := by unfold L2.KOf; refine' K2.df_mk ?n ?l ?h ?kp; (case n => k_is); (case l => k_is); (case h => k_is); (case kp => k_is)
      have d16 : K2.DF (L2.KOf KX) "_law_made" K2.sMad 384 := by unfold L2.KOf; refine' K2.df_mk ?n ?l ?h ?kp; (case n => k_is); (case l => k_is); (case h => k_is); (case kp => k_is)
      have d17 : K2.DF (L2.KOf KX) "_law_text" K2.sLTx 391 := by unfold L2.KOf; refine' K2.df_mk ?n ?l ?h ?kp; (case n => k_is); (case l => k_is); (case h => k_is); (case kp => k_is)
      have d18 : K2.DF (L2.KOf KX) "_law_others" K2.sOth 398 := by unfold L2.KOf; refine' K2.df_mk ?n ?l ?h ?kp; (case n => k_is); (case l => k_is); (case h => k_is); (case kp => k_is)
      have d19 : K2.DF (L2.KOf KX) "_law_seen" K2.sSee 405 := by unfold L2.KOf; refine' K2.df_mk ?n ?l ?h ?kp; (case n => k_is); (case l => k_is); (case h => k_is); (case kp => k_is)
      have d20 : K2.DF (L2.KOf KX) "_law_due" K2.sDue 412 := by unfold L2.KOf; refine' K2.df_mk ?n ?l ?h ?kp; (case n => k_is); (case l => k_is); (case h => k_is); (case kp => k_is)
      have d21 : K2.DF (L2.KOf KX) "_law_simple_right" K2.sSRt 419 := by unfold L2.KOf; refine' K2.df_mk ?n ?l ?h ?kp; (case n => k_is); (case l => k_is); (case h => k_is); (case kp => k_is)
      have d22 : K2.DF (L2.KOf KX) "_law_right" K2.sRgt 426 := by unfold L2.KOf; refine' K2.df_mk ?n ?l ?h ?kp; (case n => k_is); (case l => k_is); (case h => k_is); (case kp => k_is)
      have d23 : K2.DF (L2.KOf KX) "law" K2.sLaw 431 := by unfold L2.KOf; refine' K2.df_mk ?n ?l ?h ?kp; (case n => k_is); (case l => k_is); (case h => k_is); (case kp => k_is)
      have k_lb : ∃ t, PySem.W.nsIn (L2.KOf KX) mainGlobals "LEAST_BLOCKS" = some (some (.int 3 t)) := by unfold L2.KOf; refine' K2.ct_mk ?n; (case n => k_is)
      have k_mb : ∃ t, PySem.W.nsIn (L2.KOf KX) mainGlobals "MOST_BLOCKS" = some (some (.int 6 t)) := by unfold L2.KOf; refine' K2.ct_mk ?n; (case n => k_is)
      have k_lp : ∃ t, PySem.W.nsIn (L2.KOf KX) mainGlobals "LEAST_PAGES" = some (some (.int 2 t)) := by unfold L2.KOf; refine' K2.ct_mk ?n; (case n => k_is)
      have k_mp : ∃ t, PySem.W.nsIn (L2.KOf KX) mainGlobals "MOST_PAGES" = some (some (.int 5 t)) := by unfold L2.KOf; refine' K2.ct_mk ?n; (case n => k_is)
      have k_mr : ∃ t, PySem.W.nsIn (L2.KOf KX) mainGlobals "MOST_ROWS" = some (some (.int 4 t)) := by unfold L2.KOf; refine' K2.ct_mk ?n; (case n => k_is)
      have k_ms : ∃ t, PySem.W.nsIn (L2.KOf KX) mainGlobals "MOST_STANDS" = some (some (.int 2000 t)) := by unfold L2.KOf; refine' K2.ct_mk ?n; (case n => k_is)
      have k_wh : ∃ t, PySem.W.nsIn (L2.KOf KX) mainGlobals "WORDS_OF_HEAD" = some (some (.int 7 t)) := by unfold L2.KOf; refine' K2.ct_mk ?n; (case n => k_is)
      have k_md : ∃ t, PySem.W.nsIn (L2.KOf KX) mainGlobals "MOST_DIGITS" = some (some (.int 2 t)) := by unfold L2.KOf; refine' K2.ct_mk ?n; (case n => k_is)
      have z_len : PySem.W.nsIn (L2.KOf KX) mainGlobals "len" = some none := by unfold L2.KOf; k_is
      have z_int : PySem.W.nsIn (L2.KOf KX) mainGlobals "int" = some none := by unfold L2.KOf; k_is
      have z_abs : PySem.W.nsIn (L2.KOf KX) mainGlobals "abs" = some none := by unfold L2.KOf; k_is
      have z_repr : PySem.W.nsIn (L2.KOf KX) mainGlobals "repr" = some none := by unfold L2.KOf; k_is
      have z_isi : PySem.W.nsIn (L2.KOf KX) mainGlobals "isinstance" = some none := by unfold L2.KOf; k_is
      have z_range : PySem.W.nsIn (L2.KOf KX) mainGlobals "range" = some none := by unfold L2.KOf; k_is
      have z_max : PySem.W.nsIn (L2.KOf KX) mainGlobals "max" = some none := by unfold L2.KOf; k_is
      have z_min : PySem.W.nsIn (L2.KOf KX) mainGlobals "min" = some none := by unfold L2.KOf; k_is
      have z_all : PySem.W.nsIn (L2.KOf KX) mainGlobals "all" = some none := by unfold L2.KOf; k_is
      have z_sum : PySem.W.nsIn (L2.KOf KX) mainGlobals "sum" = some none := by unfold L2.KOf; k_is
      have z_enm : PySem.W.nsIn (L2.KOf KX) mainGlobals "enumerate" = some none := by unfold L2.KOf; k_is
      have z_tup : PySem.W.nsIn (L2.KOf KX) mainGlobals "tuple" = some none := by unfold L2.KOf; k_is
      have z_boo : PySem.W.nsIn (L2.KOf KX) mainGlobals "bool" = some none := by unfold L2.KOf; k_is
      have z_str : PySem.W.nsIn (L2.KOf KX) mainGlobals "str" = some none := by unfold L2.KOf; k_is
      exact ⟨nC, nW, hW, hT, hD, hN, hF, hM, hI, eq_f, eq_i, eq_m, st_f, st_i, st_m, ln_f, ln_i, ln_m, ne_, nb_, pb, pb_m, pp, pp_m, pn, pn_m, pr, pr_m, hcr, hcs, hsf, hcd, hrf, d0, d1, d2, d3, d4, d5, d6, d7, d8, d9, d10, d11, d12, d13, d14, d15, d16, d17, d18, d19, d20, d21, d22, d23, k_lb, k_mb, k_lp, k_mp, k_mr, k_ms, k_wh, k_md, z_len, z_int, z_abs, z_repr, z_isi, z_range, z_max, z_min, z_all, z_sum, z_enm, z_tup, z_boo, z_str⟩
    obtain ⟨fd, h1, h2⟩ := A.law (P := PySem.Challenge.rw_spareblocks_k02_drives_made.prog) (w := w) KX G hmg
    exact ⟨fd, h1, fun base _ _ => h2 base⟩
