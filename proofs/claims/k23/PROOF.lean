import PyProof.Rows.All
import Wide.All
import OpenK.AllK
import Wide.FinOn
import PyProof.EqAt
import PyProof.EqKinds
import PyProof.TupleCall
import HandS.ForMost
import HandS.DeepEq
import HandS.Deep
import HandS.Wide
import HandS.RaiseMore
import HandS.DictComp
import PyProof.ReprRoads
import PyProof.ReprLen
import HandS.SlotsOwn
import HandS.ClsMeth
import HandS.MakeKw
import HandS.MakeKwOnly
import HandS.Property
import HandS.FStr
import HandS.IsInst
import HandS.TupAny
import HandS.NoneIn
import HandS.CallLocal
import HandS.StrMore
import HandS.Style
import HandS.Flow
import KE.KCallOwn
import HandS.Star
import HandS.OwnEq
import KE.KUnpackStar
import KE.KRevSl
import KE.GoesMore
import HandS.Walk
import HandS.TupMul
import HandS.SetFor
import KE.KTupSum
import PyProof.Rows.CountFlat
import HandS.Exc
import KE.DataMinKey
import PyProof.WalkInts
import HandS.Lambda
import HandS.SortKw
import HandS.TupSets
import HandS.GenYield
import HandS.GenList
import HandS.TupLe
import HandS.Conv
import HandS.EndTab
import HandS.Defaults
import PyProof.ReprBulk
import PyProof.FitsInt
import HandS.TryMany
import HandS.ExcOwn
import HandS.ExcInit
import HandS.ExcField
import HandS.WordsExc
import KE.KDictKeyed
import KE.KDictDisplayH
import HandS.Codes
import HandS.SortRule
import HandS.List
import KE.KSortTup
import KE.KDictCopyH
import HandS.Keys
import KE.RegKIsAll
import PySem.Challenge.RW_spareblocks_k23_whole_rules_written_othe
set_option Elab.async false
set_option linter.all false
set_option maxRecDepth 100000
set_option maxHeartbeats 2000000
/-! The promise of a def that is kept where no repr is under way on the stack (guards empty): repr of a list asks for it. -/
namespace G1
open PySem PySem.Spec PyProof.Rows L2
section
variable {P : Program} {w : World} {K : PySem.W.Frag} {mg : Str → Option Value} {base : Heap}
structure FnG (P : Program) (w : World) (K : PySem.W.Frag) (mg : Str → Option Value) (base : Heap) (k : Nat) (f : Addr) (fd : FuncData) (ps : List Str) (sp : Sp) : Prop where
  len : ∀ vs H Q E, sp vs H Q E → vs.length = ps.length
  run : ∀ (A : Around) (outer : List Env) (s : Shared) (H : Hp) (args : Args) (us : List Value) (vs : List V) (Q : VK) (E : XK), A.guards = some [] →
    Room k A → Env0 P w K mg base A outer s H → BindsTo s fd args (ps.zip us) → Vals vs us → sp vs H Q E → codeAny (model P w) A (.call (.ref f) args) (CR CX0 outer P w H s Q E) s
/-- from the body to the promise -/
theorem okG {x qual : Str} {st : Stmt} {f : Addr} {fd : FuncData} {N ps : List Str} {k : Nat} {sp : Sp} (F : Fun K x qual st f fd) (S : FnScope N ps (defScope st))
    (len : ∀ vs H Q E, sp vs H Q E → vs.length = ps.length)
    (hbody : ∀ (cdv : Value) (A : Around) (outer : List Env) (s : Shared) (H : Hp) (vs : List V) (Q : VK) (E : XK), A.guards = some [] →
      Room k (A.deeper (envOfC qual (defScope st) s.heap.objs.size f cdv)) → sp vs H Q E →
      ∃ t, PSs (cxOf CX0 P w K mg base N qual (defScope st) f cdv A outer s H E).nox (defBody st) t ∧ t { nx := fun _ H' => Q .non H', rt := Q } (start N vs) H) :
    FnG P w K mg base (k + 1) f fd ps sp := by
  obtain ⟨oc, od, kV, doc, pm, an, cdv, ct, osl, rfl, lk, hcd⟩ := F.ex
  constructor
  · exact len
  intro A outer s H args us vs Q E hgu room e0 bnd rel want
  have kin : K.In s.heap := e0.mod.kin.keeps fun b o e => (e0.bs b o e).1
  have nol : s.heap.NoLimit := e0.mod.nolimit.keeps fun b o e => (e0.bs b o e).1
  have kinds : ∀ y ∈ ps.zip us, (defScope st).names.lookup y.1 = some .local ∨
      ((defScope st).names.lookup y.1 = some .cell ∧ ((cellsFrom (s.heap.objs.size + 1) (defScope st).names []).lookup y.1).isSome = true) := by
    rintro ⟨n, v⟩ hy
    cases S.par n (List.of_mem_zip hy).1 with
    | inl q => exact Or.inl q
    | inr q => exact Or.inr ⟨q, PySem.W.cellsFrom_some _ _ _ (Or.inl q)⟩
  refine codeAny_call_function room.depth (kin _ _ lk) rfl S.co S.gen rfl (PySem.W.codeRec_of kin hcd) (bnd _ _ _ _ ?_)
  refine wpAny_newFunctionEnv_cells S.kind kinds fun env henv s1 inc => ?_
  subst henv
  refine ⟨nol.keeps inc.toInCall.keep, codeAny_func ?_⟩
  obtain ⟨t, ht0, hq⟩ := hbody cdv A outer s H vs Q E hgu (room.deeper _) want
  have ht := ht0.nox
  have J0 : Inv (cxOf CX0 P w K mg base N qual (defScope st) f cdv A outer s H E) [] (start N vs) H s1 := inv_start S room.hd e0 (len _ _ _ _ want) rel inc
  refine wpAny_mono (ht.run [] s1 (start N vs) H _ J0 hq) (fun fl s' hs => ?_) fun _ _ z => z
  cases fl with
  | brk => exact (hs.elim fun _ z => z.elim fun _ y => y.2.elim)
  | cont => exact (hs.elim fun _ z => z.elim fun _ y => y.2.elim)
  | next =>
    obtain ⟨σ', H', J, q⟩ := hs
    exact ⟨V.non, H', J.os, J.bare, J.base, J.hok, rfl, q⟩
  | ret u =>
    obtain ⟨v, σ', H', J, rv, q⟩ := hs
    exact ⟨v, H', J.os, J.bare, J.base, J.hok, rv, q⟩
end
section
variable {X : Cx} {k : Nat} {f : Addr} {fd : FuncData} {ps : List Str} {sp : Sp} {x : Str} {p pos : Pos} {e : Expr} {es : List Expr} {t : TA}
theorem runG {pins : List (Addr × Obj)} {σ : L2.St} {H : Hp} {s : Shared} {Q : VK} {us : List Value} {vs : List V} (F : FnG X.prog X.w X.K X.mg X.base k f fd ps sp) (hgu : X.A.guards = some [])
    (hr : Room k X.A) (hb : Binds X.K fd ps []) (I : Inv X pins σ H s) (r : Vals vs us) (h : sp vs H Q E0) :
    wpAny (model X.prog X.w) X.A (call (.ref f) us) (EP X pins σ Q) X.xe s := by
  have hl : us.length = ps.length := by rw [← r.length]; exact F.len _ _ _ _ h
  have bb : BindsTo s fd ⟨us, []⟩ (ps.zip us) := by
    have z := hb s us I.kIn (by rw [List.append_nil]; exact hl)
    rw [List.append_nil] at z
    exact z
  refine wpAny_call (codeAny_mono (F.run X.A X.stack s H ⟨us, []⟩ us vs Q E0 hgu hr I.env0 bb r h) fun r s' hq => ?_)
  match r, hq with
  | .error e, hq => exact (show False from hq).elim
  | .ok (.ret u), hq => exact I.after hq
  | .ok .next, hq => exact (show False from hq).elim
  | .ok .brk, hq => exact (show False from hq).elim
  | .ok .cont, hq => exact (show False from hq).elim
/-- f(e, ..) of such a def -/
theorem pe_callG (F : FnG X.prog X.w X.K X.mg X.base k f fd ps sp) (hgu : X.A.guards = some []) (hr : Room k X.A) (hg : Gl X x) (hm : X.mg x = some (.ref f)) (hk : PySem.W.keepIn X.K (.ref f) = true) (hb : Binds X.K fd ps [])
    (ha : PA X (e :: es) t) (hdb : (x == ("__debug__" : Str)) = false := by decide) (he : starEach (e :: es) X.env = (false, eval e X.env) :: starEach es X.env := by rfl)
    (hpl : (backTo pos (starEach es X.env)).any (·.1) = false := by rfl) : PE X (.Call (.Name x p) (e :: es) [] pos) (tCall sp [] E0 t) := by
  refine ⟨fun pins s σ H Q I h => wpAny_Call_Name_kw (ld_glob I hg hm ?_ hdb)⟩
  refine PySem.W.callWith_K (h₀ := X.base) I.ok.mod.kin hk (thn (ha.run pos pins s σ H _ I h) fun us s1 hh => ?_) he hpl
  obtain ⟨vs, H1, I1, r, q⟩ := hh
  rw [List.append_nil] at q
  exact ⟨I1.kIn, runG F hgu hr hb I1 r q⟩
end
end G1

set_option Elab.async false
set_option linter.all false
set_option maxRecDepth 100000
set_option maxHeartbeats 2000000
/-! The end of a law row from a promise of the kind FnG: at the law's own call no repr is under way. -/
namespace G1
open PySem PySem.Spec PyProof.Rows L2
section
variable {P : Program} {w : World} {K : PySem.W.Frag} {mg mb : Str → Option Value} {k : Nat} {fa a : Addr} {fd : FuncData} {x : Str} {sp : Sp} {m : Shared} {vs : List Value} {ns : List Int}
end
end G1

set_option Elab.async false
set_option linter.all false
set_option maxRecDepth 100000
set_option maxHeartbeats 2000000
/-! repr and == of the values of many kinds. -/
namespace G1
open PySem PySem.Spec PyProof.Rows L2
/-- a value and what it shows -/
inductive Tg (K : PySem.W.Frag) (H : Hp) : V → PyData → Prop
  | dp {v : V} {d : PyData} : Dp K H v d → SeqAt.shaped d = true → PyData.eqv d d = true → d.hasDict = false → Tg K H v d
  | d0 {a : Addr} : H a = some (.dK []) → Tg K H (.ref a) (.dict [])
  | d1 {a : Addr} {x : Str} {i : Int} : H a = some (.dK [(.inr x, .int i)]) → Tg K H (.ref a) (.dict [(.str x, .int i)])
structure Gd (d : PyData) : Prop where
  sh : d.showable = true
  sz : d.shown.length ≤ sizeLine
  dp : d.depth ≤ 60
section
variable {X : Cx} {pins : List (Addr × Obj)} {σ : L2.St} {H : Hp} {s : Shared}
theorem Tg.reads (I : Inv X pins σ H s) {v : V} {d : PyData} {u : Value} (h : Tg X.K H v d) (r : RelV v u) : ∃ as, Reads s.heap u d as ∧ (d.hasDict = true → sysModules ∉ as) := by
  cases h with
  | dp h1 h2 h3 h4 =>
    obtain ⟨as, q⟩ := Dp.reads I _ _ _ h1 r
    exact ⟨as, q, PyData.noDict_hsm h4⟩
  | @d0 a e =>
    cases (show u = Value.ref a from r)
    obtain ⟨_, y, vs, rk, o, es, ep, ho, hx, hd, hl⟩ := (show ObjOk X.prog X.w H s.heap a (.dK []) from I.hok a _ e)
    cases rk
    have ne : a ≠ sysModules := fun z => by rw [z] at y; simp at y
    have e0 : es.toList = [] := by
      have z := hl.2.1
      generalize es.toList = l at z
      cases z
      rfl
    refine ⟨[a] ++ [], Reads.dict (as := []) (bs := []) ho hx.1 hd ?_ ?_, fun _ hm => ?_⟩
    · rw [e0]
      exact ReadsAll.nil
    · rw [e0]
      exact ReadsAll.nil
    · simp at hm
      exact ne hm.symm
  | @d1 a x i e =>
    cases (show u = Value.ref a from r)
    obtain ⟨_, y, vs, rk, o, es, ep, ho, hx, hd, hl⟩ := (show ObjOk X.prog X.w H s.heap a (.dK [(.inr x, .int i)]) from I.hok a _ e)
    have ne : a ≠ sysModules := fun z => by rw [z] at y; simp at y
    obtain ⟨en, t1, t2, e0, e1, e2⟩ : ∃ (en : DictEntry) (t1 t2 : Tok), es.toList = [en] ∧ en.key = .str x t1 ∧ en.val = .int i t2 := by
      have z := hl.2.1
      generalize es.toList = l at z
      cases rk with
      | @cons p q ps qs hp hn =>
        cases hn
        obtain ⟨hp1, t2, hp2⟩ := hp
        cases z with
        | @cons en kv es' kvs' k1 k2 k3 =>
          cases k3
          have k1' : keyIs q.1 en.key = true := k1
          rw [← hp1] at k1'
          rcases keyIs_shape k1' with ⟨j, t, c, _⟩ | ⟨z, t, c, ek⟩
          · cases c
          · cases c
            exact ⟨en, t, t2, rfl, ek, k2.trans hp2⟩
    refine ⟨a :: ([] ++ []) ++ ([] ++ []), Reads.dict ho hx.1 hd ?_ ?_, fun _ hm => ?_⟩
    · rw [e0]
      show ReadsAll s.heap [en.key] [.str x] _
      rw [e1]
      exact .cons (.str x t1) .nil
    · rw [e0]
      show ReadsAll s.heap [en.val] [.int i] _
      rw [e2]
      exact .cons (.int i t2) .nil
    · simp at hm
      exact ne hm.symm
/-- repr(x) -/
def rRepr (K : PySem.W.Frag) : List V → Hp → VK → Prop := fun xs H Q => ∃ (v : V) (d : PyData), xs = [v] ∧ Tg K H v d ∧ Gd d ∧ Q (.str d.shown) H
theorem call_repr (hg : X.A.guards = some []) (hu : X.A.units + 64 < cLine) : CallR X (.builtin "repr") (rRepr X.K) := by
  intro pins s σ H xs us Q I r h
  obtain ⟨v, d, rfl, th, gd, q⟩ := h
  obtain ⟨u, rfl, ru⟩ := vals1 r
  obtain ⟨as, rd, hsm⟩ := th.reads I ru
  cases v with
  | ref a =>
    cases (show u = Value.ref a from ru)
    refine repr_of_reads' rd gd.sh hsm hg (by have := gd.dp; omega) (fun _ _ e => e) (fun h' u tk k => ?_) gd.sz
    exact ⟨.str _, H, I.kept (t' := tk) k, ⟨u, rfl⟩, q⟩
  | non =>
    cases (show u = Value.none from ru)
    cases rd
    exact PySem.P.repr_of_none ⟨.str _, H, I.tok _, ⟨_, rfl⟩, q⟩
  | bl b =>
    cases (show u = Value.bool b from ru)
    cases rd
    refine PySem.P.repr_of_bool ⟨.str _, H, I.tok _, ⟨_, rfl⟩, ?_⟩
    rw [PyData.shown_bool] at q
    cases b <;> exact q
  | int i =>
    obtain ⟨t, e⟩ := (show ∃ t, u = Value.int i t from ru)
    cases e
    cases rd
    have z : i.natAbs.log2 < 1920 := of_decide_eq_true gd.sh
    exact PySem.P.repr_of_int z ⟨.str _, H, I.tok _, ⟨_, rfl⟩, q⟩
  | str x =>
    obtain ⟨t, e⟩ := (show ∃ t, u = Value.str x t from ru)
    cases e
    cases rd
    refine PySem.P.repr_of_str ⟨.str _, H, I.tok _, ⟨_, rfl⟩, ?_⟩ ?_
    · rw [PyData.shown_str] at q
      exact q
    · have z := gd.sz
      rw [PyData.shown_str] at z
      exact z
  | byt b =>
    obtain ⟨t, e⟩ := (show ∃ t, u = Value.bytes b t from ru)
    cases e
    cases rd
  | flt b =>
    obtain ⟨t, e⟩ := (show ∃ t, u = Value.float b t from ru)
    cases e
    cases rd
  | ty n =>
    cases (show u = Value.type n from ru)
    cases rd
end
end G1

set_option Elab.async false
set_option linter.all false
set_option maxRecDepth 100000
set_option maxHeartbeats 2000000
/-! Special methods of own classes: str, len, truth, ==, !=. -/
namespace G2
open PySem PySem.Spec PyProof.Rows L2 Builtin
section
variable {X : Cx} {CX : CXT} {n : Nat} {C g : Addr} {sp : Sp} {E : XK}
/-! ### == and != -/
end
end G2

set_option Elab.async false
set_option linter.all false
set_option maxRecDepth 100000
set_option maxHeartbeats 2000000
/-! != by an own __eq__, and == of another thing with an instance. -/
namespace G2
open PySem PySem.Spec PyProof.Rows L2 Builtin
section
variable {prog : Program} {w : World} {A : Around} {E : Value → Shared → Prop} {s : Shared} {K : PySem.W.Frag} {x C L f : Addr} {h₀ : Heap} {m : Str → Option Value} {ox : Obj} {od : Option Obj} {b tb : Value}
end
section
variable {X : Cx} {CX : CXT} {n : Nat} {C g : Addr} {sp : Sp} {E : XK}
end
end G2

set_option Elab.async false
set_option linter.all false
set_option maxRecDepth 100000
set_option maxHeartbeats 2000000
namespace G2
open PySem PySem.Spec PyProof.Rows L2 Builtin
section
variable {prog : Program} {w : World} {A : Around} {E : Value → Shared → Prop} {s : Shared} {K : PySem.W.Frag} {x C L f a : Addr} {ox : Obj} {od : Option Obj}
end
section
variable {X : Cx} {CX : CXT} {n : Nat} {C g : Addr} {sp : Sp} {E : XK}
end
end G2

set_option Elab.async false
set_option linter.all false
set_option maxRecDepth 100000
set_option maxHeartbeats 2000000
/-! Calls: C(k = v, ..), cls(..), C.m(k = v, ..). -/
namespace G2
open PySem PySem.Spec PyProof.Rows L2 Builtin ClX
section
variable {X : Cx} {CX : CXT} {k i : Nat} {f C p g : Addr} {mc : Value} {fd : FuncData} {ps ks : List Str} {sp : Sp} {dvs : List V} {ds : List Value} {E : XK} {x m : Str} {pp pos apos : Pos} {o e : Expr} {es : List Expr} {kws : List Keyword} {ta : TE} {t tk : TA}
  {gg : List Value → List Value → List Value} {gV : List V → List V → List V}
end
end G2

set_option Elab.async false
set_option linter.all false
set_option maxRecDepth 100000
set_option maxHeartbeats 2000000
/-! head, *lines = a list; xs[1::2] of a list of seven. -/
namespace G2
open PySem PySem.Spec PyProof.Rows L2 Builtin
section
variable {X : Cx}
end
end G2

set_option Elab.async false
set_option linter.all false
set_option maxRecDepth 100000
set_option maxHeartbeats 2000000
/-! for i, x in enumerate(a tuple). -/
namespace PySem
open Builtin
open AutoSeq1 (wpAny_loadPart')
set_option maxHeartbeats 4000000 in
theorem meets_enum_tup (l : Addr) (items : Array Value) (n : Nat) (dct : Option Addr) (sl : Array (Option Value)) :
    Meets (Builtin.«enumerate.__new__» ⟨[.type "enumerate", .ref l], []⟩) (fun _ R s => s.heap.get? l = some { cls := .type "tuple", dict := dct, data := .seq items n, slots := sl } ∧
      R (.ok (.ret (.ref (s.heap.push { cls := .type "tuple_iterator", data := .fields #[.ref l, .int 0 0] }).objs.size)))
        { s with heap := (s.heap.push { cls := .type "tuple_iterator", data := .fields #[.ref l, .int 0 0] }).push { cls := .type "enumerate", data := .fields #[.none, .bool false, .ref s.heap.objs.size, rawInt 0, .none, .none] } }) :=
  .of_wp fun prog w A R s h => by
    obtain ⟨hp, g, d, tk, os⟩ := s; obtain ⟨hl, h⟩ := h
    have hsub := sub_enumerate
    have hL : Heap.IsTuple (Shared.heap ⟨hp, g, d, tk, os⟩) l items := ⟨_, hl, rfl, n, rfl⟩
    wp_walk using wpAny_loadPart' hl
    refine wpAny_stack_any fun st => wpAny_pure ?_
    split
    · rename_i c _ _ _ _ _
      cases (c == Value.type "enumerate")
      · wp_walk using wpAny_loadPart' hl, wpAny_pyIter_tuple hL
        exact ⟨_, rfl, h⟩
      · wp_walk using wpAny_loadPart' hl, wpAny_pyIter_tuple hL
        exact ⟨_, rfl, h⟩
    · wp_walk using wpAny_loadPart' hl, wpAny_pyIter_tuple hL
      exact ⟨_, rfl, h⟩
theorem call_enum_tup {prog : Program} {w : World} {A : Around} {E : Value → Shared → Prop} {s : Shared} {l : Addr} {items : Array Value} {Q : Value → Shared → Prop} (hL : s.heap.IsTuple l items)
    (h : ∀ h', IsEnum h' (s.heap.objs.size + 1) s.heap.objs.size 0 .none → h'.IsTupleIter s.heap.objs.size l 0 → h'.objs.size = s.heap.objs.size + 2 →
      (∀ b o, s.heap.get? b = some o → h'.get? b = some o) → Q (.ref (s.heap.objs.size + 1)) { s with heap := h' }) :
    wpAny (model prog w) A (call (.type "enumerate") [.ref l]) Q E s := by
  obtain ⟨⟨c, dct, dt, sl⟩, hl, hc, n, hd⟩ := hL
  replace hc : c = .type "tuple" := hc
  replace hd : dt = .seq items n := hd
  subst hc hd
  refine callType_new F.called_enumerate (by decide) (F.typeCall_enumerate_1 _) (F.newCall_enumerate_1 _) (fun obj => F.args_object_init_2 obj _) F.entry_enumerate_new
    (meets_enum_tup l items n dct sl) ⟨hl, ?_⟩
  have hz : (s.heap.push { cls := .type "tuple_iterator", data := .fields #[.ref l, .int 0 0] }).objs.size = s.heap.objs.size + 1 := Heap.size_push ..
  show _ ∧ _
  rw [hz]
  have he : IsEnum ((s.heap.push { cls := .type "tuple_iterator", data := .fields #[.ref l, .int 0 0] }).push
      { cls := .type "enumerate", data := .fields #[.none, .bool false, .ref s.heap.objs.size, rawInt 0, .none, .none] }) (s.heap.objs.size + 1) s.heap.objs.size 0 .none := by
    have := Heap.get?_push_size (s.heap.push { cls := .type "tuple_iterator", data := .fields #[.ref l, .int 0 0] })
      (o := { cls := .type "enumerate", data := .fields #[.none, .bool false, .ref s.heap.objs.size, rawInt 0, .none, .none] }) rfl
    rw [hz] at this; exact this
  refine ⟨⟨_, he, rfl⟩, h _ he ⟨_, Heap.get?_push_of_some _ (Heap.get?_push_size _ rfl), rfl, rfl⟩ (by rw [Heap.size_push, hz]) fun b o x => Heap.get?_push_of_some _ (Heap.get?_push_of_some _ x)⟩
end PySem
namespace G2
open PySem PySem.Spec PyProof.Rows L2 Builtin
def ItT (K : PySem.W.Frag) (a : Addr) : It :=
  ⟨fun i H => ∃ (xs : List V) (x : V), SqT K H a xs ∧ xs[i]? = some x, fun i H v H' => ∃ T x, v = .ref T ∧ H T = none ∧ H' = upd H T (.tup [.int (i : Nat), x]) ∧ ∀ xs, SqT K H a xs → xs[i]? = some x, fun i H => ∃ xs : List V, SqT K H a xs ∧ xs.length = i⟩
theorem turn_enumT {P : Program} {w : World} {K : PySem.W.Frag} {elts : List Expr} {kk : Nat} {tpos : Pos} (a e it : Addr) (hea : e ≠ a) (hia : a ≠ it) :
    Turn P w K (.Tuple elts kk tpos) (ItT K a) [e, it] e (fun i h => (∃ old, IsEnum h e it ((i : Nat) : Int) old) ∧ h.IsTupleIter it a i ∧ e ≠ it) where
  mem := by simp
  obj := fun i h st b hb => by
    obtain ⟨⟨old, he⟩, ⟨o, ho, hc, hd⟩, _⟩ := st
    have e' : b = e ∨ b = it := by simpa using hb
    rcases e' with z | z
    · rw [z]; exact ⟨_, he, fun v q => nomatch q⟩
    · rw [z]; exact ⟨o, ho, fun v q => by rw [hd] at q; cases q⟩
  keep := fun i h h' st k => let ⟨⟨old, he⟩, hi, hne⟩ := st; ⟨⟨old, k e (by simp) _ he⟩, hi.at fun o q => k it (by simp) o q, hne⟩
  item := by
    intro X hP hw hK hc i pins s σ H E I hf st hg
    subst hP hw hK
    obtain ⟨⟨old, he⟩, hit, hne⟩ := st
    obtain ⟨xs, x, hq, hx⟩ := hg
    obtain ⟨its, rv, p, hz⟩ := I.tuple hq
    obtain ⟨u, hu, ru⟩ := rv.get hx
    have hel : e < s.heap.objs.size := Heap.lt_size he
    have hil : it < s.heap.objs.size := by obtain ⟨_, q, _⟩ := hit; exact Heap.lt_size q
    have hlt : i < its.toArray.size := by
      have z := (List.getElem?_eq_some_iff.mp hu).1
      simpa using z
    refine wpAny_pyNext_enum_itemD (Draws.tuple (A := X.A.in1) (I.ok.hd hc) it a hia its.toArray) he ⟨hit, p⟩ hlt hne (by simp [hne, hea]) fun x' h' tk hPx ho hst' hT hsz hk => ?_
    obtain ⟨hit', p'⟩ := hst'
    have ex : x' = u := by
      have z : its[i]? = some x' := by simpa using hPx
      rw [hu] at z
      exact (Option.some.inj z).symm
    subst ex
    refine ⟨_, rfl, wpAny_letOwnedTupleGo_enum (s := { s with heap := h', toks := tk + 1 }) ho fun h'' he' sb => ?_⟩
    have hT2 : h''.get? s.heap.objs.size = some { cls := .type "tuple", data := .seq #[.int i tk, x'] } := (sb.2 _ (Nat.ne_of_gt hel)).trans hT
    have new : ObjOk X.prog X.w (upd H s.heap.objs.size (.tup [.int (i : Nat), x])) h'' s.heap.objs.size (.tup [.int (i : Nat), x]) :=
      ⟨by show 2 ≤ sizeLine; decide, [.int i tk, x'], .cons ⟨_, rfl⟩ (.cons ru .nil), ⟨_, hT2, rfl, _, rfl⟩⟩
    have I1 : Inv X pins σ (upd H s.heap.objs.size (.tup [.int (i : Nat), x])) { s with heap := h'', toks := tk + 1 } :=
      I.turnedNew (ch := [e, it]) (fun b ob hb q => (sb.2 b (fun z => hb (by simp [z]))).trans (hk b ob (fun z => hb (by simp [z])) (fun z => hb (by simp [z])) q)) hf (Nat.le_refl _) new
    refine ⟨.ref s.heap.objs.size, _, I1, rfl, ⟨_, x, rfl, I.hok.fresh (Nat.le_refl _), rfl, fun ys hy => by rw [I.tuple_inj hy hq]; exact hx⟩, ⟨⟨x', ?_⟩, hit'.at fun o q => (sb.2 it (Ne.symm hne)).trans q, hne⟩, fun b hb => ?_⟩
    · have e1 : ((i + 1 : Nat) : Int) = (i : Int) + 1 := by omega
      rw [e1]; exact he'
    · have hb' : b < s.heap.objs.size := by
        have e' : b = e ∨ b = it := by simpa using hb
        rcases e' with z | z
        · rw [z]; exact hel
        · rw [z]; exact hil
      rw [upd_ne (Nat.ne_of_lt hb')]
      exact (hf b hb).1
  done := by
    intro X hP hw hK hc i pins s σ H E I hf st hg
    subst hP hw hK
    obtain ⟨⟨old, he⟩, hit, hne⟩ := st
    obtain ⟨xs, hq, hx⟩ := hg
    obtain ⟨its, rv, p, hz⟩ := I.tuple hq
    obtain ⟨f0, f1, f2, f3, f4, f5⟩ := hf it (by simp)
    have hl := rv.length
    have hn : i = its.toArray.size := by rw [List.size_toArray, ← hl, hx]
    rw [hn] at hit
    exact wpAny_pyNext_enum_endD (Draws.tuple (A := X.A.in1) (I.ok.hd hc) it a hia its.toArray) he ⟨hit, p⟩ fun h' eb => ⟨rfl, I.turned (t' := s.toks) (fun b o hb q => eb b o hb q) f0 f1 f3 f4 f5⟩
  self := fun A i s Q E st h => let ⟨⟨_, he⟩, _⟩ := st; wpAny_pyIter_enum he h
def iEnumT (K : PySem.W.Frag) (ta : TA) : TI := fun σ H R => ta σ H fun vs H1 => ∃ a xs, vs = [.ref a] ∧ SqT K H1 a xs ∧ R (ItT K a) H1
theorem pi_enumT {X : Cx} {e : Expr} {ta : TA} {p pos tpos : Pos} {elts : List Expr} {kk : Nat} (hg : Gl X "enumerate") (hm : X.mg "enumerate" = none) (ha : PA X [e] ta) (hs : starEach [e] X.env = [(false, eval e X.env)] := by rfl) :
    PI X (.Tuple elts kk tpos) (.Call (.Name "enumerate" p) [e] [] pos) (iEnumT X.K ta) := by
  refine ⟨fun pins s σ H R I h => ?_⟩
  refine Call_ (ld_blt I hg hm boot_enumerate (PyProof.Rows.callWith_type1 (thn (ha.run pos pins s σ H _ I h) fun us s1 ⟨vs, H1, I1, r1, q1⟩ => ?_) hs rfl))
  obtain ⟨a, xs, ex, hq, q⟩ := q1
  subst ex
  cases r1 with
  | cons r rr =>
    cases rr
    cases r
    obtain ⟨its, rv, p', hz⟩ := I1.tuple hq
    have hal : a < s1.heap.objs.size := by obtain ⟨o, ho, _⟩ := id p'; exact Heap.lt_size ho
    refine call_enum_tup p' fun h' he hit hsz hk => wpAny_pyIter_enum he ?_
    have I2 : Inv X pins σ H1 { s1 with heap := h' } := I1.kept (t' := s1.toks) hk
    refine ⟨s1.heap.objs.size + 1, [s1.heap.objs.size + 1, s1.heap.objs.size], _, _, H1, rfl, I2, turn_enumT a (s1.heap.objs.size + 1) s1.heap.objs.size (Nat.ne_of_gt (Nat.lt_succ_of_lt hal)) (Nat.ne_of_lt hal), ⟨⟨.none, he⟩, hit, Nat.succ_ne_self _⟩, fun b hb => ?_, q⟩
    have e' : b = s1.heap.objs.size + 1 ∨ b = s1.heap.objs.size := by simpa using hb
    have hle : s1.heap.objs.size ≤ b := by
      rcases e' with z | z
      · rw [z]; exact Nat.le_add_right _ _
      · rw [z]; exact Nat.le_refl _
    exact I1.fpOk hle (I1.hok.fresh hle)
/-- a loop over enumerate(a tuple) that is run through -/
theorem for_enumT {K : PySem.W.Frag} {a : Addr} {xs : List V} {g : TG} {tb : TS} {D : Ends} {σ : L2.St} {H : Hp} (Pv : Nat → L2.St → Hp → Prop) (h0 : Pv 0 σ H) (hl : ∀ i σ H, Pv i σ H → SqT K H a xs)
    (hs : ∀ i x T σ H, xs[i]? = some x → Pv i σ H → H T = none → g (.ref T) σ (upd H T (.tup [.int (i : Nat), x])) fun σ2 H2 => tb { D with nx := Pv (i + 1), ct := Pv (i + 1), bk := D.nx } σ2 H2)
    (hd : ∀ σ H, Pv xs.length σ H → D.nx σ H) :
    ∃ W : Nat → Nat → L2.St → Hp → Prop, (∃ m, W 0 m σ H) ∧ ∀ i m σ H, W i m σ H →
      ((ItT K a).stop i H ∧ D.nx σ H) ∨ ((ItT K a).go i H ∧ ∃ N : L2.St → Hp → Prop, (∀ σ' H', N σ' H' → ∃ m', m' < m ∧ W (i + 1) m' σ' H') ∧
        ∀ x H', (ItT K a).yld i H x H' → g x σ H' fun σ2 H2 => tb { D with nx := N, ct := N, bk := D.nx } σ2 H2) := by
  refine ⟨fun i m σ H => i + m = xs.length ∧ Pv i σ H, ⟨xs.length, by omega, h0⟩, fun i m σ H hW => ?_⟩
  obtain ⟨e, p⟩ := hW
  by_cases hm : m = 0
  · subst hm
    have e' : i = xs.length := by omega
    subst e'
    exact .inl ⟨⟨xs, hl _ _ _ p, rfl⟩, hd _ _ p⟩
  · have hi : i < xs.length := by omega
    refine .inr ⟨⟨xs, xs[i], hl _ _ _ p, List.getElem?_eq_getElem hi⟩, Pv (i + 1), fun σ' H' q => ⟨m - 1, by omega, by omega, q⟩, fun x H' y => ?_⟩
    obtain ⟨T, x', rfl, hT, rfl, hx⟩ := y
    exact hs i x' T σ H (hx xs (hl _ _ _ p)) p hT
end G2

set_option Elab.async false
set_option linter.all false
set_option maxRecDepth 100000
set_option maxHeartbeats 4000000
/-! sum of a tuple, a tuple once, how often a text stands in a list. -/
namespace G2
open PySem PySem.Spec PyProof.Rows L2 Builtin
section
variable {X : Cx}
def rSumT (K : PySem.W.Frag) : List V → Hp → VK → Prop := fun vs H Q => ∃ (a : Addr) (ns : List Int), vs = [V.ref a] ∧ SqT K H a (ns.map V.int) ∧ Q (.int ns.sum) H
theorem cr_sumT (hc : X.calm = true) : CallR X (.builtin "sum") (rSumT X.K) := by
  intro pins s σ H vs us Q I r h
  obtain ⟨a, ns, rfl, hs, q⟩ := h
  obtain ⟨its, rv, hl, _⟩ := I.tuple hs
  rw [Vals.ref1 r]
  have hi := rv.ints
  obtain ⟨xs, hx⟩ := hi.allInts.items
  have hn : numsOf its.toArray.toList = ns := by rw [show its.toArray.toList = its from rfl, hi.numsOf]
  rw [hx] at hl hn
  rw [nums_intItems] at hn
  refine PySem.W.ktm_sumG (I.ok.hd hc) hl fun h' tk t' hk => ?_
  refine ⟨.int _, H, I.kept hk, ⟨_, rfl⟩, ?_⟩
  rw [preSum_eq, List.take_of_length_le (by simp), hn]
  exact q
theorem tuple_mul1 (l : Addr) (items : Array Value) (n : Nat) (dd : Option Addr) (sl : Array (Option Value)) (u : Tok) :
    Meets (Builtin.«tuple.__mul__» ⟨[.ref l, .int 1 u], []⟩) (fun _ R s => s.heap.get? l = some { cls := .type "tuple", dict := dd, data := .seq items n, slots := sl } ∧ R (.ok (.ret (Value.ref l))) s) :=
  .of_wp fun prog w A R s h => by
    obtain ⟨hp, g, d, tk, os⟩ := s
    obtain ⟨hl, h⟩ := h
    have f1 := AutoSeq1.idx_int
    wp_walk using wpAny_loadPart' hl
    exact ⟨_, rfl, h⟩
def rRepA (K : PySem.W.Frag) : R2 := fun x y H Q => ∃ l k xs, x = .ref l ∧ y = .int k ∧ SqT K H l xs ∧ xs ≠ [] ∧ 1 ≤ k ∧ k ≤ 1000 ∧ xs.length ≤ 1000 ∧ (k = 1 → Q (.ref l) H) ∧ (2 ≤ k → ∀ p, H p = none → Q (.ref p) (upd H p (.tup (List.replicate k.toNat xs).flatten)))
theorem op_repA : OpR X (binaryOp .Mult) (rRepA X.K) := by
  intro pins s σ H x y v u Q I rx ry h
  obtain ⟨l, k, xs, rfl, rfl, hT, hne, h1, h2, hz, q1, q2⟩ := h
  by_cases hk : 2 ≤ k
  · exact op_repT pins s σ H _ _ v u Q I rx ry ⟨l, k, xs, rfl, rfl, hT, hne, hk, h2, hz, q2 hk⟩
  have e1 : k = 1 := by omega
  subst e1
  cases rx
  obtain ⟨t, rfl⟩ := ry
  obtain ⟨its, r, ⟨⟨cls, dd, data, sl⟩, ho, hc, n, hd⟩, hs⟩ := I.tuple hT
  simp only at hc hd
  subst hc hd
  refine wpAny_binaryOp_repeat_ref (T := "tuple") (U := "int") (by decide) ⟨_, ho, rfl⟩ (fun s' => typeIs_int s' 1 t) noFill_tuple_mul F.fills_int_mul F.slot_int_rmul repeat_tuple F.slot_int_index.lookup
    (call_meets F.slot_int_rmul (typeIs_int s 1 t) F.entry_int_rmul (F.args_int_rmul_2 _ _) (int_rmul_tuple 1 t l its.toArray n dd sl)
      ⟨ho, rfl, ⟨_, ho, rfl⟩, call_meets F.slot_tuple_mul ⟨_, ho, rfl⟩ F.entry_tuple_mul (F.args_tuple_mul_2 _ _) (tuple_mul1 l its.toArray n dd sl t) ⟨ho, ?_⟩⟩)
  exact ⟨.ref l, H, I, rfl, q1 rfl⟩
end
end G2

set_option Elab.async false
set_option linter.all false
set_option maxRecDepth 100000
set_option maxHeartbeats 2000000
namespace K2
open PySem PySem.Spec PyProof.Rows L2 G1 G2
def topS (i : Nat) : Stmt := PySem.Challenge.pw_spareblocks_k23_whole_rules_written_othe.main.body.getD i (.Pass ⟨0, 0, 0, 0⟩)
abbrev sCell : Stmt := topS 82
abbrev sPool : Stmt := topS 83
abbrev sDraw : Stmt := topS 84
/-- the built-in names are still the built-ins -/
structure Bl (mg : Str → Option Value) : Prop where
  len : mg "len" = none
  int : mg "int" = none
  abs : mg "abs" = none
  repr : mg "repr" = none
  isi : mg "isinstance" = none
  range : mg "range" = none
  max : mg "max" = none
  min : mg "min" = none
  all : mg "all" = none
  sum : mg "sum" = none
  enm : mg "enumerate" = none
  tup : mg "tuple" = none
  boo : mg "bool" = none
  str : mg "str" = none
theorem bInt : bootBuiltins "int" = some (.type "int") := by decide +kernel
theorem bAbs : bootBuiltins "abs" = some (.builtin "abs") := by decide +kernel
theorem scCell : FnScope ["_law_cells", "_law_k", "_law_found", "_law_cell_here"] ["_law_cells", "_law_k"] (defScope sCell) :=
  ⟨rfl, rfl, rfl, by decide +kernel, rfl, by decide +kernel, by decide +kernel⟩
theorem scPool : FnScope ["_law_cell_here", "_law_left"] ["_law_cell_here"] (defScope sPool) :=
  ⟨rfl, rfl, rfl, by decide +kernel, rfl, by decide +kernel, by decide +kernel⟩
theorem scDraw : FnScope ["_law_pool_here", "_law_many", "_law_seed", "_law_digit"] ["_law_pool_here", "_law_many"] (defScope sDraw) :=
  ⟨rfl, rfl, rfl, by decide +kernel, rfl, by decide +kernel, by decide +kernel⟩
/-- the number at an index, or a mixed one: some int -/
def spCell (K : PySem.W.Frag) : Sp := fun vs H Q _ => ∃ (l : Addr) (ns : List Int) (k : Nat), vs = [.ref l, .int (k : Int)] ∧ SqL K H l (ns.map V.int) ∧ ns.length ≤ 63 ∧ k ≤ 10 ∧ ∀ (H' : Hp) (i : Int), Same H H' → Q (.int i) H'
def spPool : Sp := fun vs H Q _ => ∃ c : Int, vs = [.int c] ∧ ∀ (p : Addr) (i j n : Int), H p = none → 0 ≤ i → i < 2 ^ 31 → Q (.ref p) (upd H p (.lst [.int i, .int j, .int n]))
/-- a draw changes the pool alone -/
def spDraw : Sp := fun vs H Q _ => ∃ (p : Addr) (m i j n : Int), vs = [.ref p, .int m] ∧ H p = some (.lst [.int i, .int j, .int n]) ∧ 0 ≤ i ∧ i < 2 ^ 31 ∧ 0 < m ∧ m < 2 ^ 60 ∧
  ∀ i' j' n' r : Int, 0 ≤ i' → i' < 2 ^ 31 → 0 ≤ r → r < m → Q (.int r) (upd H p (.lst [.int i', .int j', .int n']))
section
variable {P : Program} {w : World} {K : PySem.W.Frag} {mg : Str → Option Value} {base : Heap}
theorem ok_pool {f : Addr} {fd : FuncData} (F : Fun K "_law_pool" "_law_pool" sPool f fd) (B : Bl mg) : FnOk P w K mg base CX0 1 f fd ["_law_cell_here"] spPool := by
  refine F.ok scPool (fun vs H Q E h => ?_) (fun cdv A outer s H vs Q E hr h => ?_)
  · obtain ⟨c, rfl, _⟩ := h
    rfl
  obtain ⟨c, rfl, k⟩ := h
  refine ⟨_, pss_cons (ps_set (i := 1) scPool.nd rfl (.inl rfl) (pe_ifExp (PW.pt (pw_or (pt_cmpR op_lt (pv 0) pe_int (nomark _)) (pw_or1 (pt_cmpR op_ge (pv 0) (pe_op op_pow pe_int pe_int) (nomark _)))))
      (pe_callB call_abs (by rfl) B.abs bAbs (pa_cons (pv 0) pa_nil)) pe_int))
    (pss_one (ps_ret (pe_lst (pa_cons (pe_op op_mod (pe_callTy call_int1 (by rfl) B.int bInt (pa_cons (pv 0) pa_nil)) pe_int) (pa_cons (pv 1) (pa_cons pe_int pa_nil)))))), ?_⟩
  have rest : ∀ j : Int, tRet (tLst (tCons (tOp (rI (fun _ j => 0 < j) fun i j => .int (i % j)) (tCB (fun xs H Q => (∃ i, xs = [.int i] ∧ Q (.int i) H) ∨ ∃ k, xs = [.bl k] ∧ Q (.int (if k then 1 else 0)) H) (tCons (tVar 0) tNil)) (tC (.int 2147481949)))
      (tCons (tVar 1) (tCons (tC (.int 0)) tNil)))) { nx := fun _ H' => Q .non H', rt := Q } [some (.int c), some (.int j)] H := by
    intro j
    refine ⟨_, rfl, .inl ⟨c, rfl, _, _, rfl, rfl, (by show (0 : Int) < 2147481949; decide), _, rfl, by show 3 ≤ sizeLine; decide, fun p hp => k p _ _ _ hp (Int.emod_nonneg _ (by decide)) ?_⟩⟩
    have := Int.emod_lt_of_pos c (show (0 : Int) < 2147481949 by decide)
    omega
  refine ⟨_, rfl, _, _, rfl, rfl, _, rfl, ite2 (fun _ => ?_) (fun _ => ?_)⟩
  · exact iteT ⟨_, rfl, c, rfl, rest _⟩
  · refine ⟨_, rfl, _, _, rfl, rfl, ⟨by decide, by decide, by decide⟩, _, _, rfl, rfl, _, rfl, ite2 (fun _ => ?_) (fun _ => ?_)⟩
    · exact ⟨_, rfl, c, rfl, rest _⟩
    · exact rest _
theorem emod_box (x m : Int) (h : 0 < m) : 0 ≤ x % m ∧ x % m < m := ⟨Int.emod_nonneg _ (by omega), Int.emod_lt_of_pos _ h⟩
theorem ok_draw {f : Addr} {fd : FuncData} (F : Fun K "_law_draw" "_law_draw" sDraw f fd) (B : Bl mg) : FnOk P w K mg base CX0 1 f fd ["_law_pool_here", "_law_many"] spDraw := by
  refine F.ok scDraw (fun vs H Q E h => ?_) (fun cdv A outer s H vs Q E hr h => ?_)
  · obtain ⟨p, m, i, j, n, rfl, _⟩ := h
    rfl
  obtain ⟨p, m, i, j, n, rfl, hp, i0, i1, m0, m1, k⟩ := h
  refine ⟨_, pss_cons (ps_asg (pe_op op_add (pe_ix ix_list (pv 0) pe_int (fun _ _ => rfl)) pe_int) (pg_sub (pv 0) pe_int set_list))
    (pss_cons (ps_set (i := 2) scDraw.nd rfl (.inl rfl) (pe_op op_mod (pe_callTy call_int1 (by rfl) B.int bInt (pa_cons
        (pe_op op_add (pe_op op_add (pe_op op_mul (pe_ix ix_list (pv 0) pe_int (fun _ _ => rfl)) pe_int) (pe_op op_mul pe_int (pe_ix ix_list (pv 0) pe_int (fun _ _ => rfl)))) pe_int) pa_nil)) pe_int))
    (pss_cons (ps_asg (pe_op op_mod (pe_callTy call_int1 (by rfl) B.int bInt (pa_cons (pe_op op_add (pe_op op_mul (pv 2) (pv 2)) (pe_op op_mul pe_int (pe_ix ix_list (pv 0) pe_int (fun _ _ => rfl)))) pa_nil)) pe_int)
        (pg_sub (pv 0) pe_int set_list))
    (pss_cons (ps_if (pt_cmpR op_gt (pe_ix ix_list (pv 0) pe_int (fun _ _ => rfl)) pe_int (nomark _))
      (pss_cons (ps_set (i := 3) scDraw.nd rfl (.inl rfl) (pe_op op_mod (pe_callTy call_int1 (by rfl) B.int bInt (pa_cons (pe_ix ix_list (pv 0) pe_int (fun _ _ => rfl)) pa_nil)) (pv 1)))
        (pss_cons (ps_asg (pe_op op_fdivW (pe_ix ix_list (pv 0) pe_int (fun _ _ => rfl)) (pv 1)) (pg_sub (pv 0) pe_int set_list))
        (pss_one (ps_ret (pv 3))))) pss_nil)
    (pss_one (ps_ret (pe_op op_mod (pe_callTy call_int1 (by rfl) B.int bInt (pa_cons (pe_op op_fdiv (pe_ix ix_list (pv 0) pe_int (fun _ _ => rfl)) pe_int) pa_nil)) (pv 1))))))), ?_⟩
  -- pool[2] = pool[2] + 1
  refine ⟨_, rfl, p, _, _, .int n, rfl, rfl, SqL.of hp, rfl, _, _, rfl, rfl, _, rfl, p, _, _, 2, rfl, rfl, hp, rfl, ?_⟩
  have h1 : (upd H p (.lst [.int i, .int j, .int (n + 1)])) p = some (.lst [.int i, .int j, .int (n + 1)]) := upd_same
  show tSeq _ _ _ _ (upd H p (.lst [.int i, .int j, .int (n + 1)]))
  generalize e1 : upd H p (.lst [.int i, .int j, .int (n + 1)]) = H1 at h1 ⊢
  -- seed
  refine ⟨_, rfl, p, _, _, .int i, rfl, rfl, SqL.of h1, rfl, _, _, rfl, rfl, .inl ⟨by omega, by omega⟩, _, rfl, p, _, _, .int (n + 1), rfl, rfl, SqL.of h1, rfl, _, _, rfl, rfl, .inl ⟨by decide, by decide⟩,
    _, _, rfl, rfl, _, _, rfl, rfl, .inl ⟨_, rfl, _, _, rfl, rfl, (by show (0 : Int) < 2147481937; decide), ?_⟩⟩
  obtain ⟨s0, s1⟩ := emod_box (i * 46349 + 70001 * (n + 1) + 11) 2147481937 (by decide)
  show tSeq _ _ _ [some (.ref p), some (.int m), some (.int ((i * 46349 + 70001 * (n + 1) + 11) % 2147481937)), none] H1
  generalize (i * 46349 + 70001 * (n + 1) + 11) % 2147481937 = sd at s0 s1 ⊢
  -- pool[0]
  refine ⟨_, rfl, _, rfl, _, _, rfl, rfl, .inl ⟨by omega, by omega⟩, _, rfl, p, _, _, .int (n + 1), rfl, rfl, SqL.of h1, rfl, _, _, rfl, rfl, .inl ⟨by decide, by decide⟩, _, _, rfl, rfl,
    .inl ⟨_, rfl, _, _, rfl, rfl, (by show (0 : Int) < 2147481907; decide), _, rfl, p, _, _, 0, rfl, rfl, h1, rfl, ?_⟩⟩
  obtain ⟨t0, t1⟩ := emod_box (sd * sd + 46301 * (n + 1)) 2147481907 (by decide)
  show tSeq _ _ _ _ (upd H1 p (.lst [.int ((sd * sd + 46301 * (n + 1)) % 2147481907), .int j, .int (n + 1)]))
  generalize (sd * sd + 46301 * (n + 1)) % 2147481907 = i' at t0 t1 ⊢
  have e2 : upd H1 p (.lst [.int i', .int j, .int (n + 1)]) = upd H p (.lst [.int i', .int j, .int (n + 1)]) := by rw [← e1, upd_upd]
  rw [e2]
  have h2 : (upd H p (.lst [.int i', .int j, .int (n + 1)])) p = some (.lst [.int i', .int j, .int (n + 1)]) := upd_same
  refine ⟨_, rfl, p, _, _, .int j, rfl, rfl, SqL.of h2, rfl, _, _, rfl, rfl, _, rfl, ite2 (fun _ => ?_) (fun _ => ?_)⟩
  · refine ⟨_, rfl, p, _, _, .int j, rfl, rfl, SqL.of h2, rfl, .inl ⟨_, rfl, _, rfl, _, _, rfl, rfl, m0, ?_⟩⟩
    obtain ⟨r0, r1⟩ := emod_box j m m0
    refine ⟨_, rfl, p, _, _, .int j, rfl, rfl, SqL.of h2, rfl, _, rfl, _, _, rfl, rfl, wide_div (b := 60) m0 (by omega) (by decide) (by decide), _, rfl, p, _, _, 1, rfl, rfl, h2, rfl, _, rfl, ?_⟩
    have e3 : upd (upd H p (.lst [.int i', .int j, .int (n + 1)])) p (.lst [.int i', .int (j / m), .int (n + 1)]) = upd H p (.lst [.int i', .int (j / m), .int (n + 1)]) := upd_upd
    show Q _ (upd (upd H p (.lst [.int i', .int j, .int (n + 1)])) p (.lst [.int i', .int (j / m), .int (n + 1)]))
    rw [e3]
    exact k _ _ _ _ t0 (by omega) r0 r1
  · refine ⟨_, rfl, p, _, _, .int i', rfl, rfl, SqL.of h2, rfl, _, _, rfl, rfl, ⟨by decide, by decide⟩, .inl ⟨_, rfl, _, rfl, _, _, rfl, rfl, m0, ?_⟩⟩
    obtain ⟨r0, r1⟩ := emod_box (i' / 128) m m0
    exact k _ _ _ _ t0 (by omega) r0 r1
theorem ok_cell {f : Addr} {fd : FuncData} (F : Fun K "_law_cell" "_law_cell" sCell f fd) (B : Bl mg) : FnOk P w K mg base CX0 1 f fd ["_law_cells", "_law_k"] (spCell K) := by
  refine F.ok scCell (fun vs H Q E h => ?_) (fun cdv A outer s H vs Q E hr h => ?_)
  · obtain ⟨l, ns, k, rfl, _⟩ := h
    rfl
  obtain ⟨l, ns, k, rfl, hS, hlen, hk, q⟩ := h
  refine ⟨_, pss_cons (ps_if (pt_cmpR op_lt (pv 1) (pe_callB call_len_seq (by rfl) B.len PySem.boot_len (pa_cons (pv 0) pa_nil)) (nomark _))
      (pss_one (ps_ret (pe_callTy call_int1 (by rfl) B.int bInt (pa_cons (pe_ix ix_list (pv 0) (pv 1) (fun _ _ => rfl)) pa_nil)))) pss_nil)
    (pss_cons (ps_set (i := 2) scCell.nd rfl (.inl rfl) (pe_op op_add pe_int (pe_op op_mul pe_int (pv 1))))
    (pss_cons (ps_for PassesOwn.never rfl (pi_list (pe_slice sl_list (pv 0) po_none (po_some pe_int))) (pg_name (i := 3) scCell.nd rfl (.inl rfl))
      (pss_one (ps_set (i := 2) scCell.nd rfl (.inl rfl) (pe_op op_mod (pe_callTy call_int1 (by rfl) B.int bInt (pa_cons
        (pe_op op_add (pe_op op_mul (pv 2) pe_int) (pe_callTy call_int1 (by rfl) B.int bInt (pa_cons (pv 3) pa_nil))) pa_nil)) pe_int))))
    (pss_one (ps_ret (pe_op op_mod (pe_callTy call_int1 (by rfl) B.int bInt (pa_cons (pe_op op_add (pe_op op_mul (pv 2) (pv 2)) (pe_op op_mul pe_int (pv 1))) pa_nil)) pe_int))))), ?_⟩
  refine ⟨_, rfl, _, rfl, l, _, rfl, .inl hS, _, _, rfl, rfl, _, rfl, ite2 (fun c => ?_) (fun c => ?_)⟩
  · have c' : k < ns.length := by
      have z := of_decide_eq_true c
      rw [List.length_map] at z
      omega
    refine ⟨_, rfl, _, rfl, l, _, _, .int ns[k], rfl, rfl, hS, atI_nat (j := k) ?_, .inl ⟨_, rfl, q H _ (Same.refl H)⟩⟩
    rw [List.getElem?_map, List.getElem?_eq_getElem c']
    rfl
  · refine ⟨_, rfl, _, _, rfl, rfl, .inl ⟨by decide, by decide⟩, _, _, rfl, rfl, ?_⟩
    refine ⟨_, rfl, 5, rfl, l, _, rfl, hS, fun t ht => ?_⟩
    have hT : SqL K (upd H t (.lst (cutV (ns.map V.int) none (some 5)))) t (cutV (ns.map V.int) none (some 5)) := SqL.of upd_same
    have sm : Same H (upd H t (.lst (cutV (ns.map V.int) none (some 5)))) := fun b o e => by
      rw [upd_ne (ne_of_none e ht)]
      exact e
    refine ⟨t, rfl, ⟨_, hT⟩, for_list (K := K) (a := t) (xs := cutV (ns.map V.int) none (some 5))
      (fun i σ H' => ∃ (f : Int) (y : Option V), σ = [some (.ref l), some (.int (k : Int)), some (.int f), y] ∧ 0 ≤ f ∧ f < 2 ^ 31 ∧ H' = upd H t (.lst (cutV (ns.map V.int) none (some 5))))
      ⟨46021 + 733 * (k : Int), none, rfl, by omega, by omega, rfl⟩ (fun i σ H' _ hh => ?_) ?_ ?_⟩
    · obtain ⟨_, _, _, _, _, rfl⟩ := hh
      exact hT
    · rintro i y σ H' hi ⟨f, y0, rfl, f0, f1, rfl⟩
      obtain ⟨z, rfl⟩ : ∃ z, y = V.int z := by
        have hm := List.mem_of_getElem? hi
        unfold cutV at hm
        obtain ⟨z, _, e⟩ := List.mem_map.mp (List.mem_of_mem_drop (List.mem_of_mem_take hm))
        exact ⟨z, e.symm⟩
      refine ⟨_, rfl, _, _, rfl, rfl, .inl ⟨by omega, by omega⟩, _, rfl, .inl ⟨z, rfl, _, _, rfl, rfl, .inl ⟨_, rfl, _, _, rfl, rfl, (by show (0 : Int) < 2147481997; decide), ?_⟩⟩⟩
      obtain ⟨r0, r1⟩ := emod_box (f * 46327 + z) 2147481997 (by decide)
      exact ⟨_, _, rfl, r0, by omega, rfl⟩
    · rintro σ H' ⟨f, y0, rfl, f0, f1, rfl⟩
      refine ⟨_, rfl, _, rfl, _, _, rfl, rfl, .inl ⟨by omega, by omega⟩, _, rfl, _, _, rfl, rfl, .inl ⟨by decide, by decide⟩, _, _, rfl, rfl, .inl ⟨_, rfl, _, _, rfl, rfl, (by show (0 : Int) < 2147481967; decide), ?_⟩⟩
      exact q _ _ sm
end
end K2

set_option Elab.async false
set_option linter.all false
set_option maxRecDepth 100000
set_option maxHeartbeats 2000000
namespace K2
open PySem PySem.Spec PyProof.Rows L2 G1 G2
abbrev sSpr : Stmt := topS 2
abbrev sCnt : Stmt := topS 3
theorem scSpr : FnScope ["before", "pages", "total"] ["before", "pages"] (defScope sSpr) := ⟨rfl, rfl, rfl, by decide +kernel, rfl, by decide +kernel, by decide +kernel⟩
theorem scCnt : FnScope ["blocks", "pages", "names", "lasts", "written", "room", "before", "many", "used", "total", "ways"] ["blocks", "pages", "names"] (defScope sCnt) := ⟨rfl, rfl, rfl, by decide +kernel, rfl, by decide +kernel, by decide +kernel⟩
theorem bSum : bootBuiltins "sum" = some (.builtin "sum") := by decide +kernel
theorem bMax : bootBuiltins "max" = some (.builtin "max") := by decide +kernel
theorem bMin : bootBuiltins "min" = some (.builtin "min") := by decide +kernel
/-! openers -/
theorem seq_asg {te : TE} {g : TG} {t2 : TS} {D : Ends} {σ : L2.St} {H : Hp} (h : te σ H fun x H1 => g x σ H1 (t2 D)) : tSeq (tAsg te g) t2 D σ H := h
theorem lst_read {ta : TA} {σ : L2.St} {H : Hp} {Q : VK} (h : ta σ H fun xs H1 => xs.length ≤ sizeLine ∧ ∀ p, H1 p = none → Q (.ref p) (upd H1 p (.lst xs))) : tLst ta σ H Q := h
theorem tup_read {ta : TA} {σ : L2.St} {H : Hp} {Q : VK} (h : ta σ H fun xs H1 => xs.length ≤ sizeLine ∧ ∀ p, H1 p = none → Q (.ref p) (upd H1 p (.tup xs))) : tTup ta σ H Q := h
theorem cons_read {te : TE} {ta : TA} {σ : L2.St} {H : Hp} {Q : List V → Hp → Prop} (h : te σ H fun x H1 => ta σ H1 fun xs H2 => Q (x :: xs) H2) : tCons te ta σ H Q := h
theorem nil_read {σ : L2.St} {H : Hp} {Q : List V → Hp → Prop} (h : Q [] H) : tNil σ H Q := h
theorem op_read {r : R2} {ta tb : TE} {σ : L2.St} {H : Hp} {Q : VK} (h : ta σ H fun x H1 => tb σ H1 fun y H2 => r x y H2 Q) : tOp r ta tb σ H Q := h
theorem ret_read {te : TE} {D : Ends} {σ : L2.St} {H : Hp} (h : te σ H D.rt) : tRet te D σ H := h
theorem c_read {v : V} {σ : L2.St} {H : Hp} {Q : VK} (h : Q v H) : tC v σ H Q := h
theorem cb_read {r : List V → Hp → VK → Prop} {ta : TA} {σ : L2.St} {H : Hp} {Q : VK} (h : ta σ H fun vs H1 => r vs H1 Q) : tCB r ta σ H Q := h
theorem call_read {sp : Sp} {dvs : List V} {E : XK} {ta : TA} {σ : L2.St} {H : Hp} {Q : VK} (h : ta σ H fun vs H1 => sp (vs ++ dvs) H1 Q E) : tCall sp dvs E ta σ H Q := h
theorem seq_for {wi : TI} {g : TG} {tb t2 : TS} {D : Ends} {σ : L2.St} {H : Hp}
    (h : ∀ D' : Ends, D'.nx = t2 D → D'.rt = D.rt → wi σ H fun J H1 => ∃ W : Nat → Nat → L2.St → Hp → Prop, (∃ m, W 0 m σ H1) ∧ ∀ i m σ H, W i m σ H →
      (J.stop i H ∧ D'.nx σ H) ∨ (J.go i H ∧ ∃ N : L2.St → Hp → Prop, (∀ σ' H', N σ' H' → ∃ m', m' < m ∧ W (i + 1) m' σ' H') ∧
        ∀ x H', J.yld i H x H' → g x σ H' fun σ2 H2 => tb { D' with nx := N, ct := N, bk := D'.nx } σ2 H2)) : tSeq (tFor wi g tb) t2 D σ H := h { D with nx := t2 D } rfl rfl
theorem seq_aug {i : Nat} {te : TE} {ti : TIp} {t2 : TS} {D : Ends} {σ : L2.St} {H : Hp} (h : ∃ x, σ[i]? = some (some x) ∧ te σ H fun y H1 => ti x y H1 fun z H2 => t2 D (σ.set i (some z)) H2) : tSeq (tAug i te ti) t2 D σ H := h
theorem asg_read {te : TE} {g : TG} {D : Ends} {σ : L2.St} {H : Hp} (h : te σ H fun x H1 => g x σ H1 D.nx) : tAsg te g D σ H := h
/-- the cut of a list of ints, its sum -/
def cutI (l : List Int) (lo hi : Int) : List Int := (l.drop (HT.sIx l.length 0 (some lo))).take (HT.sIx l.length l.length (some hi) - HT.sIx l.length 0 (some lo))
theorem cut_map (l : List Int) (lo hi : Int) : cutV (l.map V.int) (some lo) (some hi) = (cutI l lo hi).map V.int := by
  unfold cutV cutI
  rw [List.length_map, List.map_take, List.map_drop]
def sprM (l : List Int) (p : Int) : List Int := (List.range l.length).map fun (t : Nat) => (cutI l (if (t : Int) - p > 0 then (t : Int) - p else 0) ((t : Int) + 1)).sum
def spSpr (K : PySem.W.Frag) : Sp := fun vs H Q _ => ∃ (a : Addr) (l : List Int) (p : Int), vs = [.ref a, .int p] ∧ SqL K H a (l.map V.int) ∧ l.length ≤ 1000 ∧ ∀ (H' : Hp) (q : Addr), Same H H' → H q = none → H' q = some (.lst ((sprM l p).map V.int)) → Q (.ref q) H'
abbrev rMax2 : List V → Hp → VK → Prop := fun xs H Q => ∃ i j, xs = [.int i, .int j] ∧ Q (.int (if j > i then j else i)) H
abbrev rMin2 : List V → Hp → VK → Prop := fun xs H Q => ∃ i j, xs = [.int i, .int j] ∧ Q (.int (if j < i then j else i)) H
abbrev rAdd : R2 := rI0 fun i j => .int (i + j)
abbrev rSub : R2 := rI0 fun i j => .int (i - j)
theorem same_lay {H : Hp} {p : Addr} {o : HO} (h : H p = none) : Same H (upd H p o) := fun b u e => by rw [upd_ne (ne_of_none e h)]; exact e
/-- a comprehension's list grows -/
theorem same_grow {H H1 H2 : Hp} {D : Addr} {o : HO} (hD : H D = none) (s1 : Same H H1) (s2 : Same H1 H2) : Same H (upd H2 D o) := fun b u e => by rw [upd_ne (ne_of_none e hD)]; exact s2 _ _ (s1 _ _ e)
section
variable {P : Program} {w : World} {K : PySem.W.Frag} {mg : Str → Option Value} {base : Heap}
theorem ok_spr {f : Addr} {fd : FuncData} (F : Fun K "spread" "spread" sSpr f fd) (B : Bl mg) : FnOk P w K mg base CX0 1 f fd ["before", "pages"] (spSpr K) := by
  refine F.ok scSpr (fun vs H Q E h => ?_) (fun cdv A outer s H vs Q E hr h => ?_)
  · obtain ⟨a, l, p, rfl, _⟩ := h
    rfl
  obtain ⟨a, l, p, rfl, hS, hlen, k⟩ := h
  refine ⟨_, pss_one (ps_ret (pe_lc (own := [("total", 2)]) (g := gName 2) (tt := tYes) (te := tCB (rSum K) (tCons (tSl (rSlL K) (tVar 0) (tPart (tCB rMax2 (tCons (tC (.int 0)) (tCons (tOp rSub (tVar 2) (tVar 1)) tNil)))) (tPart (tOp rAdd (tVar 2) (tC (.int 1))))) tNil)) rfl scSpr.nd
    (pi_range1 (by rfl) B.range (pa_cons (pe_callB call_len_seq (by rfl) B.len PySem.boot_len (pa_cons (pv 0) pa_nil)) pa_nil))
    (blkOk_by (own := [("total", 2)]) (N := ["before", "pages", "total"]) (sc := defScope sSpr) (by decide +kernel))
    (fun _ _ _ _ _ => pg_name (i := 2) scSpr.nd rfl (Or.inl rfl)) (fun _ _ _ _ _ => pts_nil)
    (fun _ _ _ _ _ => pe_callB (cr_sum rfl) (by rfl) B.sum bSum (pa_cons (pe_slice sl_list (pv 0) (po_some (pe_callB (call_max2 rfl) (by rfl) B.max bMax (pa_cons pe_int (pa_cons (pe_op op_sub (pv 2) (pv 1)) pa_nil)))) (po_some (pe_op op_add (pv 2) pe_int))) pa_nil)))), ?_⟩
  refine ⟨_, rfl, a, _, rfl, .inl hS, _, rfl, ?_, ?_, fun D hD => ?_⟩
  · rw [List.length_map]; omega
  · rw [List.length_map]; omega
  have e0 : (((l.map V.int).length : Int)).toNat = l.length := by rw [List.length_map]; omega
  rw [e0]
  refine lc_range (lo := 0) (n := l.length) (fun i H' => Same H H' ∧ H' D = some (.lst (((sprM l p).take i).map V.int))) ⟨same_lay hD, by rw [upd_same]; rfl⟩ ?_ ?_
  · rintro i H' hi ⟨s1, hy⟩
    refine ⟨rfl, ?_⟩
    unfold tYes
    dsimp only
    rw [if_pos rfl]
    refine ⟨_, rfl, _, rfl, _, rfl, _, _, rfl, rfl, _, _, rfl, _, rfl, _, rfl, _, _, rfl, rfl, _, rfl, a, _, rfl, s1.seq hS, fun t ht => ?_⟩
    refine ⟨t, cutI l (if 0 + (i : Int) - p > 0 then 0 + (i : Int) - p else 0) (0 + (i : Int) + 1), rfl, SqL.of (by rw [upd_same, cut_map]), ?_⟩
    refine ⟨((sprM l p).take i).map V.int, ?_, ?_, ?_, ?_⟩
    · rw [upd_ne (ne_of_none hy ht)]; exact hy
    · rw [List.length_map, List.length_take, sizeLine_eq]; omega
    · exact same_grow hD s1 (same_lay ht)
    · rw [upd_same]
      have hl : i < (sprM l p).length := by unfold sprM; rw [List.length_map, List.length_range]; exact hi
      rw [List.take_add_one, List.getElem?_eq_getElem hl, List.map_append]
      congr 3
      unfold sprM
      simp
  · rintro H' ⟨s1, hy⟩
    have el : (sprM l p).length = l.length := by unfold sprM; rw [List.length_map, List.length_range]
    rw [← el, List.take_length] at hy
    exact k H' D s1 hD hy
end
end K2

set_option Elab.async false
set_option linter.all false
set_option maxRecDepth 100000
set_option maxHeartbeats 2000000
namespace K2
open PySem PySem.Spec PyProof.Rows L2 G1 G2
/-- a comprehension over enumerate(a list) -/
theorem lc_enum {K : PySem.W.Frag} {a : Addr} {xs : List V} {g : TG} {tt : TT} {te : TE} {vs : List Nat} {σ : L2.St} {H1 : Hp} {D : Addr} {Qd : Hp → Prop} (Pv : Nat → Hp → Prop) (h0 : Pv 0 (upd H1 D (.lst []))) (hl : ∀ i H, Pv i H → SqL K H a xs)
    (hs : ∀ i x T H, xs[i]? = some x → Pv i H → H T = none → g (.ref T) (wipe σ vs) (upd H T (.tup [.int (i : Nat), x])) fun σ2 H2 => wipe σ2 vs = wipe σ vs ∧ tt σ2 H2 fun b H3 =>
      if b = true then te σ2 H3 fun y H4 => ∃ acc, H4 D = some (.lst acc) ∧ acc.length < sizeLine ∧ Pv (i + 1) (upd H4 D (.lst (acc ++ [y]))) else Pv (i + 1) H3) (hd : ∀ H, Pv xs.length H → Qd H) :
    ∃ W : Nat → Nat → Hp → Prop, (∃ m, W 0 m (upd H1 D (.lst []))) ∧ ∀ i m H, W i m H →
      ((Ite K a).stop i H ∧ Qd H) ∨ ((Ite K a).go i H ∧ ∃ Nx : Hp → Prop, (∀ H', Nx H' → ∃ m', m' < m ∧ W (i + 1) m' H') ∧ ∀ x H', (Ite K a).yld i H x H' → g x (wipe σ vs) H' fun σ2 H2 => wipe σ2 vs = wipe σ vs ∧ tt σ2 H2 fun b H3 =>
        if b = true then te σ2 H3 fun y H4 => ∃ acc, H4 D = some (.lst acc) ∧ acc.length < sizeLine ∧ Nx (upd H4 D (.lst (acc ++ [y]))) else Nx H3) := by
  refine ⟨fun i m H => i + m = xs.length ∧ Pv i H, ⟨xs.length, by omega, h0⟩, ?_⟩
  rintro i m H ⟨e, p⟩
  by_cases hm : m = 0
  · subst hm
    have e' : i = xs.length := by omega
    subst e'
    exact .inl ⟨⟨xs, hl _ _ p, Nat.le_refl _⟩, hd _ p⟩
  · have hi : i < xs.length := by omega
    refine .inr ⟨⟨xs, xs[i], hl _ _ p, List.getElem?_eq_getElem hi⟩, Pv (i + 1), fun H' q => ⟨m - 1, by omega, by omega, q⟩, fun x H' y => ?_⟩
    obtain ⟨T, x', rfl, hT, rfl, hx⟩ := y
    exact hs i x' T H (hx xs (hl _ _ p)) p hT
/-! ### the mirror -/
def rowM (p : Nat) (r : Int) : List Int := (List.range p).map fun (w : Nat) => (if r < 1 + (w : Int) then r else 1 + (w : Int)) + 1
def lastsM (p n : Nat) : List Int := (List.range (n + 1)).map fun (r : Nat) => (rowM p (r : Int)).sum
def waysM (lasts : List Int) (n : Nat) (before : List Int) : List Int := (List.range before.length).map fun (t : Nat) => before.getD t 0 * lasts.getD (n - t) 0
def stepM (p n : Nat) (s : Int × List Int) : Int × List Int := (s.1 + (waysM (lastsM p n) n s.2).sum, sprM s.2 (p : Int))
def loopM (p n : Nat) : Nat → Int × List Int → Int × List Int
  | 0, s => s
  | k + 1, s => stepM p n (loopM p n k s)
def startM (n : Nat) : List Int := 1 :: List.replicate (n - 1) 0
def cntM (b p n : Nat) : Int := (loopM p n (b - 1) (1, startM n)).1
theorem spr_len (l : List Int) (p : Int) : (sprM l p).length = l.length := by unfold sprM; rw [List.length_map, List.length_range]
theorem loop_len (p n : Nat) (h : 1 ≤ n) : ∀ k, (loopM p n k (1, startM n)).2.length = n
  | 0 => by show (startM n).length = n; unfold startM; rw [List.length_cons, List.length_replicate]; omega
  | k + 1 => by show (sprM _ _).length = n; rw [spr_len]; exact loop_len p n h k
theorem lasts_small : ∀ p, p < 6 → ∀ n, n < 26 → ((lastsM p n).all fun x => decide (-1000 < x ∧ x < 1000)) = true := by decide +kernel
theorem cnt_small : ∀ q ∈ [(3, 2), (3, 3), (3, 4), (3, 5), (4, 2), (4, 3), (5, 2)], ∀ n, n < 11 → cntM q.1 q.2 n ≤ 2000 := by decide +kernel
end K2

set_option Elab.async false
set_option linter.all false
set_option maxRecDepth 100000
set_option maxHeartbeats 4000000
namespace K2
open PySem PySem.Spec PyProof.Rows L2 G1 G2
abbrev rMul : R2 := rI CMul fun i j => .int (i * j)
def spCnt : Sp := fun vs H Q _ => ∃ b p n : Nat, vs = [.int (b : Int), .int (p : Int), .int (n : Int)] ∧ p < 6 ∧ 1 ≤ n ∧ n < 26 ∧ 1 ≤ b ∧ b < 7 ∧ ∀ H' : Hp, Same H H' → Q (.int (cntM b p n)) H'
abbrev NC : List Str := ["blocks", "pages", "names", "lasts", "written", "room", "before", "many", "used", "total", "ways"]
abbrev teIn : TE := tOp rAdd (tCB rMin2 (tCons (tVar 4) (tCons (tVar 5) tNil))) (tC (.int 1))
abbrev teRow (K : PySem.W.Frag) : TE := tCB (rSum K) (tCons (tLc (iRng2 (tCons (tC (.int 1)) (tCons (tOp rAdd (tVar 1) (tC (.int 1))) tNil))) (gName 4) tYes teIn [4]) tNil)
abbrev teWay (K : PySem.W.Frag) : TE := tOp rMul (tVar 10) (tOp (rIxL K) (tVar 3) (tOp rSub (tVar 2) (tVar 9)))
abbrev scRoom : Scope := { kind := ScopeKind.function, names := [(Str.ofString ".0", NameKind.local), (Str.ofString "room", NameKind.cell), (Str.ofString "sum", NameKind.globalImplicit), (Str.ofString "range", NameKind.globalImplicit), (Str.ofString "pages", NameKind.cell)], isGenerator := false, isCoroutine := false }
theorem grow_map (f : Nat → Int) (m i : Nat) (hi : i < m) : (((List.range m).map f).take (i + 1)).map V.int = (((List.range m).map f).take i).map V.int ++ [V.int (f i)] := by
  rw [List.take_add_one, List.map_append]
  congr 1
  rw [List.getElem?_map, List.getElem?_range hi]
  rfl
theorem row_read {K : PySem.W.Frag} {H : Hp} {Q : VK} {b n : Int} {p : Nat} {r : Int} {x3 x4 x6 x7 x8 x9 x10 : Option V} (hp : p < 6) (k : ∀ H', Same H H' → Q (.int (rowM p r).sum) H') :
    teRow K [some (.int b), some (.int (p : Int)), some (.int n), x3, x4, some (.int r), x6, x7, x8, x9, x10] H Q := by
  refine ⟨_, rfl, _, _, rfl, rfl, 1, (p : Int) + 1, rfl, ⟨by omega, by omega, by omega, by omega⟩, fun D hD => ?_⟩
  have e0 : ((p : Int) + 1 - 1).toNat = p := by omega
  rw [e0]
  refine lc_range (lo := 1) (n := p) (fun i H' => Same H H' ∧ H' D = some (.lst (((rowM p r).take i).map V.int))) ⟨same_lay hD, by rw [upd_same]; rfl⟩ ?_ ?_
  · rintro i H' hi ⟨s1, hy⟩
    refine ⟨rfl, ?_⟩
    unfold tYes
    dsimp only
    rw [if_pos rfl]
    refine ⟨_, rfl, _, rfl, _, _, rfl, _, _, rfl, rfl, ((rowM p r).take i).map V.int, hy, ?_, ?_, ?_⟩
    · rw [List.length_map, List.length_take, sizeLine_eq]; omega
    · exact same_grow hD s1 (Same.refl _)
    · rw [upd_same]
      exact congrArg (fun z => some (HO.lst z)) (grow_map (fun (w : Nat) => (if r < 1 + (w : Int) then r else 1 + (w : Int)) + 1) p i hi).symm
  · rintro H' ⟨s1, hy⟩
    have el : (rowM p r).length = p := by unfold rowM; rw [List.length_map, List.length_range]
    have e1 : (rowM p r).take p = rowM p r := List.take_of_length_le (by omega)
    rw [e1] at hy
    exact ⟨D, rowM p r, rfl, SqL.of hy, k H' s1⟩
theorem lasts_read {K : PySem.W.Frag} {H : Hp} {Q : VK} {b : Int} {p n : Nat} (hp : p < 6) (hn : n < 26) (k : ∀ (H' : Hp) (D : Addr), Same H H' → H' D = some (.lst ((lastsM p n).map V.int)) → Q (.ref D) H') :
    tLc (iRng1 (tCons (tOp rAdd (tVar 2) (tC (.int 1))) tNil)) (gName 5) tYes (teRow K) [5] [some (.int b), some (.int (p : Int)), some (.int (n : Int)), none, none, none, none, none, none, none, none] H Q := by
  refine ⟨_, rfl, _, _, rfl, rfl, (n : Int) + 1, rfl, by omega, by omega, fun D hD => ?_⟩
  have e0 : ((n : Int) + 1).toNat = n + 1 := by omega
  rw [e0]
  refine lc_range (lo := 0) (n := n + 1) (fun i H' => Same H H' ∧ H' D = some (.lst (((lastsM p n).take i).map V.int))) ⟨same_lay hD, by rw [upd_same]; rfl⟩ ?_ ?_
  · rintro i H' hi ⟨s1, hy⟩
    refine ⟨rfl, ?_⟩
    unfold tYes
    dsimp only
    rw [if_pos rfl]
    refine row_read (r := 0 + (i : Int)) hp fun H2 s2 => ⟨((lastsM p n).take i).map V.int, s2 _ _ hy, ?_, ?_, ?_⟩
    · rw [List.length_map, List.length_take, sizeLine_eq]; omega
    · exact same_grow hD s1 s2
    · rw [upd_same]
      rw [Int.zero_add]
      exact congrArg (fun z => some (HO.lst z)) (grow_map (fun (r : Nat) => (rowM p (r : Int)).sum) (n + 1) i hi).symm
  · rintro H' ⟨s1, hy⟩
    have el : (lastsM p n).length = n + 1 := by unfold lastsM; rw [List.length_map, List.length_range]
    have e1 : (lastsM p n).take (n + 1) = lastsM p n := List.take_of_length_le (by omega)
    rw [e1] at hy
    exact k H' D s1 hy
theorem ways_read {K : PySem.W.Frag} {H : Hp} {Q : VK} {b : Int} {p n : Nat} {l B6 : Addr} {bef : List Int} {x4 x5 x7 x8 x9 x10 : Option V} (hp : p < 6) (hn : n < 26) (hl : H l = some (.lst ((lastsM p n).map V.int))) (hb : H B6 = some (.lst (bef.map V.int))) (hlen : bef.length = n)
    (k : ∀ (H' : Hp) (D : Addr), Same H H' → H' D = some (.lst ((waysM (lastsM p n) n bef).map V.int)) → Q (.ref D) H') :
    tLc (iEnum K (tCons (tVar 6) tNil)) (gTup K 2 (gCons (gName 9) (gCons (gName 10) gNil))) tYes (teWay K) [9, 10] [some (.int b), some (.int (p : Int)), some (.int (n : Int)), some (.ref l), x4, x5, some (.ref B6), x7, x8, x9, x10] H Q := by
  refine ⟨_, rfl, B6, _, rfl, SqL.of hb, fun D hD => ?_⟩
  refine lc_enum (K := K) (xs := bef.map V.int) (fun i H' => Same H H' ∧ H' D = some (.lst (((waysM (lastsM p n) n bef).take i).map V.int))) ⟨same_lay hD, by rw [upd_same]; rfl⟩ (fun i H' q => SqL.of (q.1 _ _ hb)) ?_ ?_
  · rintro i x T H' hi ⟨s1, hy⟩ hT
    have hi' : i < bef.length := by
      have z := (List.getElem?_eq_some_iff.mp hi).1
      rwa [List.length_map] at z
    have ex : x = .int (bef.getD i 0) := by
      rw [List.getElem?_map, List.getElem?_eq_getElem hi'] at hi
      rw [List.getD_eq_getElem?_getD, List.getElem?_eq_getElem hi']
      exact (Option.some.inj hi).symm
    subst ex
    refine ⟨T, _, rfl, SqT.of upd_same, rfl, _, _, rfl, _, _, rfl, rfl, rfl, ?_⟩
    unfold tYes
    dsimp only
    rw [if_pos rfl]
    have hj : n - i < (lastsM p n).length := by unfold lastsM; rw [List.length_map, List.length_range]; omega
    have sT : Same H' (upd H' T (.tup [.int (i : Nat), .int (bef.getD i 0)])) := same_lay hT
    have hv : -1000 < (lastsM p n).getD (n - i) 0 ∧ (lastsM p n).getD (n - i) 0 < 1000 := by
      have z := lasts_small p hp n hn
      rw [List.all_eq_true] at z
      have q := z ((lastsM p n).getD (n - i) 0) (by rw [List.getD_eq_getElem?_getD, List.getElem?_eq_getElem hj]; exact List.getElem_mem _)
      exact of_decide_eq_true q
    refine ⟨_, rfl, _, rfl, _, rfl, _, rfl, _, _, rfl, rfl, l, _, _, .int ((lastsM p n).getD (n - i) 0), rfl, rfl, SqL.of (sT _ _ (s1 _ _ hl)), ?_, _, _, rfl, rfl, .inr ⟨by omega, by omega⟩, ?_⟩
    · have e2 : (n : Int) - ((i : Nat) : Int) = ((n - i : Nat) : Int) := by omega
      show atI _ ((n : Int) - ((i : Nat) : Int)) = _
      rw [e2]
      refine atI_nat ?_
      rw [List.getElem?_map, List.getElem?_eq_getElem hj, List.getD_eq_getElem?_getD, List.getElem?_eq_getElem hj]
      rfl
    refine ⟨((waysM (lastsM p n) n bef).take i).map V.int, sT _ _ hy, ?_, ?_, ?_⟩
    · rw [List.length_map, List.length_take, sizeLine_eq]; omega
    · exact same_grow hD s1 sT
    · rw [upd_same]
      exact congrArg (fun z => some (HO.lst z)) (grow_map (fun (t : Nat) => bef.getD t 0 * (lastsM p n).getD (n - t) 0) bef.length i hi').symm
  · rintro H' ⟨s1, hy⟩
    have el : (waysM (lastsM p n) n bef).length = (bef.map V.int).length := by unfold waysM; rw [List.length_map, List.length_range, List.length_map]
    rw [← el, List.take_length] at hy
    exact k H' D s1 hy
section
variable {P : Program} {w : World} {K : PySem.W.Frag} {mg : Str → Option Value} {base : Heap}
theorem ok_cnt {f fS : Addr} {fd fdS : FuncData} (F : Fun K "count_stands" "count_stands" sCnt f fd) (B : Bl mg) (GS : FnOk P w K mg base CX0 1 fS fdS ["before", "pages"] (spSpr K)) (kS : PySem.W.keepIn K (.ref fS) = true) (bS : Binds K fdS ["before", "pages"] []) (gS : mg "spread" = some (.ref fS)) :
    FnOk P w K mg base CX0 2 f fd ["blocks", "pages", "names"] spCnt := by
  refine F.ok scCnt (fun vs H Q E h => ?_) (fun cdv A outer s H vs Q E hr h => ?_)
  · obtain ⟨b, p, n, rfl, _⟩ := h
    rfl
  obtain ⟨b, p, n, rfl, hp, hn1, hn2, hb1, hb2, k⟩ := h
  refine ⟨_, pss_cons (ps_set (i := 3) scCnt.nd rfl (.inr rfl) (pe_lc (own := [("room", 5)]) (g := gName 5) (tt := tYes) (te := teRow K) rfl scCnt.nd
      (pi_range1 (by rfl) B.range (pa_cons (pe_op op_add (pv 2) pe_int) pa_nil)) (blkOk_by (own := [("room", 5)]) (N := NC) (sc := defScope sCnt) (by decide +kernel))
      (fun _ _ _ _ _ => pg_name (i := 5) scCnt.nd rfl (Or.inr rfl)) (fun _ _ _ _ _ => pts_nil)
      (fun _ _ _ _ _ => pe_callB (cr_sum rfl) (by rfl) B.sum bSum (pa_cons (pe_lc (own := [("written", 4)]) (g := gName 4) (tt := tYes) (te := teIn) rfl scCnt.nd
        (pi_range2 (by rfl) B.range (pa_cons pe_int (pa_cons (pe_op op_add (pv 1) pe_int) pa_nil))) (blkOk_by (own := [("written", 4)]) (N := NC) (sc := scRoom) (by decide +kernel))
        (fun _ _ _ _ _ => pg_name (i := 4) scCnt.nd rfl (Or.inl rfl)) (fun _ _ _ _ _ => pts_nil)
        (fun _ _ _ _ _ => pe_op op_add (pe_callB (call_min2 rfl) (by rfl) B.min bMin (pa_cons (pv 4) (pa_cons (pv 5) pa_nil))) pe_int)) pa_nil))))
    (pss_cons (ps_set (i := 6) scCnt.nd rfl (.inl rfl) (pe_op op_cat (pe_lst (pa_cons pe_int pa_nil)) (pe_op op_rep (pe_lst (pa_cons pe_int pa_nil)) (pe_op op_sub (pv 2) pe_int))))
    (pss_cons (ps_set (i := 7) scCnt.nd rfl (.inl rfl) pe_int)
    (pss_cons (ps_for PassesOwn.never rfl (pi_range2 (by rfl) B.range (pa_cons pe_int (pa_cons (pv 0) pa_nil))) (pg_name (i := 8) scCnt.nd rfl (.inl rfl))
      (pss_cons (ps_aug (i := 7) scCnt.nd rfl (.inl rfl) (pe_callB (cr_sum rfl) (by rfl) B.sum bSum (pa_cons (pe_lc (own := [("total", 9), ("ways", 10)]) (g := gTup K 2 (gCons (gName 9) (gCons (gName 10) gNil))) (tt := tYes) (te := teWay K) rfl scCnt.nd
          (pi_enum (by rfl) B.enm (pa_cons (pv 6) pa_nil)) (blkOk_by (own := [("total", 9), ("ways", 10)]) (N := NC) (sc := defScope sCnt) (by decide +kernel))
          (fun _ _ _ _ _ => pg_tup rfl (pgs_cons (pg_name (i := 9) scCnt.nd rfl (Or.inl rfl)) (pgs_cons (pg_name (i := 10) scCnt.nd rfl (Or.inl rfl)) pgs_nil))) (fun _ _ _ _ _ => pts_nil)
          (fun _ _ _ _ _ => pe_op op_mul (pv 10) (pe_ix ix_list (pv 3) (pe_op op_sub (pv 2) (pv 9)) (fun _ _ => rfl)))) pa_nil)) ip_add)
      (pss_one (ps_set (i := 6) scCnt.nd rfl (.inl rfl) (pe_call GS hr (by rfl) gS kS bS .nil pass0 (pa_cons (pv 6) (pa_cons (pv 1) pa_nil)))))))
    (pss_one (ps_ret (pv 7)))))), ?_⟩
  refine seq_asg (lasts_read (K := K) hp hn2 fun H1 l s1 hl => ?_)
  refine seq_asg ?_
  refine ⟨by show 1 ≤ sizeLine; decide, fun q1 h1 => ⟨by show 1 ≤ sizeLine; decide, fun q2 h2 => ⟨_, rfl, _, _, rfl, rfl, q2, (n : Int) - 1, _, rfl, rfl, upd_same, by omega, by omega, ?_, fun q3 h3 => ?_⟩⟩⟩
  · show 1 * ((n : Int) - 1).toNat ≤ sizeLine
    rw [sizeLine_eq]; omega
  have s2 := s1.trans ((same_lay (o := .lst [.int 1]) h1).trans ((same_lay (o := .lst [.int 0]) h2).trans (same_lay (o := .lst (List.replicate ((n : Int) - 1).toNat [V.int 0]).flatten) h3)))
  have hl2 := ((same_lay (o := .lst [.int 1]) h1).trans ((same_lay (o := .lst [.int 0]) h2).trans (same_lay (o := .lst (List.replicate ((n : Int) - 1).toNat [V.int 0]).flatten) h3))) _ _ hl
  have hq1 := ((same_lay (o := .lst [.int 0]) h2).trans (same_lay (o := .lst (List.replicate ((n : Int) - 1).toNat [V.int 0]).flatten) h3)) q1 _ upd_same
  have hq3 : (upd (upd (upd H1 q1 (.lst [.int 1])) q2 (.lst [.int 0])) q3 (.lst (List.replicate ((n : Int) - 1).toNat [V.int 0]).flatten)) q3 = some (.lst ((List.replicate (n - 1) (0 : Int)).map V.int)) := by
    rw [upd_same]
    have e1 : ((n : Int) - 1).toNat = n - 1 := by omega
    rw [e1, List.map_replicate]
    congr 2
    generalize n - 1 = m
    induction m with
    | zero => rfl
    | succ m ih => rw [List.replicate_succ, List.flatten_cons, ih, List.replicate_succ]; rfl
  generalize upd (upd (upd H1 q1 (.lst [.int 1])) q2 (.lst [.int 0])) q3 (.lst (List.replicate ((n : Int) - 1).toNat [V.int 0]).flatten) = H3 at s2 hl2 hq1 hq3 ⊢
  refine ⟨q1, q3, _, _, rfl, rfl, hq1, hq3, ?_, fun B6 h6 => ?_⟩
  · rw [List.length_map, List.length_replicate, sizeLine_eq]
    show 1 + (n - 1) ≤ _
    omega
  refine seq_asg ?_
  refine c_read ?_
  refine seq_for fun D' hD1 hD2 => ?_
  refine ⟨_, rfl, 1, (b : Int), rfl, ⟨by omega, by omega, by omega, by omega⟩, ?_⟩
  have e0 : ((b : Int) - 1).toNat = b - 1 := by omega
  rw [e0]
  refine for_range (lo := 1) (n := b - 1) (fun i σ H' => ∃ (B : Addr) (x8 : Option V), σ = [some (.int (b : Int)), some (.int (p : Int)), some (.int (n : Int)), some (.ref l), none, none, some (.ref B), some (.int (loopM p n i (1, startM n)).1), x8, none, none] ∧ Same H H' ∧
      H' l = some (.lst ((lastsM p n).map V.int)) ∧ H' B = some (.lst ((loopM p n i (1, startM n)).2.map V.int))) ⟨B6, none, rfl, s2.trans (same_lay h6), same_lay h6 _ _ hl2, by rw [upd_same]; rfl⟩ ?_ ?_
  · rintro i σ H' hi ⟨B, x8, rfl, s3, hl3, hB⟩
    refine seq_aug ⟨_, rfl, ?_⟩
    refine cb_read (cons_read ?_)
    refine ways_read (K := K) hp hn2 hl3 hB (loop_len p n hn1 i) fun H4 D4 s4 h4 => ⟨D4, _, rfl, SqL.of h4, _, _, rfl, rfl, ?_⟩
    refine asg_read (call_read (cons_read ⟨_, rfl, cons_read ⟨_, rfl, ?_⟩⟩))
    refine ⟨B, (loopM p n i (1, startM n)).2, (p : Int), rfl, SqL.of (s4 _ _ hB), by rw [loop_len p n hn1 i]; omega, fun H5 q5 s5 n5 h5 => ?_⟩
    exact ⟨q5, _, rfl, s3.trans (s4.trans s5), s5 _ _ (s4 _ _ hl3), h5⟩
  · rintro σ H' ⟨B, x8, rfl, s3, hl3, hB⟩
    rw [hD1]
    exact ⟨_, rfl, k H' s3⟩
end
end K2

set_option Elab.async false
set_option linter.all false
set_option maxRecDepth 100000
set_option maxHeartbeats 4000000
namespace K2
open PySem PySem.Spec PyProof.Rows L2 G1 G2
abbrev sIsI : Stmt := topS 20
abbrev sWit : Stmt := topS 21
abbrev sRow : Stmt := topS 32
abbrev sChk : Stmt := topS 33
abbrev sSiz : Stmt := topS 44
theorem scIsI : FnScope ["value"] ["value"] (defScope sIsI) := ⟨rfl, rfl, rfl, by decide +kernel, rfl, by decide +kernel, by decide +kernel⟩
theorem scWit : FnScope ["value", "least", "most"] ["value", "least", "most"] (defScope sWit) := ⟨rfl, rfl, rfl, by decide +kernel, rfl, by decide +kernel, by decide +kernel⟩
theorem scRow : FnScope ["value", "pages", "limit", "word"] ["value", "pages"] (defScope sRow) := ⟨rfl, rfl, rfl, by decide +kernel, rfl, by decide +kernel, by decide +kernel⟩
theorem scChk : FnScope ["rows", "pages", "index", "row", "last"] ["rows", "pages"] (defScope sChk) := ⟨rfl, rfl, rfl, by decide +kernel, rfl, by decide +kernel, by decide +kernel⟩
theorem scSiz : FnScope ["blocks", "pages", "names"] ["blocks", "pages", "names"] (defScope sSiz) := ⟨rfl, rfl, rfl, by decide +kernel, rfl, by decide +kernel, by decide +kernel⟩
theorem bIsi : bootBuiltins "isinstance" = some (.builtin "isinstance") := by decide +kernel
theorem bBool : bootBuiltins "bool" = some (.type "bool") := by decide +kernel
theorem bTup : bootBuiltins "tuple" = some (.type "tuple") := by decide +kernel
theorem bStr : bootBuiltins "str" = some (.type "str") := by decide +kernel
theorem nx_read {D : Ends} {σ : L2.St} {H : Hp} (h : D.nx σ H) : tNext D σ H := h
theorem paired_get {α β : Type} {F : α → β → Prop} : ∀ {l₁ : List α} {l₂ : List β}, Paired F l₁ l₂ → ∀ {i : Nat} {a : α}, l₁[i]? = some a → ∃ b, l₂[i]? = some b ∧ F a b
  | _, _, .nil, i, a, h => by simp at h
  | _, _, .cons r t, 0, a, h => by
    simp at h
    subst h
    exact ⟨_, rfl, r⟩
  | _, _, .cons r t, i + 1, a, h => paired_get t (i := i) (by simpa using h)
/-! ### rows -/
abbrev RowD := Int × Str
def wordsL : List Str := ["oldest", "youngest", "least", "most"]
/-- a row of a drive with p pages -/
def RowOk (p : Nat) (r : RowD) : Prop := 0 ≤ r.1 ∧ r.1 ≤ (p : Int) ∧ r.2 ∈ wordsL
theorem Same.tup {K : PySem.W.Frag} {H H' : Hp} {a : Addr} {xs : List V} (e : Same H H') (h : SqT K H a xs) : SqT K H' a xs :=
  h.elim (fun h => .inl (h.elim (fun h => .inl (e _ _ h)) fun ⟨o, h⟩ => .inr ⟨o, e _ _ h⟩)) fun h => .inr h
/-- the tuple at t holds these rows -/
def RowsAt (K : PySem.W.Frag) (H : Hp) (t : Addr) (rows : List RowD) : Prop := ∃ rs : List Addr, SqT K H t (rs.map V.ref) ∧ Paired (fun (a : Addr) (r : RowD) => SqT K H a [.int r.1, .str r.2]) rs rows
theorem RowsAt.same {K : PySem.W.Frag} {H H' : Hp} {t : Addr} {rows : List RowD} (h : RowsAt K H t rows) (e : Same H H') : RowsAt K H' t rows := by
  obtain ⟨rs, h1, h2⟩ := h
  exact ⟨rs, K2.Same.tup e h1, Paired.mapP h2 fun _ _ z => K2.Same.tup e z⟩
/-! ### promises -/
def spIsI : Sp := fun vs H Q _ => ∃ i : Int, vs = [.int i] ∧ Q (.bl true) H
def spWit : Sp := fun vs H Q _ => ∃ v lo hi : Int, vs = [.int v, .int lo, .int hi] ∧ lo ≤ v ∧ v ≤ hi ∧ Q (.bl true) H
section
variable {P : Program} {w : World} {K : PySem.W.Frag} {mg : Str → Option Value} {base : Heap}
theorem ok_isI {f : Addr} {fd : FuncData} (F : Fun K "is_integer" "is_integer" sIsI f fd) (B : Bl mg) : FnOk P w K mg base CX0 1 f fd ["value"] spIsI := by
  refine F.ok scIsI (fun vs H Q E h => ?_) (fun cdv A outer s H vs Q E hr h => ?_)
  · obtain ⟨i, rfl, _⟩ := h
    rfl
  obtain ⟨i, rfl, k⟩ := h
  refine ⟨_, pss_one (ps_ret (pe_and (pe_callB call_isi (by rfl) B.isi bIsi (pa_cons (pv 0) (pa_cons (pe_bltn (v := .ty "int") (by rfl) B.int bInt rfl) pa_nil)))
    (pe_one (pe_not (pe_callB call_isi (by rfl) B.isi bIsi (pa_cons (pv 0) (pa_cons (pe_bltn (v := .ty "bool") (by rfl) B.boo bBool rfl) pa_nil))))))), ?_⟩
  refine ⟨_, rfl, _, _, _, _, true, rfl, .ty _, .base (.int i), kit_ty (by decide +kernel), true, rfl, iteT ?_⟩
  exact ⟨_, rfl, _, _, _, _, false, rfl, .ty _, .base (.int i), kit_ty (by decide +kernel), false, rfl, k⟩
theorem ok_wit {f fI : Addr} {fd fdI : FuncData} (F : Fun K "is_within" "is_within" sWit f fd) (GI : FnOk P w K mg base CX0 1 fI fdI ["value"] spIsI) (kI : PySem.W.keepIn K (.ref fI) = true) (bI : Binds K fdI ["value"] []) (gI : mg "is_integer" = some (.ref fI)) :
    FnOk P w K mg base CX0 2 f fd ["value", "least", "most"] spWit := by
  refine F.ok scWit (fun vs H Q E h => ?_) (fun cdv A outer s H vs Q E hr h => ?_)
  · obtain ⟨v, lo, hi, rfl, _⟩ := h
    rfl
  obtain ⟨v, lo, hi, rfl, h1, h2, k⟩ := h
  refine ⟨_, pss_one (ps_ret (pe_and (pe_call GI hr (by rfl) gI kI bI .nil pass0 (pa_cons (pv 0) pa_nil)) (pe_one (pe_chain op_le op_le (pv 1) (pv 0) (pv 2))))), ?_⟩
  refine ⟨_, rfl, v, rfl, true, rfl, iteT ?_⟩
  refine ⟨_, rfl, _, rfl, _, _, rfl, rfl, _, rfl, ?_⟩
  rw [decide_eq_true h1]
  refine iteT ⟨_, rfl, _, _, rfl, rfl, ?_⟩
  show Q (.bl (decide (v ≤ hi))) H
  rw [decide_eq_true h2]
  exact k
def WordsAt (K : PySem.W.Frag) (aW : Addr) : Prop := ∀ H : Hp, SqT K H aW (wordsL.map V.str)
def spRow (K : PySem.W.Frag) : Sp := fun vs H Q _ => ∃ (a : Addr) (p : Nat) (r : RowD), vs = [.ref a, .int (p : Int)] ∧ SqT K H a [.int r.1, .str r.2] ∧ RowOk p r ∧ Q (.bl true) H
def spChk (K : PySem.W.Frag) : Sp := fun vs H Q _ => ∃ (t : Addr) (p : Nat) (rows : List RowD), vs = [.ref t, .int (p : Int)] ∧ RowsAt K H t rows ∧ (∀ r ∈ rows, RowOk p r) ∧ rows.length ≤ 4 ∧ (∃ x y, rows = x ++ [((p : Int), y)]) ∧ ∀ H' : Hp, Same H H' → Q .non H'
theorem tup_ty {K : PySem.W.Frag} {H : Hp} {a : Addr} {xs : List V} (h : SqT K H a xs) : TyX K H (.ref a) (.type "tuple") := by
  rcases h with (h | ⟨o, h⟩) | ⟨o, its, n, hk, hc, _⟩
  · exact .base (.tup h)
  · exact .fTuple h
  · exact .kTuple hk hc
theorem inW : ∀ w ∈ wordsL, flatV (.str w) = true ∧ inV (.str w) (wordsL.map V.str) = true := by decide +kernel
theorem flatW : (wordsL.map V.str).all flatV = true := by decide +kernel
theorem ok_row {f fI aW : Addr} {fd fdI : FuncData} (F : Fun K "is_row" "is_row" sRow f fd) (B : Bl mg) (GI : FnOk P w K mg base CX0 2 fI fdI ["value", "least", "most"] spWit) (kI : PySem.W.keepIn K (.ref fI) = true) (bI : Binds K fdI ["value", "least", "most"] []) (gI : mg "is_within" = some (.ref fI))
    (gW : mg "WORDS" = some (.ref aW)) (hW : WordsAt K aW) : FnOk P w K mg base CX0 3 f fd ["value", "pages"] (spRow K) := by
  refine F.ok scRow (fun vs H Q E h => ?_) (fun cdv A outer s H vs Q E hr h => ?_)
  · obtain ⟨a, p, r, rfl, _⟩ := h
    rfl
  obtain ⟨a, p, ⟨l, x⟩, rfl, hT, ⟨h1, h2, h3⟩, k⟩ := h
  refine ⟨_, pss_cons (ps_if (PW.pt (pw_or (pt_not (pt_val (pe_callB call_isi (by rfl) B.isi bIsi (pa_cons (pv 0) (pa_cons (pe_bltn (v := .ty "tuple") (by rfl) B.tup bTup rfl) pa_nil)))))
      (pw_or1 (pt_cmpR op_ne (pe_callB call_len_seq (by rfl) B.len PySem.boot_len (pa_cons (pv 0) pa_nil)) pe_int (nomark _))))) (pss_one (ps_ret pe_bl)) pss_nil)
    (pss_cons (ps_asg (pv 0) (pg_tup rfl (pgs_cons (pg_name (i := 2) scRow.nd rfl (.inl rfl)) (pgs_cons (pg_name (i := 3) scRow.nd rfl (.inl rfl)) pgs_nil))))
    (pss_one (ps_ret (pe_and (pe_call GI hr (by rfl) gI kI bI .nil pass0 (pa_cons (pv 2) (pa_cons pe_int (pa_cons (pv 1) pa_nil))))
      (pe_and (pe_callB call_isi (by rfl) B.isi bIsi (pa_cons (pv 3) (pa_cons (pe_bltn (v := .ty "str") (by rfl) B.str bStr rfl) pa_nil)))
      (pe_one (pe_cmpR op_in_seq (pv 3) (pe_glob (v := .ref aW) rfl gW rfl) (by rfl)))))))), ?_⟩
  refine ⟨_, rfl, _, _, _, _, true, rfl, .ty _, tup_ty hT, kit_ty (by decide +kernel), true, rfl, iteF ?_⟩
  refine ⟨_, rfl, a, _, rfl, .inr hT, rfl, _, rfl, iteF ?_⟩
  refine ⟨_, rfl, a, _, rfl, hT, rfl, _, _, rfl, _, _, rfl, rfl, ?_⟩
  refine ⟨_, rfl, _, rfl, l, 0, (p : Int), rfl, h1, h2, true, rfl, iteT ?_⟩
  refine ⟨_, rfl, _, _, _, _, true, rfl, .ty _, .base (.str x), kit_ty (by decide +kernel), true, rfl, iteT ?_⟩
  refine ⟨_, rfl, aW, _, rfl, .inr (hW H), (inW x h3).1, flatW, ?_⟩
  show Q (.bl (inV (.str x) (wordsL.map V.str))) H
  rw [(inW x h3).2]
  exact k
theorem ok_chk {f fI : Addr} {fd fdI : FuncData} (F : Fun K "check_rows" "check_rows" sChk f fd) (B : Bl mg) (GI : FnOk P w K mg base CX0 3 fI fdI ["value", "pages"] (spRow K)) (kI : PySem.W.keepIn K (.ref fI) = true) (bI : Binds K fdI ["value", "pages"] []) (gI : mg "is_row" = some (.ref fI))
    (gM : ∃ t, mg "MOST_ROWS" = some (.int 4 t)) : FnOk P w K mg base CX0 4 f fd ["rows", "pages"] (spChk K) := by
  refine F.ok scChk (fun vs H Q E h => ?_) (fun cdv A outer s H vs Q E hr h => ?_)
  · obtain ⟨a, p, r, rfl, _⟩ := h
    rfl
  obtain ⟨t, p, rows, rfl, ⟨rs, hT, hP⟩, hok, h4, ⟨ini, y, e⟩, k⟩ := h
  obtain ⟨tM, cM⟩ := gM
  refine ⟨_, pss_cons (ps_if (PW.pt (pw_or (pt_not (pt_val (pe_callB call_isi (by rfl) B.isi bIsi (pa_cons (pv 0) (pa_cons (pe_bltn (v := .ty "tuple") (by rfl) B.tup bTup rfl) pa_nil)))))
      (pw_or1 (pt_not (pt_truth (pv 0) (by intro _; rfl)))))) (pss_one ps_never) pss_nil)
    (pss_cons (ps_for PassesOwn.never rfl (pi_enumT (by rfl) B.enm (pa_cons (pv 0) pa_nil)) (pg_tup rfl (pgs_cons (pg_name (i := 2) scChk.nd rfl (.inl rfl)) (pgs_cons (pg_name (i := 3) scChk.nd rfl (.inl rfl)) pgs_nil)))
      (pss_one (ps_if (PW.pt (pw_or (pt_cmpR op_eq (pv 2) (pe_glob (v := .int 4) rfl cM ⟨_, rfl⟩) (nomark _)) (pw_or1 (pt_not (pt_val (pe_call GI hr (by rfl) gI kI bI .nil pass0 (pa_cons (pv 3) (pa_cons (pv 1) pa_nil)))))))) (pss_one ps_never) pss_nil)))
    (pss_cons (ps_set (i := 4) scChk.nd rfl (.inl rfl) (pe_op op_sub (pe_callB call_len_seq (by rfl) B.len PySem.boot_len (pa_cons (pv 0) pa_nil)) pe_int))
    (pss_one (ps_if (pt_cmpR op_ne (pe_ix ix_tup (pe_ix ix_tup (pv 0) (pv 4) (fun _ _ => rfl)) pe_int (fun _ _ => rfl)) (pv 1) (nomark _)) (pss_one ps_never) pss_nil)))), ?_⟩
  have hlen : rs.length = rows.length := Paired.length hP
  have hne : rs.map V.ref ≠ [] := by
    intro z
    have : rows.length = 0 := by rw [← hlen, ← List.length_map (f := V.ref), z]; rfl
    rw [e] at this
    simp at this
  refine ⟨_, rfl, _, _, _, _, true, rfl, .ty _, tup_ty hT, kit_ty (by decide +kernel), true, rfl, iteF ?_⟩
  refine ⟨_, rfl, true, .inr (.inl ⟨_, hT, ?_⟩), iteF ?_⟩
  · cases hq : rs.map V.ref with
    | nil => exact absurd hq hne
    | cons _ _ => rfl
  unfold tNext
  dsimp only
  refine seq_for fun D' hD1 hD2 => ?_
  refine ⟨_, rfl, t, _, rfl, hT, ?_⟩
  refine for_enumT (K := K) (xs := rs.map V.ref) (fun i σ H' => ∃ x2 x3, σ = [some (.ref t), some (.int (p : Int)), x2, x3, none] ∧ Same H H') ⟨none, none, rfl, Same.refl _⟩ (fun i σ H' q => ?_) ?_ ?_
  · obtain ⟨_, _, _, s1⟩ := q
    exact K2.Same.tup s1 hT
  · rintro i x T σ H' hi ⟨x2, x3, rfl, s1⟩ hN
    rw [List.getElem?_map] at hi
    obtain ⟨a, ha, rfl⟩ : ∃ a, rs[i]? = some a ∧ V.ref a = x := by
      cases hq : rs[i]? with
      | none => rw [hq] at hi; cases hi
      | some a => rw [hq] at hi; exact ⟨a, rfl, Option.some.inj hi⟩
    have hi4 : i < 4 := by
      have z := (List.getElem?_eq_some_iff.mp ha).1
      omega
    obtain ⟨r, hr1, hr2⟩ := paired_get hP ha
    have s2 : Same H (upd H' T (.tup [.int (i : Nat), .ref a])) := s1.trans (same_lay hN)
    refine ⟨T, _, rfl, SqT.of upd_same, rfl, _, _, rfl, _, _, rfl, rfl, ?_⟩
    refine ⟨_, rfl, rfl, _, rfl, ?_⟩
    have ne4 : decide (V.int (i : Nat) = V.int 4) = false := decide_eq_false (fun z => by injection z with z; omega)
    show (if decide (V.int ((i : Nat) : Int) = V.int 4) = true then _ else _)
    rw [ne4]
    refine iteF ⟨_, rfl, _, rfl, a, p, r, rfl, K2.Same.tup s2 hr2, hok r (List.mem_of_getElem? hr1), true, rfl, ?_⟩
    exact iteF ⟨_, _, rfl, s2⟩
  · rintro σ H' ⟨x2, x3, rfl, s1⟩
    rw [hD1]
    refine ⟨_, rfl, t, _, rfl, .inr (K2.Same.tup s1 hT), _, _, rfl, rfl, ?_⟩
    have hl : rs.length = ini.length + 1 := by rw [hlen, e, List.length_append]; rfl
    obtain ⟨a, ha⟩ : ∃ a, rs[ini.length]? = some a := ⟨rs[ini.length], List.getElem?_eq_getElem (by omega)⟩
    obtain ⟨r, hr1, hr2⟩ := paired_get hP ha
    have er : r = ((p : Int), y) := by
      rw [e, List.getElem?_append_right (Nat.le_refl _), Nat.sub_self] at hr1
      exact (Option.some.inj hr1).symm
    subst er
    refine ⟨_, rfl, _, rfl, t, _, _, .ref a, rfl, rfl, K2.Same.tup s1 hT, ?_, a, _, _, .int (p : Int), rfl, rfl, K2.Same.tup s1 hr2, rfl, _, rfl, rfl, _, rfl, ?_⟩
    · have e2 : (((rs.map V.ref).length : Nat) : Int) - 1 = ((ini.length : Nat) : Int) := by rw [List.length_map]; omega
      show atI _ ((((rs.map V.ref).length : Nat) : Int) - 1) = _
      rw [e2]
      exact atI_nat (by rw [List.getElem?_map, ha]; rfl)
    · have z : (!decide (V.int (p : Int) = V.int (p : Int))) = false := by rw [decide_eq_true rfl]; rfl
      show (if (!decide (V.int (p : Int) = V.int (p : Int))) = true then _ else _)
      rw [z]
      exact iteF (k H' s1)
end
end K2

set_option Elab.async false
set_option linter.all false
set_option maxRecDepth 100000
set_option maxHeartbeats 4000000
namespace K2
open PySem PySem.Spec PyProof.Rows L2 G1 G2
abbrev sTxt : Stmt := topS 39
theorem scTxt : FnScope ["blocks", "pages", "names", "rows", "lines", "limit", "word"] ["blocks", "pages", "names", "rows"] (defScope sTxt) := ⟨rfl, rfl, rfl, by decide +kernel, rfl, by decide +kernel, by decide +kernel⟩
structure Cn (mg : Str → Option Value) : Prop where
  lb : ∃ t, mg "LEAST_BLOCKS" = some (.int 3 t)
  mb : ∃ t, mg "MOST_BLOCKS" = some (.int 6 t)
  lp : ∃ t, mg "LEAST_PAGES" = some (.int 2 t)
  mp : ∃ t, mg "MOST_PAGES" = some (.int 5 t)
  mr : ∃ t, mg "MOST_ROWS" = some (.int 4 t)
  ms : ∃ t, mg "MOST_STANDS" = some (.int 2000 t)
  wh : ∃ t, mg "WORDS_OF_HEAD" = some (.int 7 t)
  md : ∃ t, mg "MOST_DIGITS" = some (.int 2 t)
/-- sizes of a drive -/
structure Sz (b p n : Nat) : Prop where
  b0 : 3 ≤ b
  b1 : b ≤ 6
  p0 : 2 ≤ p
  p1 : p ≤ 5
  n0 : 1 ≤ n
  n1 : n ≤ p * (b - 1)
theorem Sz.n25 {b p n : Nat} (h : Sz b p n) : n < 26 := by
  have z : p * (b - 1) ≤ 5 * 5 := Nat.mul_le_mul h.p1 (by have := h.b1; omega)
  have := h.n1
  omega
def spSiz : Sp := fun vs H Q _ => ∃ b p n : Nat, vs = [.int (b : Int), .int (p : Int), .int (n : Int)] ∧ Sz b p n ∧ Q .non H
/-! ### the mirror of the text -/
def numS (i : Int) : Str := toString i
def headM (b p n : Int) : Str := ((((((Str.empty ++ ("drive " : Str)) ++ numS b) ++ (" blocks " : Str)) ++ numS p) ++ (" pages " : Str)) ++ numS n) ++ (" names" : Str)
def lineM (r : RowD) : Str := (((Str.empty ++ ("at most " : Str)) ++ numS r.1) ++ (": " : Str)) ++ r.2
def anyM (w : Str) : Str := ("any: " : Str) ++ w
def linesM (b p n : Int) (ini : List RowD) (w : Str) : List Str := headM b p n :: (ini.map lineM ++ [anyM w])
def textM (b p n : Int) (ini : List RowD) (w : Str) : Str := Txt.join ("\n" : Str) (linesM b p n ini w)
section
variable {P : Program} {w : World} {K : PySem.W.Frag} {mg : Str → Option Value} {base : Heap}
theorem ok_siz {f fI : Addr} {fd fdI : FuncData} (F : Fun K "check_sizes" "check_sizes" sSiz f fd) (C : Cn mg) (GI : FnOk P w K mg base CX0 2 fI fdI ["value", "least", "most"] spWit) (kI : PySem.W.keepIn K (.ref fI) = true) (bI : Binds K fdI ["value", "least", "most"] []) (gI : mg "is_within" = some (.ref fI)) :
    FnOk P w K mg base CX0 3 f fd ["blocks", "pages", "names"] spSiz := by
  refine F.ok scSiz (fun vs H Q E h => ?_) (fun cdv A outer s H vs Q E hr h => ?_)
  · obtain ⟨a, p, r, rfl, _⟩ := h
    rfl
  obtain ⟨b, p, n, rfl, hz, k⟩ := h
  obtain ⟨t1, c1⟩ := C.lb
  obtain ⟨t2, c2⟩ := C.mb
  obtain ⟨t3, c3⟩ := C.lp
  obtain ⟨t4, c4⟩ := C.mp
  have b0 := hz.b0
  have b1 := hz.b1
  have p0 := hz.p0
  have p1 := hz.p1
  have n0 := hz.n0
  have n1 : (n : Int) ≤ (p : Int) * ((b : Int) - 1) := by
    have z := hz.n1
    have e : ((p * (b - 1) : Nat) : Int) = (p : Int) * ((b : Int) - 1) := by
      rw [Int.natCast_mul, Int.natCast_sub (by omega)]; rfl
    omega
  refine ⟨_, pss_cons (ps_if (pt_not (pt_val (pe_call GI hr (by rfl) gI kI bI .nil pass0 (pa_cons (pv 0) (pa_cons (pe_glob (v := .int 3) rfl c1 ⟨_, rfl⟩) (pa_cons (pe_glob (v := .int 6) rfl c2 ⟨_, rfl⟩) pa_nil)))))) (pss_one ps_never) pss_nil)
    (pss_cons (ps_if (pt_not (pt_val (pe_call GI hr (by rfl) gI kI bI .nil pass0 (pa_cons (pv 1) (pa_cons (pe_glob (v := .int 2) rfl c3 ⟨_, rfl⟩) (pa_cons (pe_glob (v := .int 5) rfl c4 ⟨_, rfl⟩) pa_nil)))))) (pss_one ps_never) pss_nil)
    (pss_one (ps_if (pt_not (pt_val (pe_call GI hr (by rfl) gI kI bI .nil pass0 (pa_cons (pv 2) (pa_cons pe_int (pa_cons (pe_op op_mul (pv 1) (pe_op op_sub (pv 0) pe_int)) pa_nil)))))) (pss_one ps_never) pss_nil))), ?_⟩
  refine ⟨_, rfl, (b : Int), 3, 6, rfl, by omega, by omega, true, rfl, iteF ?_⟩
  refine ⟨_, rfl, (p : Int), 2, 5, rfl, by omega, by omega, true, rfl, iteF ?_⟩
  exact ⟨_, rfl, _, rfl, _, rfl, _, _, rfl, rfl, _, _, rfl, rfl, .inl ⟨by omega, by omega⟩, (n : Int), 1, _, rfl, by omega, n1, true, rfl, iteF k⟩
end
end K2

set_option Elab.async false
set_option linter.all false
set_option maxRecDepth 100000
set_option maxHeartbeats 4000000
namespace K2
open PySem PySem.Spec PyProof.Rows L2 G1 G2
theorem num_len : ∀ i : Nat, i < 26 → (numS (i : Int)).length ≤ 2 := by decide +kernel
theorem word_len : ∀ w ∈ wordsL, w.length ≤ 8 := by decide +kernel
theorem log_small (i : Nat) (h : i < 26) : (i : Int).natAbs.log2 < 1920 := by
  have z : ∀ j : Nat, j < 26 → (j : Int).natAbs.log2 < 1920 := by decide +kernel
  exact z i h
theorem small_line {k : Nat} (h : k ≤ 1000) : k ≤ sizeLine := by rw [sizeLine_eq]; omega
theorem six_last (xs : List V) (x : V) : HT.sIx (xs ++ [x]).length (xs ++ [x]).length (some (-1)) = xs.length := by
  unfold HT.sIx
  dsimp only
  rw [if_pos (by decide), List.length_append, List.length_singleton]
  omega
theorem cut_last (xs : List V) (x : V) : cutV (xs ++ [x]) none (some (-1)) = xs := by
  unfold cutV
  rw [HT.sIx_none, six_last, List.drop_zero, Nat.sub_zero]
  simp
theorem cut_not (xs : List V) (x : V) : ¬ (HT.sIx (xs ++ [x]).length 0 none = 0 ∧ HT.sIx (xs ++ [x]).length (xs ++ [x]).length (some (-1)) = (xs ++ [x]).length) := by
  rintro ⟨_, h⟩
  rw [six_last, List.length_append] at h
  simp at h
theorem at_last (xs : List V) (x : V) : atI (xs ++ [x]) (-1) = some x := by
  have e : ixN (xs ++ [x]).length (-1) = some xs.length := by
    unfold ixN
    rw [if_neg (by decide), List.length_append, List.length_singleton, if_pos (by omega)]
    exact congrArg some (by omega)
  unfold atI
  rw [e]
  simp
/-- the rows, but for the last one -/
def IniOk (p : Nat) (ini : List RowD) : Prop := (∀ r ∈ ini, RowOk p r) ∧ ini.length ≤ 3
theorem len_head (b p n : Nat) (hb : b < 26) (hp : p < 26) (hn : n < 26) : (headM (b : Int) (p : Int) (n : Int)).length ≤ 40 := by
  have h1 := num_len b hb
  have h2 := num_len p hp
  have h3 := num_len n hn
  unfold headM
  simp only [Str.length_append]
  have e1 : (Str.ofString "drive ").length = 6 := by decide +kernel
  have e2 : (Str.ofString " blocks ").length = 8 := by decide +kernel
  have e3 : (Str.ofString " pages ").length = 7 := by decide +kernel
  have e4 : (Str.ofString " names").length = 6 := by decide +kernel
  have e5 : Str.empty.length = 0 := by decide +kernel
  rw [e1, e2, e3, e4, e5]
  omega
theorem len_line (r : RowD) (p : Nat) (hp : p < 26) (h : RowOk p r) : (lineM r).length ≤ 40 := by
  obtain ⟨h1, h2, h3⟩ := h
  have e0 : r.1 = ((r.1.toNat : Nat) : Int) := by omega
  have n1 : (numS r.1).length ≤ 2 := by rw [e0]; exact num_len _ (by omega)
  have n2 := word_len r.2 h3
  unfold lineM
  simp only [Str.length_append]
  have e1 : (Str.ofString "at most ").length = 8 := by decide +kernel
  have e2 : (Str.ofString ": ").length = 2 := by decide +kernel
  have e5 : Str.empty.length = 0 := by decide +kernel
  rw [e1, e2, e5]
  omega
theorem len_any (w : Str) (h : w ∈ wordsL) : (anyM w).length ≤ 40 := by
  have n2 := word_len w h
  unfold anyM
  simp only [Str.length_append]
  have e1 : (Str.ofString "any: ").length = 5 := by decide +kernel
  rw [e1]
  omega
theorem empty_app (x : Str) : Str.empty ++ x = x := by
  show (⟨#[] ++ x.cps⟩ : Str) = x
  rw [Array.empty_append]
def spTxt (K : PySem.W.Frag) : Sp := fun vs H Q _ => ∃ (b p n : Nat) (t : Addr) (ini : List RowD) (y : Str), vs = [.int (b : Int), .int (p : Int), .int (n : Int), .ref t] ∧ b < 26 ∧ p < 26 ∧ n < 26 ∧ RowsAt K H t (ini ++ [((p : Int), y)]) ∧ IniOk p ini ∧ y ∈ wordsL ∧
  ∀ H' : Hp, Same H H' → Q (.str (textM (b : Int) (p : Int) (n : Int) ini y)) H'
theorem paired_split {α β : Type} {F : α → β → Prop} : ∀ {l : List α} {m : List β} {y : β}, Paired F l (m ++ [y]) → ∃ l' x, l = l' ++ [x] ∧ Paired F l' m ∧ F x y
  | [], [], y, h => nomatch h
  | [], _ :: _, y, h => nomatch h
  | _ :: _, [], y, .cons r .nil => ⟨[], _, rfl, .nil, r⟩
  | _ :: _, _ :: _, y, .cons r t => by
    obtain ⟨l', x, e, h1, h2⟩ := paired_split t
    exact ⟨_ :: l', x, by rw [e]; rfl, .cons r h1, h2⟩
theorem sum_le (l : List Str) (h : ∀ x ∈ l, x.length ≤ 40) : (l.map (·.length)).sum ≤ l.length * 40 := by
  induction l with
  | nil => exact Nat.le_refl _
  | cons a l ih =>
    have h1 := h a (List.mem_cons_self ..)
    have h2 := ih fun x hx => h x (List.mem_cons_of_mem _ hx)
    rw [List.map_cons, List.sum_cons, List.length_cons]
    omega
theorem lines_len (b p n : Nat) (hb : b < 26) (hp : p < 26) (hn : n < 26) (ini : List RowD) (hi : IniOk p ini) (y : Str) (hy : y ∈ wordsL) : (∀ x ∈ linesM (b : Int) (p : Int) (n : Int) ini y, x.length ≤ 40) ∧ (linesM (b : Int) (p : Int) (n : Int) ini y).length ≤ 5 := by
  unfold linesM
  refine ⟨fun x hx => ?_, ?_⟩
  · rcases List.mem_cons.mp hx with rfl | hx
    · exact len_head b p n hb hp hn
    rcases List.mem_append.mp hx with hx | hx
    · obtain ⟨r, hr, rfl⟩ := List.mem_map.mp hx
      exact len_line r p hp (hi.1 r hr)
    · rw [List.mem_singleton.mp hx]
      exact len_any y hy
  · have := hi.2
    simp
    omega
theorem join_fits (l : List Str) (h : (∀ x ∈ l, x.length ≤ 40) ∧ l.length ≤ 5) : (l.map (·.length)).sum + l.length * (Str.ofString "\n").length ≤ 16777216 := by
  have z := sum_le l h.1
  have e : (Str.ofString "\n").length = 1 := by decide +kernel
  have := h.2
  rw [e]
  omega
end K2

set_option Elab.async false
set_option linter.all false
set_option maxRecDepth 100000
set_option maxHeartbeats 4000000
namespace K2
open PySem PySem.Spec PyProof.Rows L2 G1 G2
theorem js_c {x acc : Str} {ts : List TE} {σ : L2.St} {H : Hp} {Q : Str → Hp → Prop} (h1 : (acc ++ x).length ≤ sizeLine) (h2 : tJs ts (acc ++ x) σ H Q) : tJs (tC (.str x) :: ts) acc σ H Q := ⟨x, rfl, h1, h2⟩
theorem js_i {te : TE} {acc : Str} {ts : List TE} {σ : L2.St} {H : Hp} {Q : Str → Hp → Prop} {i : Int} (ht : ∀ R : VK, R (.int i) H → te σ H R) (h0 : i.natAbs.log2 < 1920) (h1 : (acc ++ numS i).length ≤ sizeLine) (h2 : tJs ts (acc ++ numS i) σ H Q) : tJs (tFmt te :: ts) acc σ H Q :=
  ht _ (.inr ⟨i, rfl, h0, _, rfl, h1, h2⟩)
theorem js_s {te : TE} {acc : Str} {ts : List TE} {σ : L2.St} {H : Hp} {Q : Str → Hp → Prop} {x : Str} (ht : ∀ R : VK, R (.str x) H → te σ H R) (h0 : x.length ≤ sizeLine) (h1 : (acc ++ x).length ≤ sizeLine) (h2 : tJs ts (acc ++ x) σ H Q) : tJs (tFmt te :: ts) acc σ H Q :=
  ht _ (.inl ⟨x, rfl, h0, _, rfl, h1, h2⟩)
theorem js_0 {acc : Str} {σ : L2.St} {H : Hp} {Q : Str → Hp → Prop} (h : Q acc H) : tJs [] acc σ H Q := h
theorem head_read {t1 t2 t3 : TE} {σ : L2.St} {H : Hp} {Q : Str → Hp → Prop} {b p n : Nat} (hb : b < 26) (hp : p < 26) (hn : n < 26) (h1 : ∀ R : VK, R (.int (b : Int)) H → t1 σ H R) (h2 : ∀ R : VK, R (.int (p : Int)) H → t2 σ H R) (h3 : ∀ R : VK, R (.int (n : Int)) H → t3 σ H R)
    (k : Q (headM (b : Int) (p : Int) (n : Int)) H) : tJs [tC (.str (Str.ofString "drive ")), tFmt t1, tC (.str (Str.ofString " blocks ")), tFmt t2, tC (.str (Str.ofString " pages ")), tFmt t3, tC (.str (Str.ofString " names"))] Str.empty σ H Q := by
  have z := len_head b p n hb hp hn
  unfold headM at z
  simp only [Str.length_append] at z
  refine js_c ?_ (js_i h1 (log_small b hb) ?_ (js_c ?_ (js_i h2 (log_small p hp) ?_ (js_c ?_ (js_i h3 (log_small n hn) ?_ (js_c ?_ (js_0 k)))))))
  all_goals
    refine small_line ?_
    simp only [Str.length_append]
    omega
theorem line_read {t1 t2 : TE} {σ : L2.St} {H : Hp} {Q : Str → Hp → Prop} {r : RowD} {p : Nat} (hp : p < 26) (hr : RowOk p r) (h1 : ∀ R : VK, R (.int r.1) H → t1 σ H R) (h2 : ∀ R : VK, R (.str r.2) H → t2 σ H R)
    (k : Q (lineM r) H) : tJs [tC (.str (Str.ofString "at most ")), tFmt t1, tC (.str (Str.ofString ": ")), tFmt t2] Str.empty σ H Q := by
  have z := len_line r p hp hr
  unfold lineM at z
  simp only [Str.length_append] at z
  have hl : r.1.natAbs.log2 < 1920 := by
    obtain ⟨a1, a2, _⟩ := hr
    have e0 : r.1 = ((r.1.toNat : Nat) : Int) := by omega
    rw [e0]
    exact log_small _ (by omega)
  refine js_c ?_ (js_i h1 hl ?_ (js_c ?_ (js_s h2 ?_ ?_ (js_0 k))))
  all_goals
    refine small_line ?_
    (try simp only [Str.length_append])
    omega
theorem any_read {t1 : TE} {σ : L2.St} {H : Hp} {Q : Str → Hp → Prop} {x : Str} (hx : x ∈ wordsL) (h1 : ∀ R : VK, R (.str x) H → t1 σ H R) (k : Q (anyM x) H) : tJs [tC (.str (Str.ofString "any: ")), tFmt t1] Str.empty σ H Q := by
  have z := len_any x hx
  unfold anyM at z
  simp only [Str.length_append] at z
  refine js_c ?_ (js_s h1 ?_ ?_ (js_0 ?_))
  · rw [empty_app]; exact small_line (by omega)
  · exact small_line (by omega)
  · rw [empty_app]; simp only [Str.length_append]; exact small_line (by omega)
  · rw [empty_app]; exact k
section
variable {P : Program} {w : World} {K : PySem.W.Frag} {mg : Str → Option Value} {base : Heap}
theorem ok_txt {f : Addr} {fd : FuncData} (F : Fun K "text_of" "text_of" sTxt f fd) (B : Bl mg) : FnOk P w K mg base CX0 1 f fd ["blocks", "pages", "names", "rows"] (spTxt K) := by
  refine F.ok scTxt (fun vs H Q E h => ?_) (fun cdv A outer s H vs Q E hr h => ?_)
  · obtain ⟨b, p, n, t, ini, y, rfl, _⟩ := h
    rfl
  obtain ⟨b, p, n, t, ini, y, rfl, hb, hp, hn, ⟨rs0, hT0, hP0⟩, hini, hy, k⟩ := h
  obtain ⟨rs, rl, rfl, hP, hl⟩ := paired_split hP0
  have hT : SqT K H t (rs.map V.ref ++ [V.ref rl]) := by
    have e : (rs ++ [rl]).map V.ref = rs.map V.ref ++ [V.ref rl] := by simp
    rwa [e] at hT0
  refine ⟨_, pss_cons (ps_set (i := 4) scTxt.nd rfl (.inl rfl) (pe_lst (pa_cons (pe_joined (.cons pe_str (.cons (pe_fmt (pv 0)) (.cons pe_str (.cons (pe_fmt (pv 1)) (.cons pe_str (.cons (pe_fmt (pv 2)) (.cons pe_str .nil)))))))) pa_nil)))
    (pss_cons (ps_for PassesOwn.never rfl (pi_tup (pe_slice sl_tup (pv 3) po_none (po_some (pe_un un_neg pe_int)))) (pg_tup rfl (pgs_cons (pg_name (i := 5) scTxt.nd rfl (.inl rfl)) (pgs_cons (pg_name (i := 6) scTxt.nd rfl (.inl rfl)) pgs_nil)))
      (pss_one (ps_expr (pe_bm PySem.F.plainAttrs_list PySem.F.slot_list_append PySem.F.type_list_append mt_append (pv 4) (pa_cons (pe_joined (.cons pe_str (.cons (pe_fmt (pv 5)) (.cons pe_str (.cons (pe_fmt (pv 6)) .nil))))) pa_nil)))))
    (pss_cons (ps_expr (pe_bm PySem.F.plainAttrs_list PySem.F.slot_list_append PySem.F.type_list_append mt_append (pv 4) (pa_cons (pe_joined (.cons pe_str (.cons (pe_fmt (pe_ix ix_tup (pe_ix ix_tup (pv 3) (pe_un un_neg pe_int) (fun _ _ => rfl)) pe_int (fun _ _ => rfl))) .nil))) pa_nil)))
    (pss_one (ps_ret (pe_join pe_str (pv 4)))))), ?_⟩
  refine seq_asg (lst_read (cons_read ?_))
  refine head_read hb hp hn (fun R q => ⟨_, rfl, q⟩) (fun R q => ⟨_, rfl, q⟩) (fun R q => ⟨_, rfl, q⟩) ?_
  refine nil_read ⟨by show 1 ≤ sizeLine; decide, fun l nl => ?_⟩
  refine seq_for fun D' hD1 hD2 => ?_
  have s1 : Same H (upd H l (.lst [.str (headM (b : Int) (p : Int) (n : Int))])) := same_lay nl
  refine ⟨_, rfl, _, rfl, _, rfl, t, _, rfl, K2.Same.tup s1 hT, cut_not _ _, fun u nu => ?_⟩
  rw [show (-(1 : Int)) = -1 from rfl, cut_last]
  have hu : (upd (upd H l (.lst [.str (headM (b : Int) (p : Int) (n : Int))])) u (.tup (rs.map V.ref))) u = some (.tup (rs.map V.ref)) := upd_same
  refine ⟨u, rfl, ⟨_, SqT.of hu⟩, ?_⟩
  have nul : u ≠ l := fun z => by rw [z, upd_same] at nu; cases nu
  refine for_tup (K := K) (xs := rs.map V.ref) (fun i σ H' => ∃ x5 x6, σ = [some (.int (b : Int)), some (.int (p : Int)), some (.int (n : Int)), some (.ref t), some (.ref l), x5, x6] ∧ Same H H' ∧ H' u = some (.tup (rs.map V.ref)) ∧
      H' l = some (.lst ((headM (b : Int) (p : Int) (n : Int) :: (ini.take i).map lineM).map V.str))) ⟨none, none, rfl, s1.trans (same_lay nu), hu, ?_⟩ (fun i σ H' _ q => ?_) ?_ ?_
  · rw [upd_ne (Ne.symm nul), upd_same]; rfl
  · obtain ⟨_, _, _, _, q, _⟩ := q
    exact SqT.of q
  · rintro i x σ H' hi ⟨x5, x6, rfl, s2, q1, q2⟩
    rw [List.getElem?_map] at hi
    obtain ⟨a, ha, rfl⟩ : ∃ a, rs[i]? = some a ∧ V.ref a = x := by
      cases hq : rs[i]? with
      | none => rw [hq] at hi; cases hi
      | some a => rw [hq] at hi; exact ⟨a, rfl, Option.some.inj hi⟩
    obtain ⟨r, hr1, hr2⟩ := paired_get hP ha
    have hrok : RowOk p r := hini.1 r (List.mem_of_getElem? hr1)
    refine ⟨a, _, rfl, K2.Same.tup s2 hr2, rfl, _, _, rfl, _, _, rfl, rfl, ?_⟩
    refine ⟨_, rfl, .inl ⟨rfl, _, SqL.of q2⟩, ?_⟩
    refine line_read hp hrok (fun R q => ⟨_, rfl, q⟩) (fun R q => ⟨_, rfl, q⟩) ?_
    refine ⟨l, _, _, rfl, rfl, q2, ?_, _, _, rfl, fun b o e => ?_, ?_, ?_⟩
    · rw [List.length_map, List.length_cons, List.length_map, List.length_take, sizeLine_eq]
      have := hini.2
      omega
    · rw [upd_ne (ne_of_none e nl)]; exact s2 _ _ e
    · rw [upd_ne nul]; exact q1
    · rw [upd_same, List.take_add_one, hr1]
      simp
  · rintro σ H' ⟨x5, x6, rfl, s2, q1, q2⟩
    rw [hD1]
    have el : (rs.map V.ref).length = ini.length := by rw [List.length_map]; exact Paired.length hP
    rw [el, List.take_length] at q2
    refine ⟨_, rfl, .inl ⟨rfl, _, SqL.of q2⟩, ?_⟩
    refine any_read hy (fun R q => ⟨_, rfl, _, rfl, t, _, _, .ref rl, rfl, rfl, K2.Same.tup s2 hT, at_last _ _, rl, _, _, .str y, rfl, rfl, K2.Same.tup s2 hl, rfl, q⟩) ?_
    refine ⟨l, _, _, rfl, rfl, q2, ?_, ?_⟩
    · rw [List.length_map, List.length_cons, List.length_map, sizeLine_eq]
      have := hini.2
      omega
    have q3 : (upd H' l (.lst ((headM (b : Int) (p : Int) (n : Int) :: ini.map lineM).map V.str ++ [.str (anyM y)]))) l = some (.lst ((linesM (b : Int) (p : Int) (n : Int) ini y).map V.str)) := by
      rw [upd_same]
      unfold linesM
      simp
    refine ⟨⟨_, rfl⟩, _, rfl, _, l, linesM (b : Int) (p : Int) (n : Int) ini y, rfl, rfl, .inl (SqL.of q3), join_fits _ (lines_len b p n hb hp hn ini hini y hy), k _ fun c o e => ?_⟩
    rw [upd_ne (ne_of_none e nl)]; exact s2 _ _ e
end
end K2

set_option Elab.async false
set_option linter.all false
set_option maxRecDepth 100000
set_option maxHeartbeats 4000000
namespace K2
open PySem PySem.Spec PyProof.Rows L2 G1 G2
abbrev sDrv : Stmt := topS 45
abbrev sIni : Stmt := inClass sDrv 0
theorem scIni : FnScope ["self", "blocks", "pages", "names", "rows"] ["self", "blocks", "pages", "names", "rows"] (defScope sIni) := ⟨rfl, rfl, rfl, by decide +kernel, rfl, by decide +kernel, by decide +kernel⟩
/-- what the written part says of the class -/
structure DCls (K : PySem.W.Frag) (C : Addr) : Prop where
  cl : Cls K C
  nb : NoAttr K C "kept_blocks"
  np : NoAttr K C "kept_pages"
  nn : NoAttr K C "kept_names"
  nr : NoAttr K C "kept_rows"
  nt : NoAttr K C "kept_text"
def drvF (b p n : Nat) (t : Addr) (x : Str) : List (Str × V) := [("kept_blocks", .int (b : Int)), ("kept_pages", .int (p : Int)), ("kept_names", .int (n : Int)), ("kept_rows", .ref t), ("kept_text", .str x)]
def Keep (x : Addr) (H H' : Hp) : Prop := ∀ a o, H a = some o → a ≠ x → H' a = some o
theorem Keep.tup {K : PySem.W.Frag} {x a C dx : Addr} {H H' : Hp} {fs : List (Str × V)} {xs : List V} (k : Keep x H H') (hx : H x = some (.ins C dx fs)) (h : SqT K H a xs) : SqT K H' a xs := by
  rcases h with (h | ⟨o, h⟩) | h
  · exact .inl (.inl (k _ _ h (ne_of h hx (by intro z; cases z))))
  · exact .inl (.inr ⟨o, k _ _ h (ne_of h hx (by intro z; cases z))⟩)
  · exact .inr h
theorem Keep.rows {K : PySem.W.Frag} {x t C dx : Addr} {H H' : Hp} {fs : List (Str × V)} {rows : List RowD} (k : Keep x H H') (hx : H x = some (.ins C dx fs)) (h : RowsAt K H t rows) : RowsAt K H' t rows := by
  obtain ⟨rs, h1, h2⟩ := h
  exact ⟨rs, k.tup hx h1, Paired.mapP h2 fun _ _ z => k.tup hx z⟩
theorem Keep.trans {x : Addr} {H H1 H2 : Hp} (a : Keep x H H1) (b : Keep x H1 H2) : Keep x H H2 := fun c o h n => b c o (a c o h n) n
theorem Keep.of {x : Addr} {H H' : Hp} (s : Same H H') : Keep x H H' := fun a o h _ => s a o h
theorem Keep.upd (x : Addr) (H : Hp) (o : HO) : Keep x H (L2.upd H x o) := fun a u h n => by rw [upd_ne n]; exact h
/-- what a drive is made of -/
structure DP (b p n : Nat) (ini : List RowD) (y : Str) : Prop where
  sz : Sz b p n
  few : cntM b p n ≤ 2000
  ini : IniOk p ini
  y : y ∈ wordsL
def spIni (K : PySem.W.Frag) (C : Addr) : Sp := fun vs H Q _ => ∃ (x dx t : Addr) (b p n : Nat) (ini : List RowD) (y : Str), vs = [.ref x, .int (b : Int), .int (p : Int), .int (n : Int), .ref t] ∧ H x = some (.ins C dx []) ∧ DP b p n ini y ∧ RowsAt K H t (ini ++ [((p : Int), y)]) ∧
  ∀ H' : Hp, Keep x H H' → H' x = some (.ins C dx (drvF b p n t (textM (b : Int) (p : Int) (n : Int) ini y))) → Q .non H'
/-- the defs that a drive is made with -/
structure Base (P : Program) (w : World) (K : PySem.W.Frag) (mg : Str → Option Value) (base : Heap) (fZ fR fT fC : Addr) (dZ dR dT dC : FuncData) : Prop where
  Z : FnOk P w K mg base CX0 3 fZ dZ ["blocks", "pages", "names"] spSiz
  kZ : PySem.W.keepIn K (.ref fZ) = true
  bZ : Binds K dZ ["blocks", "pages", "names"] []
  gZ : mg "check_sizes" = some (.ref fZ)
  R : FnOk P w K mg base CX0 4 fR dR ["rows", "pages"] (spChk K)
  kR : PySem.W.keepIn K (.ref fR) = true
  bR : Binds K dR ["rows", "pages"] []
  gR : mg "check_rows" = some (.ref fR)
  T : FnOk P w K mg base CX0 1 fT dT ["blocks", "pages", "names", "rows"] (spTxt K)
  kT : PySem.W.keepIn K (.ref fT) = true
  bT : Binds K dT ["blocks", "pages", "names", "rows"] []
  gT : mg "text_of" = some (.ref fT)
  C : FnOk P w K mg base CX0 2 fC dC ["blocks", "pages", "names"] spCnt
  kC : PySem.W.keepIn K (.ref fC) = true
  bC : Binds K dC ["blocks", "pages", "names"] []
  gC : mg "count_stands" = some (.ref fC)
theorem rows_ok {p : Nat} {ini : List RowD} {y : Str} (h : IniOk p ini) (hy : y ∈ wordsL) : (∀ r ∈ ini ++ [((p : Int), y)], RowOk p r) ∧ (ini ++ [((p : Int), y)]).length ≤ 4 := by
  refine ⟨fun r hr => ?_, ?_⟩
  · rcases List.mem_append.mp hr with hr | hr
    · exact h.1 r hr
    · rw [List.mem_singleton.mp hr]
      exact ⟨by omega, by omega, hy⟩
  · rw [List.length_append]
    have := h.2
    simp
    omega
section
variable {P : Program} {w : World} {K : PySem.W.Frag} {mg : Str → Option Value} {base : Heap}
theorem ok_ini {f C fZ fR fT fC : Addr} {fd dZ dR dT dC : FuncData} (F : Fun K "__init__" "Drive.__init__" sIni f fd) (T : DCls K C) (Cm : Cn mg) (G : Base P w K mg base fZ fR fT fC dZ dR dT dC) :
    FnOk P w K mg base CX0 5 f fd ["self", "blocks", "pages", "names", "rows"] (spIni K C) := by
  refine F.ok scIni (fun vs H Q E h => ?_) (fun cdv A outer s H vs Q E hr h => ?_)
  · obtain ⟨x, dx, t, b, p, n, ini, y, rfl, _⟩ := h
    rfl
  obtain ⟨x, dx, t, b, p, n, ini, y, rfl, hx, ⟨hz, hfew, hini, hy⟩, hR, k⟩ := h
  obtain ⟨tm, cm⟩ := Cm.ms
  have hr1 : Room 1 _ := hr.mono (by decide)
  have hr2 : Room 2 _ := hr.mono (by decide)
  have hr3 : Room 3 _ := hr.mono (by decide)
  refine ⟨_, pss_cons (ps_expr (pe_call G.Z hr3 (by rfl) G.gZ G.kZ G.bZ .nil pass0 (pa_cons (pv 1) (pa_cons (pv 2) (pa_cons (pv 3) pa_nil)))))
    (pss_cons (ps_expr (pe_call G.R hr (by rfl) G.gR G.kR G.bR .nil pass0 (pa_cons (pv 4) (pa_cons (pv 2) pa_nil))))
    (pss_cons (ps_fld (pv 0) (pv 1) rfl) (pss_cons (ps_fld (pv 0) (pv 2) rfl) (pss_cons (ps_fld (pv 0) (pv 3) rfl) (pss_cons (ps_fld (pv 0) (pv 4) rfl)
    (pss_cons (ps_fld (pv 0) (pe_call G.T hr1 (by rfl) G.gT G.kT G.bT .nil pass0 (pa_cons (pv 1) (pa_cons (pv 2) (pa_cons (pv 3) (pa_cons (pv 4) pa_nil))))) rfl)
    (pss_one (ps_if (pt_cmpR op_gt (pe_call G.C hr2 (by rfl) G.gC G.kC G.bC .nil pass0 (pa_cons (pv 1) (pa_cons (pv 2) (pa_cons (pv 3) pa_nil)))) (pe_glob (v := .int 2000) rfl cm ⟨_, rfl⟩) (nomark _)) (pss_one ps_never) pss_nil)))))))), ?_⟩
  refine ⟨_, rfl, _, rfl, _, rfl, b, p, n, rfl, hz, ?_⟩
  refine ⟨_, rfl, _, rfl, t, p, _, rfl, hR, (rows_ok hini hy).1, (rows_ok hini hy).2, ⟨ini, y, rfl⟩, fun H1 s1 => ?_⟩
  have hx1 := s1 _ _ hx
  refine ⟨_, rfl, _, rfl, x, C, dx, _, rfl, hx1, T.cl, T.nb, by decide, ?_⟩
  refine ⟨_, rfl, _, rfl, x, C, dx, _, rfl, upd_same, T.cl, T.np, by show 1 < 1000; decide, ?_⟩
  rw [upd_upd]
  refine ⟨_, rfl, _, rfl, x, C, dx, _, rfl, upd_same, T.cl, T.nn, by show 2 < 1000; decide, ?_⟩
  rw [upd_upd]
  refine ⟨_, rfl, _, rfl, x, C, dx, _, rfl, upd_same, T.cl, T.nr, by show 3 < 1000; decide, ?_⟩
  rw [upd_upd]
  have k1 := Keep.upd x H1 (.ins C dx [("kept_blocks", .int (b : Int)), ("kept_pages", .int (p : Int)), ("kept_names", .int (n : Int)), ("kept_rows", .ref t)])
  have e1 : (upd H1 x (.ins C dx [("kept_blocks", .int (b : Int)), ("kept_pages", .int (p : Int)), ("kept_names", .int (n : Int)), ("kept_rows", .ref t)])) x = some (.ins C dx [("kept_blocks", .int (b : Int)), ("kept_pages", .int (p : Int)), ("kept_names", .int (n : Int)), ("kept_rows", .ref t)]) := upd_same
  show tSeq _ _ _ _ (upd H1 x (.ins C dx [("kept_blocks", .int (b : Int)), ("kept_pages", .int (p : Int)), ("kept_names", .int (n : Int)), ("kept_rows", .ref t)]))
  generalize upd H1 x (.ins C dx [("kept_blocks", .int (b : Int)), ("kept_pages", .int (p : Int)), ("kept_names", .int (n : Int)), ("kept_rows", .ref t)]) = H2 at k1 e1 ⊢
  have kA : Keep x H H2 := (Keep.of s1).trans k1
  have n25 := hz.n25
  have hp1 := hz.p1
  have hb1 := hz.b1
  refine ⟨_, rfl, _, rfl, _, rfl, _, rfl, b, p, n, t, ini, y, rfl, by omega, by omega, n25, kA.rows hx hR, hini, hy, fun H3 s3 => ?_⟩
  refine ⟨_, rfl, x, C, dx, _, rfl, s3 _ _ e1, T.cl, T.nt, by show 4 < 1000; decide, ?_⟩
  have hb0 := hz.b0
  have hn0 := hz.n0
  refine ⟨_, rfl, _, rfl, _, rfl, b, p, n, rfl, by omega, hn0, n25, by omega, by omega, fun H4 s4 => ?_⟩
  refine ⟨_, _, rfl, rfl, _, rfl, ?_⟩
  have z : decide ((2000 : Int) < cntM b p n) = false := decide_eq_false (by omega)
  show (if decide ((2000 : Int) < cntM b p n) = true then _ else _)
  rw [z]
  refine iteF (k H4 ?_ ?_)
  · exact kA.trans ((Keep.of s3).trans ((Keep.upd x H3 _).trans (Keep.of s4)))
  · exact s4 _ _ upd_same
end
end K2

set_option Elab.async false
set_option linter.all false
set_option maxRecDepth 100000
set_option maxHeartbeats 4000000
namespace K2
open PySem PySem.Spec PyProof.Rows L2 G1 G2
def DrvAt (K : PySem.W.Frag) (C : Addr) (H : Hp) (x : Addr) (b p n : Nat) (ini : List RowD) (y : Str) : Prop := ∃ dx t, H x = some (.ins C dx (drvF b p n t (textM (b : Int) (p : Int) (n : Int) ini y))) ∧ RowsAt K H t (ini ++ [((p : Int), y)])
theorem DrvAt.same {K : PySem.W.Frag} {C x : Addr} {H H' : Hp} {b p n : Nat} {ini : List RowD} {y : Str} (h : DrvAt K C H x b p n ini y) (s : Same H H') : DrvAt K C H' x b p n ini y := by
  obtain ⟨dx, t, h1, h2⟩ := h
  exact ⟨dx, t, s _ _ h1, h2.same s⟩
/-- what follows the making of a drive -/
def Made (K : PySem.W.Frag) (C : Addr) (H : Hp) (Q : VK) (b p n : Nat) (ini : List RowD) (y : Str) : Prop := ∀ (H' : Hp) (x : Addr), Same H H' → H x = none → DrvAt K C H' x b p n ini y → Q (.ref x) H'
theorem make_read {K : PySem.W.Frag} {C : Addr} {H : Hp} {Q : VK} {E : XK} {b p n : Nat} {ini : List RowD} {y : Str} {t : Addr} (d : DP b p n ini y) (hR : RowsAt K H t (ini ++ [((p : Int), y)])) (k : Made K C H Q b p n ini y) :
    ∀ x dx, H x = none → H dx = none → dx ≠ x → spIni K C (.ref x :: ([.int (b : Int), .int (p : Int), .int (n : Int), .ref t] ++ [])) (upd (upd H dx (.own x)) x (.ins C dx [])) (fun v H2 => v = .non ∧ Q (.ref x) H2) E := by
  intro x dx nx nd ne
  have sm : Same H (upd (upd H dx (.own x)) x (.ins C dx [])) := fun c o e => by rw [upd_ne (ne_of_none e nx), upd_ne (ne_of_none e nd)]; exact e
  refine ⟨x, dx, t, b, p, n, ini, y, rfl, upd_same, d, hR.same sm, fun H' kp e => ⟨rfl, ?_⟩⟩
  have sm2 : Same H H' := fun c o e => kp c o (sm c o e) (ne_of_none e nx)
  exact k H' x sm2 nx ⟨dx, t, e, hR.same sm2⟩
/-- isinstance(.., Drive) -/
structure DKit (K : PySem.W.Frag) (C : Addr) : Prop where
  own : PySem.W.kitOne K (.ref C) (.ref C) = some true
  non : PySem.W.kitOne K (.type "NoneType") (.ref C) = some false
  bl : PySem.W.kitOne K (.type "bool") (.ref C) = some false
  int : PySem.W.kitOne K (.type "int") (.ref C) = some false
  str : PySem.W.kitOne K (.type "str") (.ref C) = some false
  tup : PySem.W.kitOne K (.type "tuple") (.ref C) = some false
  lst : PySem.W.kitOne K (.type "list") (.ref C) = some false
  ha : PySem.W.findIn K (.ref C) "__class__" = some (some (.builtin "object.__class__"))
  hn : PySem.W.specialIn K (.builtin "object.__class__") "__get__" = some (some (.builtin "getset_descriptor.__get__"))
  htk : PySem.W.takesIn K (.builtin "object.__class__") = some true
  hm : PySem.W.mroIn K C (.type "object") = some true
theorem paired_snoc {α β : Type} {F : α → β → Prop} : ∀ {l : List α} {m : List β} {a : α} {b : β}, Paired F l m → F a b → Paired F (l ++ [a]) (m ++ [b])
  | _, _, _, _, .nil, h => .cons h .nil
  | _, _, _, _, .cons r t, h => .cons r (paired_snoc t h)
end K2

set_option Elab.async false
set_option linter.all false
set_option maxRecDepth 100000
set_option maxHeartbeats 4000000
namespace K2
open PySem PySem.Spec PyProof.Rows L2 G1 G2
abbrev sShp : Stmt := topS 87
abbrev sTab : Stmt := topS 88
theorem scShp : FnScope ["_law_pool_here", "_law_many", "_law_size", "_law_room"] ["_law_pool_here"] (defScope sShp) := ⟨rfl, rfl, rfl, by decide +kernel, rfl, by decide +kernel, by decide +kernel⟩
theorem scTab : FnScope ["_law_pool_here", "_law_size", "_law_tones", "_law_some", "_law_k"] ["_law_pool_here", "_law_size"] (defScope sTab) := ⟨rfl, rfl, rfl, by decide +kernel, rfl, by decide +kernel, by decide +kernel⟩
/-- the pool at p, and nothing else of what was there, has changed -/
def Stp (p : Addr) (H H' : Hp) : Prop := (∃ i j n : Int, H' p = some (.lst [.int i, .int j, .int n]) ∧ 0 ≤ i ∧ i < 2 ^ 31) ∧ ∀ b o, b ≠ p → H b = some o → H' b = some o
def PoolAt (H : Hp) (p : Addr) : Prop := ∃ i j n : Int, H p = some (.lst [.int i, .int j, .int n]) ∧ 0 ≤ i ∧ i < 2 ^ 31
theorem Stp.trans {p : Addr} {H H1 H2 : Hp} (a : Stp p H H1) (b : Stp p H1 H2) : Stp p H H2 := ⟨b.1, fun c o n e => b.2 c o n (a.2 c o n e)⟩
theorem Stp.upd {p : Addr} {H : Hp} {i j n : Int} (h0 : 0 ≤ i) (h1 : i < 2 ^ 31) : Stp p H (L2.upd H p (.lst [.int i, .int j, .int n])) := ⟨⟨i, j, n, upd_same, h0, h1⟩, fun b o hb e => by rw [upd_ne hb]; exact e⟩
theorem Stp.of {p : Addr} {H H' : Hp} (hp : PoolAt H p) (s : Same H H') : Stp p H H' := by
  obtain ⟨i, j, n, e, h0, h1⟩ := hp
  exact ⟨⟨i, j, n, s _ _ e, h0, h1⟩, fun b o _ z => s _ _ z⟩
theorem Stp.tup {K : PySem.W.Frag} {p a : Addr} {H H' : Hp} {xs : List V} (s : Stp p H H') (hp : PoolAt H p) (h : SqT K H a xs) : SqT K H' a xs := by
  obtain ⟨i, j, n, e, _⟩ := hp
  rcases h with (h | ⟨o, h⟩) | h
  · exact .inl (.inl (s.2 _ _ (ne_of h e (by intro z; cases z)) h))
  · exact .inl (.inr ⟨o, s.2 _ _ (ne_of h e (by intro z; cases z)) h⟩)
  · exact .inr h
theorem Stp.rows {K : PySem.W.Frag} {p t : Addr} {H H' : Hp} {rows : List RowD} (s : Stp p H H') (hp : PoolAt H p) (h : RowsAt K H t rows) : RowsAt K H' t rows := by
  obtain ⟨rs, h1, h2⟩ := h
  exact ⟨rs, s.tup hp h1, Paired.mapP h2 fun _ _ z => s.tup hp z⟩
theorem draw_read {H : Hp} {Q : VK} {E : XK} {p : Addr} {m : Int} (hp : PoolAt H p) (m0 : 0 < m) (m1 : m < 2 ^ 60) (k : ∀ (H' : Hp) (r : Int), Stp p H H' → 0 ≤ r → r < m → Q (.int r) H') : spDraw [.ref p, .int m] H Q E := by
  obtain ⟨i, j, n, e, h0, h1⟩ := hp
  exact ⟨p, m, i, j, n, rfl, e, h0, h1, m0, m1, fun i' j' n' r a0 a1 r0 r1 => k _ r (Stp.upd a0 a1) r0 r1⟩
theorem draw_c {σ : L2.St} {H : Hp} {Q : VK} {p : Addr} {i : Nat} {m : Int} (hσ : σ[i]? = some (some (.ref p))) (hp : PoolAt H p) (m0 : 0 < m) (m1 : m < 2 ^ 60) (k : ∀ (H' : Hp) (r : Int), Stp p H H' → 0 ≤ r → r < m → Q (.int r) H') :
    tCall spDraw [] E0 (tCons (tVar i) (tCons (tC (.int m)) tNil)) σ H Q := ⟨_, hσ, draw_read (E := E0) (m := m) hp m0 m1 k⟩
theorem draw_v {σ : L2.St} {H : Hp} {Q : VK} {p : Addr} {i j : Nat} {m : Int} (hσ : σ[i]? = some (some (.ref p))) (hj : σ[j]? = some (some (.int m))) (hp : PoolAt H p) (m0 : 0 < m) (m1 : m < 2 ^ 60) (k : ∀ (H' : Hp) (r : Int), Stp p H H' → 0 ≤ r → r < m → Q (.int r) H') :
    tCall spDraw [] E0 (tCons (tVar i) (tCons (tVar j) tNil)) σ H Q := ⟨_, hσ, _, hj, draw_read (E := E0) (m := m) hp m0 m1 k⟩
theorem draw_t {σ : L2.St} {H : Hp} {Q : VK} {p : Addr} {i : Nat} {m : Int} {te : TE} (hσ : σ[i]? = some (some (.ref p))) (ht : ∀ R : VK, R (.int m) H → te σ H R) (hp : PoolAt H p) (m0 : 0 < m) (m1 : m < 2 ^ 60) (k : ∀ (H' : Hp) (r : Int), Stp p H H' → 0 ≤ r → r < m → Q (.int r) H') :
    tCall spDraw [] E0 (tCons (tVar i) (tCons te tNil)) σ H Q := ⟨_, hσ, ht _ (draw_read (E := E0) (m := m) hp m0 m1 k)⟩
/-! ### displays of pairs -/
def tPair (q : Int × Int) : TE := tTup (tCons (tC (.int q.1)) (tCons (tC (.int q.2)) tNil))
def taPairs : List (Int × Int) → TA
  | [] => tNil
  | q :: l => tCons (tPair q) (taPairs l)
theorem pairs_read {σ : L2.St} : ∀ (l : List (Int × Int)) (H : Hp) (Q : List V → Hp → Prop), (∀ (H' : Hp) (as : List Addr), Same H H' → Paired (fun (a : Addr) (q : Int × Int) => H' a = some (.tup [.int q.1, .int q.2])) as l → Q (as.map V.ref) H') → taPairs l σ H Q
  | [], H, Q, k => k H [] (Same.refl H) .nil
  | q :: l, H, Q, k => by
    refine cons_read (tup_read (cons_read (c_read (cons_read (c_read (nil_read ⟨by show 2 ≤ sizeLine; decide, fun a na => ?_⟩))))))
    refine pairs_read l _ _ fun H' as s h => ?_
    refine k H' (a :: as) ((same_lay na).trans s) (.cons (s _ _ upd_same) h)
def shapesL : List (Int × Int) := [(3, 2), (3, 3), (4, 2), (3, 4), (4, 3), (3, 5), (5, 2), (4, 2)]
/-- a shape that the law draws -/
def Shp (b p n : Nat) : Prop := (b, p) ∈ [(3, 2), (3, 3), (3, 4), (3, 5), (4, 2), (4, 3), (5, 2)] ∧ 1 ≤ n ∧ n ≤ p * (b - 1)
theorem Shp.sz {b p n : Nat} (h : Shp b p n) : Sz b p n := by
  obtain ⟨h1, h2, h3⟩ := h
  simp only [List.mem_cons, List.mem_nil_iff, or_false, Prod.mk.injEq] at h1
  rcases h1 with ⟨rfl, rfl⟩ | ⟨rfl, rfl⟩ | ⟨rfl, rfl⟩ | ⟨rfl, rfl⟩ | ⟨rfl, rfl⟩ | ⟨rfl, rfl⟩ | ⟨rfl, rfl⟩ <;> exact ⟨by omega, by omega, by omega, by omega, h2, h3⟩
theorem Shp.few {b p n : Nat} (h : Shp b p n) : cntM b p n ≤ 2000 := by
  obtain ⟨h1, h2, h3⟩ := h
  refine cnt_small (b, p) h1 n ?_
  simp only [List.mem_cons, List.mem_nil_iff, or_false, Prod.mk.injEq] at h1
  rcases h1 with ⟨rfl, rfl⟩ | ⟨rfl, rfl⟩ | ⟨rfl, rfl⟩ | ⟨rfl, rfl⟩ | ⟨rfl, rfl⟩ | ⟨rfl, rfl⟩ | ⟨rfl, rfl⟩ <;> omega
theorem shape_at : ∀ q ∈ shapesL, ∃ b p : Nat, q = ((b : Int), (p : Int)) ∧ (b, p) ∈ [(3, 2), (3, 3), (3, 4), (3, 5), (4, 2), (4, 3), (5, 2)] := by
  intro q hq
  simp only [shapesL, List.mem_cons, List.mem_nil_iff, or_false] at hq
  rcases hq with rfl | rfl | rfl | rfl | rfl | rfl | rfl | rfl
  · exact ⟨3, 2, rfl, by decide⟩
  · exact ⟨3, 3, rfl, by decide⟩
  · exact ⟨4, 2, rfl, by decide⟩
  · exact ⟨3, 4, rfl, by decide⟩
  · exact ⟨4, 3, rfl, by decide⟩
  · exact ⟨3, 5, rfl, by decide⟩
  · exact ⟨5, 2, rfl, by decide⟩
  · exact ⟨4, 2, rfl, by decide⟩
def spShp (K : PySem.W.Frag) : Sp := fun vs H Q _ => ∃ pl : Addr, vs = [.ref pl] ∧ PoolAt H pl ∧ ∀ (H' : Hp) (q : Addr) (b p n : Nat), Stp pl H H' → Shp b p n → H' q = some (.tup [.int (b : Int), .int (p : Int), .int (n : Int)]) → Q (.ref q) H'
section
variable {P : Program} {w : World} {K : PySem.W.Frag} {mg : Str → Option Value} {base : Heap}
theorem ok_shp {f fD : Addr} {fd fdD : FuncData} (F : Fun K "_law_shape" "_law_shape" sShp f fd) (GD : FnOk P w K mg base CX0 1 fD fdD ["_law_pool_here", "_law_many"] spDraw) (kD : PySem.W.keepIn K (.ref fD) = true) (bD : Binds K fdD ["_law_pool_here", "_law_many"] [])
    (gD : mg "_law_draw" = some (.ref fD)) : FnOk P w K mg base CX0 2 f fd ["_law_pool_here"] (spShp K) := by
  refine F.ok scShp (fun vs H Q E h => ?_) (fun cdv A outer s H vs Q E hr h => ?_)
  · obtain ⟨pl, rfl, _⟩ := h
    rfl
  obtain ⟨pl, rfl, hp, k⟩ := h
  refine ⟨_, pss_cons (ps_asg (pe_ix ix_list (pe_lst (pa_cons (pe_tup (pa_cons pe_int (pa_cons pe_int pa_nil))) (pa_cons (pe_tup (pa_cons pe_int (pa_cons pe_int pa_nil))) (pa_cons (pe_tup (pa_cons pe_int (pa_cons pe_int pa_nil))) (pa_cons (pe_tup (pa_cons pe_int (pa_cons pe_int pa_nil)))
      (pa_cons (pe_tup (pa_cons pe_int (pa_cons pe_int pa_nil))) (pa_cons (pe_tup (pa_cons pe_int (pa_cons pe_int pa_nil))) (pa_cons (pe_tup (pa_cons pe_int (pa_cons pe_int pa_nil))) (pa_cons (pe_tup (pa_cons pe_int (pa_cons pe_int pa_nil))) pa_nil)))))))))
      (pe_call GD hr (by rfl) gD kD bD .nil pass0 (pa_cons (pv 0) (pa_cons pe_int pa_nil))) (fun _ _ => rfl)) (pg_tup rfl (pgs_cons (pg_name (i := 1) scShp.nd rfl (.inl rfl)) (pgs_cons (pg_name (i := 2) scShp.nd rfl (.inl rfl)) pgs_nil))))
    (pss_cons (ps_set (i := 3) scShp.nd rfl (.inl rfl) (pe_op op_mul (pv 2) (pe_op op_sub (pv 1) pe_int)))
    (pss_cons (ps_if (pt_cmpR op_eq (pe_call GD hr (by rfl) gD kD bD .nil pass0 (pa_cons (pv 0) (pa_cons pe_int pa_nil))) pe_int (nomark _)) (pss_one (ps_ret (pe_tup (pa_cons (pv 1) (pa_cons (pv 2) (pa_cons (pv 3) pa_nil)))))) pss_nil)
    (pss_one (ps_ret (pe_tup (pa_cons (pv 1) (pa_cons (pv 2) (pa_cons (pe_op op_add pe_int (pe_call GD hr (by rfl) gD kD bD .nil pass0 (pa_cons (pv 0) (pa_cons (pv 3) pa_nil)))) pa_nil)))))))), ?_⟩
  refine seq_asg (op_read (lst_read ?_))
  refine pairs_read shapesL H _ fun H1 as s1 hP => ⟨by rw [List.length_map, Paired.length hP, sizeLine_eq]; decide, fun l nl => ?_⟩
  have s2 : Same H1 (upd H1 l (.lst (as.map V.ref))) := same_lay nl
  have S2 : Stp pl H (upd H1 l (.lst (as.map V.ref))) := Stp.of hp (s1.trans s2)
  have hl : (upd H1 l (.lst (as.map V.ref))) l = some (.lst (as.map V.ref)) := upd_same
  have hP2 : Paired (fun (a : Addr) (q : Int × Int) => (upd H1 l (.lst (as.map V.ref))) a = some (.tup [.int q.1, .int q.2])) as shapesL := Paired.mapP hP fun _ _ z => s2 _ _ z
  have npl : l ≠ pl := by
    obtain ⟨i, j, n, e, _⟩ := hp
    exact fun z => by rw [z] at nl; rw [s1 _ _ e] at nl; cases nl
  generalize upd H1 l (.lst (as.map V.ref)) = H2 at s2 S2 hl hP2 ⊢
  refine draw_c (p := pl) rfl S2.1 (by decide) (by decide) fun H3 r S3 r0 r1 => ?_
  have hlen : as.length = 8 := Paired.length hP
  obtain ⟨a, ha⟩ : ∃ a, as[r.toNat]? = some a := ⟨as[r.toNat]'(by omega), List.getElem?_eq_getElem (by omega)⟩
  obtain ⟨q, hq1, hq2⟩ := paired_get hP2 ha
  obtain ⟨b, p, rfl, hbp⟩ := shape_at q (List.mem_of_getElem? hq1)
  have hl3 := S3.2 _ _ npl hl
  have ea : r = ((r.toNat : Nat) : Int) := by omega
  refine ⟨l, _, r, .ref a, rfl, rfl, SqL.of hl3, ?_, ?_⟩
  · rw [ea]
    exact atI_nat (by rw [List.getElem?_map, ha]; rfl)
  have ha3 : H3 a = some (.tup [.int (b : Int), .int (p : Int)]) := by
    refine S3.2 _ _ ?_ hq2
    obtain ⟨i, j, n, e, _⟩ := S2.1
    exact ne_of hq2 e (by intro z; cases z)
  refine ⟨a, _, rfl, SqT.of ha3, rfl, _, _, rfl, _, _, rfl, rfl, ?_⟩
  have S4 := S2.trans S3
  have hz : 3 ≤ b ∧ b ≤ 6 ∧ 2 ≤ p ∧ p ≤ 5 := by
    simp only [List.mem_cons, List.mem_nil_iff, or_false, Prod.mk.injEq] at hbp
    omega
  obtain ⟨z1, z2, z3, z4⟩ := hz
  have eroom : (p : Int) * ((b : Int) - 1) = ((p * (b - 1) : Nat) : Int) := by rw [Int.natCast_mul, Int.natCast_sub (by omega)]; rfl
  have hroom : 1 ≤ p * (b - 1) := Nat.mul_pos (by omega) (by omega)
  have hroom2 : p * (b - 1) ≤ 5 * 5 := Nat.mul_le_mul z4 (by omega)
  refine ⟨_, rfl, _, rfl, _, _, rfl, rfl, _, _, rfl, rfl, .inl ⟨by omega, by omega⟩, ?_⟩
  refine draw_c (p := pl) rfl S4.1 (by decide) (by decide) fun H5 r2 S5 r20 r21 => ?_
  refine ⟨rfl, _, rfl, ite2 (fun _ => ?_) (fun _ => ?_)⟩
  · refine ⟨_, rfl, _, rfl, _, rfl, by show 3 ≤ sizeLine; decide, fun q nq => ?_⟩
    refine k _ q b p (p * (b - 1)) ((S4.trans S5).trans (Stp.of S5.1 (same_lay nq))) ⟨hbp, hroom, Nat.le_refl _⟩ ?_
    rw [upd_same, ← eroom]
  · refine ⟨_, rfl, _, rfl, ?_⟩
    refine draw_v (p := pl) rfl rfl S5.1 (by rw [eroom]; omega) (by rw [eroom]; omega) fun H6 r3 S6 r30 r31 => ?_
    rw [eroom] at r31
    refine ⟨_, _, rfl, rfl, by show 3 ≤ sizeLine; decide, fun q nq => ?_⟩
    refine k _ q b p (1 + r3.toNat) ((S4.trans S5).trans (S6.trans (Stp.of S6.1 (same_lay nq)))) ⟨hbp, by omega, by omega⟩ ?_
    rw [upd_same]
    have e : ((1 + r3.toNat : Nat) : Int) = 1 + r3 := by omega
    rw [e]
end
end K2

set_option Elab.async false
set_option linter.all false
set_option maxRecDepth 100000
set_option maxHeartbeats 4000000
namespace K2
open PySem PySem.Spec PyProof.Rows L2 G1 G2
def spTab (K : PySem.W.Frag) : Sp := fun vs H Q _ => ∃ (pl : Addr) (p : Nat), vs = [.ref pl, .int (p : Int)] ∧ PoolAt H pl ∧ p < 26 ∧ ∀ (H' : Hp) (t : Addr) (ini : List RowD) (y : Str), Stp pl H H' → RowsAt K H' t (ini ++ [((p : Int), y)]) → IniOk p ini → y ∈ wordsL → Q (.ref t) H'
theorem tone_at (r : Int) (h0 : 0 ≤ r) (h1 : r < 4) : ∃ w ∈ wordsL, atI (wordsL.map V.str) r = some (.str w) := by
  have c : r = 0 ∨ r = 1 ∨ r = 2 ∨ r = 3 := by omega
  rcases c with rfl | rfl | rfl | rfl
  · exact ⟨Str.ofString "oldest", by decide, rfl⟩
  · exact ⟨Str.ofString "youngest", by decide, rfl⟩
  · exact ⟨Str.ofString "least", by decide, rfl⟩
  · exact ⟨Str.ofString "most", by decide, rfl⟩
theorem pool_ne {H : Hp} {pl a : Addr} {xs : List V} (hp : PoolAt H pl) (ha : H a = some (.tup xs)) : a ≠ pl := by
  obtain ⟨i, j, n, e, _⟩ := hp
  exact ne_of ha e (by intro z; cases z)
theorem pool_new {H : Hp} {pl a : Addr} (hp : PoolAt H pl) (ha : H a = none) : a ≠ pl := by
  obtain ⟨i, j, n, e, _⟩ := hp
  exact fun z => by rw [z, e] at ha; cases ha
section
variable {P : Program} {w : World} {K : PySem.W.Frag} {mg : Str → Option Value} {base : Heap}
theorem ok_tab {f fD : Addr} {fd fdD : FuncData} (F : Fun K "_law_table" "_law_table" sTab f fd) (B : Bl mg) (GD : FnOk P w K mg base CX0 1 fD fdD ["_law_pool_here", "_law_many"] spDraw) (kD : PySem.W.keepIn K (.ref fD) = true) (bD : Binds K fdD ["_law_pool_here", "_law_many"] [])
    (gD : mg "_law_draw" = some (.ref fD)) : FnOk P w K mg base CX0 2 f fd ["_law_pool_here", "_law_size"] (spTab K) := by
  refine F.ok scTab (fun vs H Q E h => ?_) (fun cdv A outer s H vs Q E hr h => ?_)
  · obtain ⟨pl, p, rfl, _⟩ := h
    rfl
  obtain ⟨pl, p, rfl, hp, hp26, k⟩ := h
  refine ⟨_, pss_cons (ps_set (i := 2) scTab.nd rfl (.inl rfl) (pe_lst (pa_cons pe_str (pa_cons pe_str (pa_cons pe_str (pa_cons pe_str pa_nil))))))
    (pss_cons (ps_set (i := 3) scTab.nd rfl (.inl rfl) (pe_lst pa_nil))
    (pss_cons (ps_for PassesOwn.never rfl (pi_range1 (by rfl) B.range (pa_cons (pe_call GD hr (by rfl) gD kD bD .nil pass0 (pa_cons (pv 0) (pa_cons pe_int pa_nil))) pa_nil)) (pg_name (i := 4) scTab.nd rfl (.inl rfl))
      (pss_one (ps_expr (pe_bm PySem.F.plainAttrs_list PySem.F.slot_list_append PySem.F.type_list_append mt_append (pv 3) (pa_cons (pe_tup (pa_cons (pe_call GD hr (by rfl) gD kD bD .nil pass0 (pa_cons (pv 0) (pa_cons (pe_op op_add (pv 1) pe_int) pa_nil)))
        (pa_cons (pe_ix ix_list (pv 2) (pe_call GD hr (by rfl) gD kD bD .nil pass0 (pa_cons (pv 0) (pa_cons pe_int pa_nil))) (fun _ _ => rfl)) pa_nil))) pa_nil)))))
    (pss_cons (ps_expr (pe_bm PySem.F.plainAttrs_list PySem.F.slot_list_append PySem.F.type_list_append mt_append (pv 3) (pa_cons (pe_tup (pa_cons (pv 1)
        (pa_cons (pe_ix ix_list (pv 2) (pe_call GD hr (by rfl) gD kD bD .nil pass0 (pa_cons (pv 0) (pa_cons pe_int pa_nil))) (fun _ _ => rfl)) pa_nil))) pa_nil)))
    (pss_one (ps_ret (pe_callTy call_tuple_of (by rfl) B.tup bTup (pa_cons (pv 3) pa_nil))))))), ?_⟩
  refine seq_asg ⟨by show 4 ≤ sizeLine; decide, fun tn ntn => ?_⟩
  have s1 : Same H (upd H tn (.lst (wordsL.map V.str))) := same_lay ntn
  have e1 : (upd H tn (.lst (wordsL.map V.str))) tn = some (.lst (wordsL.map V.str)) := upd_same
  show tSeq _ _ _ _ (upd H tn (.lst (wordsL.map V.str)))
  generalize upd H tn (.lst (wordsL.map V.str)) = H1 at s1 e1 ⊢
  refine seq_asg ⟨by show 0 ≤ sizeLine; decide, fun sm nsm => ?_⟩
  have nts : tn ≠ sm := ne_of_none e1 nsm
  have s2 : Same H (upd H1 sm (.lst [])) := s1.trans (same_lay nsm)
  have e2 : (upd H1 sm (.lst [])) sm = some (.lst (([] : List Addr).map V.ref)) := upd_same
  have e3 : (upd H1 sm (.lst [])) tn = some (.lst (wordsL.map V.str)) := by rw [upd_ne nts]; exact e1
  have nH : H sm = none := s1.free nsm
  generalize upd H1 sm (.lst []) = H2 at s2 e2 e3 ⊢
  have ntp : tn ≠ pl := pool_new hp ntn
  have nsp : sm ≠ pl := pool_new hp nH
  refine seq_for fun D' hD1 hD2 => ?_
  refine draw_c (p := pl) rfl (Stp.of hp s2).1 (by decide) (by decide) fun H3 m S3 m0 m1 => ⟨m, rfl, by omega, by omega, ?_⟩
  have S0 : Stp pl H H3 := (Stp.of hp s2).trans S3
  refine for_range (lo := 0) (n := m.toNat) (fun i σ H' => ∃ (x4 : Option V) (rs : List Addr) (rows : List RowD), σ = [some (.ref pl), some (.int (p : Int)), some (.ref tn), some (.ref sm), x4] ∧ Stp pl H H' ∧ H' tn = some (.lst (wordsL.map V.str)) ∧ H' sm = some (.lst (rs.map V.ref)) ∧
      Paired (fun (a : Addr) (r : RowD) => H' a = some (.tup [.int r.1, .str r.2])) rs rows ∧ rows.length = i ∧ ∀ r ∈ rows, RowOk p r) ⟨none, [], [], rfl, S0, S3.2 _ _ ntp e3, S3.2 _ _ nsp e2, .nil, rfl, fun _ z => nomatch z⟩ ?_ ?_
  · rintro i σ H' hi ⟨x4, rs, rows, rfl, S4, q1, q2, q3, q4, q5⟩
    refine ⟨_, rfl, .inl ⟨rfl, _, SqL.of q2⟩, ?_⟩
    refine cons_read (tup_read (cons_read ?_))
    refine draw_t (p := pl) (m := (p : Int) + 1) rfl (fun R q => ⟨_, rfl, _, _, rfl, rfl, q⟩) S4.1 (by omega) (by omega) fun H5 l S5 l0 l1 => ?_
    refine cons_read (op_read ⟨_, rfl, ?_⟩)
    refine draw_c (p := pl) rfl S5.1 (by decide) (by decide) fun H6 r S6 r0 r1 => ?_
    have S56 := S5.trans S6
    obtain ⟨x, hx, ex⟩ := tone_at r r0 r1
    refine ⟨tn, _, r, _, rfl, rfl, SqL.of (S56.2 _ _ ntp q1), ex, ?_⟩
    refine nil_read ⟨by show 2 ≤ sizeLine; decide, fun a na => ?_⟩
    have s7 : Same H6 (upd H6 a (.tup [.int l, .str x])) := same_lay na
    have hs6 := S56.2 _ _ nsp q2
    refine ⟨sm, _, _, rfl, rfl, s7 _ _ hs6, ?_, _, rs ++ [a], rows ++ [(l, x)], rfl, ?_, ?_, ?_, ?_, ?_, ?_⟩
    · have hl2 := Paired.length q3
      rw [List.length_map, sizeLine_eq]
      omega
    · have S7 : Stp pl H (upd H6 a (.tup [.int l, .str x])) := S4.trans (S56.trans (Stp.of S56.1 s7))
      obtain ⟨i1, j1, n1, z1, z2, z3⟩ := S7.1
      refine ⟨⟨i1, j1, n1, by rw [upd_ne (Ne.symm nsp)]; exact z1, z2, z3⟩, fun c o hc e => ?_⟩
      rw [upd_ne (ne_of_none e nH)]
      exact S7.2 c o hc e
    · rw [upd_ne nts]; exact s7 _ _ (S56.2 _ _ ntp q1)
    · rw [upd_same]; simp
    · have nas : a ≠ sm := fun z => by rw [z, hs6] at na; cases na
      refine paired_snoc (Paired.mapP q3 fun c r z => ?_) (by rw [upd_ne nas, upd_same])
      have hcp := pool_ne S4.1 z
      have hcs : c ≠ sm := ne_of z q2 (by intro z; cases z)
      rw [upd_ne hcs]
      exact s7 _ _ (S56.2 _ _ hcp z)
    · rw [List.length_append, q4]; rfl
    · intro r' hr'
      rcases List.mem_append.mp hr' with hr' | hr'
      · exact q5 r' hr'
      · rw [List.mem_singleton.mp hr']
        exact ⟨l0, by omega, hx⟩
  · rintro σ H' ⟨x4, rs, rows, rfl, S4, q1, q2, q3, q4, q5⟩
    rw [hD1]
    refine ⟨_, rfl, .inl ⟨rfl, _, SqL.of q2⟩, ?_⟩
    refine cons_read (tup_read (cons_read ⟨_, rfl, cons_read (op_read ⟨_, rfl, ?_⟩)⟩))
    refine draw_c (p := pl) rfl S4.1 (by decide) (by decide) fun H6 r S6 r0 r1 => ?_
    obtain ⟨x, hx, ex⟩ := tone_at r r0 r1
    refine ⟨tn, _, r, _, rfl, rfl, SqL.of (S6.2 _ _ ntp q1), ex, ?_⟩
    refine nil_read ⟨by show 2 ≤ sizeLine; decide, fun a na => ?_⟩
    have s7 : Same H6 (upd H6 a (.tup [.int (p : Int), .str x])) := same_lay na
    have hs6 := S6.2 _ _ nsp q2
    have hl2 := Paired.length q3
    refine ⟨sm, _, _, rfl, rfl, s7 _ _ hs6, ?_, ?_⟩
    · rw [List.length_map, sizeLine_eq]
      omega
    have S7 : Stp pl H (upd H6 a (.tup [.int (p : Int), .str x])) := S4.trans (S6.trans (Stp.of S6.1 s7))
    have hsm : (upd (upd H6 a (.tup [.int (p : Int), .str x])) sm (.lst (rs.map V.ref ++ [.ref a]))) sm = some (.lst ((rs ++ [a]).map V.ref)) := by rw [upd_same]; simp
    have S8 : Stp pl H (upd (upd H6 a (.tup [.int (p : Int), .str x])) sm (.lst (rs.map V.ref ++ [.ref a]))) := by
      obtain ⟨i1, j1, n1, z1, z2, z3⟩ := S7.1
      refine ⟨⟨i1, j1, n1, by rw [upd_ne (Ne.symm nsp)]; exact z1, z2, z3⟩, fun c o hc e => ?_⟩
      rw [upd_ne (ne_of_none e nH)]
      exact S7.2 c o hc e
    have hPr : Paired (fun (c : Addr) (r : RowD) => (upd (upd H6 a (.tup [.int (p : Int), .str x])) sm (.lst (rs.map V.ref ++ [.ref a]))) c = some (.tup [.int r.1, .str r.2])) (rs ++ [a]) (rows ++ [((p : Int), x)]) := by
      have nas : a ≠ sm := fun z => by rw [z, hs6] at na; cases na
      refine paired_snoc (Paired.mapP q3 fun c r z => ?_) (by rw [upd_ne nas, upd_same])
      have hcp := pool_ne S4.1 z
      have hcs : c ≠ sm := ne_of z q2 (by intro z; cases z)
      rw [upd_ne hcs]
      exact s7 _ _ (S6.2 _ _ hcp z)
    generalize upd (upd H6 a (.tup [.int (p : Int), .str x])) sm (.lst (rs.map V.ref ++ [.ref a])) = H8 at hsm S8 hPr ⊢
    refine ⟨_, rfl, sm, _, rfl, .inl ⟨SqL.of hsm, fun t nt => ?_⟩⟩
    refine k _ t rows x (S8.trans (Stp.of S8.1 (same_lay nt))) ⟨rs ++ [a], SqT.of upd_same, Paired.mapP hPr fun c r z => SqT.of (same_lay nt _ _ z)⟩ ⟨q5, by omega⟩ hx
end
end K2

set_option Elab.async false
set_option linter.all false
set_option maxRecDepth 100000
set_option maxHeartbeats 4000000
namespace K2
open PySem PySem.Spec PyProof.Rows L2 G1 G2
abbrev sMad : Stmt := topS 89
theorem scMad : FnScope ["_law_shape_here", "_law_table_here"] ["_law_shape_here", "_law_table_here"] (defScope sMad) := ⟨rfl, rfl, rfl, by decide +kernel, rfl, by decide +kernel, by decide +kernel⟩
def ShpAt (K : PySem.W.Frag) (H : Hp) (s : Addr) (b p n : Nat) : Prop := SqT K H s [.int (b : Int), .int (p : Int), .int (n : Int)]
def spMad (K : PySem.W.Frag) (C : Addr) : Sp := fun vs H Q _ => ∃ (s t : Addr) (b p n : Nat) (ini : List RowD) (y : Str), vs = [.ref s, .ref t] ∧ ShpAt K H s b p n ∧ DP b p n ini y ∧ RowsAt K H t (ini ++ [((p : Int), y)]) ∧ Made K C H Q b p n ini y
section
variable {P : Program} {w : World} {K : PySem.W.Frag} {mg : Str → Option Value} {base : Heap}
theorem ok_mad {f C fI : Addr} {fd fdI : FuncData} (F : Fun K "_law_made" "_law_made" sMad f fd) (M : Mk K C fI) (GI : FnOk P w K mg base CX0 5 fI fdI ["self", "blocks", "pages", "names", "rows"] (spIni K C)) (bI : Binds K fdI ["self", "blocks", "pages", "names", "rows"] []) (gD : mg "Drive" = some (.ref C)) :
    FnOk P w K mg base CX0 7 f fd ["_law_shape_here", "_law_table_here"] (spMad K C) := by
  refine F.ok scMad (fun vs H Q E h => ?_) (fun cdv A outer s H vs Q E hr h => ?_)
  · obtain ⟨s, t, b, p, n, ini, y, rfl, _⟩ := h
    rfl
  obtain ⟨s, t, b, p, n, ini, y, rfl, hs, hd, hR, k⟩ := h
  refine ⟨_, pss_one (ps_ret (pe_make M GI hr (by rfl) gD bI .nil pass0 (pa_cons (pe_ix ix_tup (pv 0) pe_int (fun _ _ => rfl)) (pa_cons (pe_ix ix_tup (pv 0) pe_int (fun _ _ => rfl)) (pa_cons (pe_ix ix_tup (pv 0) pe_int (fun _ _ => rfl)) (pa_cons (pv 1) pa_nil)))))), ?_⟩
  refine ⟨_, rfl, s, _, _, _, rfl, rfl, hs, rfl, _, rfl, s, _, _, _, rfl, rfl, hs, rfl, _, rfl, s, _, _, _, rfl, rfl, hs, rfl, _, rfl, ?_⟩
  exact make_read hd hR k
end
end K2

set_option Elab.async false
set_option linter.all false
set_option maxRecDepth 100000
set_option maxHeartbeats 4000000
/-! min(xs, key = f), max(xs, key = f): f tells a whole number and leaves all objects as they are. -/
namespace G5
open PySem PySem.Spec PyProof.Rows L2
/-- all objects stay -/
abbrev Kp (h h' : Heap) : Prop := ∀ b o, h.get? b = some o → h'.get? b = some o
def lessB (kf : Nat → Int) (i j : Nat) : Bool := decide (kf i < kf j)
def moreB (kf : Nat → Int) (i j : Nat) : Bool := decide (kf i > kf j)
theorem best_less (kf : Nat → Int) : ∀ k, argBest (lessB kf) k ≤ k ∧ ∀ j, j ≤ k → kf (argBest (lessB kf) k) ≤ kf j ∧ (j < argBest (lessB kf) k → kf (argBest (lessB kf) k) < kf j)
  | 0 => ⟨Nat.le_refl _, fun j hj => by
    have e : j = 0 := by omega
    subst e
    exact ⟨Int.le_refl _, fun z => absurd z (Nat.not_lt_zero _)⟩⟩
  | k + 1 => by
    obtain ⟨h1, h2⟩ := best_less kf k
    unfold argBest
    by_cases c : lessB kf (k + 1) (argBest (lessB kf) k) = true
    · rw [if_pos c]
      have c' : kf (k + 1) < kf (argBest (lessB kf) k) := of_decide_eq_true c
      refine ⟨Nat.le_refl _, fun j hj => ?_⟩
      by_cases e : j = k + 1
      · subst e
        exact ⟨Int.le_refl _, fun z => absurd z (Nat.lt_irrefl _)⟩
      · have := (h2 j (by omega)).1
        exact ⟨by omega, fun _ => by omega⟩
    · rw [if_neg c]
      have c' : ¬ kf (k + 1) < kf (argBest (lessB kf) k) := fun z => c (decide_eq_true z)
      refine ⟨by omega, fun j hj => ?_⟩
      by_cases e : j = k + 1
      · subst e
        exact ⟨by omega, fun z => by omega⟩
      · exact h2 j (by omega)
theorem best_more (kf : Nat → Int) : ∀ k, argBest (moreB kf) k ≤ k ∧ ∀ j, j ≤ k → kf j ≤ kf (argBest (moreB kf) k) ∧ (j < argBest (moreB kf) k → kf j < kf (argBest (moreB kf) k))
  | 0 => ⟨Nat.le_refl _, fun j hj => by
    have e : j = 0 := by omega
    subst e
    exact ⟨Int.le_refl _, fun z => absurd z (Nat.not_lt_zero _)⟩⟩
  | k + 1 => by
    obtain ⟨h1, h2⟩ := best_more kf k
    unfold argBest
    by_cases c : moreB kf (k + 1) (argBest (moreB kf) k) = true
    · rw [if_pos c]
      have c' : kf (k + 1) > kf (argBest (moreB kf) k) := of_decide_eq_true c
      refine ⟨Nat.le_refl _, fun j hj => ?_⟩
      by_cases e : j = k + 1
      · subst e
        exact ⟨Int.le_refl _, fun z => absurd z (Nat.lt_irrefl _)⟩
      · have := (h2 j (by omega)).1
        exact ⟨by omega, fun _ => by omega⟩
    · rw [if_neg c]
      have c' : ¬ kf (k + 1) > kf (argBest (moreB kf) k) := fun z => c (decide_eq_true z)
      refine ⟨by omega, fun j hj => ?_⟩
      by_cases e : j = k + 1
      · subst e
        exact ⟨by omega, fun z => by omega⟩
      · exact h2 j (by omega)
section
variable {prog : Program} {w : World} {A : Around} {E : Value → Shared → Prop} {s : Shared} {l f : Addr} {items : List Value} {kf : Nat → Int} {Q : Value → Shared → Prop}
/-- f of the i-th item is the number kf i -/
def Turn (prog : Program) (w : World) (A : Around) (s : Shared) (f : Addr) (items : List Value) (kf : Nat → Int) : Prop := ∀ (i : Nat) (v : Value), items[i]? = some v → ∀ (h : Heap) (tk : Nat), Kp s.heap h → ∀ (Q' : Value → Shared → Prop) (E' : Value → Shared → Prop),
  (∀ t h' tk', Kp h h' → tk ≤ tk' → Q' (.int (kf i) t) { s with heap := h', toks := tk' }) → wpAny (model prog w) A (call (.ref f) [v]) Q' E' { s with heap := h, toks := tk }
/-- what stays while the items are gone through -/
def Jst (s s' : Shared) : Prop := Kp s.heap s'.heap ∧ s'.gens = s.gens ∧ s'.drawn = s.drawn ∧ s'.os = s.os
theorem Jst.eq {s s' : Shared} (j : Jst s s') : s' = { s with heap := s'.heap, toks := s'.toks } := by
  obtain ⟨h', g', d', tk', os'⟩ := s'
  obtain ⟨_, e1, e2, e3⟩ := j
  dsimp only at e1 e2 e3
  subst e1 e2 e3
  rfl
theorem keyRun {op : CmpOp} {bt : Nat → Nat → Bool} {S I : Addr} {h2 : Heap} (hl : s.heap.IsList l items.toArray) (turn : Turn prog w A s f items kf) (hcmp : CmpOf prog w A op (fun i v => ∃ t, v = Value.int (kf i) t) bt) (hI : s.heap.objs.size ≤ I) (hS : s.heap.objs.size ≤ S)
    (W : WalksS prog w A I [I, l] [I] (fun a b => b = a) items.toArray.size (fun i v => items.toArray[i]? = some v) (fun i s' => s'.heap.IsListIter I l i ∧ s'.heap.IsList l items.toArray)) :
    KeyRun prog w A (.ref f) op S [I] (fun a b => b = a) items.toArray.size (fun i v => items.toArray[i]? = some v) (fun i s' => s'.heap.IsListIter I l i ∧ s'.heap.IsList l items.toArray) (Jst s) (fun i k _ => ∃ t, k = Value.int (kf i) t) bt where
  keep := fun a b j m => by
    obtain ⟨k, e1, e2, e3⟩ := j
    refine ⟨fun c o e => m.heap c o (fun z => ?_) (k c o e), m.gens.trans e1, m.drawn.trans e2, m.os.trans e3⟩
    have hc := Heap.lt_size e
    rcases List.mem_cons.mp z with z | z
    · rw [z] at hc
      exact absurd hc (Nat.not_lt.mpr hS)
    · rw [List.mem_singleton.mp z] at hc
      exact absurd hc (Nat.not_lt.mpr hI)
  keepV := fun _ _ _ _ v _ => v
  turn := fun i v s' o Q' E' hi hv j st hS' hq => by
    have hv' : items[i]? = some v := by simpa using hv
    have e := j.eq
    rw [e]
    refine turn i v hv' s'.heap s'.toks j.1 Q' E' fun t h' tk' k htk => hq _ _ ⟨fun c o z => k c o (j.1 c o z), rfl, rfl, rfl⟩ ?_ (k S o hS') ⟨t, rfl⟩ fun _ _ z => z
    exact ⟨st.1.at fun o z => k I o z, st.2.at fun o z => k l o z⟩
  cmp := fun i j ki kj s' Q' E' _ vi vj hq => hcmp i j ki kj s' Q' E' vi vj hq
theorem min_key (hh : A.handled = none) (hl : s.heap.IsList l items.toArray) (hne : 0 < items.length) (turn : Turn prog w A.in1 s f items kf)
    (hQ : ∀ i v h' tk', items[i]? = some v → (∀ j, j < items.length → kf i ≤ kf j ∧ (j < i → kf i < kf j)) → Kp s.heap h' → Q v { s with heap := h', toks := tk' }) :
    wpAny (model prog w) A (call (.builtin "min") [.ref l] [(Str.ofString "key", .ref f)]) Q E s := by
  refine call_min_walkK (wpAny_pyIter_list hl ?_)
  have hlI : l ≠ s.heap.objs.size := by
    obtain ⟨o, ho, _⟩ := hl
    exact Nat.ne_of_lt (Heap.lt_size ho)
  have W := (Walks.list (prog := prog) (w := w) (A := A.in1) hh s.heap.objs.size l hlI items.toArray).toS
  have kp : Kp s.heap (s.heap.push { cls := .type "list_iterator", data := .fields #[.ref l, .int 0 0] }) := fun _ _ e => Heap.get?_push_of_some _ e
  refine ⟨_, _, _, _, _, _, _, Jst s, _, lessB kf, rfl, W, ⟨⟨_, Heap.get?_push_size _ rfl, rfl, rfl⟩, hl.at fun o e => kp _ _ e⟩, ?_, by rw [List.size_toArray]; exact hne, keyRun (h2 := s.heap) hl turn (CmpOf.ints_lt kf fun i v z => z) (Nat.le_refl _) (by simp [Heap.push]) W, ⟨kp, rfl, rfl, rfl⟩, fun v s' hv j => ?_⟩
  · intro b hb
    have hsz : (s.heap.push { cls := .type "list_iterator", data := .fields #[.ref l, .int 0 0] }).objs.size = s.heap.objs.size + 1 := by simp [Heap.push]
    show b < (s.heap.push _).objs.size
    rw [hsz]
    rcases List.mem_cons.mp hb with rfl | hb
    · exact Nat.lt_succ_self _
    · rw [List.mem_singleton.mp hb]
      obtain ⟨o, ho, _⟩ := hl
      exact Nat.lt_succ_of_lt (Heap.lt_size ho)
  · obtain ⟨b1, b2⟩ := best_less kf (items.toArray.size - 1)
    rw [j.eq]
    refine hQ _ v _ _ (by simpa using hv) (fun i hi => b2 i (by rw [List.size_toArray]; omega)) j.1
theorem max_key (hh : A.handled = none) (hl : s.heap.IsList l items.toArray) (hne : 0 < items.length) (turn : Turn prog w A.in1 s f items kf)
    (hQ : ∀ i v h' tk', items[i]? = some v → (∀ j, j < items.length → kf j ≤ kf i ∧ (j < i → kf j < kf i)) → Kp s.heap h' → Q v { s with heap := h', toks := tk' }) :
    wpAny (model prog w) A (call (.builtin "max") [.ref l] [(Str.ofString "key", .ref f)]) Q E s := by
  refine call_max_walkK (wpAny_pyIter_list hl ?_)
  have hlI : l ≠ s.heap.objs.size := by
    obtain ⟨o, ho, _⟩ := hl
    exact Nat.ne_of_lt (Heap.lt_size ho)
  have W := (Walks.list (prog := prog) (w := w) (A := A.in1) hh s.heap.objs.size l hlI items.toArray).toS
  have kp : Kp s.heap (s.heap.push { cls := .type "list_iterator", data := .fields #[.ref l, .int 0 0] }) := fun _ _ e => Heap.get?_push_of_some _ e
  refine ⟨_, _, _, _, _, _, _, Jst s, _, moreB kf, rfl, W, ⟨⟨_, Heap.get?_push_size _ rfl, rfl, rfl⟩, hl.at fun o e => kp _ _ e⟩, ?_, by rw [List.size_toArray]; exact hne, keyRun (h2 := s.heap) hl turn (CmpOf.ints_gt kf fun i v z => z) (Nat.le_refl _) (by simp [Heap.push]) W, ⟨kp, rfl, rfl, rfl⟩, fun v s' hv j => ?_⟩
  · intro b hb
    have hsz : (s.heap.push { cls := .type "list_iterator", data := .fields #[.ref l, .int 0 0] }).objs.size = s.heap.objs.size + 1 := by simp [Heap.push]
    show b < (s.heap.push _).objs.size
    rw [hsz]
    rcases List.mem_cons.mp hb with rfl | hb
    · exact Nat.lt_succ_self _
    · rw [List.mem_singleton.mp hb]
      obtain ⟨o, ho, _⟩ := hl
      exact Nat.lt_succ_of_lt (Heap.lt_size ho)
  · obtain ⟨b1, b2⟩ := best_more kf (items.toArray.size - 1)
    rw [j.eq]
    refine hQ _ v _ _ (by simpa using hv) (fun i hi => b2 i (by rw [List.size_toArray]; omega)) j.1
end
end G5

set_option Elab.async false
set_option linter.all false
set_option maxRecDepth 100000
set_option maxHeartbeats 4000000
/-! min(places, key = lambda place: closed[place]) -/
namespace G5
open PySem PySem.Spec PyProof.Rows L2
/-- the lambda's names: one parameter, one captured name -/
structure LamK (sc scope : Scope) (cn pn : Str) : Prop where
  kind : scope.kind = .function
  co : scope.isCoroutine = false
  gen : scope.isGenerator = false
  nocell : ∀ y ∈ scope.names, y.2 ≠ .cell
  par : scope.names.lookup pn = some .local
  cap : scope.names.lookup cn = some .free
  only : ∀ y ∈ scope.names, y.2 = .free → y.1 = cn
section
variable {prog : Program} {w : World} {A : Around} {s : Shared} {f c' t cc : Addr} {q cn pn : Str} {params : Arguments} {scope sc : Scope} {cl : List (Str × Addr)} {pm ctv : Value} {p1 p2 p3 : Pos} {items its : List Value} {cs : List Int} {pl : List Nat}
/-- the lambda, called with a place, tells what stands there -/
theorem lam_turn (L : LamK sc scope cn pn) (hdep : A.depth < recursionLimit) (hof : s.heap.get? f = some (PySem.W.kla_obj "<lambda>" q params (.Subscript (.Name cn p1) (.Name pn p2) p3) scope cl pm c' ctv)) (hrec : s.heap.CodeRec (.ref c') q) (hlim : s.heap.NoLimit)
    (hbind : ∀ u : Value, bindArgs (PySem.W.kla_fn "<lambda>" q params (.Subscript (.Name cn p1) (.Name pn p2) p3) scope cl pm (.ref c') ctv) ⟨[u], []⟩ = pure [(pn, u)])
    (hcl : cl.lookup cn = some cc) (hcell : s.heap.IsCell cc (some (.ref t))) (ht : IsTup s.heap t its.toArray) (hcs : Vals (cs.map V.int) its) (hcl60 : cs.length ≤ 1000) (hit : ∀ (i : Nat) (v : Value), items[i]? = some v → ∃ (k : Nat) (tk : Tok), pl[i]? = some k ∧ k < cs.length ∧ v = Value.int (k : Int) tk)
    (hd1 : (cn == ("__debug__" : Str)) = false) (hd2 : (pn == ("__debug__" : Str)) = false) (hd3 : (cn == ("__classdict__" : Str)) = false) :
    Turn prog w A s f items (fun i => cs.getD (pl.getD i 0) 0) := by
  intro i v hv h tk kp Q' E' hQ'
  obtain ⟨k, tv, hk, hkl, rfl⟩ := hit i v hv
  have hofh := kp _ _ hof
  obtain ⟨c2, oc, vs, t0, e2, hoc, hdc, hvc⟩ := hrec
  refine wpAny_call (PySem.W.kla_callFunE (s := { s with heap := h, toks := tk }) hdep hofh rfl L.co L.gen rfl ⟨c2, oc, vs, t0, e2, kp _ _ hoc, hdc, hvc⟩ ?_)
  rw [hbind]
  refine wpAny_pure (wpAny_newFunctionEnv L.nocell (fun y hy => ?_) (fun h₁ hns hsb => ⟨(hlim.keeps kp).fresh _ hsb, ?_⟩) L.kind)
  · rw [List.mem_singleton.mp hy]
    exact L.par
  have kp1 : Kp h h₁ := fun b o e => hsb.extBut b o (Nat.ne_of_lt (Heap.lt_size e)) (Heap.get?_push_of_some _ e)
  have kp2 : Kp s.heap h₁ := fun b o e => kp1 b o (kp b o e)
  refine PySem.W.kla_codeExpr ?_
  refine Subscript_ (wpAny_Name (wpAny_loadName_free (v := .ref t) L.kind L.cap hcl ?_ ?_ hd3) hd1)
  · obtain ⟨o, ho, hd⟩ := hcell
    exact ⟨o, kp2 _ _ ho, hd⟩
  refine wpAny_Name (wpAny_loadName_local (v := .int (k : Int) tv) L.kind L.par hns ?_ ?_) hd2
  · simp
  have hl := hcs.length
  rw [List.length_map] at hl
  obtain ⟨u, hu, ru⟩ := hcs.get (i := k) (x := .int (cs.getD k 0)) (by rw [List.getElem?_map, List.getElem?_eq_getElem hkl, List.getD_eq_getElem?_getD, List.getElem?_eq_getElem hkl]; rfl)
  obtain ⟨tu, rfl⟩ := ru
  have ht1 : IsTup h₁ t its.toArray := by
    obtain ⟨o, ho, r⟩ := ht
    exact ⟨o, kp2 _ _ ho, r⟩
  have hgk : pl.getD i 0 = k := by rw [List.getD_eq_getElem?_getD, hk]; rfl
  refine subscriptTail_builtinR (x := .int (cs.getD k 0) tu) ht1.typeIs slot_tuple_getitem.lookup (getItem_tuple (j := k) ht1 (by omega) (by omega) ?_ (by simpa using hu) ⟨rfl, ?_⟩) rfl
  · rw [List.size_toArray, ← hl]
    exact seqIndex_of (by omega) (by omega)
  · have := hQ' tu h₁ (tk + 1) kp1 (Nat.le_succ _)
    dsimp only at this ⊢
    rw [hgk] at this
    exact this
end
end G5

set_option Elab.async false
set_option linter.all false
set_option maxRecDepth 100000
set_option maxHeartbeats 4000000
namespace G5
open PySem PySem.Spec PyProof.Rows L2 LamX
theorem ext_lst {K : PySem.W.Frag} {H H' : Hp} {a : Addr} {xs : List V} (e : ExtN H H') (h : SqL K H a xs) : SqL K H' a xs := by
  rcases h with (h | ⟨o, h⟩) | h
  · exact .inl (.inl (e _ _ h (by intro ps z; cases z)))
  · exact .inl (.inr ⟨o, e _ _ h (by intro ps z; cases z)⟩)
  · exact .inr h
theorem ext_tup {K : PySem.W.Frag} {H H' : Hp} {a : Addr} {xs : List V} (e : ExtN H H') (h : SqT K H a xs) : SqT K H' a xs := by
  rcases h with (h | ⟨o, h⟩) | h
  · exact .inl (.inl (e _ _ h (by intro ps z; cases z)))
  · exact .inl (.inr ⟨o, e _ _ h (by intro ps z; cases z)⟩)
  · exact .inr h
abbrev nV (k : Nat) : V := .int (k : Int)
/-- the first place of pl at which cs is least (sg = true) or greatest -/
def Best (sg : Bool) (cs : List Int) (pl : List Nat) (j k : Nat) : Prop := pl[j]? = some k ∧ ∀ j' k', pl[j']? = some k' → if sg = true then cs.getD k 0 ≤ cs.getD k' 0 ∧ (j' < j → cs.getD k 0 < cs.getD k' 0) else cs.getD k' 0 ≤ cs.getD k 0 ∧ (j' < j → cs.getD k' 0 < cs.getD k 0)
def tMinL (sg : Bool) (T : List (Addr × Str)) (K : PySem.W.Frag) (i : Nat) (ta : TA) : TE := fun σ H Q => ta σ H fun xs H1 => Tabs T H1 ∧ ∃ (l t : Addr) (pl : List Nat) (cs : List Int), xs = [.ref l] ∧ SqL K H1 l (pl.map nV) ∧ σ[i]? = some (some (.ref t)) ∧ SqT K H1 t (cs.map V.int) ∧ pl ≠ [] ∧ (∀ k ∈ pl, k < cs.length) ∧ cs.length ≤ 1000 ∧
  ∀ (H2 : Hp) (j k : Nat), ExtN H1 H2 → Tabs T H2 → Best sg cs pl j k → Q (nV k) H2
theorem clo_look {cells : List (Str × Addr)} {scope : Scope} {cn : Str} {cc : Addr} (h1 : scope.names.lookup cn = some .free) (h2 : cells.lookup cn = some cc) (h3 : ∀ y ∈ scope.names, y.2 = .free → ∃ c, cells.lookup y.1 = some c) : (cloFrom cells scope.names []).lookup cn = some cc := by
  obtain ⟨c, hc⟩ := mem_lookup (cloFrom_has (cells := cells) (acc := []) (PySem.mem_of_lookup h1))
  rcases cloFrom_mem (PySem.mem_of_lookup hc) with hm | ⟨_, e⟩
  · cases hm
  · rw [hc]
    have e' : c = (cells.lookup cn).getD 0 := e
    rw [e', h2]
    rfl
theorem vals_nats : ∀ {pl : List Nat} {us : List Value}, Vals (pl.map nV) us → ∀ (i : Nat) (v : Value), us[i]? = some v → ∃ (k : Nat) (tk : Tok), pl[i]? = some k ∧ v = Value.int (k : Int) tk
  | [], _, .nil, i, v, h => by simp at h
  | k :: pl, _, .cons r t, 0, v, h => by
    obtain ⟨tk, e⟩ := (show ∃ tk, _ = Value.int (k : Int) tk from r)
    refine ⟨k, tk, rfl, ?_⟩
    rw [← e]
    exact (Option.some.inj h).symm
  | k :: pl, _, .cons r t, i + 1, v, h => by
    obtain ⟨k', tk, h1, h2⟩ := vals_nats t i v (by simpa using h)
    exact ⟨k', tk, by simpa using h1, h2⟩
section
variable {X : Cx} {T : List (Addr × Str)} {cn pn : Str} {c P : Addr} {params : Arguments} {scope : Scope} {p p1 p2 p3 kpos lpos pos : Pos} {e : Expr} {ta : TA} {i k : Nat}
/-- what the lambda's making and calling ask of the text -/
structure LamF (X : Cx) (T : List (Addr × Str)) (params : Arguments) (scope : Scope) (cn pn : Str) (i : Nat) (c P : Addr) (p1 p2 p3 : Pos) : Prop where
  L : LamK X.env.scope scope cn pn
  TB : TabB X.base X.mg c P
  code : X.env.code = .ref c
  mem : (P, X.env.qual ++ "<lambda>") ∈ T
  uniq : ∀ q ∈ T, q.1 = P → q.2 = X.env.qual ++ "<lambda>"
  dflt : defaultsOf params X.env = ([], [])
  bind : ∀ (q : Str) (cl : List (Str × Addr)) (pm cv ctv u : Value), bindArgs (PySem.W.kla_fn "<lambda>" q params (.Subscript (.Name cn p1) (.Name pn p2) p3) scope cl pm cv ctv) ⟨[u], []⟩ = pure [(pn, u)]
  slot : X.N[i]? = some cn
  cell : X.env.scope.names.lookup cn = some .cell
  d1 : (cn == ("__debug__" : Str)) = false
  d2 : (pn == ("__debug__" : Str)) = false
  d3 : (cn == ("__classdict__" : Str)) = false
theorem run_key {sg : Bool} {pins : List (Addr × Obj)} {σ : L2.St} {H : Hp} {s : Shared} {Q : VK} {us : List Value} {xs : List V} {EE : Value → Shared → Prop} (F : LamF X T params scope cn pn i c P p1 p2 p3) (hr : Room k X.A) (hc : X.calm = true) (I : Inv X pins σ H s) (r : Vals xs us)
    (h : Tabs T H ∧ ∃ (l t : Addr) (pl : List Nat) (cs : List Int), xs = [.ref l] ∧ SqL X.K H l (pl.map nV) ∧ σ[i]? = some (some (.ref t)) ∧ SqT X.K H t (cs.map V.int) ∧ pl ≠ [] ∧ (∀ k ∈ pl, k < cs.length) ∧ cs.length ≤ 1000 ∧ ∀ (H2 : Hp) (j k : Nat), ExtN H H2 → Tabs T H2 → Best sg cs pl j k → Q (nV k) H2) :
    wpAny (model X.prog X.w) X.A (eval (.Lambda params (.Subscript (.Name cn p1) (.Name pn p2) p3) scope lpos) X.env) (fun f s' => wpAny (model X.prog X.w) X.A (call (.builtin (if sg = true then "min" else "max")) us [(Str.ofString "key", f)]) (EP X pins σ Q) EE s') EE s := by
  obtain ⟨hT, l, t, pl, cs, rfl, hl, hσ, ht, hne, hin, hcs, q⟩ := h
  have hfree : ∀ y ∈ scope.names, y.2 = .free → ∃ c, X.env.cells.lookup y.1 = some c := fun y hy e => by
    rw [F.L.only y hy e]
    exact I.ok.has _ (.inl F.cell)
  refine lam_make2 I F.TB F.code F.mem F.uniq hT F.dflt hfree fun f c' pm ctv H2 s' I2 eN T2 hf hfn hfr hco => ?_
  rw [Vals.ref1 r]
  obtain ⟨its, rv, pl', hz⟩ := I2.list (ext_lst eN hl)
  obtain ⟨tts, rt, pt, hzt⟩ := I2.tuple (ext_tup eN ht)
  obtain ⟨m, hn, hloc⟩ := I2.loc
  obtain ⟨u, ru, lk⟩ := hloc i cn _ F.slot hσ (.inr (.inl F.cell))
  cases (show u = Value.ref t from ru)
  have hcell : ∃ cc, X.env.cells.lookup cn = some cc ∧ s'.heap.IsCell cc (some (.ref t)) := by
    rcases lk with ⟨z, _⟩ | ⟨_, z⟩
    · have z' : X.env.scope.names.lookup cn = some .local := z
      rw [F.cell] at z'
      cases z'
    · exact z
  obtain ⟨cc, hcc, hcell⟩ := hcell
  obtain ⟨⟨oc, vs, t0, hoc, hdc, hvc⟩, _, _⟩ := I2.hok c' _ hco
  have hpl : its.length = pl.length := by rw [← rv.length, List.length_map]
  have hit : ∀ (i : Nat) (v : Value), its[i]? = some v → ∃ (k : Nat) (tk : Tok), pl[i]? = some k ∧ k < cs.length ∧ v = Value.int (k : Int) tk := fun i v hv => by
    obtain ⟨k, tk, h1, h2⟩ := vals_nats rv i v hv
    exact ⟨k, tk, h1, hin k (List.mem_of_getElem? h1), h2⟩
  have turn : Turn X.prog X.w X.A.in1 s' f its (fun i => cs.getD (pl.getD i 0) 0) :=
    lam_turn F.L (by have := hr.dp; show X.A.depth < _; omega) hf ⟨c', oc, vs, t0, rfl, hoc, hdc, hvc⟩ I2.nolimit (fun u => F.bind _ _ _ _ _ u) (clo_look F.L.cap hcc hfree) hcell pt rt hcs hit F.d1 F.d2 F.d3
  have hlen : 0 < its.length := by
    rw [hpl]
    exact List.length_pos_iff.mpr hne
  have hgetD : ∀ {a b : Nat}, pl[a]? = some b → pl.getD a 0 = b := fun {a b} z => by rw [List.getD_eq_getElem?_getD, z]; rfl
  cases sg with
  | true =>
    refine min_key (I2.ok.hd hc) pl'.isList hlen turn fun j v h' tk' hv hb kp => ?_
    obtain ⟨kk, tv, h1, h2, rfl⟩ := hit j v hv
    refine ⟨nV kk, H2, I2.kept kp, ⟨_, rfl⟩, q H2 j kk eN T2 ⟨h1, fun j' k' hj' => ?_⟩⟩
    have hj := hb j' (by rw [hpl]; exact (List.getElem?_eq_some_iff.mp hj').1)
    rw [hgetD h1, hgetD hj'] at hj
    exact hj
  | false =>
    refine max_key (I2.ok.hd hc) pl'.isList hlen turn fun j v h' tk' hv hb kp => ?_
    obtain ⟨kk, tv, h1, h2, rfl⟩ := hit j v hv
    refine ⟨nV kk, H2, I2.kept kp, ⟨_, rfl⟩, q H2 j kk eN T2 ⟨h1, fun j' k' hj' => ?_⟩⟩
    have hj := hb j' (by rw [hpl]; exact (List.getElem?_eq_some_iff.mp hj').1)
    rw [hgetD h1, hgetD hj'] at hj
    exact hj
/-- min(e, key = lambda pn: cn[pn]), max(..) -/
theorem pe_minL {sg : Bool} {x : Str} (F : LamF X T params scope cn pn i c P p1 p2 p3) (hr : Room k X.A) (hc : X.calm = true) (hg : Gl X x) (hm : X.mg x = none) (hv : bootBuiltins x = some (.builtin (if sg = true then "min" else "max"))) (ha : PA X [e] ta) (hn : x ≠ "__name__" := by decide) (hdb : (x == ("__debug__" : Str)) = false := by decide)
    (he : backTo pos (starEach [e] X.env) = (false, eval e X.env) :: backTo pos (starEach [] X.env) := by rfl) (hpl : (backTo pos (starEach [e] X.env)).any (·.1) = false := by rfl) :
    PE X (.Call (.Name x p) [e] [⟨some (Str.ofString "key"), .Lambda params (.Subscript (.Name cn p1) (.Name pn p2) p3) scope lpos, kpos⟩] pos) (tMinL sg T X.K i ta) := by
  refine ⟨fun pins s σ H Q I h => ?_⟩
  refine wpAny_Call_Name_kw (ld_blt I hg hm hv ?_ hn hdb)
  refine PyProof.Rows.callWith_kw (thn (ha.run pos pins s σ H _ I h) fun us s1 ⟨vs, H1, I1, r1, q1⟩ => ?_) he hpl rfl rfl
  show wpAny _ _ (evalAll [(do let v ← eval (.Lambda params (.Subscript (.Name cn p1) (.Name pn p2) p3) scope lpos) X.env; standAt pos; pure v)]) _ _ s1
  refine wpAny_evalAll_cons (wpAny_bind (wpAny_mono (run_key (sg := sg) F hr hc I1 r1 q1) (fun f s2 hq => wpAny_bind (wpAny_standAt (wpAny_pure (wpAny_evalAll_nil ?_)))) fun _ _ z => z))
  exact hq
end
end G5

set_option Elab.async false
set_option linter.all false
set_option maxRecDepth 100000
set_option maxHeartbeats 4000000
/-! xs[i] read for xs[i] op= e; sets of tuples of whole numbers: set(), x in the empty one, add. -/
namespace G5
open PySem PySem.Spec PyProof.Rows L2 Builtin
section
variable {X : Cx}
/-- xs[i], 0 ≤ i -/
def rGetL (K : PySem.W.Frag) : V → V → Hp → VK → Prop := fun o i H Q => ∃ (p : Addr) (xs : List V) (k : Nat) (v : V), o = .ref p ∧ i = .int (k : Int) ∧ SqL K H p xs ∧ xs[k]? = some v ∧ Q v H
theorem get_list : PGet X (rGetL X.K) := by
  intro pins s σ H o i ov iv Q I ro ri h
  obtain ⟨p, xs, k, v, rfl, rfl, hq, hv, q⟩ := h
  cases ro
  obtain ⟨t, rfl⟩ := ri
  obtain ⟨its, r, pl, hz⟩ := I.list hq
  obtain ⟨u, hu, ru⟩ := r.get hv
  have hk : k < xs.length := (List.getElem?_eq_some_iff.mp hv).1
  have hn := line63
  have fin : EP X pins σ Q u s := ⟨v, H, I, ru, q⟩
  exact wpAny_getItem_list (k := (k : Int)) pl.isList (by omega) (by omega) (by simpa using hu) fin
end
/-! ### sets of tuples -/
section
variable {P : Program} {w : World} {A : Around} {E : Value → Shared → Prop} {s : Shared} {a x : Addr} {L : List (Addr × List Int)} {es : Array (Int × Value)} {ep : Nat} {t : SetTable} {k : List Int}
/-- add -/
theorem add_tup (R : SetTR P w s.heap a L es ep t) (hx : IsT P w s.heap k x) (hu : A.units + 64 < cLine) (hfew : L.length + 1 < 64) {Q : Value → Shared → Prop}
    (hQ : ∀ h' n L' es' ep' t', Heap.SameBut a s.heap h' → SetTR P w h' a L' es' ep' t' → (k ∈ L.map (·.2) → L' = L) → (k ∉ L.map (·.2) → L'.Perm ((x, k) :: L)) → Q .none { s with heap := h', toks := n }) :
    wpAny (model P w) A (call (.builtin "set.add") [.ref a, .ref x]) Q E s := by
  have hT : s.TypeIs (.ref a) "set" := by
    obtain ⟨o, ho, hex, hd⟩ := R.ob
    exact ⟨o, ho, hex.1⟩
  refine wpAny_call_entry F.slot_set_add hT F.entry_set_add ?_ (F.args_set_add_2 _ _)
  (unfold Builtin.«set.add» Builtin.Frozenset.oneOther; simp only [List.isEmpty_nil, bind_assoc]; unfold Builtin.Frozenset.addrOf setAdd)
  (refine wpAny_bind (wpAny_pure ?_); try dsimp only)
  (refine wpAny_bind (wpAny_pure ?_); try dsimp only)
  (refine wpAny_bind ?_; refine wpAny_holding ?_)
  refine wpAny_bind ((TK P w).pyHash (k := k) (by show _ < _; simp; omega) hx ?_)
  refine add_at (s := { s with toks := s.toks + (TK P w).draws k }) R hx (by simp; omega) hfew fun b h' L' es' ep' t' sb R' h1 h2 => ?_
  show wpAny _ _ (ret Value.none) _ _ _
  exact wpAny_pure ⟨_, rfl, hQ h' _ L' es' ep' t' sb R' h1 h2⟩
end
section
variable {X : Cx}
/-- the tuples of a set stand -/
def TupsOf (K : PySem.W.Frag) (H : Hp) (L : List (Addr × List Int)) : Prop := ∀ p ∈ L, SqT K H p.1 (p.2.map V.int)
theorem set_full {pins : List (Addr × Obj)} {σ : L2.St} {H : Hp} {s : Shared} {a : Addr} {L : List (Addr × List Int)} (I : Inv X pins σ H s) (h : H a = some (SetTO X.prog X.w a L)) (hL : TupsOf X.K H L) : ∃ es ep t, SetTR X.prog X.w s.heap a L es ep t := by
  have z : ObjOk X.prog X.w H s.heap a (SetTO X.prog X.w a L) := I.hok a _ h
  exact SetT0.full z.1 fun p hp => I.isT (hL p hp)
/-- set() -/
def rSet0T (P : Program) (w : World) : List V → Hp → VK → Prop := fun xs H Q => xs = [] ∧ ∀ p, H p = none → Q (.ref p) (upd H p (SetTO P w p []))
theorem cr_set0T : CallR X (.type "set") (rSet0T X.prog X.w) := by
  intro pins s σ H xs us Q I r h
  obtain ⟨rfl, q⟩ := h
  cases r
  refine setR_new fun _ => ?_
  exact ⟨.ref s.heap.objs.size, _, I.laid (t' := s.toks) (fun b u e => Heap.get?_push_of_some _ e) (Nat.le_refl _) (setTO_new (setTR_fresh (P := X.prog) (w := X.w) (Heap.get?_push_size _ rfl)).t0), rfl, q _ (I.hok.fresh (Nat.le_refl _))⟩
/-- add -/
def rAddT (K : PySem.W.Frag) (P : Program) (w : World) : V → List V → Hp → VK → Prop := fun x xs H Q => ∃ (a b : Addr) (k : List Int) (L : List (Addr × List Int)), x = .ref a ∧ xs = [.ref b] ∧ SqT K H b (k.map V.int) ∧ H a = some (SetTO P w a L) ∧ TupsOf K H L ∧ L.length + 1 < 64 ∧
  ∀ L', (k ∈ L.map (·.2) → L' = L) → (k ∉ L.map (·.2) → L'.Perm ((b, k) :: L)) → Q .non (upd H a (SetTO P w a L'))
theorem mt_addT (hu : X.A.units + 64 < cLine) : MtR X "set.add" (rAddT X.K X.prog X.w) := by
  intro pins s σ H x xs v us Q I rx rxs h
  obtain ⟨a, b, k, L, rfl, rfl, hb, ha, hL, hf, q⟩ := h
  cases rx
  cases rxs with
  | cons ry rt =>
    cases rt
    cases ry
    obtain ⟨es, ep, t, R⟩ := set_full I ha hL
    refine add_tup R (I.isT hb) hu hf fun h' n L' es' ep' t' sb R' h1 h2 => ?_
    obtain ⟨o, ho, _⟩ := R'.ob
    exact ⟨.non, _, I.write (e := a) (t' := n) (by rw [ha]; trivial) (.inl rfl) (fun c u hc hu => (sb.2 c hc).trans hu) ⟨o, ho⟩ (setTO_new R'.t0), rfl, q L' h1 h2⟩
end
end G5

set_option Elab.async false
set_option linter.all false
set_option maxRecDepth 100000
set_option maxHeartbeats 4000000
/-! seen.add(x) of a set of tuples; yield from a list. -/
namespace G5
open PySem PySem.Spec PyProof.Rows L2 Builtin
section
variable {X : Cx} {o e : Expr} {to : TE} {ta : TA} {apos cpos : Pos}
def tAddT (K : PySem.W.Frag) (P : Program) (w : World) (to : TE) (t : TA) : TE := fun σ H Q => to σ H fun x H1 => (∃ a L, x = V.ref a ∧ H1 a = some (SetTO P w a L)) ∧ t σ H1 fun xs H2 => rAddT K P w x xs H2 Q
theorem pe_addT (hu : X.A.units + 64 < cLine) (ho : PE X o to) (ha : PA X [e] ta) (hb : attributeBase o "add" X.env (eval o X.env) = eval o X.env := by rfl)
    (hf : ((backTo cpos (starEach [e] X.env)).all (fun x => !x.1) && (backToKw cpos (keywordEach [] X.env)).all (fun x => x.1.isSome) && decide (([e] : List Expr).length + ([] : List Keyword).length + (if ([] : List Keyword).isEmpty then 0 else 1) < 30)) = true := by rfl)
    (hl : (apos.endLine == cpos.line) = true := by rfl) (hs : starEach [e] X.env = (false, eval e X.env) :: starEach [] X.env := by rfl) (hp : (backTo cpos (starEach [] X.env)).any (·.1) = false := by rfl) :
    PE X (.Call (.Attribute o "add" apos) [e] [] cpos) (tAddT X.K X.prog X.w to ta) := by
  refine ⟨fun pins s σ H Q I h => ?_⟩
  refine wpAny_Call_method_late hb hf hl rfl (thn (ho.run pins s σ H _ I h) fun v s1 ⟨x, H1, I1, r1, ty, q1⟩ => ?_)
  obtain ⟨a, L, rfl, hka⟩ := ty
  cases r1
  have z : ObjOk X.prog X.w H1 s1.heap a (SetTO X.prog X.w a L) := I1.hok a _ hka
  obtain ⟨es, ep, t, ⟨ob, hob, hex, hda⟩, _⟩ := (show SetT0 X.prog X.w s1.heap a L from z.1).ex
  refine ⟨"set", "set.add", F.plainAttrs_set, F.slot_set_add, F.type_set_add, ⟨ob, hob, hex.1⟩, fun b z => (by cases z; exact ⟨ob, hob, hex.2.1⟩), ?_⟩
  have hA := ha.run cpos pins s1 σ H1 _ I1 q1
  rw [hs] at hA ⊢
  refine Calls.callWith_builtin (by show (false || (backTo cpos (starEach [] X.env)).any (·.1)) = false; rw [hp] <;> rfl) (Calls.evalArgs_plain ?_)
  exact thn hA fun us s2 ⟨vs, H2, I2, r2, q2⟩ => mt_addT hu pins s2 σ H2 (.ref a) vs (.ref a) us Q I2 rfl r2 q2
end
/-! ### a list's iterator, turn by turn -/
section
variable {prog : Program} {w : World} {A : Around} {E : Value → Shared → Prop} {s : Shared} {it l : Addr} {i : Nat} {items : Array Value}
theorem lst_turn {x : Value} {Q : Option Value → Shared → Prop} (hit : s.heap.IsListIter it l i) (hl : s.heap.IsList l items) (hx : items[i]? = some x) (hQ : ∀ h', h'.IsListIter it l (i + 1) → Heap.SameBut it s.heap h' → Q (some x) { s with heap := h' }) : wpAny (model prog w) A (callSpecial? (.ref it) "__next__") Q E s := by
  obtain ⟨oi, hoi, hci, hdi⟩ := id hit
  obtain ⟨oo, hoo, _, nn, hdd⟩ := hl
  refine wpAny_callSpecial?_slot (name := Str.ofString "__next__") hit.typeIs slot_listiter_next (wpAny_call_entry slot_listiter_next hit.typeIs entry_listiter_next ?_ (args_listiter_next _))
  (show wpAny _ _ (field (.ref it) 0 >>= _) _ _ s; refine wpAny_bind (wpAny_field hoi hdi (x := .ref l) rfl ?_))
  (show wpAny _ _ (if (Value.ref l == Value.none) = true then _ else _) _ _ s; rw [if_neg (show ¬ ((Value.ref l == Value.none) = true) from Bool.false_ne_true)])
  (show wpAny _ _ (field (.ref it) 1 >>= _) _ _ s; refine wpAny_bind (wpAny_field hoi hdi (x := .int i 0) rfl ?_))
  (show wpAny _ _ (seqItems? (.ref l) >>= _) _ _ s; refine wpAny_bind (wpAny_seqItems hoo hdd ?_))
  simp only [Int.toNat_natCast, hx]
  refine wpAny_bind (wpAny_setField hoi hdi (by simp) (wpAny_pure ⟨x, rfl, hQ _ ?_ (Heap.SameBut.update ..)⟩))
  exact ⟨_, Heap.get?_update_self _ hoi (Obj.isFreed_of_fields (Obj.data_mapFields hdi _)), (Obj.cls_mapFields ..).trans hci, by rw [Obj.data_mapFields hdi]; simp [rawInt]⟩
theorem lst_stop {Q : Option Value → Shared → Prop} (hh : A.handled = none) (hit : s.heap.IsListIter it l i) (hl : s.heap.IsList l items) (hx : items[i]? = none) (hE : ∀ e h', StopX e h' → Heap.ExtBut it s.heap h' → E e { s with heap := h' }) : wpAny (model prog w) A (callSpecial? (.ref it) "__next__") Q E s := by
  obtain ⟨oi, hoi, hci, hdi⟩ := id hit
  obtain ⟨oo, hoo, _, nn, hdd⟩ := hl
  refine wpAny_callSpecial?_slot (name := Str.ofString "__next__") hit.typeIs slot_listiter_next (wpAny_call_entry slot_listiter_next hit.typeIs entry_listiter_next ?_ (args_listiter_next _))
  (show wpAny _ _ (field (.ref it) 0 >>= _) _ _ s; refine wpAny_bind (wpAny_field hoi hdi (x := .ref l) rfl ?_))
  (show wpAny _ _ (if (Value.ref l == Value.none) = true then _ else _) _ _ s; rw [if_neg (show ¬ ((Value.ref l == Value.none) = true) from Bool.false_ne_true)])
  (show wpAny _ _ (field (.ref it) 1 >>= _) _ _ s; refine wpAny_bind (wpAny_field hoi hdi (x := .int i 0) rfl ?_))
  (show wpAny _ _ (seqItems? (.ref l) >>= _) _ _ s; refine wpAny_bind (wpAny_seqItems hoo hdd ?_))
  simp only [Int.toNat_natCast, hx]
  refine wpAny_bind (wpAny_rule (wpAny_bind (wpAny_setField hoi hdi (by simp) ?_)))
  (show wpAny _ _ (newExc (.type "StopIteration") [] >>= _) _ _ _; refine wpAny_bind ?_; simp only [newExc, newTuple])
  refine wpAny_bind (wpAny_newObj_type ?_ (by size_fits))
  refine wpAny_bind (m := firstArgMember _ _) (wpAny_of_eq (a := Value.none) (by first | rfl | (simp only [firstArgMember]; rfl)) ?_)
  (refine wpAny_newObj_type ?_ (by size_fits); simp only [raiseNew]; refine wpAny_bind (wpAny_handled ?_))
  first | rw [show A.in1.handled = none from hh] | rw [hh]
  refine wpAny_bind (wpAny_pure (wpAny_throw ?_))
  refine hE _ _ ⟨_, _, _, rfl, Heap.get?_push_size _ rfl, rfl, rfl, ?_⟩ (((Heap.SameBut.update ..).extBut.push _).push _)
  first
    | rfl
    | (rw [Array.getElem?_append_left (by decide)]; rfl)
    | kernel_rfl
end
section
variable {X : Cx} {e : Expr} {te : TE}
def tYfLst (te : TE) : TYf := fun σ H Q => te σ H fun x H1 => ∃ a xs, x = .ref a ∧ H1 a = some (.lst xs) ∧ Q xs H1
theorem close_lst : typeLookup (.type "list_iterator") "close" = pure none := by rw [typeLookup_type, builtinLookup_eq_fast]; kernel_rfl
theorem yf_lst (he : PE X e te) : YfE X e (tYfLst te) := by
  refine ⟨fun pins s σ H Q I h => ?_⟩
  refine thn (he.run pins s σ H _ I h) fun v s1 ⟨x, H1, I1, r1, a, xs, ex, ha, hq⟩ => ?_
  subst ex
  obtain rfl : v = Value.ref a := r1
  obtain ⟨its, nn, rits, hob, hzz⟩ := I1.lst ha
  have hl : s1.heap.IsList a its.toArray := ⟨_, hob, rfl, nn, rfl⟩
  refine ⟨"list", hl.typeIs, by decide, wpAny_pyIter_list hl ?_⟩
  have ksz : ∀ b o, s1.heap.get? b = some o → b ≠ s1.heap.objs.size := fun b o e => Nat.ne_of_lt (Heap.lt_size e)
  have kp : Kp s1.heap (s1.heap.push { cls := .type "list_iterator", data := .fields #[.ref a, .int 0 0] }) := fun b o e => Heap.get?_push_of_some _ e
  have hne : a ≠ s1.heap.objs.size := ksz a _ hob
  refine ⟨s1.heap.objs.size, H1, xs, fun j h => h.IsListIter s1.heap.objs.size a j ∧ h.IsList a its.toArray, rfl, I1.kept (t' := s1.toks) kp, .inr I1.sz, Nat.ne_of_gt I1.lt, fun y c hy => ?_, I1.hok.fresh (Nat.le_refl _), fun p hp => ksz p.1 _ (I1.pin p hp).1,
    ⟨⟨_, Heap.get?_push_size _ rfl, rfl, rfl⟩, hl.at fun o z => kp _ _ z⟩, ⟨⟨"list_iterator", fun j h q => ?_, close_lst, by decide⟩, fun j h h' q hk => ?_, fun A' j x s2 Q' E' hA hx q hQ => ?_, fun A' s2 Q' E' hA q hE => ?_⟩, hq⟩
  · obtain ⟨v, o, ho, _⟩ := I1.cell y c hy
    exact ksz c o ho
  · obtain ⟨⟨o, ho, hc, _⟩, _⟩ := q
    exact ⟨o, ho, hc⟩
  · exact ⟨q.1.at fun o z => hk _ o (.inl rfl) z, q.2.at fun o z => hk _ o (.inr (by rw [ha]; exact fun z => by cases z)) z⟩
  · obtain ⟨q1, q2⟩ := q
    obtain ⟨u, hu, ru⟩ := rits.get hx
    exact lst_turn q1 q2 (x := u) (by simpa using hu) fun h' q1' hs => hQ u h' s2.toks ru ⟨q1', q2.extBut hs.extBut hne⟩ fun b o hb eb => hs.extBut b o hb eb
  · obtain ⟨q1, q2⟩ := q
    have hnone : its.toArray[xs.length]? = none := by
      have e1 := rits.length
      have e2 : its[xs.length]? = none := List.getElem?_eq_none_iff.mpr (by omega)
      simpa using e2
    exact lst_stop hA q1 q2 hnone fun e h' hS hk => hE e h' s2.toks hS fun b o hb eb => hk b o hb eb
end
end G5

set_option Elab.async false
set_option linter.all false
set_option maxRecDepth 100000
set_option maxHeartbeats 4000000
/-! the play's state, and where it stands -/
namespace K6
open PySem PySem.Spec PyProof.Rows L2 G1 G2 K2 G5
/-- what an event told -/
abbrev Tld := Option Nat × List Nat × Int
structure Pl where
  cont : List (List (Option Str))
  liv : List Int
  free : List Nat
  clo : List Nat
  fil : Option Nat
  hom : List (L2.Key × V)
  told : List Tld
def oS : Option Str → V
  | none => .non
  | some x => .str x
def oN : Option Nat → V
  | none => .non
  | some k => .int (k : Int)
/-- where its parts stand -/
structure PAd where
  dx : Addr
  dr : Addr
  ac : Addr
  rcs : List Addr
  al : Addr
  af : Addr
  acl : Addr
  ad : Addr
  ta : Addr
  rt : List Addr
def plF (A : PAd) (f : Option Nat) : List (Str × V) := [("drive", .ref A.dr), ("content", .ref A.ac), ("living", .ref A.al), ("free", .ref A.af), ("closed", .ref A.acl), ("filling", oN f), ("homes", .ref A.ad), ("told", .ref A.ta)]
def TldAt (H : Hp) (a : Addr) (t : Tld) : Prop := ∃ q, H a = some (.tup [oN t.1, .ref q, .int t.2.2]) ∧ H q = some (.tup (t.2.1.map nV))
/-- the lists that change -/
def PAd.ls (A : PAd) : List Addr := A.ac :: A.al :: A.af :: A.acl :: A.ta :: A.rcs
structure PlayAt (C : Addr) (H : Hp) (x : Addr) (s : Pl) (A : PAd) : Prop where
  ins : H x = some (.ins C A.dx (plF A s.fil))
  cont : H A.ac = some (.lst (A.rcs.map V.ref))
  inner : Paired (fun (a : Addr) (c : List (Option Str)) => H a = some (.lst (c.map oS))) A.rcs s.cont
  liv : H A.al = some (.lst (s.liv.map V.int))
  free : H A.af = some (.lst (s.free.map nV))
  clo : H A.acl = some (.lst (s.clo.map nV))
  hom : H A.ad = some (.dK s.hom)
  told : H A.ta = some (.lst (A.rt.map V.ref))
  tat : Paired (TldAt H) A.rt s.told
  nd : A.ls.Nodup
/-- all that the play may change -/
def PAd.foot (A : PAd) (x : Addr) : List Addr := x :: A.ad :: A.ls
/-- nothing else of what was there has changed -/
def Frm (F : List Addr) (H H' : Hp) : Prop := ∀ b o, H b = some o → b ∉ F → H' b = some o
theorem Frm.refl (F : List Addr) (H : Hp) : Frm F H H := fun _ _ h _ => h
theorem Frm.same {F : List Addr} {H H' : Hp} (s : Same H H') : Frm F H H' := fun b o h _ => s b o h
/-- nothing stands there -/
abbrev Nw (H : Hp) (a : Addr) : Prop := H a = none
/-- what is new behind was new ahead -/
theorem Frm.back {F : List Addr} {H H' : Hp} (f : Frm F H H') (k : ∀ a ∈ F, ∃ o, H' a = some o ∧ ∀ ps, o ≠ .tbl ps) {a : Addr} (h : Nw H' a) : Nw H a := by
  cases e : H a with
  | none => exact e
  | some o =>
    by_cases z : a ∈ F
    · obtain ⟨u, hu, _⟩ := k a z
      rw [h] at hu
      cases hu
    · have := f a o e z
      rw [h] at this
      cases this
theorem paired_upd {C : Type} {H : Hp} {a : Addr} {o : HO} {f : C → HO} : ∀ {rs : List Addr} {cs : List C}, Paired (fun (b : Addr) (c : C) => H b = some (f c)) rs cs → a ∉ rs → Paired (fun (b : Addr) (c : C) => upd H a o b = some (f c)) rs cs
  | _, _, .nil, _ => .nil
  | _, _, .cons r t, h => .cons (by rw [upd_ne fun z => h (by rw [z]; exact List.mem_cons_self ..)]; exact r) (paired_upd t fun z => h (List.mem_cons_of_mem _ z))
theorem TldAt.upd {H : Hp} {a b : Addr} {o : HO} {t : Tld} (h : TldAt H b t) (ha : ∀ xs, H a ≠ some (.tup xs)) : TldAt (L2.upd H a o) b t := by
  obtain ⟨q, h1, h2⟩ := h
  exact ⟨q, by rw [upd_ne fun z => ha _ (z ▸ h1)]; exact h1, by rw [upd_ne fun z => ha _ (z ▸ h2)]; exact h2⟩
section
variable {C x : Addr} {H : Hp} {s : Pl} {A : PAd}
theorem ne_lst_tup {a : Addr} {xs ys : List V} (h : H a = some (.lst xs)) : H a ≠ some (.tup ys) := fun z => by rw [h] at z; cases z
/-- a list among the changing ones is written -/
theorem PlayAt.base (h : PlayAt C H x s A) {a : Addr} {xs ys : List V} (ha : H a = some (.lst xs)) : upd H a (.lst ys) x = some (.ins C A.dx (plF A s.fil)) ∧ upd H a (.lst ys) A.ad = some (.dK s.hom) ∧ Paired (TldAt (upd H a (.lst ys))) A.rt s.told :=
  ⟨by rw [upd_ne (ne_of h.ins ha (by intro z; cases z))]; exact h.ins, by rw [upd_ne (ne_of h.hom ha (by intro z; cases z))]; exact h.hom, Paired.mapP h.tat fun _ _ z => z.upd fun _ => ne_lst_tup ha⟩
theorem PlayAt.liv_put (h : PlayAt C H x s A) (l : List Int) : PlayAt C (upd H A.al (.lst (l.map V.int))) x { s with liv := l } A := by
  obtain ⟨b1, b2, b3⟩ := h.base (ys := l.map V.int) h.liv
  have nd := h.nd
  unfold PAd.ls at nd
  simp only [List.nodup_cons, List.mem_cons, not_or] at nd
  obtain ⟨⟨n1, n2, n3, n4, n5⟩, ⟨m1, m2, m3, m4⟩, _⟩ := nd
  exact ⟨b1, by rw [upd_ne n1]; exact h.cont, paired_upd h.inner m4, upd_same, by rw [upd_ne (Ne.symm m1)]; exact h.free, by rw [upd_ne (Ne.symm m2)]; exact h.clo, b2, by rw [upd_ne (Ne.symm m3)]; exact h.told, b3, h.nd⟩
theorem PlayAt.free_put (h : PlayAt C H x s A) (l : List Nat) : PlayAt C (upd H A.af (.lst (l.map nV))) x { s with free := l } A := by
  obtain ⟨b1, b2, b3⟩ := h.base (ys := l.map nV) h.free
  have nd := h.nd
  unfold PAd.ls at nd
  simp only [List.nodup_cons, List.mem_cons, not_or] at nd
  obtain ⟨⟨n1, n2, n3, n4, n5⟩, ⟨m1, m2, m3, m4⟩, ⟨k1, k2, k3⟩, _⟩ := nd
  exact ⟨b1, by rw [upd_ne n2]; exact h.cont, paired_upd h.inner k3, by rw [upd_ne m1]; exact h.liv, upd_same, by rw [upd_ne (Ne.symm k1)]; exact h.clo, b2, by rw [upd_ne (Ne.symm k2)]; exact h.told, b3, h.nd⟩
theorem PlayAt.clo_put (h : PlayAt C H x s A) (l : List Nat) : PlayAt C (upd H A.acl (.lst (l.map nV))) x { s with clo := l } A := by
  obtain ⟨b1, b2, b3⟩ := h.base (ys := l.map nV) h.clo
  have nd := h.nd
  unfold PAd.ls at nd
  simp only [List.nodup_cons, List.mem_cons, not_or] at nd
  obtain ⟨⟨n1, n2, n3, n4, n5⟩, ⟨m1, m2, m3, m4⟩, ⟨k1, k2, k3⟩, ⟨j1, j2⟩, _⟩ := nd
  exact ⟨b1, by rw [upd_ne n3]; exact h.cont, paired_upd h.inner j2, by rw [upd_ne m2]; exact h.liv, by rw [upd_ne k1]; exact h.free, upd_same, b2, by rw [upd_ne (Ne.symm j1)]; exact h.told, b3, h.nd⟩
theorem PlayAt.told_put (h : PlayAt C H x s A) {a : Addr} {t : Tld} (ha : TldAt H a t) : PlayAt C (upd H A.ta (.lst (A.rt.map V.ref ++ [.ref a]))) x { s with told := s.told ++ [t] } { A with rt := A.rt ++ [a] } := by
  obtain ⟨b1, b2, b3⟩ := h.base (ys := A.rt.map V.ref ++ [.ref a]) h.told
  have nd := h.nd
  unfold PAd.ls at nd
  simp only [List.nodup_cons, List.mem_cons, not_or] at nd
  obtain ⟨⟨n1, n2, n3, n4, n5⟩, ⟨m1, m2, m3, m4⟩, ⟨k1, k2, k3⟩, ⟨j1, j2⟩, i1, _⟩ := nd
  exact ⟨b1, by rw [upd_ne n4]; exact h.cont, paired_upd h.inner i1, by rw [upd_ne m3]; exact h.liv, by rw [upd_ne k2]; exact h.free, by rw [upd_ne j1]; exact h.clo, b2, by rw [upd_same, List.map_append]; rfl, paired_snoc b3 (ha.upd fun _ => ne_lst_tup h.told), h.nd⟩
theorem PlayAt.hom_put (h : PlayAt C H x s A) (l : List (L2.Key × V)) : PlayAt C (upd H A.ad (.dK l)) x { s with hom := l } A := by
  have nl : ∀ {a xs}, H a = some (.lst xs) → a ≠ A.ad := fun {a xs} z => ne_of z h.hom (by intro z; cases z)
  refine ⟨by rw [upd_ne (ne_of h.ins h.hom (by intro z; cases z))]; exact h.ins, by rw [upd_ne (nl h.cont)]; exact h.cont, ?_, by rw [upd_ne (nl h.liv)]; exact h.liv, by rw [upd_ne (nl h.free)]; exact h.free, by rw [upd_ne (nl h.clo)]; exact h.clo, upd_same, by rw [upd_ne (nl h.told)]; exact h.told, Paired.mapP h.tat fun _ _ z => z.upd fun ys e => (by rw [h.hom] at e; cases e), h.nd⟩
  exact Paired.mapP h.inner fun b c z => by rw [upd_ne (nl z)]; exact z
theorem put_fil (A : PAd) (f g : Option Nat) : putF "filling" (oN g) (plF A f) = plF A g := by
  cases f <;> rfl
theorem PlayAt.fil_put (h : PlayAt C H x s A) (g : Option Nat) : PlayAt C (upd H x (.ins C A.dx (plF A g))) x { s with fil := g } A := by
  have nl : ∀ {a xs}, H a = some (.lst xs) → a ≠ x := fun {a xs} z => ne_of z h.ins (by intro z; cases z)
  refine ⟨upd_same, by rw [upd_ne (nl h.cont)]; exact h.cont, ?_, by rw [upd_ne (nl h.liv)]; exact h.liv, by rw [upd_ne (nl h.free)]; exact h.free, by rw [upd_ne (nl h.clo)]; exact h.clo, by rw [upd_ne (ne_of h.hom h.ins (by intro z; cases z))]; exact h.hom, by rw [upd_ne (nl h.told)]; exact h.told, Paired.mapP h.tat fun _ _ z => z.upd fun ys e => (by rw [h.ins] at e; cases e), h.nd⟩
  exact Paired.mapP h.inner fun b c z => by rw [upd_ne (nl z)]; exact z
/-- the k-th of the inner lists is written -/
theorem paired_put {D : Type} {f : D → HO} {c : D} : ∀ {rs : List Addr} {cs : List D} {k : Nat} {a : Addr}, Paired (fun (b : Addr) (c : D) => H b = some (f c)) rs cs → rs.Nodup → rs[k]? = some a → Paired (fun (b : Addr) (d : D) => upd H a (f c) b = some (f d)) rs (cs.set k c)
  | _, _, _, _, .nil, _, h => by simp at h
  | _, _, 0, a, .cons (a := r) (b := d) h t, nd, e => by
    have e' : r = a := by simpa using e
    subst e'
    rw [List.nodup_cons] at nd
    exact .cons upd_same (paired_upd t nd.1)
  | _, _, k + 1, a, .cons (a := r) (b := d) h t, nd, e => by
    rw [List.nodup_cons] at nd
    have e' := e
    rw [List.getElem?_cons_succ] at e'
    have hm := List.mem_of_getElem? e'
    exact .cons (by rw [upd_ne fun z => nd.1 (by rw [z]; exact hm)]; exact h) (paired_put t nd.2 e')
theorem PlayAt.cont_put (h : PlayAt C H x s A) {k : Nat} {a : Addr} (ha : A.rcs[k]? = some a) (c : List (Option Str)) : PlayAt C (upd H a (.lst (c.map oS))) x { s with cont := s.cont.set k c } A := by
  obtain ⟨c0, hc0, hin⟩ := K2.paired_get h.inner ha
  obtain ⟨b1, b2, b3⟩ := h.base (ys := c.map oS) hin
  have hm := List.mem_of_getElem? ha
  have nd := h.nd
  unfold PAd.ls at nd
  simp only [List.nodup_cons, List.mem_cons, not_or] at nd
  obtain ⟨⟨n1, n2, n3, n4, n5⟩, ⟨m1, m2, m3, m4⟩, ⟨k1, k2, k3⟩, ⟨j1, j2⟩, i1, i2⟩ := nd
  have ne : ∀ {b : Addr}, b ∉ A.rcs → b ≠ a := fun {b} z e => z (by rw [e]; exact hm)
  exact ⟨b1, by rw [upd_ne (ne n5)]; exact h.cont, paired_put (f := fun (c : List (Option Str)) => HO.lst (c.map oS)) h.inner i2 ha, by rw [upd_ne (ne m4)]; exact h.liv, by rw [upd_ne (ne k3)]; exact h.free, by rw [upd_ne (ne j2)]; exact h.clo, b2, by rw [upd_ne (ne i1)]; exact h.told, b3, h.nd⟩
theorem PlayAt.same {H' : Hp} (h : PlayAt C H x s A) (e : Same H H') : PlayAt C H' x s A :=
  ⟨e _ _ h.ins, e _ _ h.cont, Paired.mapP h.inner fun _ _ z => e _ _ z, e _ _ h.liv, e _ _ h.free, e _ _ h.clo, e _ _ h.hom, e _ _ h.told, Paired.mapP h.tat fun _ _ ⟨q, z1, z2⟩ => ⟨q, e _ _ z1, e _ _ z2⟩, h.nd⟩
end
end K6

set_option Elab.async false
set_option linter.all false
set_option maxRecDepth 100000
set_option maxHeartbeats 4000000
namespace K6
open PySem PySem.Spec PyProof.Rows L2 G1 G2 K2 G5
structure PrpOk (P : Program) (w : World) (K : PySem.W.Frag) (mg : Str → Option Value) (base : Heap) (C : Addr) (nm fld : Str) : Prop where
  ex : ∃ (p g : Addr) (fd : FuncData), PropOf K C nm p g ∧ FnOk P w K mg base CX0 1 g fd ["self"] (getSp C fld) ∧ Binds K fd ["self"] []
/-- a drive's properties -/
structure DD (P : Program) (w : World) (K : PySem.W.Frag) (mg : Str → Option Value) (base : Heap) (C : Addr) : Prop where
  T : DCls K C
  D : DKit K C
  pb : PrpOk P w K mg base C "blocks" "kept_blocks"
  pp : PrpOk P w K mg base C "pages" "kept_pages"
  pn : PrpOk P w K mg base C "names" "kept_names"
  pr : PrpOk P w K mg base C "rows" "kept_rows"
  gD : mg "Drive" = some (.ref C)
/-- a play's class -/
structure PCls (K : PySem.W.Frag) (C : Addr) : Prop where
  cl : Cls K C
  n1 : NoAttr K C "drive"
  n2 : NoAttr K C "content"
  n3 : NoAttr K C "living"
  n4 : NoAttr K C "free"
  n5 : NoAttr K C "closed"
  n6 : NoAttr K C "filling"
  n7 : NoAttr K C "homes"
  n8 : NoAttr K C "told"
structure FAt (P : Program) (w : World) (K : PySem.W.Frag) (mg : Str → Option Value) (base : Heap) (k : Nat) (x : Str) (ps : List Str) (sp : Sp) : Prop where
  ex : ∃ (f : Addr) (fd : FuncData), FnOk P w K mg base CX0 k f fd ps sp ∧ PySem.W.keepIn K (.ref f) = true ∧ Binds K fd ps [] ∧ mg x = some (.ref f)
abbrev sPut : Stmt := topS 59
theorem scPut : FnScope ["play", "name", "block"] ["play", "name"] (defScope sPut) := ⟨rfl, rfl, rfl, by decide +kernel, rfl, by decide +kernel, by decide +kernel⟩
/-- put_page -/
def putP (p : Nat) (s : Pl) (k : Nat) (nm : Str) : Pl :=
  if (s.cont.getD k []).length + 1 = p then { s with cont := s.cont.set k (s.cont.getD k [] ++ [some nm]), liv := s.liv.set k (s.liv.getD k 0 + 1), hom := putK s.hom (.inr nm) (nV k), clo := s.clo ++ [k], fil := none }
  else { s with cont := s.cont.set k (s.cont.getD k [] ++ [some nm]), liv := s.liv.set k (s.liv.getD k 0 + 1), hom := putK s.hom (.inr nm) (nV k) }
/-- sizes that are never passed -/
structure Fit (s : Pl) : Prop where
  cont : ∀ c ∈ s.cont, c.length ≤ 100
  hom : s.hom.length ≤ 5000
  clo : s.clo.length ≤ 100
  lens : s.liv.length = s.cont.length
def spPut (K : PySem.W.Frag) (CD C : Addr) : Sp := fun vs H Q _ => ∃ (x : Addr) (nm : Str) (s : Pl) (A : PAd) (k b p n : Nat) (ini : List RowD) (y : Str), vs = [.ref x, .str nm] ∧ PlayAt C H x s A ∧ Fit s ∧ s.fil = some k ∧ k < s.cont.length ∧ DrvAt K CD H A.dr b p n ini y ∧ A.dr ≠ x ∧
  ∀ H' : Hp, PlayAt C H' x (putP p s k nm) A → Frm (A.foot x) H H' → Q .non H'
theorem foot_ad {A : PAd} {x : Addr} : A.ad ∈ A.foot x := List.mem_cons_of_mem _ (List.mem_cons_self ..)
theorem foot_ls {A : PAd} {x a : Addr} (h : a ∈ A.ls) : a ∈ A.foot x := List.mem_cons_of_mem _ (List.mem_cons_of_mem _ h)
theorem foot_rc {A : PAd} {x a : Addr} (h : a ∈ A.rcs) : a ∈ A.foot x := foot_ls (by unfold PAd.ls; exact List.mem_cons_of_mem _ (List.mem_cons_of_mem _ (List.mem_cons_of_mem _ (List.mem_cons_of_mem _ (List.mem_cons_of_mem _ h)))))
theorem foot_x {A : PAd} {x : Addr} : x ∈ A.foot x := List.mem_cons_self ..
theorem foot_al {A : PAd} {x : Addr} : A.al ∈ A.foot x := foot_ls (by unfold PAd.ls; simp)
theorem foot_acl {A : PAd} {x : Addr} : A.acl ∈ A.foot x := foot_ls (by unfold PAd.ls; simp)
theorem Frm.upd {F : List Addr} {H H1 : Hp} {a : Addr} {o : HO} (f : Frm F H H1) (h : a ∈ F) : Frm F H (L2.upd H1 a o) := fun b u e nb => by rw [upd_ne fun z => nb (by rw [z]; exact h)]; exact f b u e nb
theorem ix_at {n k : Nat} (h : k < n) : ixN n (k : Int) = some k := by
  unfold ixN
  rw [if_pos (by omega), if_pos (by omega), Int.toNat_natCast]
theorem drv_out {C x CD dd : Addr} {H : Hp} {s : Pl} {A : PAd} {fs : List (Str × V)} (h : PlayAt C H x s A) (hd : H A.dr = some (.ins CD dd fs)) (hx : A.dr ≠ x) : A.dr ∉ A.foot x := by
  have nl : ∀ {a : Addr} {xs : List V}, H a = some (.lst xs) → A.dr ≠ a := fun {a xs} z => ne_of hd z (by intro z; cases z)
  intro z
  unfold PAd.foot PAd.ls at z
  simp only [List.mem_cons] at z
  rcases z with z | z | z | z | z | z | z | z
  · exact hx z
  · exact ne_of hd h.hom (by intro z; cases z) z
  · exact nl h.cont z
  · exact nl h.liv z
  · exact nl h.free z
  · exact nl h.clo z
  · exact nl h.told z
  · obtain ⟨j, hj, e⟩ := List.getElem_of_mem z
    obtain ⟨c, _, hc⟩ := K2.paired_get h.inner (List.getElem?_eq_getElem hj)
    rw [e] at hc
    exact nl hc rfl
theorem one_if6 {tt : TT} {t : TS} {D : Ends} {σ : L2.St} {H : Hp} (h : tt σ H fun c H1 => if c = true then t D σ H1 else D.nx σ H1) : tIfS tt t tNext D σ H := h
theorem test_read6 {te : TE} {σ : L2.St} {H : Hp} {Q : Bool → Hp → Prop} (h : te σ H fun x H1 => ∃ k, x = .bl k ∧ Q k H1) : tTest te σ H Q := h
theorem eqI6 (i j : Int) : decide (V.int i = V.int j) = decide (i = j) := by
  by_cases e : i = j
  · rw [e, decide_eq_true rfl, decide_eq_true rfl]
  · rw [decide_eq_false e, decide_eq_false fun z => e (by injection z)]
section
variable {P : Program} {w : World} {K : PySem.W.Frag} {mg : Str → Option Value} {base : Heap} {CD C : Addr}
theorem ok_put {f : Addr} {fd : FuncData} (F : Fun K "put_page" "put_page" sPut f fd) (B : Bl mg) (M : DD P w K mg base CD) (T : PCls K C) : FnOk P w K mg base CX0 3 f fd ["play", "name"] (spPut K CD C) := by
  refine F.ok scPut (fun vs H Q E h => ?_) (fun cdv A0 outer s0 H vs Q E hr h => ?_)
  · obtain ⟨x, nm, s, A, k, b, p, n, ini, y, rfl, _⟩ := h
    rfl
  obtain ⟨x, nm, s, A, k, b, p, n, ini, y, rfl, hp, hf, hk, hkl, ⟨dd, td, hd, hR⟩, hdx, q⟩ := h
  have hr2 : Room 2 _ := hr.mono (by decide)
  have hu := hu_of hr
  obtain ⟨pp, gp, fp, P2, F2, B2⟩ := M.pp.ex
  refine ⟨_, pss_cons (ps_set (i := 2) scPut.nd rfl (.inl rfl) (pe_fld (pv 0) rfl))
    (pss_cons (ps_expr (pe_bm PySem.F.plainAttrs_list PySem.F.slot_list_append PySem.F.type_list_append mt_append (pe_ix ix_list (pe_fld (pv 0) rfl) (pv 2) (fun _ _ => rfl)) (pa_cons (pv 1) pa_nil)))
    (pss_cons (ps_augS (pe_fld (pv 0) rfl) (pv 2) get_list pe_int ip_add set_list)
    (pss_cons (ps_dput hu (pe_fld (pv 0) rfl) (pv 1) (pv 2) rfl)
    (pss_one (ps_if (pt_cmpR op_eq (pe_callB call_len_seq (by rfl) B.len PySem.boot_len (pa_cons (pe_ix ix_list (pe_fld (pv 0) rfl) (pv 2) (fun _ _ => rfl)) pa_nil)) (pe_prop (pe_fld (pv 0) rfl) M.T.cl P2 F2 hr2 B2 .nil pass0 rfl) (nomark _))
      (pss_cons (ps_expr (pe_bm PySem.F.plainAttrs_list PySem.F.slot_list_append PySem.F.type_list_append mt_append (pe_fld (pv 0) rfl) (pa_cons (pv 2) pa_nil)))
      (pss_one (ps_fld (pv 0) pe_non rfl))) pss_nil))))), ?_⟩
  have hlr := Paired.length hp.inner
  obtain ⟨a, ha⟩ : ∃ a, A.rcs[k]? = some a := ⟨A.rcs[k]'(by omega), List.getElem?_eq_getElem _⟩
  obtain ⟨c, hc, hin⟩ := K2.paired_get hp.inner ha
  have hcD : s.cont.getD k [] = c := by rw [List.getD_eq_getElem?_getD, hc]; rfl
  have hcl := hf.cont c (List.mem_of_getElem? hc)
  have har := List.mem_of_getElem? ha
  refine seq_asg ⟨_, rfl, x, C, A.dx, _, nV k, rfl, hp.ins, T.cl, T.n6, by rw [hk]; rfl, ?_⟩
  -- content[block].append(name)
  refine ⟨_, rfl, x, C, A.dx, _, _, rfl, hp.ins, T.cl, T.n2, rfl, _, rfl, A.ac, _, (k : Int), .ref a, rfl, rfl, SqL.of hp.cont, atI_nat (by rw [List.getElem?_map, ha]; rfl), .inl ⟨rfl, _, SqL.of hin⟩, cons_read ⟨_, rfl, nil_read ⟨a, _, _, rfl, rfl, hin, by rw [List.length_map, sizeLine_eq]; omega, ?_⟩⟩⟩
  have e1 : (c.map oS ++ [V.str nm]) = (c ++ [some nm]).map oS := by rw [List.map_append]; rfl
  rw [e1]
  have p1 := hp.cont_put ha (c ++ [some nm])
  have f1 : Frm (A.foot x) H (L2.upd H a (.lst ((c ++ [some nm]).map oS))) := (Frm.refl _ _).upd (foot_rc har)
  have in1 : (L2.upd H a (.lst ((c ++ [some nm]).map oS))) a = some (.lst ((c ++ [some nm]).map oS)) := upd_same
  generalize L2.upd H a (.lst ((c ++ [some nm]).map oS)) = H1 at p1 f1 in1 ⊢
  -- living[block] += 1
  have hlv : (s.liv.map V.int)[k]? = some (.int (s.liv.getD k 0)) := by
    have hlk : k < s.liv.length := by rw [hf.lens]; exact hkl
    rw [List.getElem?_map, List.getElem?_eq_getElem hlk, List.getD_eq_getElem?_getD, List.getElem?_eq_getElem hlk]
    rfl
  dsimp only
  refine ⟨_, rfl, x, C, A.dx, _, _, rfl, p1.ins, T.cl, T.n3, rfl, _, rfl, A.al, _, k, _, rfl, rfl, SqL.of p1.liv, hlv, _, _, rfl, rfl, A.al, _, _, k, rfl, rfl, p1.liv, ix_at (by rw [List.length_map, hf.lens]; exact hkl), ?_⟩
  have e2 : (s.liv.map V.int).set k (.int (s.liv.getD k 0 + 1)) = (s.liv.set k (s.liv.getD k 0 + 1)).map V.int := by rw [List.map_set]
  rw [e2]
  have p2 := p1.liv_put (s.liv.set k (s.liv.getD k 0 + 1))
  have f2 := f1.upd (o := .lst ((s.liv.set k (s.liv.getD k 0 + 1)).map V.int)) (foot_al (A := A) (x := x))
  have in2 : (L2.upd H1 A.al (.lst ((s.liv.set k (s.liv.getD k 0 + 1)).map V.int))) a = some (.lst ((c ++ [some nm]).map oS)) := by
    obtain ⟨c2, hc2, z⟩ := K2.paired_get p2.inner ha
    rw [List.getElem?_set_self hkl] at hc2
    cases hc2
    exact z
  generalize L2.upd H1 A.al (.lst ((s.liv.set k (s.liv.getD k 0 + 1)).map V.int)) = H2 at p2 f2 in2 ⊢
  -- homes[name] = block
  dsimp only
  refine ⟨_, rfl, _, rfl, x, C, A.dx, _, _, rfl, p2.ins, T.cl, T.n7, rfl, _, rfl, A.ad, _, rfl, DPut.k (k := Sum.inr nm) p2.hom (by have := hf.hom; rw [sizeLine_eq]; show s.hom.length < _; omega), ?_⟩
  have p3 := p2.hom_put (putK s.hom (.inr nm) (nV k))
  have f3 := f2.upd (o := .dK (putK s.hom (.inr nm) (nV k))) (foot_ad (A := A) (x := x))
  have in3 : (L2.upd H2 A.ad (.dK (putK s.hom (.inr nm) (nV k)))) a = some (.lst ((c ++ [some nm]).map oS)) := by
    rw [upd_ne (ne_of in2 p2.hom (by intro z; cases z))]
    exact in2
  dsimp only
  generalize L2.upd H2 A.ad (.dK (putK s.hom (.inr nm) (nV k))) = H3 at p3 f3 in3 ⊢
  have hd3 : H3 A.dr = some (.ins CD dd (drvF b p n td (textM (b : Int) (p : Int) (n : Int) ini y))) := f3 _ _ hd (drv_out hp hd hdx)
  refine one_if6 (test_read6 (op_read (cb_read (cons_read (op_read ?_)))))
  refine ⟨_, rfl, x, C, A.dx, _, _, rfl, p3.ins, T.cl, T.n2, rfl, _, rfl, A.ac, _, (k : Int), .ref a, rfl, rfl, SqL.of p3.cont, atI_nat (by rw [List.getElem?_map, ha]; rfl), nil_read ⟨a, _, rfl, .inl (SqL.of in3), ?_⟩⟩
  refine ⟨_, rfl, x, C, A.dx, _, _, rfl, p3.ins, T.cl, T.n1, rfl, A.dr, dd, _, rfl, hd3, A.dr, dd, _, _, rfl, hd3, rfl, rfl, _, rfl, ?_⟩
  rw [eqI6, List.length_map, List.length_append]
  have hput : putP p s k nm = if c.length + 1 = p then { s with cont := s.cont.set k (c ++ [some nm]), liv := s.liv.set k (s.liv.getD k 0 + 1), hom := putK s.hom (.inr nm) (nV k), clo := s.clo ++ [k], fil := none } else { s with cont := s.cont.set k (c ++ [some nm]), liv := s.liv.set k (s.liv.getD k 0 + 1), hom := putK s.hom (.inr nm) (nV k) } := by
    unfold putP
    rw [hcD]
  by_cases hfull : c.length + 1 = p
  · rw [if_pos hfull] at hput
    rw [decide_eq_true (by show ((c.length + 1 : Nat) : Int) = (p : Int); omega)]
    refine iteT ?_
    refine ⟨_, rfl, x, C, A.dx, _, _, rfl, p3.ins, T.cl, T.n5, rfl, .inl ⟨rfl, _, SqL.of p3.clo⟩, cons_read ⟨_, rfl, nil_read ⟨A.acl, _, _, rfl, rfl, p3.clo, by have := hf.clo; rw [List.length_map, sizeLine_eq]; show s.clo.length < _; omega, ?_⟩⟩⟩
    have e4 : (s.clo.map nV ++ [nV k]) = (s.clo ++ [k]).map nV := by rw [List.map_append]; rfl
    have p4 := p3.clo_put (s.clo ++ [k])
    have f4 := f3.upd (o := .lst ((s.clo ++ [k]).map nV)) (foot_acl (A := A) (x := x))
    dsimp only
    rw [e4]
    generalize L2.upd H3 A.acl (.lst ((s.clo ++ [k]).map nV)) = H4 at p4 f4 ⊢
    refine ⟨_, rfl, x, C, A.dx, _, rfl, p4.ins, T.cl, T.n6, by show 8 < 1000; decide, ?_⟩
    have e5 : putF "filling" V.non (plF A s.fil) = plF A none := put_fil A s.fil none
    have p5 := p4.fil_put none
    have f5 := f4.upd (o := .ins C A.dx (plF A none)) (foot_x (A := A) (x := x))
    show Q .non (L2.upd H4 x (.ins C A.dx (putF "filling" V.non (plF A s.fil))))
    rw [e5]
    refine q _ ?_ f5
    rw [hput]
    exact p5
  · rw [if_neg hfull] at hput
    rw [decide_eq_false (by show ¬ ((c.length + 1 : Nat) : Int) = (p : Int); omega)]
    refine iteF (q _ ?_ f3)
    rw [hput]
    exact p3
end
end K6

set_option Elab.async false
set_option linter.all false
set_option maxRecDepth 100000
set_option maxHeartbeats 4000000
namespace K6
open PySem PySem.Spec PyProof.Rows L2 G1 G2 K2 G5
section
variable {C x : Addr} {H : Hp} {s : Pl} {A : PAd}
/-- an inner list is exchanged for a new, empty one -/
theorem PlayAt.cont_new (h : PlayAt C H x s A) {k : Nat} {a : Addr} (hk : k < A.rcs.length) (na : H a = none) : PlayAt C (L2.upd (L2.upd H a (.lst [])) A.ac (.lst ((A.rcs.set k a).map V.ref))) x { s with cont := s.cont.set k [] } { A with rcs := A.rcs.set k a } := by
  have h1 := h.same (same_lay (o := .lst []) na)
  obtain ⟨b1, b2, b3⟩ := h1.base (ys := (A.rcs.set k a).map V.ref) h1.cont
  have ea : (L2.upd H a (.lst [])) a = some (.lst []) := upd_same
  have nd := h.nd
  unfold PAd.ls at nd
  simp only [List.nodup_cons, List.mem_cons, not_or] at nd
  obtain ⟨⟨n1, n2, n3, n4, n5⟩, ⟨m1, m2, m3, m4⟩, ⟨k1, k2, k3⟩, ⟨j1, j2⟩, i1, i2⟩ := nd
  have fr : ∀ {b : Addr} {o : HO}, H b = some o → b ≠ a := fun {b o} z => ne_of_none z na
  have nin : ∀ {b : Addr} {o : HO}, H b = some o → b ∉ A.rcs → b ∉ A.rcs.set k a := fun {b o} z hn hm => by
    rcases List.mem_or_eq_of_mem_set hm with q | q
    · exact hn q
    · exact fr z q
  have nar : a ∉ A.rcs := fun z => by
    obtain ⟨j, hj, e⟩ := List.getElem_of_mem z
    obtain ⟨c, _, hc⟩ := K2.paired_get h.inner (List.getElem?_eq_getElem hj)
    rw [e, na] at hc
    cases hc
  have nac : A.ac ≠ a := fr h.cont
  refine ⟨b1, upd_same, ?_, by rw [upd_ne (Ne.symm n1)]; exact h1.liv, by rw [upd_ne (Ne.symm n2)]; exact h1.free, by rw [upd_ne (Ne.symm n3)]; exact h1.clo, b2, by rw [upd_ne (Ne.symm n4)]; exact h1.told, b3, ?_⟩
  · have key : ∀ {rs : List Addr} {cs : List (List (Option Str))} {k : Nat}, Paired (fun (b : Addr) (c : List (Option Str)) => (L2.upd H a (.lst [])) b = some (.lst (c.map oS))) rs cs → A.ac ∉ rs → Paired (fun (b : Addr) (c : List (Option Str)) => (L2.upd (L2.upd H a (.lst [])) A.ac (.lst ((A.rcs.set k a).map V.ref))) b = some (.lst (c.map oS))) (rs.set k a) (cs.set k []) → True := fun _ _ _ => True.intro
    have go : ∀ (rs : List Addr) (cs : List (List (Option Str))) (k' : Nat), Paired (fun (b : Addr) (c : List (Option Str)) => (L2.upd H a (.lst [])) b = some (.lst (c.map oS))) rs cs → A.ac ∉ rs → Paired (fun (b : Addr) (c : List (Option Str)) => (L2.upd (L2.upd H a (.lst [])) A.ac (.lst ((A.rcs.set k a).map V.ref))) b = some (.lst (c.map oS))) (rs.set k' a) (cs.set k' []) := by
      intro rs
      induction rs with
      | nil =>
        intro cs k' p _
        cases p
        exact .nil
      | cons r rs ih =>
        intro cs k' p hn
        cases p with
        | cons hr t =>
          have hr' : A.ac ≠ r := fun z => hn (by rw [z]; exact List.mem_cons_self ..)
          have hn' : A.ac ∉ rs := fun z => hn (List.mem_cons_of_mem _ z)
          cases k' with
          | zero => exact .cons (by rw [upd_ne (Ne.symm nac)]; exact ea) (Paired.mapP (paired_upd (f := fun (c : List (Option Str)) => HO.lst (c.map oS)) t hn') fun _ _ z => z)
          | succ k' => exact .cons (by rw [upd_ne (Ne.symm hr')]; exact hr) (ih _ k' t hn')
    exact go A.rcs s.cont k h1.inner n5
  · show (A.ac :: A.al :: A.af :: A.acl :: A.ta :: A.rcs.set k a).Nodup
    simp only [List.nodup_cons, List.mem_cons, not_or]
    refine ⟨⟨n1, n2, n3, n4, nin h.cont n5⟩, ⟨m1, m2, m3, nin h.liv m4⟩, ⟨k1, k2, nin h.free k3⟩, ⟨j1, nin h.clo j2⟩, nin h.told i1, ?_⟩
    have sn : ∀ (rs : List Addr) (k' : Nat), rs.Nodup → a ∉ rs → (rs.set k' a).Nodup := by
      intro rs
      induction rs with
      | nil => intro k' h _; exact h
      | cons r rs ih =>
        intro k' h hn
        rw [List.nodup_cons] at h
        cases k' with
        | zero => exact List.nodup_cons.mpr ⟨fun z => hn (List.mem_cons_of_mem _ z), h.2⟩
        | succ k' =>
          refine List.nodup_cons.mpr ⟨fun z => ?_, ih k' h.2 fun z => hn (List.mem_cons_of_mem _ z)⟩
          rcases List.mem_or_eq_of_mem_set z with q | q
          · exact h.1 q
          · exact hn (by rw [← q]; exact List.mem_cons_self ..)
    exact sn A.rcs k i2 nar
end
/-- many pages, one behind another -/
def putsP (p k : Nat) (s : Pl) (ns : List Str) : Pl := ns.foldl (fun s nm => putP p s k nm) s
theorem puts_snoc (p k : Nat) (s : Pl) (ns : List Str) (nm : Str) : putsP p k s (ns ++ [nm]) = putP p (putsP p k s ns) k nm := by
  unfold putsP
  rw [List.foldl_append]
  rfl
/-- what stays alike while block k is filled -/
theorem put_cont (p k : Nat) (s : Pl) (nm : Str) : (putP p s k nm).cont = s.cont.set k (s.cont.getD k [] ++ [some nm]) := by
  unfold putP
  split <;> rfl
theorem put_free (p k : Nat) (s : Pl) (nm : Str) : (putP p s k nm).free = s.free := by
  unfold putP
  split <;> rfl
theorem put_told (p k : Nat) (s : Pl) (nm : Str) : (putP p s k nm).told = s.told := by
  unfold putP
  split <;> rfl
theorem put_livn (p k : Nat) (s : Pl) (nm : Str) : (putP p s k nm).liv = s.liv.set k (s.liv.getD k 0 + 1) := by
  unfold putP
  split <;> rfl
theorem put_hom (p k : Nat) (s : Pl) (nm : Str) : (putP p s k nm).hom = putK s.hom (.inr nm) (nV k) := by
  unfold putP
  split <;> rfl
theorem put_filn {p k : Nat} {s : Pl} {nm : Str} (h : (s.cont.getD k []).length + 1 ≠ p) : (putP p s k nm).fil = s.fil ∧ (putP p s k nm).clo = s.clo := by
  unfold putP
  rw [if_neg h]
  exact ⟨rfl, rfl⟩
theorem put_clon (p k : Nat) (s : Pl) (nm : Str) : (putP p s k nm).clo = s.clo ∨ (putP p s k nm).clo = s.clo ++ [k] := by
  unfold putP
  split
  · exact .inr rfl
  · exact .inl rfl
theorem getD_set {k : Nat} {l : List (List (Option Str))} {c : List (Option Str)} (h : k < l.length) : (l.set k c).getD k [] = c := by
  rw [List.getD_eq_getElem?_getD, List.getElem?_set_self h]
  rfl
/-- while pages are put into block k -/
structure Run (p k : Nat) (s0 s : Pl) (j : Nat) : Prop where
  cl : s.cont.length = s0.cont.length
  len : (s.cont.getD k []).length = (s0.cont.getD k []).length + j
  fil : (s0.cont.getD k []).length + j < p → s.fil = some k
  clo : s.clo.length ≤ s0.clo.length + j
  hom : s.hom.length ≤ s0.hom.length + j
  liv : s.liv.length = s0.liv.length
  oth : ∀ i, i ≠ k → s.cont[i]? = s0.cont[i]?
theorem Run.zero {p k : Nat} {s : Pl} (h : s.fil = some k) : Run p k s s 0 := ⟨rfl, rfl, fun _ => h, Nat.le_refl _, Nat.le_refl _, rfl, fun _ _ => rfl⟩
theorem Run.step {p k j : Nat} {s0 s : Pl} {nm : Str} (hk : k < s0.cont.length) (h : Run p k s0 s j) : Run p k s0 (putP p s k nm) (j + 1) := by
  have hk' : k < s.cont.length := by rw [h.cl]; exact hk
  have hl := h.len
  refine ⟨by rw [put_cont, List.length_set]; exact h.cl, ?_, fun z => ?_, ?_, ?_, by rw [put_livn, List.length_set]; exact h.liv, fun i hi => ?_⟩
  · rw [put_cont, getD_set hk', List.length_append]
    show _ + 1 = _
    omega
  · obtain ⟨e, _⟩ := put_filn (p := p) (s := s) (nm := nm) (k := k) (by omega)
    rw [e]
    exact h.fil (by omega)
  · have := h.clo
    rcases put_clon p k s nm with e | e <;> rw [e]
    · omega
    · rw [List.length_append]
      show _ + 1 ≤ _
      omega
  · have := h.hom
    have h2 := length_putK s.hom (.inr nm) (nV k)
    rw [put_hom]
    omega
  · rw [put_cont, List.getElem?_set_ne (Ne.symm hi)]
    exact h.oth i hi
end K6

set_option Elab.async false
set_option linter.all false
set_option maxRecDepth 100000
set_option maxHeartbeats 4000000
namespace K6
open PySem PySem.Spec PyProof.Rows L2 G1 G2 K2 G5
abbrev sCln : Stmt := topS 58
abbrev NCln : List Str := ["play", "place", "picked", "kept", "name"]
theorem scCln : FnScope NCln ["play", "place"] (defScope sCln) := ⟨rfl, rfl, rfl, by decide +kernel, rfl, by decide +kernel, by decide +kernel⟩
def keptN (c : List (Option Str)) : List Str := c.filterMap id
/-- clean_place, the block k at place i, the free block f -/
def cln1 (s : Pl) (i k f : Nat) : Pl := { s with clo := s.clo.eraseIdx i, cont := s.cont.set k [], liv := s.liv.set k 0, fil := some f, free := s.free.eraseIdx 0 }
def cleanP (p : Nat) (s : Pl) (i k f : Nat) : Pl := { putsP p f (cln1 s i k f) (keptN (s.cont.getD k [])) with free := s.free.eraseIdx 0 ++ [k] }
structure Fit2 (s : Pl) : Prop where
  cont : ∀ c ∈ s.cont, c.length ≤ 10
  hom : s.hom.length ≤ 1000
  clo : s.clo.length ≤ 10
  free : s.free.length ≤ 10
  lens : s.liv.length = s.cont.length
theorem Run.fit {p k j : Nat} {s0 s : Pl} (h : Run p k s0 s j) (hk : k < s0.cont.length) (hf : Fit2 s0) (hj : j ≤ 10) : Fit s := by
  have h1 := h.clo
  have h2 := h.hom
  have h3 := hf.clo
  have h4 := hf.hom
  refine ⟨fun c hc => ?_, by omega, by omega, by rw [h.liv, h.cl]; exact hf.lens⟩
  obtain ⟨i, hi, e⟩ := List.getElem_of_mem hc
  by_cases z : i = k
  · subst z
    have := h.len
    have hb : (s0.cont.getD i []).length ≤ 10 := by
      rw [List.getD_eq_getElem?_getD, List.getElem?_eq_getElem hk]
      exact hf.cont _ (List.getElem_mem hk)
    rw [List.getD_eq_getElem?_getD, List.getElem?_eq_getElem hi] at this
    have e2 : (some (s.cont[i]'hi)).getD [] = c := e
    rw [e2] at this
    omega
  · have e3 := h.oth i z
    rw [List.getElem?_eq_getElem hi, e] at e3
    have := hf.cont c (List.mem_of_getElem? e3.symm)
    omega
theorem puts_free (p k : Nat) : ∀ (s : Pl) (ns : List Str), (putsP p k s ns).free = s.free
  | s, [] => rfl
  | s, nm :: ns => by
    show (putsP p k (putP p s k nm) ns).free = s.free
    rw [puts_free p k _ ns, put_free]
def spCln (K : PySem.W.Frag) (CD C : Addr) : Sp := fun vs H Q _ => ∃ (x : Addr) (s : Pl) (A : PAd) (i k f b p n : Nat) (ini : List RowD) (y : Str), vs = [.ref x, nV i] ∧ PlayAt C H x s A ∧ Fit2 s ∧ s.clo[i]? = some k ∧ s.free[0]? = some f ∧ k < s.cont.length ∧ f < s.cont.length ∧ f ≠ k ∧ s.cont.getD f [] = [] ∧ (keptN (s.cont.getD k [])).length ≤ p ∧ DrvAt K CD H A.dr b p n ini y ∧ A.dr ≠ x ∧
  ∀ (H' : Hp) (A' : PAd), PlayAt C H' x (cleanP p s i k f) A' → A'.dr = A.dr → Frm (A.foot x) H H' → (∀ a ∈ A'.foot x, a ∈ A.foot x ∨ Nw H a) → Q .non H'
theorem kept_snoc (c : List (Option Str)) (o : Option Str) : keptN (c ++ [o]) = keptN c ++ (match o with | none => [] | some z => [z]) := by
  unfold keptN
  rw [List.filterMap_append]
  cases o <;> rfl
theorem kept_len (c : List (Option Str)) : (keptN c).length ≤ c.length := List.length_filterMap_le _ _
theorem Frm.trans {F : List Addr} {H H1 H2 : Hp} (a : Frm F H H1) (b : Frm F H1 H2) : Frm F H H2 := fun c o h n => b c o (a c o h n) n
theorem Frm.grow {F F' : List Addr} {H H1 H2 : Hp} (a : Frm F H H1) (b : Frm F' H1 H2) (g : ∀ c ∈ F', c ∈ F ∨ Nw H c) : Frm F H H2 := fun c o h n => b c o (a c o h n) fun z => by
  rcases g c z with q | q
  · exact n q
  · exact absurd (h.symm.trans q) (by intro z; cases z)
/-- what stands in the play's places -/
theorem foot_kind {C x : Addr} {H : Hp} {s : Pl} {A : PAd} (h : PlayAt C H x s A) : ∀ a ∈ A.foot x, (∃ xs, H a = some (.lst xs)) ∨ (∃ l, H a = some (.dK l)) ∨ ∃ C' dx fs, H a = some (.ins C' dx fs) := by
  intro a z
  unfold PAd.foot PAd.ls at z
  simp only [List.mem_cons] at z
  rcases z with z | z | z | z | z | z | z | z
  · exact .inr (.inr ⟨_, _, _, z ▸ h.ins⟩)
  · exact .inr (.inl ⟨_, z ▸ h.hom⟩)
  · exact .inl ⟨_, z ▸ h.cont⟩
  · exact .inl ⟨_, z ▸ h.liv⟩
  · exact .inl ⟨_, z ▸ h.free⟩
  · exact .inl ⟨_, z ▸ h.clo⟩
  · exact .inl ⟨_, z ▸ h.told⟩
  · obtain ⟨j, hj, e⟩ := List.getElem_of_mem z
    obtain ⟨c, _, hc⟩ := K2.paired_get h.inner (List.getElem?_eq_getElem hj)
    rw [e] at hc
    exact .inl ⟨_, hc⟩
theorem foot_some {C x : Addr} {H : Hp} {s : Pl} {A : PAd} (h : PlayAt C H x s A) (a : Addr) (z : a ∈ A.foot x) : ∃ o, H a = some o ∧ ∀ ps, o ≠ .tbl ps := by
  rcases foot_kind h a z with ⟨_, q⟩ | ⟨_, q⟩ | ⟨_, _, _, q⟩ <;> exact ⟨_, q, by intro ps z; cases z⟩
theorem tup_frm {K : PySem.W.Frag} {C x a : Addr} {H H' : Hp} {s : Pl} {A : PAd} {xs : List V} (h : PlayAt C H x s A) (f : Frm (A.foot x) H H') (ht : SqT K H a xs) : SqT K H' a xs := by
  have out : ∀ {o : HO}, H a = some o → (∀ xs, o ≠ .lst xs) → (∀ l, o ≠ .dK l) → (∀ C' dx fs, o ≠ .ins C' dx fs) → a ∉ A.foot x := fun {o} e n1 n2 n3 z => by
    rcases foot_kind h a z with ⟨ys, q⟩ | ⟨l, q⟩ | ⟨C', dx, fs, q⟩
    · rw [e] at q; exact n1 _ (Option.some.inj q)
    · rw [e] at q; exact n2 _ (Option.some.inj q)
    · rw [e] at q; exact n3 _ _ _ (Option.some.inj q)
  rcases ht with (ht | ⟨o, ht⟩) | ht
  · exact .inl (.inl (f _ _ ht (out ht (by intro _ z; cases z) (by intro _ z; cases z) (by intro _ _ _ z; cases z))))
  · exact .inl (.inr ⟨o, f _ _ ht (out ht (by intro _ z; cases z) (by intro _ z; cases z) (by intro _ _ _ z; cases z))⟩)
  · exact .inr ht
theorem drv_frm {K : PySem.W.Frag} {CD C x : Addr} {H H' : Hp} {s : Pl} {A : PAd} {b p n : Nat} {ini : List RowD} {y : Str} (h : PlayAt C H x s A) (f : Frm (A.foot x) H H') (hx : A.dr ≠ x) (hd : DrvAt K CD H A.dr b p n ini y) : DrvAt K CD H' A.dr b p n ini y := by
  obtain ⟨dx, t, h1, rs, h2, h3⟩ := hd
  exact ⟨dx, t, f _ _ h1 (drv_out h h1 hx), rs, tup_frm h f h2, Paired.mapP h3 fun _ _ z => tup_frm h f z⟩
theorem map_erase {α β : Type} (g : α → β) (l : List α) (i : Nat) : (l.map g).eraseIdx i = (l.eraseIdx i).map g := by
  rw [List.eraseIdx_eq_take_drop_succ, List.eraseIdx_eq_take_drop_succ, List.map_append, List.map_take, List.map_drop]
theorem sq_ix {n k : Nat} (h : k < n) : seqIndex? (k : Int) n = some k := seqIndex_of (by omega) (by omega)
section
variable {P : Program} {w : World} {K : PySem.W.Frag} {mg : Str → Option Value} {base : Heap} {CD C : Addr}
theorem ok_cln {f0 : Addr} {fd : FuncData} (F : Fun K "clean_place" "clean_place" sCln f0 fd) (B : Bl mg) (T : PCls K C) (GP : FAt P w K mg base 3 "put_page" ["play", "name"] (spPut K CD C)) : FnOk P w K mg base CX0 4 f0 fd ["play", "place"] (spCln K CD C) := by
  refine F.ok scCln (fun vs H Q E h => ?_) (fun cdv A0 outer s0 H vs Q E hr h => ?_)
  · obtain ⟨x, s, A, i, k, f, b, p, n, ini, y, rfl, _⟩ := h
    rfl
  obtain ⟨x, s, A, i, k, f, b, p, n, ini, y, rfl, hp, hf, hi, hfr, hk, hfl, hfk, hfe, hkp, hd, hdx, q⟩ := h
  obtain ⟨fP, dP, GP, kP, bP, gP⟩ := GP.ex
  refine ⟨_, pss_cons (ps_set (i := 2) scCln.nd rfl (.inl rfl) (pe_bm PySem.F.plainAttrs_list PySem.F.slot_list_pop PySem.F.type_list_pop mt_popAt (pe_fld (pv 0) rfl) (pa_cons (pv 1) pa_nil)))
    (pss_cons (ps_setLc (i := 3) (own := [("name", 4)]) (g := gName 4) (tt := _) (te := tVar 4) rfl scCln.nd rfl rfl (by rfl) (pi_list (pe_ix ix_list (pe_fld (pv 0) rfl) (pv 2) (fun _ _ => rfl))) (blkOk_by (own := [("name", 4)]) (N := NCln) (sc := defScope sCln) (by decide +kernel))
        (fun _ _ _ _ _ => pg_name (i := 4) scCln.nd rfl (Or.inl rfl)) (fun _ _ _ _ _ => pts_one (pt_cmpR op_notN (pv 4) pe_non (nomark _))) (fun _ _ _ _ _ => pv 4))
    (pss_cons (ps_asg (pe_lst pa_nil) (pg_sub (pe_fld (pv 0) rfl) (pv 2) set_list))
    (pss_cons (ps_asg pe_int (pg_sub (pe_fld (pv 0) rfl) (pv 2) set_list))
    (pss_cons (ps_fld (pv 0) (pe_bm PySem.F.plainAttrs_list PySem.F.slot_list_pop PySem.F.type_list_pop mt_popAt (pe_fld (pv 0) rfl) (pa_cons pe_int pa_nil)) rfl)
    (pss_cons (ps_for PassesOwn.never rfl (pi_list (pv 3)) (pg_name (i := 4) scCln.nd rfl (.inl rfl)) (pss_one (ps_expr (pe_call GP hr (by rfl) gP kP bP .nil pass0 (pa_cons (pv 0) (pa_cons (pv 4) pa_nil))))))
    (pss_one (ps_expr (pe_bm PySem.F.plainAttrs_list PySem.F.slot_list_append PySem.F.type_list_append mt_append (pe_fld (pv 0) rfl) (pa_cons (pv 2) pa_nil))))))))), ?_⟩
  have hil := (List.getElem?_eq_some_iff.mp hi).1
  have hfl0 := (List.getElem?_eq_some_iff.mp hfr).1
  have hcl := hf.clo
  have hlr := Paired.length hp.inner
  obtain ⟨a, ha⟩ : ∃ a, A.rcs[k]? = some a := ⟨A.rcs[k]'(by omega), List.getElem?_eq_getElem _⟩
  -- closed.pop(place)
  refine seq_asg ⟨_, rfl, x, C, A.dx, _, _, rfl, hp.ins, T.cl, T.n5, rfl, .inl ⟨rfl, _, SqL.of hp.clo⟩, cons_read ⟨_, rfl, nil_read ⟨A.acl, _, (i : Int), i, nV k, rfl, rfl, hp.clo, by omega, by omega, sq_ix (by rw [List.length_map]; exact hil), by rw [List.getElem?_map, hi]; rfl, ?_⟩⟩⟩
  rw [map_erase]
  have p1 := hp.clo_put (s.clo.eraseIdx i)
  have f1 : Frm (A.foot x) H (L2.upd H A.acl (.lst ((s.clo.eraseIdx i).map nV))) := (Frm.refl _ _).upd foot_acl
  generalize L2.upd H A.acl (.lst ((s.clo.eraseIdx i).map nV)) = H1 at p1 f1 ⊢
  obtain ⟨c, hc, hin⟩ := K2.paired_get p1.inner ha
  have hcD : s.cont.getD k [] = c := by
    have hc' : s.cont[k]? = some c := hc
    rw [List.getD_eq_getElem?_getD, hc']
    rfl
  have hc10 : c.length ≤ 10 := hf.cont c (List.mem_of_getElem? hc)
  -- kept
  refine seq_asg ?_
  refine ⟨_, rfl, x, C, A.dx, _, _, rfl, p1.ins, T.cl, T.n2, rfl, _, rfl, A.ac, _, (k : Int), .ref a, rfl, rfl, SqL.of p1.cont, atI_nat (by rw [List.getElem?_map, ha]; rfl), a, rfl, ⟨_, SqL.of hin⟩, fun D hD => ?_⟩
  refine lc_list (K := K) (xs := c.map oS) (fun j H' => Same H1 H' ∧ H' D = some (.lst ((keptN (c.take j)).map V.str))) ⟨same_lay hD, upd_same⟩ (fun j H' _ z => SqL.of (z.1 _ _ hin)) ?_ ?_
  · rintro j v H' hj ⟨sj, ej⟩
    rw [List.getElem?_map] at hj
    obtain ⟨o, ho, rfl⟩ : ∃ o, c[j]? = some o ∧ oS o = v := by
      cases hq : c[j]? with
      | none => rw [hq] at hj; cases hj
      | some o => rw [hq] at hj; exact ⟨o, rfl, Option.some.inj hj⟩
    have hjl := (List.getElem?_eq_some_iff.mp ho).1
    have htk : c.take (j + 1) = c.take j ++ [o] := by rw [List.take_add_one, ho]; rfl
    refine ⟨rfl, test_read6 (op_read ⟨_, rfl, c_read ⟨rfl, _, rfl, ?_⟩⟩)⟩
    cases o with
    | none =>
      refine iteF ⟨sj, ?_⟩
      rw [htk, kept_snoc, List.append_nil]
      exact ej
    | some z =>
      refine iteT ⟨_, rfl, _, ej, ?_, fun d u e => ?_, ?_⟩
      · have := kept_len (c.take j)
        rw [List.length_take] at this
        rw [List.length_map, sizeLine_eq]
        omega
      · rw [upd_ne (ne_of_none e hD)]
        exact sj _ _ e
      · rw [upd_same, htk, kept_snoc, List.map_append]
        rfl
  rintro H2 ⟨s2, hD2⟩
  rw [List.length_map, List.take_length] at hD2
  have p2 := p1.same s2
  have f2 := f1.trans (Frm.same (F := A.foot x) s2)
  -- content[picked] = []
  refine seq_asg (lst_read (nil_read ⟨by show 0 ≤ sizeLine; decide, fun a' na => ?_⟩))
  have p2' := p2.same (same_lay (o := .lst []) na)
  refine ⟨_, rfl, x, C, A.dx, _, _, rfl, p2'.ins, T.cl, T.n2, rfl, _, rfl, A.ac, _, _, k, rfl, rfl, p2'.cont, ix_at (by rw [List.length_map]; omega), ?_⟩
  rw [← List.map_set]
  have p3 := p2.cont_new (k := k) (a := a') (by omega) na
  have hDA : D ≠ A.ac := Ne.symm (ne_of_none p1.cont hD)
  have hD3 : (L2.upd (L2.upd H2 a' (.lst [])) A.ac (.lst ((A.rcs.set k a').map V.ref))) D = some (.lst ((keptN c).map V.str)) := by
    rw [upd_ne hDA, upd_ne (ne_of_none hD2 na)]
    exact hD2
  have f3 : Frm (A.foot x) H (L2.upd (L2.upd H2 a' (.lst [])) A.ac (.lst ((A.rcs.set k a').map V.ref))) := (f2.trans (Frm.same (F := A.foot x) (same_lay (o := .lst []) na))).upd (foot_ls (by unfold PAd.ls; exact List.mem_cons_self ..))
  have nH : Nw H a' := f2.back (fun b hb => foot_some p2 b hb) na
  have hD2n : ∀ {b : Addr} {o : HO}, H1 b = some o → D ≠ b := fun {b o} z => Ne.symm (ne_of_none z hD)
  have hDout : D ∉ ({ A with rcs := A.rcs.set k a' } : PAd).foot x := by
    intro z
    unfold PAd.foot PAd.ls at z
    simp only [List.mem_cons] at z
    rcases z with z | z | z | z | z | z | z | z
    · exact hD2n p1.ins z
    · exact hD2n p1.hom z
    · exact hD2n p1.cont z
    · exact hD2n p1.liv z
    · exact hD2n p1.free z
    · exact hD2n p1.clo z
    · exact hD2n p1.told z
    · rcases List.mem_or_eq_of_mem_set z with z | z
      · obtain ⟨o, ho, _⟩ := foot_some p1 D (foot_rc z)
        rw [hD] at ho
        cases ho
      · rw [z, na] at hD2
        cases hD2
  have hgrow : ∀ b ∈ ({ A with rcs := A.rcs.set k a' } : PAd).foot x, b ∈ A.foot x ∨ Nw H b := by
    intro b z
    unfold PAd.foot PAd.ls at z
    simp only [List.mem_cons] at z
    rcases z with z | z | z | z | z | z | z | z
    · exact .inl (by rw [z]; exact foot_x)
    · exact .inl (by rw [z]; exact foot_ad)
    · exact .inl (foot_ls (by rw [z]; unfold PAd.ls; simp))
    · exact .inl (foot_ls (by rw [z]; unfold PAd.ls; simp))
    · exact .inl (foot_ls (by rw [z]; unfold PAd.ls; simp))
    · exact .inl (foot_ls (by rw [z]; unfold PAd.ls; simp))
    · exact .inl (foot_ls (by rw [z]; unfold PAd.ls; simp))
    · rcases List.mem_or_eq_of_mem_set z with z | z
      · exact .inl (foot_rc z)
      · exact .inr (by rw [z]; exact nH)
  generalize L2.upd (L2.upd H2 a' (.lst [])) A.ac (.lst ((A.rcs.set k a').map V.ref)) = H3 at p3 hD3 f3 ⊢
  have hdr : ({ A with rcs := A.rcs.set k a' } : PAd).dr = A.dr := rfl
  generalize hA3 : ({ A with rcs := A.rcs.set k a' } : PAd) = A3 at p3 hDout hgrow hdr
  have e_dx : A.dx = A3.dx := by rw [← hA3]
  -- living[picked] = 0
  refine seq_asg (c_read ?_)
  refine ⟨_, rfl, x, C, A3.dx, _, _, rfl, p3.ins, T.cl, T.n3, rfl, _, rfl, A3.al, _, _, k, rfl, rfl, p3.liv, ix_at (by rw [List.length_map]; show k < s.liv.length; rw [hf.lens]; exact hk), ?_⟩
  have e4 : (s.liv.map V.int).set k (.int 0) = (s.liv.set k 0).map V.int := by rw [List.map_set]
  dsimp only
  rw [e4]
  have p4 := p3.liv_put (s.liv.set k 0)
  have f4 := (Frm.refl (A3.foot x) H3).upd (o := .lst ((s.liv.set k 0).map V.int)) (foot_al (A := A3) (x := x))
  generalize L2.upd H3 A3.al (.lst ((s.liv.set k 0).map V.int)) = H4 at p4 f4 ⊢
  -- filling = free.pop(0)
  refine ⟨_, rfl, x, C, A3.dx, _, _, rfl, p4.ins, T.cl, T.n4, rfl, .inl ⟨rfl, _, SqL.of p4.free⟩, cons_read (c_read (nil_read ⟨A3.af, _, ((0 : Nat) : Int), 0, nV f, rfl, rfl, p4.free, by decide, by decide, sq_ix (by rw [List.length_map]; exact hfl0), by show (s.free.map nV)[0]? = _; rw [List.getElem?_map, hfr]; rfl, ?_⟩))⟩
  dsimp only
  rw [map_erase]
  have p5 := p4.free_put (s.free.eraseIdx 0)
  have f5 := f4.upd (o := .lst ((s.free.eraseIdx 0).map nV)) (foot_ls (A := A3) (x := x) (a := A3.af) (by unfold PAd.ls; simp))
  generalize L2.upd H4 A3.af (.lst ((s.free.eraseIdx 0).map nV)) = H5 at p5 f5 ⊢
  refine ⟨_, rfl, x, C, A3.dx, _, rfl, p5.ins, T.cl, T.n6, by show 8 < 1000; decide, ?_⟩
  have e6 : putF "filling" (nV f) (plF A3 s.fil) = plF A3 (some f) := put_fil A3 s.fil (some f)
  dsimp only
  rw [e6]
  have p6 := p5.fil_put (some f)
  have f6 := f5.upd (o := .ins C A3.dx (plF A3 (some f))) (foot_x (A := A3) (x := x))
  generalize L2.upd H5 x (.ins C A3.dx (plF A3 (some f))) = H6 at p6 f6 ⊢
  have p6' : PlayAt C H6 x (cln1 s i k f) A3 := p6
  have hD6 : H6 D = some (.lst ((keptN c).map V.str)) := f6 _ _ hD3 hDout
  have hfit : Fit2 (cln1 s i k f) := by
    refine ⟨fun d hd' => ?_, hf.hom, ?_, ?_, ?_⟩
    · rcases List.mem_or_eq_of_mem_set hd' with z | z
      · exact hf.cont d z
      · rw [z]
        exact Nat.zero_le _
    · exact Nat.le_trans (List.length_eraseIdx_le ..) hf.clo
    · exact Nat.le_trans (List.length_eraseIdx_le ..) hf.free
    · show (s.liv.set k 0).length = (s.cont.set k []).length
      rw [List.length_set, List.length_set]
      exact hf.lens
  have hfs : f < (cln1 s i k f).cont.length := by
    show f < (s.cont.set k []).length
    rw [List.length_set]
    exact hfl
  have hf0 : ((cln1 s i k f).cont.getD f []).length = 0 := by
    show ((s.cont.set k []).getD f []).length = 0
    rw [List.getD_eq_getElem?_getD, List.getElem?_set_ne (Ne.symm hfk), ← List.getD_eq_getElem?_getD, hfe]
    rfl
  have hkl := kept_len c
  rw [hcD] at hkp
  -- the pages are put again
  refine seq_for fun D' e1 e2 => ?_
  refine ⟨_, rfl, D, rfl, ⟨_, SqL.of hD6⟩, ?_⟩
  refine for_list (K := K) (xs := (keptN c).map V.str) (fun j σ H' => ∃ x4 : Option V, σ = [some (.ref x), some (nV i), some (nV k), some (.ref D), x4] ∧ PlayAt C H' x (putsP p f (cln1 s i k f) ((keptN c).take j)) A3 ∧ Run p f (cln1 s i k f) (putsP p f (cln1 s i k f) ((keptN c).take j)) j ∧ Frm (A3.foot x) H6 H') ⟨none, rfl, p6', Run.zero rfl, Frm.refl _ _⟩ (fun j σ H' _ z => ?_) ?_ ?_
  · obtain ⟨_, _, _, _, z⟩ := z
    exact SqL.of (z _ _ hD6 hDout)
  · rintro j v σ H' hj ⟨x4, rfl, pj, rj, fj⟩
    rw [List.getElem?_map] at hj
    obtain ⟨nm, hnm, rfl⟩ : ∃ nm, (keptN c)[j]? = some nm ∧ V.str nm = v := by
      cases hq : (keptN c)[j]? with
      | none => rw [hq] at hj; cases hj
      | some nm => rw [hq] at hj; exact ⟨nm, rfl, Option.some.inj hj⟩
    have hjl := (List.getElem?_eq_some_iff.mp hnm).1
    have htk : (keptN c).take (j + 1) = (keptN c).take j ++ [nm] := by rw [List.take_add_one, hnm]; rfl
    have fH : Frm (A.foot x) H H' := f3.grow (f6.trans fj) hgrow
    have hdj : DrvAt K CD H' A3.dr b p n ini y := by
      rw [hdr]
      exact drv_frm hp fH hdx hd
    refine ⟨_, rfl, _, rfl, x, nm, _, A3, f, b, p, n, ini, y, rfl, pj, rj.fit hfs hfit (by omega), rj.fil (by omega), by rw [rj.cl]; exact hfs, hdj, by rw [hdr]; exact hdx, fun H'' p'' f'' => ?_⟩
    rw [← puts_snoc, ← htk] at p''
    have rj' := rj.step (nm := nm) hfs
    rw [← puts_snoc, ← htk] at rj'
    exact ⟨_, rfl, p'', rj', fj.trans f''⟩
  · rintro σ H' ⟨x4, rfl, pj, rj, fj⟩
    rw [List.length_map, List.take_length] at pj rj
    rw [e1]
    have efree : (putsP p f (cln1 s i k f) (keptN c)).free = s.free.eraseIdx 0 := puts_free p f (cln1 s i k f) (keptN c)
    have hfl10 := hfit.free
    refine ⟨_, rfl, x, C, A3.dx, _, _, rfl, pj.ins, T.cl, T.n4, rfl, .inl ⟨rfl, _, SqL.of pj.free⟩, cons_read ⟨_, rfl, nil_read ⟨A3.af, _, _, rfl, rfl, pj.free, by rw [List.length_map, efree, sizeLine_eq]; have : (s.free.eraseIdx 0).length ≤ 10 := hfl10; omega, ?_⟩⟩⟩
    have e9 : ((putsP p f (cln1 s i k f) (keptN c)).free.map nV ++ [nV k]) = (s.free.eraseIdx 0 ++ [k]).map nV := by rw [efree, List.map_append]; rfl
    dsimp only
    rw [e9]
    have p7 := pj.free_put (s.free.eraseIdx 0 ++ [k])
    have f7 := (f6.trans fj).upd (o := .lst ((s.free.eraseIdx 0 ++ [k]).map nV)) (foot_ls (A := A3) (x := x) (a := A3.af) (by unfold PAd.ls; simp))
    refine q _ A3 ?_ hdr (f3.grow f7 hgrow) hgrow
    unfold cleanP
    rw [hcD]
    exact p7
end
end K6

set_option Elab.async false
set_option linter.all false
set_option maxRecDepth 100000
set_option maxHeartbeats 4000000
namespace K6
open PySem PySem.Spec PyProof.Rows L2 G1 G2 K2 G5
abbrev sDie : Stmt := topS 56
theorem scDie : FnScope ["play", "name", "home", "page"] ["play", "name"] (defScope sDie) := ⟨rfl, rfl, rfl, by decide +kernel, rfl, by decide +kernel, by decide +kernel⟩
/-- let_name_die: the name stands at page j of block h -/
def dieP (s : Pl) (h j : Nat) (nm : Str) : Pl := { s with hom := dropK s.hom (.inr nm), cont := s.cont.set h ((s.cont.getD h []).set j none), liv := s.liv.set h (s.liv.getD h 0 - 1) }
def spDie (C : Addr) : Sp := fun vs H Q _ => ∃ (x : Addr) (nm : Str) (s : Pl) (A : PAd) (h j : Nat), vs = [.ref x, .str nm] ∧ PlayAt C H x s A ∧ s.liv.length = s.cont.length ∧ valV s.hom (.inr nm) = some (nV h) ∧ h < s.cont.length ∧ (s.cont.getD h [])[j]? = some (some nm) ∧ (∀ m, m < j → (s.cont.getD h [])[m]? ≠ some (some nm)) ∧
  ∀ H' : Hp, PlayAt C H' x (dieP s h j nm) A → Frm (A.foot x) H H' → Q .non H'
theorem flat_oS : ∀ c : List (Option Str), (c.map oS).all flatV = true
  | [] => rfl
  | none :: c => by rw [List.map_cons, List.all_cons, flat_oS c]; rfl
  | some z :: c => by rw [List.map_cons, List.all_cons, flat_oS c]; rfl
section
variable {P : Program} {w : World} {K : PySem.W.Frag} {mg : Str → Option Value} {base : Heap} {C : Addr}
theorem ok_die {f : Addr} {fd : FuncData} (F : Fun K "let_name_die" "let_name_die" sDie f fd) (T : PCls K C) : FnOk P w K mg base CX0 1 f fd ["play", "name"] (spDie C) := by
  refine F.ok scDie (fun vs H Q E h => ?_) (fun cdv A0 outer s0 H vs Q E hr h => ?_)
  · obtain ⟨x, nm, s, A, h, j, rfl, _⟩ := h
    rfl
  obtain ⟨x, nm, s, A, h, j, rfl, hp, hlv, hv, hhl, hj, hfst, q⟩ := h
  refine ⟨_, pss_cons (ps_set (i := 2) scDie.nd rfl (.inl rfl) (pe_dpop1 (pe_fld (pv 0) rfl) (pv 1) ⟨rfl, rfl, rfl, rfl⟩))
    (pss_cons (ps_set (i := 3) scDie.nd rfl (.inl rfl) (pe_bm PySem.F.plainAttrs_list PySem.F.slot_list_index PySem.F.type_list_index mt_index (pe_ix ix_list (pe_fld (pv 0) rfl) (pv 2) (fun _ _ => rfl)) (pa_cons (pv 1) pa_nil)))
    (pss_cons (ps_asg pe_non (pg_sub (pe_ix ix_list (pe_fld (pv 0) rfl) (pv 2) (fun _ _ => rfl)) (pv 3) set_list))
    (pss_one (ps_augS (pe_fld (pv 0) rfl) (pv 2) get_list pe_int ip_sub set_list)))), ?_⟩
  have hlr := Paired.length hp.inner
  obtain ⟨a, ha⟩ : ∃ a, A.rcs[h]? = some a := ⟨A.rcs[h]'(by omega), List.getElem?_eq_getElem _⟩
  have har := List.mem_of_getElem? ha
  refine seq_asg ⟨_, rfl, x, C, A.dx, _, _, rfl, hp.ins, T.cl, T.n7, rfl, A.ad, rfl, .inl ⟨_, .inl hp.hom⟩, _, rfl, s.hom, .inr nm, nV h, hp.hom, rfl, hv, ?_⟩
  have p1 := hp.hom_put (dropK s.hom (.inr nm))
  have f1 : Frm (A.foot x) H (L2.upd H A.ad (.dK (dropK s.hom (.inr nm)))) := (Frm.refl _ _).upd foot_ad
  generalize L2.upd H A.ad (.dK (dropK s.hom (.inr nm))) = H1 at p1 f1 ⊢
  obtain ⟨c, hc, hin⟩ := K2.paired_get p1.inner ha
  have hc' : s.cont[h]? = some c := hc
  have hcD : s.cont.getD h [] = c := by rw [List.getD_eq_getElem?_getD, hc']; rfl
  rw [hcD] at hj hfst
  have hjl := (List.getElem?_eq_some_iff.mp hj).1
  refine seq_asg ⟨_, rfl, x, C, A.dx, _, _, rfl, p1.ins, T.cl, T.n2, rfl, _, rfl, A.ac, _, (h : Int), .ref a, rfl, rfl, SqL.of p1.cont, atI_nat (by rw [List.getElem?_map, ha]; rfl), .inl ⟨rfl, _, SqL.of hin⟩, cons_read ⟨_, rfl, nil_read ⟨a, _, .str nm, j, .str nm, rfl, rfl, SqL.of hin, rfl, flat_oS c, by rw [List.getElem?_map, hj]; rfl, by show (nm == nm) = true; exact beq_self_eq_true nm, fun m z hm hz => ?_, ?_⟩⟩⟩
  · rw [List.getElem?_map] at hz
    cases hq : c[m]? with
    | none => rw [hq] at hz; cases hz
    | some o =>
      rw [hq] at hz
      have ez : oS o = z := Option.some.inj hz
      rw [← ez]
      cases o with
      | none => rfl
      | some y =>
        show (y == nm) = false
        rw [beq_eq_false_iff_ne]
        exact fun e => hfst m hm (by rw [hq, e])
  -- content[home][page] = None
  refine seq_asg (c_read ?_)
  refine ⟨_, rfl, x, C, A.dx, _, _, rfl, p1.ins, T.cl, T.n2, rfl, _, rfl, A.ac, _, (h : Int), .ref a, rfl, rfl, SqL.of p1.cont, atI_nat (by rw [List.getElem?_map, ha]; rfl), _, rfl, a, _, _, j, rfl, rfl, hin, ix_at (by rw [List.length_map]; exact hjl), ?_⟩
  have e2 : (c.map oS).set j .non = (c.set j none).map oS := by rw [List.map_set]; rfl
  dsimp only
  rw [e2]
  have p2 := p1.cont_put ha (c.set j none)
  have f2 := f1.upd (o := .lst ((c.set j none).map oS)) (foot_rc (x := x) har)
  generalize L2.upd H1 a (.lst ((c.set j none).map oS)) = H2 at p2 f2 ⊢
  -- living[home] -= 1
  have hlk : h < s.liv.length := by rw [hlv]; exact hhl
  have hlvv : (s.liv.map V.int)[h]? = some (.int (s.liv.getD h 0)) := by
    rw [List.getElem?_map, List.getElem?_eq_getElem hlk, List.getD_eq_getElem?_getD, List.getElem?_eq_getElem hlk]
    rfl
  refine ⟨_, rfl, x, C, A.dx, _, _, rfl, p2.ins, T.cl, T.n3, rfl, _, rfl, A.al, _, h, _, rfl, rfl, SqL.of p2.liv, hlvv, _, _, rfl, rfl, A.al, _, _, h, rfl, rfl, p2.liv, ix_at (by rw [List.length_map]; exact hlk), ?_⟩
  have e3 : (s.liv.map V.int).set h (.int (s.liv.getD h 0 - 1)) = (s.liv.set h (s.liv.getD h 0 - 1)).map V.int := by rw [List.map_set]
  dsimp only
  rw [e3]
  refine q _ ?_ (f2.upd foot_al)
  have p3 := p2.liv_put (s.liv.set h (s.liv.getD h 0 - 1))
  unfold dieP
  rw [hcD]
  exact p3
end
end K6

set_option Elab.async false
set_option linter.all false
set_option maxRecDepth 100000
set_option maxHeartbeats 4000000
namespace K6
open PySem PySem.Spec PyProof.Rows L2 G1 G2 K2 G5 LamX
/-- a def of the text whose code object is at c -/
structure FunC (K : PySem.W.Frag) (x qual : Str) (st : Stmt) (f c : Addr) (fd : FuncData) : Prop where
  ex : ∃ (oc : Value) (od : Option Addr) (kV doc pm : Value) (an : Option Addr) (ct : Value) (osl : Array (Option Value)),
    fd = PySem.W.fnOf x qual (defArgs st) (defBody st) (defScope st) .none kV doc pm an (.ref c) ct ∧ K.lookup f = some ⟨oc, od, .func fd, osl⟩ ∧ PySem.W.codeIn K (.ref c) qual = true
  kp : PySem.W.keepIn K (.ref f) = true
section
variable {P : Program} {w : World} {K : PySem.W.Frag} {mg : Str → Option Value} {base : Heap}
theorem okC {x qual : Str} {st : Stmt} {f c : Addr} {fd : FuncData} {N ps : List Str} {k : Nat} {sp : Sp} (F : FunC K x qual st f c fd) (S : FnScope N ps (defScope st)) (len : ∀ vs H Q E, sp vs H Q E → vs.length = ps.length)
    (hbody : ∀ (A : Around) (outer : List Env) (s : Shared) (H : Hp) (vs : List V) (Q : VK) (E : XK), Room k (A.deeper (envOfC qual (defScope st) s.heap.objs.size f (.ref c))) → sp vs H Q E →
      ∃ t, PSs (cxOf CX0 P w K mg base N qual (defScope st) f (.ref c) A outer s H E).nox (defBody st) t ∧ t { nx := fun _ H' => Q .non H', rt := Q } (start N vs) H) :
    FnOk P w K mg base CX0 (k + 1) f fd ps sp := by
  obtain ⟨oc, od, kV, doc, pm, an, ct, osl, rfl, lk, hcd⟩ := F.ex
  constructor
  · exact len
  intro A outer s H args us vs Q E room e0 bnd rel want
  refine LamX.run_ofS (CX := CX0) (N := N) lk hcd S room e0 bnd rel (len _ _ _ _ want) fun hr' => ?_
  obtain ⟨t, h1, h2⟩ := hbody A outer s H vs Q E hr' want
  exact ⟨t, h1.nox, h2⟩
end
abbrev sCho : Stmt := topS 35
abbrev NCho : List Str := ["word", "closed", "places"]
theorem scCho : FnScope NCho ["word", "closed", "places"] (defScope sCho) := ⟨rfl, rfl, rfl, by decide +kernel, rfl, by decide +kernel, by decide +kernel⟩
abbrev qCho : Str := "choose.<locals>.<lambda>"
/-- of the places pl the one that the word chooses -/
def ChoR (wd : Str) (cs : List Int) (pl : List Nat) (k : Nat) : Prop := (wd = "oldest" → pl[0]? = some k) ∧ (wd = "youngest" → pl.getLast? = some k) ∧ (wd = "least" → ∃ j, Best true cs pl j k) ∧ (wd = "most" → ∃ j, Best false cs pl j k)
def spCho (K : PySem.W.Frag) (T : List (Addr × Str)) : Sp := fun vs H Q _ => ∃ (wd : Str) (t l : Addr) (cs : List Int) (pl : List Nat), vs = [.str wd, .ref t, .ref l] ∧ wd ∈ wordsL ∧ SqT K H t (cs.map V.int) ∧ SqL K H l (pl.map nV) ∧ pl ≠ [] ∧ (∀ k ∈ pl, k < cs.length) ∧ cs.length ≤ 1000 ∧ Tabs T H ∧
  ∀ (H' : Hp) (k : Nat), ExtN H H' → Tabs T H' → k ∈ pl → ChoR wd cs pl k → Q (nV k) H'
theorem bMin6 : bootBuiltins "min" = some (.builtin (if true = true then "min" else "max")) := by decide +kernel
theorem bMax6 : bootBuiltins "max" = some (.builtin (if false = true then "min" else "max")) := by decide +kernel
/-- a maker's table -/
structure TabC (base : Heap) (mg : Str → Option Value) (T : List (Addr × Str)) (c P0 : Addr) (q : Str) : Prop where
  tb : TabB base mg c P0
  mem : (P0, q) ∈ T
  uq : ∀ z ∈ T, z.1 = P0 → z.2 = q
theorem seq_if6 {tt : TT} {t t2 : TS} {D : Ends} {σ : L2.St} {H : Hp} (h : tt σ H fun c H1 => if c = true then t { D with nx := t2 D } σ H1 else t2 D σ H1) : tSeq (tIfS tt t tNext) t2 D σ H := h
theorem minL_read {sg : Bool} {T : List (Addr × Str)} {K : PySem.W.Frag} {i : Nat} {ta : TA} {σ : L2.St} {H : Hp} {Q : VK} (h : ta σ H fun xs H1 => Tabs T H1 ∧ ∃ (l t : Addr) (pl : List Nat) (cs : List Int), xs = [.ref l] ∧ SqL K H1 l (pl.map nV) ∧ σ[i]? = some (some (.ref t)) ∧ SqT K H1 t (cs.map V.int) ∧ pl ≠ [] ∧ (∀ k ∈ pl, k < cs.length) ∧ cs.length ≤ 1000 ∧
  ∀ (H2 : Hp) (j k : Nat), ExtN H1 H2 → Tabs T H2 → Best sg cs pl j k → Q (nV k) H2) : tMinL sg T K i ta σ H Q := h
section
variable {P : Program} {w : World} {K : PySem.W.Frag} {mg : Str → Option Value} {base : Heap}
theorem ok_cho {f c P0 : Addr} {fd : FuncData} {T : List (Addr × Str)} (F : FunC K "choose" "choose" sCho f c fd) (B : Bl mg) (TC : TabC base mg T c P0 qCho) : FnOk P w K mg base CX0 3 f fd ["word", "closed", "places"] (spCho K T) := by
  refine okC F scCho (fun vs H Q E h => ?_) (fun A outer s H vs Q E hr h => ?_)
  · obtain ⟨wd, t, l, cs, pl, rfl, _⟩ := h
    rfl
  obtain ⟨wd, t, l, cs, pl, rfl, hw, ht, hl, hne, hin, hcs, hT, q⟩ := h
  refine ⟨_, pss_cons (ps_if (pt_cmpR op_eq (pv 0) pe_str (nomark _)) (pss_one (ps_ret (pe_ix ix_list (pv 2) pe_int (fun _ _ => rfl)))) pss_nil)
    (pss_cons (ps_if (pt_cmpR op_eq (pv 0) pe_str (nomark _)) (pss_one (ps_ret (pe_ix ix_list (pv 2) (pe_un un_neg pe_int) (fun _ _ => rfl)))) pss_nil)
    (pss_cons (ps_if (pt_cmpR op_eq (pv 0) pe_str (nomark _)) (pss_one (ps_ret (pe_minL (sg := true) (T := T) (i := 1) (c := c) (P := P0) ⟨⟨rfl, rfl, rfl, by decide +kernel, rfl, rfl, by decide +kernel⟩, TC.tb, rfl, TC.mem, TC.uq, rfl, fun _ _ _ _ _ _ => rfl, rfl, rfl, by decide, by decide, by decide⟩ hr rfl (by rfl) B.min bMin6 (pa_cons (pv 2) pa_nil)))) pss_nil)
    (pss_one (ps_ret (pe_minL (sg := false) (T := T) (i := 1) (c := c) (P := P0) ⟨⟨rfl, rfl, rfl, by decide +kernel, rfl, rfl, by decide +kernel⟩, TC.tb, rfl, TC.mem, TC.uq, rfl, fun _ _ _ _ _ _ => rfl, rfl, rfl, by decide, by decide, by decide⟩ hr rfl (by rfl) B.max bMax6 (pa_cons (pv 2) pa_nil)))))), ?_⟩
  simp only [wordsL, List.mem_cons, List.not_mem_nil, or_false] at hw
  rcases hw with w | w | w | w
  · subst w
    refine seq_if6 (test_read6 (op_read ⟨_, rfl, c_read ⟨rfl, _, rfl, iteT (ret_read (op_read ?_))⟩⟩))
    obtain ⟨a, r, e⟩ : ∃ a r, pl = a :: r := by
      cases pl with
      | nil => exact absurd rfl hne
      | cons a r => exact ⟨a, r, rfl⟩
    subst e
    exact ⟨_, rfl, c_read ⟨l, _, _, nV a, rfl, rfl, hl, atI_nat (j := 0) rfl, q H a (ExtN.refl H) hT (List.mem_cons_self ..) ⟨fun _ => rfl, fun z => absurd z (by decide), fun z => absurd z (by decide), fun z => absurd z (by decide)⟩⟩⟩
  · subst w
    refine seq_if6 (test_read6 (op_read ⟨_, rfl, c_read ⟨rfl, _, rfl, iteF ?_⟩⟩))
    refine seq_if6 (test_read6 (op_read ⟨_, rfl, c_read ⟨rfl, _, rfl, iteT (ret_read (op_read ?_))⟩⟩))
    have e5 : pl.map nV = (pl.dropLast.map nV) ++ [nV (pl.getLast hne)] := by rw [← List.map_singleton, ← List.map_append, List.dropLast_concat_getLast hne]
    refine ⟨_, rfl, _, rfl, l, _, _, nV (pl.getLast hne), rfl, rfl, hl, by rw [e5]; exact atI_last _ _, q H _ (ExtN.refl H) hT (List.getLast_mem hne) ⟨fun z => absurd z (by decide), fun _ => List.getLast?_eq_some_getLast hne, fun z => absurd z (by decide), fun z => absurd z (by decide)⟩⟩
  · subst w
    refine seq_if6 (test_read6 (op_read ⟨_, rfl, c_read ⟨rfl, _, rfl, iteF ?_⟩⟩))
    refine seq_if6 (test_read6 (op_read ⟨_, rfl, c_read ⟨rfl, _, rfl, iteF ?_⟩⟩))
    refine seq_if6 (test_read6 (op_read ⟨_, rfl, c_read ⟨rfl, _, rfl, iteT (ret_read (minL_read (cons_read ⟨_, rfl, nil_read ⟨hT, l, t, pl, cs, rfl, hl, rfl, ht, hne, hin, hcs, fun H2 j k e2 T2 hb => ?_⟩⟩)))⟩⟩))
    exact q H2 k e2 T2 (List.mem_of_getElem? hb.1) ⟨fun z => absurd z (by decide), fun z => absurd z (by decide), fun _ => ⟨j, hb⟩, fun z => absurd z (by decide)⟩
  · subst w
    refine seq_if6 (test_read6 (op_read ⟨_, rfl, c_read ⟨rfl, _, rfl, iteF ?_⟩⟩))
    refine seq_if6 (test_read6 (op_read ⟨_, rfl, c_read ⟨rfl, _, rfl, iteF ?_⟩⟩))
    refine seq_if6 (test_read6 (op_read ⟨_, rfl, c_read ⟨rfl, _, rfl, iteF ?_⟩⟩))
    refine ret_read (minL_read (cons_read ⟨_, rfl, nil_read ⟨hT, l, t, pl, cs, rfl, hl, rfl, ht, hne, hin, hcs, fun H2 j k e2 T2 hb => ?_⟩⟩))
    exact q H2 k e2 T2 (List.mem_of_getElem? hb.1) ⟨fun z => absurd z (by decide), fun z => absurd z (by decide), fun z => absurd z (by decide), fun _ => ⟨j, hb⟩⟩
end
end K6

set_option Elab.async false
set_option linter.all false
set_option maxRecDepth 100000
set_option maxHeartbeats 4000000
namespace K6
open PySem PySem.Spec PyProof.Rows L2 G1 G2 K2 G5 LamX
/-- a comprehension over enumerate(a tuple) -/
theorem lc_enumT {K : PySem.W.Frag} {a : Addr} {xs : List V} {g : TG} {tt : TT} {te : TE} {vs : List Nat} {σ : L2.St} {H1 : Hp} {D : Addr} {Qd : Hp → Prop} (Pv : Nat → Hp → Prop) (h0 : Pv 0 (upd H1 D (.lst []))) (hl : ∀ i H, Pv i H → SqT K H a xs)
    (hs : ∀ i x T H, xs[i]? = some x → Pv i H → H T = none → g (.ref T) (wipe σ vs) (upd H T (.tup [.int (i : Nat), x])) fun σ2 H2 => wipe σ2 vs = wipe σ vs ∧ tt σ2 H2 fun b H3 =>
      if b = true then te σ2 H3 fun y H4 => ∃ acc, H4 D = some (.lst acc) ∧ acc.length < sizeLine ∧ Pv (i + 1) (upd H4 D (.lst (acc ++ [y]))) else Pv (i + 1) H3) (hd : ∀ H, Pv xs.length H → Qd H) :
    ∃ W : Nat → Nat → Hp → Prop, (∃ m, W 0 m (upd H1 D (.lst []))) ∧ ∀ i m H, W i m H →
      ((ItT K a).stop i H ∧ Qd H) ∨ ((ItT K a).go i H ∧ ∃ Nx : Hp → Prop, (∀ H', Nx H' → ∃ m', m' < m ∧ W (i + 1) m' H') ∧ ∀ x H', (ItT K a).yld i H x H' → g x (wipe σ vs) H' fun σ2 H2 => wipe σ2 vs = wipe σ vs ∧ tt σ2 H2 fun b H3 =>
        if b = true then te σ2 H3 fun y H4 => ∃ acc, H4 D = some (.lst acc) ∧ acc.length < sizeLine ∧ Nx (upd H4 D (.lst (acc ++ [y]))) else Nx H3) := by
  refine ⟨fun i m H => i + m = xs.length ∧ Pv i H, ⟨xs.length, by omega, h0⟩, ?_⟩
  rintro i m H ⟨e, p⟩
  by_cases hm : m = 0
  · have e' : i = xs.length := by omega
    exact .inl ⟨⟨xs, hl _ _ p, e'.symm⟩, hd _ (e' ▸ p)⟩
  have hi : i < xs.length := by omega
  refine .inr ⟨⟨xs, xs[i], hl _ _ p, List.getElem?_eq_getElem hi⟩, Pv (i + 1), fun H' q => ⟨m - 1, by omega, by omega, q⟩, ?_⟩
  rintro _ _ ⟨T, x', rfl, hT, rfl, hx⟩
  exact hs i x' T H (hx xs (hl _ _ p)) p hT
abbrev sPck : Stmt := topS 34
abbrev NPck : List Str := ["rows", "closed", "limit", "word", "places", "place", "living"]
theorem scPck : FnScope NPck ["rows", "closed"] (defScope sPck) := ⟨rfl, rfl, rfl, by decide +kernel, rfl, by decide +kernel, by decide +kernel⟩
/-- the places whose count is not above the limit -/
def plcs (L : Int) (cs : List Int) (n : Nat) : List Nat := (List.range n).filter fun i => decide (cs.getD i 0 ≤ L)
theorem plcs_snoc (L : Int) (cs : List Int) (n : Nat) : plcs L cs (n + 1) = plcs L cs n ++ (if cs.getD n 0 ≤ L then [n] else []) := by
  unfold plcs
  rw [List.range_succ, List.filter_append]
  by_cases h : cs.getD n 0 ≤ L
  · rw [if_pos h]
    simp only [List.filter_cons, List.filter_nil, decide_eq_true h, if_true]
  · rw [if_neg h]
    simp only [List.filter_cons, List.filter_nil, decide_eq_false h]
    simp
theorem plcs_len (L : Int) (cs : List Int) (n : Nat) : (plcs L cs n).length ≤ n := by
  have := List.length_filter_le (fun i => decide (cs.getD i 0 ≤ L)) (List.range n)
  rw [List.length_range] at this
  exact this
theorem plcs_lt {L : Int} {cs : List Int} {n k : Nat} (h : k ∈ plcs L cs n) : k < n := by
  unfold plcs at h
  exact List.mem_range.mp (List.mem_filter.mp h).1
/-- the place that the rows pick -/
def PickR (rows : List RowD) (cs : List Int) (k : Nat) : Prop := ∃ (j : Nat) (r : RowD), rows[j]? = some r ∧ (∀ (i : Nat) (r' : RowD), i < j → rows[i]? = some r' → plcs r'.1 cs cs.length = []) ∧ k ∈ plcs r.1 cs cs.length ∧ ChoR r.2 cs (plcs r.1 cs cs.length) k
def spPck (K : PySem.W.Frag) (T : List (Addr × Str)) : Sp := fun vs H Q _ => ∃ (t u : Addr) (p : Nat) (rows ini : List RowD) (y : Str) (cs : List Int), vs = [.ref t, .ref u] ∧ RowsAt K H t rows ∧ (∀ r ∈ rows, r.2 ∈ wordsL) ∧ rows = ini ++ [((p : Int), y)] ∧ SqT K H u (cs.map V.int) ∧ cs ≠ [] ∧ (∀ c ∈ cs, c ≤ (p : Int)) ∧ cs.length ≤ 1000 ∧ Tabs T H ∧
  ∀ (H' : Hp) (k : Nat), ExtN H H' → Tabs T H' → PickR rows cs k → Q (nV k) H'
section
variable {P : Program} {w : World} {K : PySem.W.Frag} {mg : Str → Option Value} {base : Heap}
theorem ok_pck {f : Addr} {fd : FuncData} {T : List (Addr × Str)} (F : Fun K "pick" "pick" sPck f fd) (B : Bl mg) (GC : FAt P w K mg base 3 "choose" ["word", "closed", "places"] (spCho K T)) : FnOk P w K mg base CX0 4 f fd ["rows", "closed"] (spPck K T) := by
  refine F.ok scPck (fun vs H Q E h => ?_) (fun cdv A0 outer s0 H vs Q E hr h => ?_)
  · obtain ⟨t, u, p, rows, ini, y, cs, rfl, _⟩ := h
    rfl
  obtain ⟨t, u, p, rows, ini, y, cs, rfl, ⟨rs, hT, hP⟩, hok, hrow, hu, hne, hcp, hcl, hTb, q⟩ := h
  obtain ⟨fC, dC, GC, kC, bC, gC⟩ := GC.ex
  refine ⟨_, pss_one (ps_for PassesOwn.never rfl (pi_tup (pv 0)) (pg_tup rfl (pgs_cons (pg_name (i := 2) scPck.nd rfl (.inr rfl)) (pgs_cons (pg_name (i := 3) scPck.nd rfl (.inl rfl)) pgs_nil)))
    (pss_cons (ps_setLc (i := 4) (own := [("place", 5), ("living", 6)]) (g := gTup K 2 (gCons (gName 5) (gCons (gName 6) gNil))) (tt := _) (te := tVar 5) rfl scPck.nd rfl rfl (by rfl) (pi_enumT (by rfl) B.enm (pa_cons (pv 1) pa_nil)) (blkOk_by (own := [("place", 5), ("living", 6)]) (N := NPck) (sc := defScope sPck) (by decide +kernel))
        (fun _ _ _ _ _ => pg_tup rfl (pgs_cons (pg_name (i := 5) scPck.nd rfl (Or.inl rfl)) (pgs_cons (pg_name (i := 6) scPck.nd rfl (Or.inl rfl)) pgs_nil))) (fun _ _ _ _ _ => pts_one (pt_cmpR op_le (pv 6) (pv 2) (nomark _))) (fun _ _ _ _ _ => pv 5))
      (pss_one (ps_if (pt_truth (pv 4) (by intro _; rfl)) (pss_one (ps_ret (pe_call GC hr (by rfl) gC kC bC .nil pass0 (pa_cons (pv 3) (pa_cons (pv 1) (pa_cons (pv 4) pa_nil)))))) pss_nil)))), ?_⟩
  refine ⟨_, rfl, t, rfl, ⟨_, hT⟩, ?_⟩
  refine for_tup (K := K) (xs := rs.map V.ref) (fun i σ H' => ∃ x2 x3 x4 x5 x6, σ = [some (.ref t), some (.ref u), x2, x3, x4, x5, x6] ∧ Same H H' ∧ (∀ (j : Nat) (r' : RowD), j < i → rows[j]? = some r' → plcs r'.1 cs cs.length = [])) ⟨none, none, none, none, none, rfl, Same.refl _, fun j _ z => absurd z (Nat.not_lt_zero j)⟩ (fun i σ H' _ z => ?_) ?_ ?_
  · obtain ⟨_, _, _, _, _, _, z, _⟩ := z
    exact K2.Same.tup z hT
  · rintro i x σ H' hi ⟨x2, x3, x4, x5, x6, rfl, s1, hb⟩
    rw [List.getElem?_map] at hi
    obtain ⟨a, ha, rfl⟩ : ∃ a, rs[i]? = some a ∧ V.ref a = x := by
      cases hq : rs[i]? with
      | none => rw [hq] at hi; cases hi
      | some a => rw [hq] at hi; exact ⟨a, rfl, Option.some.inj hi⟩
    obtain ⟨r, hr1, hr2⟩ := K2.paired_get hP ha
    refine ⟨a, _, rfl, K2.Same.tup s1 hr2, rfl, _, _, rfl, _, _, rfl, rfl, ?_⟩
    refine seq_asg ⟨_, rfl, u, _, rfl, K2.Same.tup s1 hu, fun D hD => ?_⟩
    refine lc_enumT (K := K) (xs := cs.map V.int) (fun j H2 => Same H' H2 ∧ H2 D = some (.lst ((plcs r.1 cs j).map nV))) ⟨same_lay hD, upd_same⟩ (fun j H2 z => K2.Same.tup z.1 (K2.Same.tup s1 hu)) ?_ ?_
    · rintro j v T1 H2 hj ⟨sj, ej⟩ hT1
      have hj' : j < cs.length := by
        have z := (List.getElem?_eq_some_iff.mp hj).1
        rwa [List.length_map] at z
      have ex : v = .int (cs.getD j 0) := by
        rw [List.getElem?_map, List.getElem?_eq_getElem hj'] at hj
        rw [List.getD_eq_getElem?_getD, List.getElem?_eq_getElem hj']
        exact (Option.some.inj hj).symm
      subst ex
      have sT : Same H2 (upd H2 T1 (.tup [.int (j : Nat), .int (cs.getD j 0)])) := same_lay hT1
      refine ⟨T1, _, rfl, SqT.of upd_same, rfl, _, _, rfl, _, _, rfl, rfl, rfl, test_read6 (op_read ⟨_, rfl, _, rfl, _, _, rfl, rfl, _, rfl, ?_⟩)⟩
      by_cases hle : cs.getD j 0 ≤ r.1
      · rw [decide_eq_true hle]
        refine iteT ⟨_, rfl, _, sT _ _ ej, ?_, same_grow hD sj sT, ?_⟩
        · have := plcs_len r.1 cs j
          rw [List.length_map, sizeLine_eq]
          omega
        · rw [upd_same, plcs_snoc, if_pos hle, List.map_append]
          rfl
      · rw [decide_eq_false hle]
        refine iteF ⟨sj.trans sT, ?_⟩
        rw [plcs_snoc, if_neg hle, List.append_nil]
        exact sT _ _ ej
    rintro H2 ⟨s2, hD2⟩
    rw [List.length_map] at hD2
    have s3 := s1.trans s2
    by_cases hem : plcs r.1 cs cs.length = []
    · refine ⟨_, rfl, false, .inl ⟨_, SqL.of hD2, by rw [hem]; rfl⟩, iteF ⟨_, _, _, _, _, rfl, s3, fun j r' hj hr' => ?_⟩⟩
      rcases Nat.lt_succ_iff_lt_or_eq.mp hj with z | z
      · exact hb j r' z hr'
      · subst z
        rw [hr1] at hr'
        cases hr'
        exact hem
    · refine ⟨_, rfl, true, .inl ⟨_, SqL.of hD2, ?_⟩, iteT (ret_read (call_read (cons_read ⟨_, rfl, cons_read ⟨_, rfl, cons_read ⟨_, rfl, nil_read ?_⟩⟩⟩)))⟩
      · cases hq : plcs r.1 cs cs.length with
        | nil => exact absurd hq hem
        | cons _ _ => rfl
      refine ⟨r.2, u, D, cs, plcs r.1 cs cs.length, rfl, hok r (List.mem_of_getElem? hr1), K2.Same.tup s3 hu, SqL.of hD2, hem, fun k hk => plcs_lt hk, hcl, hTb.ext s3, fun H3 k e3 T3 hk hch => ?_⟩
      exact q H3 k ((ExtN.of s3).trans e3) T3 ⟨i, r, hr1, hb, hk, hch⟩
  · rintro σ H' ⟨x2, x3, x4, x5, x6, rfl, s1, hb⟩
    exfalso
    have hl : (rs.map V.ref).length = rows.length := by rw [List.length_map]; exact Paired.length hP
    rw [hl] at hb
    have hlast : rows[ini.length]? = some ((p : Int), y) := by rw [hrow]; simp
    have z := hb ini.length _ (by rw [hrow]; simp) hlast
    obtain ⟨c, cs', e⟩ : ∃ c cs', cs = c :: cs' := by
      cases cs with
      | nil => exact absurd rfl hne
      | cons c cs' => exact ⟨c, cs', rfl⟩
    have m : 0 ∈ plcs (p : Int) cs cs.length := by
      unfold plcs
      refine List.mem_filter.mpr ⟨List.mem_range.mpr (by rw [e]; simp), decide_eq_true ?_⟩
      rw [e]
      exact hcp c (by rw [e]; exact List.mem_cons_self ..)
    have z' : plcs (p : Int) cs cs.length = [] := z
    rw [z'] at m
    cases m
end
end K6

set_option Elab.async false
set_option linter.all false
set_option maxRecDepth 100000
set_option maxHeartbeats 4000000
namespace K6
open PySem PySem.Spec PyProof.Rows L2 G1 G2 K2 G5 LamX
/-- as Frm, but tables may grow -/
def FrmN (F : List Addr) (H H' : Hp) : Prop := ∀ b o, H b = some o → b ∉ F → (∀ ps, o ≠ .tbl ps) → H' b = some o
theorem FrmN.of {F : List Addr} {H H' : Hp} (f : Frm F H H') : FrmN F H H' := fun b o h n _ => f b o h n
theorem FrmN.trans {F : List Addr} {H H1 H2 : Hp} (a : FrmN F H H1) (b : FrmN F H1 H2) : FrmN F H H2 := fun c o h n t => b c o (a c o h n t) n t
/-- nothing stands there, but perhaps a table -/
def NwN (H : Hp) (a : Addr) : Prop := ∀ o, H a = some o → ∃ ps, o = .tbl ps
theorem NwN.of {H : Hp} {a : Addr} (h : H a = none) : NwN H a := fun o e => by rw [h] at e; cases e
theorem FrmN.grow {F F' : List Addr} {H H1 H2 : Hp} (a : FrmN F H H1) (b : FrmN F' H1 H2) (g : ∀ c ∈ F', c ∈ F ∨ NwN H c) : FrmN F H H2 := fun c o h n t => b c o (a c o h n t) (fun z => by
  rcases g c z with q | q
  · exact n q
  · obtain ⟨ps, e⟩ := q o h
    exact t ps e) t
theorem FrmN.back {F : List Addr} {H H' : Hp} (f : FrmN F H H') (k : ∀ a ∈ F, ∃ o, H' a = some o ∧ ∀ ps, o ≠ .tbl ps) {a : Addr} (h : NwN H' a) : NwN H a := fun o e => by
  by_cases t : ∃ ps, o = .tbl ps
  · exact t
  exfalso
  have nt : ∀ ps, o ≠ .tbl ps := fun ps z => t ⟨ps, z⟩
  by_cases z : a ∈ F
  · obtain ⟨u, hu, nu⟩ := k a z
    obtain ⟨ps, e2⟩ := h u hu
    exact nu ps e2
  · obtain ⟨ps, e2⟩ := h o (f a o e z nt)
    exact nt ps e2
theorem foot_out {C x a : Addr} {H : Hp} {s : Pl} {A : PAd} {o : HO} (h : PlayAt C H x s A) (e : H a = some o) (n1 : ∀ xs, o ≠ .lst xs) (n2 : ∀ l, o ≠ .dK l) (n3 : ∀ C' dx fs, o ≠ .ins C' dx fs) : a ∉ A.foot x := fun z => by
  rcases foot_kind h a z with ⟨ys, q⟩ | ⟨l, q⟩ | ⟨C', dx, fs, q⟩
  · rw [e] at q; exact n1 _ (Option.some.inj q)
  · rw [e] at q; exact n2 _ (Option.some.inj q)
  · rw [e] at q; exact n3 _ _ _ (Option.some.inj q)
theorem tabs_frm {T : List (Addr × Str)} {C x : Addr} {H H' : Hp} {s : Pl} {A : PAd} (h : PlayAt C H x s A) (f : Frm (A.foot x) H H') (t : Tabs T H) : Tabs T H' := fun p hp => by
  obtain ⟨ps, h1, h2, h3⟩ := t p hp
  refine ⟨ps, f _ _ h1 (foot_out h h1 (by intro _ z; cases z) (by intro _ z; cases z) (by intro _ _ _ z; cases z)), h2, fun pos cv hc => ?_⟩
  obtain ⟨c, e1, e2⟩ := h3 pos cv hc
  exact ⟨c, e1, f _ _ e2 (foot_out h e2 (by intro _ z; cases z) (by intro _ z; cases z) (by intro _ _ _ z; cases z))⟩
theorem PlayAt.ext {C x : Addr} {H H' : Hp} {s : Pl} {A : PAd} (h : PlayAt C H x s A) (e : ExtN H H') : PlayAt C H' x s A := by
  have e' : ∀ {b : Addr} {o : HO}, H b = some o → (∀ ps, o ≠ .tbl ps) → H' b = some o := fun {b o} => e b o
  refine ⟨e' h.ins (by intro _ z; cases z), e' h.cont (by intro _ z; cases z), Paired.mapP h.inner fun _ _ z => e' z (by intro _ z; cases z), e' h.liv (by intro _ z; cases z), e' h.free (by intro _ z; cases z), e' h.clo (by intro _ z; cases z), e' h.hom (by intro _ z; cases z), e' h.told (by intro _ z; cases z), Paired.mapP h.tat fun _ _ z => ?_, h.nd⟩
  obtain ⟨q, z1, z2⟩ := z
  exact ⟨q, e' z1 (by intro _ z; cases z), e' z2 (by intro _ z; cases z)⟩
theorem DrvAt.extN {K : PySem.W.Frag} {CD x : Addr} {H H' : Hp} {b p n : Nat} {ini : List RowD} {y : Str} (hd : DrvAt K CD H x b p n ini y) (e : ExtN H H') : DrvAt K CD H' x b p n ini y := by
  obtain ⟨dx, t, h1, rs, h2, h3⟩ := hd
  exact ⟨dx, t, e _ _ h1 (by intro _ z; cases z), rs, ext_tup e h2, Paired.mapP h3 fun _ _ z => ext_tup e z⟩
theorem Fit2.fit {s : Pl} (h : Fit2 s) : Fit s := ⟨fun c hc => Nat.le_trans (h.cont c hc) (by decide), Nat.le_trans h.hom (by decide), Nat.le_trans h.clo (by decide), h.lens⟩
end K6

set_option Elab.async false
set_option linter.all false
set_option maxRecDepth 100000
set_option maxHeartbeats 4000000
namespace K6
open PySem PySem.Spec PyProof.Rows L2 G1 G2 K2 G5 LamX
abbrev sBrg : Stmt := topS 57
abbrev NBrg : List Str := ["play", "name", "cleaned", "copied", "seen", "counts", "place", "block"]
theorem scBrg : FnScope NBrg ["play", "name"] (defScope sBrg) := ⟨rfl, rfl, rfl, by decide +kernel, rfl, by decide +kernel, by decide +kernel⟩
theorem bSet9 : bootBuiltins "set" = some (.type "set") := by decide +kernel
/-- the living pages of the closed blocks -/
def cntP (s : Pl) : List Int := s.clo.map fun k => s.liv.getD k 0
theorem seq_while9 {c : TT} {tb t2 : TS} {D : Ends} {σ : L2.St} {H : Hp} (h : ∃ W : Nat → L2.St → Hp → Prop, (∃ m, W m σ H) ∧ ∀ m σ H, W m σ H → c σ H fun b H1 => if b = true then ∃ N : L2.St → Hp → Prop, (∀ σ' H', N σ' H' → ∃ m', m' < m ∧ W m' σ' H') ∧ tb { D with nx := N, ct := N, bk := t2 D } σ H1 else t2 D σ H1) : tSeq (tWhile c tb) t2 D σ H := h
theorem one_ifE {tt : TT} {t u : TS} {D : Ends} {σ : L2.St} {H : Hp} (h : tt σ H fun c H1 => if c = true then t D σ H1 else u D σ H1) : tIfS tt t u D σ H := h
theorem not_foot {C x a : Addr} {H : Hp} {s : Pl} {A : PAd} (h : PlayAt C H x s A) (n : H a = none) : a ∉ A.foot x := fun z => by
  obtain ⟨o, ho, _⟩ := foot_some h a z
  rw [n] at ho
  cases ho
theorem tabs_upd {T : List (Addr × Str)} {H : Hp} {a : Addr} {xs : List V} {o : HO} (h : H a = some (.lst xs)) (t : Tabs T H) : Tabs T (L2.upd H a o) := fun p hp => by
  obtain ⟨ps, h1, h2, h3⟩ := t p hp
  refine ⟨ps, by rw [upd_ne (ne_of h1 h (by intro z; cases z))]; exact h1, h2, fun pos cv hc => ?_⟩
  obtain ⟨c, e1, e2⟩ := h3 pos cv hc
  exact ⟨c, e1, by rw [upd_ne (ne_of e2 h (by intro z; cases z))]; exact e2⟩
theorem puts_told (p k : Nat) : ∀ (s : Pl) (ns : List Str), (putsP p k s ns).told = s.told
  | s, [] => rfl
  | s, nm :: ns => by
    show (putsP p k (putP p s k nm) ns).told = s.told
    rw [puts_told p k _ ns]
    unfold putP
    split <;> rfl
theorem clean_told (p : Nat) (s : Pl) (i k f : Nat) : (cleanP p s i k f).told = s.told := by
  show (putsP p f (cln1 s i k f) (keptN (s.cont.getD k []))).told = s.told
  rw [puts_told]
  rfl
theorem oN_non (k : Nat) : decide (oN (some k) = V.non) = false := decide_eq_false (by intro z; cases z)
section
variable {P : Program} {w : World} {K : PySem.W.Frag} {mg : Str → Option Value} {base : Heap} {CD C : Addr}
end
end K6

set_option Elab.async false
set_option linter.all false
set_option maxRecDepth 100000
set_option maxHeartbeats 4000000
namespace K6
open PySem PySem.Spec PyProof.Rows L2 G1 G2 K2 G5 LamX
abbrev sEvt : Stmt := topS 55
abbrev NEvt : List Str := ["play", "event", "word", "name"]
theorem scEvt : FnScope NEvt ["play", "event"] (defScope sEvt) := ⟨rfl, rfl, rfl, by decide +kernel, rfl, by decide +kernel, by decide +kernel⟩
theorem call_lenD {X : Cx} : CallR X (.builtin "len") (fun xs H Q => ∃ (a : Addr) (kvs : List (L2.Key × V)), xs = [.ref a] ∧ H a = some (.dK kvs) ∧ Q (.int (kvs.length : Int)) H) := by
  intro pins s σ H xs us Q I r h
  obtain ⟨a, kvs, rfl, e, q⟩ := h
  obtain ⟨u, rfl, ru⟩ := vals1 r
  cases ru
  exact d_len I (.inl e) fun t s' I' => ⟨.int (kvs.length : Int), H, I', ⟨t, rfl⟩, q⟩
/-- the name lives at page j of block h -/
structure LivesAt (s : Pl) (nm : Str) (h j : Nat) : Prop where
  hom : valV s.hom (.inr nm) = some (nV h)
  blk : h < s.cont.length
  pg : (s.cont.getD h [])[j]? = some (some nm)
  fst : ∀ m, m < j → (s.cont.getD h [])[m]? ≠ some (some nm)
/-- the state once the page of the name is dead, if it had one -/
def DeadR (s s0 : Pl) (nm : Str) : Prop := (valV s.hom (.inr nm) = none ∧ s0 = s) ∨ ∃ h j, LivesAt s nm h j ∧ s0 = dieP s h j nm
theorem b_read9 {t : TE} {σ : L2.St} {H : Hp} {Q : Bool → Hp → Prop} (h : t σ H fun x H1 => ∃ c, x = .bl c ∧ Q c H1) : tB t σ H Q := h
theorem seq_ifE {tt : TT} {t u t2 : TS} {D : Ends} {σ : L2.St} {H : Hp} (h : tt σ H fun c H1 => if c = true then t { D with nx := t2 D } σ H1 else u { D with nx := t2 D } σ H1) : tSeq (tIfS tt t u) t2 D σ H := h
section
variable {P : Program} {w : World} {K : PySem.W.Frag} {mg : Str → Option Value} {base : Heap} {CD C : Addr}
end
end K6

set_option Elab.async false
set_option linter.all false
set_option maxRecDepth 100000
set_option maxHeartbeats 4000000
namespace K6
open PySem PySem.Spec PyProof.Rows L2 G1 G2 K2 G5 LamX
abbrev sNam : Stmt := topS 22
abbrev NNam : List Str := ["value", "character"]
theorem scNam : FnScope NNam ["value"] (defScope sNam) := ⟨rfl, rfl, rfl, by decide +kernel, rfl, by decide +kernel, by decide +kernel⟩
theorem bAll9 : bootBuiltins "all" = some (.builtin "all") := by decide +kernel
abbrev letS : Str := "abcdefghijklmnopqrstuvwxyz"
abbrev digS : Str := "0123456789"
/-- a letter, and behind it up to seven letters or digits -/
structure NameOk (nm : Str) : Prop where
  lo : 1 ≤ nm.length
  hi : nm.length ≤ 8
  fst : ∃ c, nm.cps.toList[0]? = some c ∧ c ∈ letS.cps.toList
  all : ∀ c ∈ nm.cps.toList, c ∈ letS.cps.toList ∨ c ∈ digS.cps.toList
def spNam : Sp := fun vs H Q _ => ∃ nm : Str, vs = [.str nm] ∧ NameOk nm ∧ ∀ H', Same H H' → Q (.bl true) H'
def rInSg : R2 := fun x y H Q => ∃ (c : Nat) (z : Str), x = .str ⟨#[c]⟩ ∧ y = .str z ∧ Q (.bl (decide (c ∈ z.cps.toList))) H
theorem op_inSg {X : Cx} : OpR X (compareOp .In) rInSg := op_in_sign
/-- a comprehension over a text -/
theorem lc_str {z : Str} {g : TG} {tt : TT} {te : TE} {vs : List Nat} {σ : L2.St} {H1 : Hp} {D : Addr} {Qd : Hp → Prop} (Pv : Nat → Hp → Prop) (h0 : Pv 0 (upd H1 D (.lst [])))
    (hs : ∀ i c H, z.cps[i]? = some c → Pv i H → g (.str ⟨#[c]⟩) (wipe σ vs) H fun σ2 H2 => wipe σ2 vs = wipe σ vs ∧ tt σ2 H2 fun b H3 =>
      if b = true then te σ2 H3 fun y H4 => ∃ acc, H4 D = some (.lst acc) ∧ acc.length < sizeLine ∧ Pv (i + 1) (upd H4 D (.lst (acc ++ [y]))) else Pv (i + 1) H3) (hd : ∀ H, Pv z.cps.size H → Qd H) :
    ∃ W : Nat → Nat → Hp → Prop, (∃ m, W 0 m (upd H1 D (.lst []))) ∧ ∀ i m H, W i m H →
      ((Its z).stop i H ∧ Qd H) ∨ ((Its z).go i H ∧ ∃ Nx : Hp → Prop, (∀ H', Nx H' → ∃ m', m' < m ∧ W (i + 1) m' H') ∧ ∀ x H', (Its z).yld i H x H' → g x (wipe σ vs) H' fun σ2 H2 => wipe σ2 vs = wipe σ vs ∧ tt σ2 H2 fun b H3 =>
        if b = true then te σ2 H3 fun y H4 => ∃ acc, H4 D = some (.lst acc) ∧ acc.length < sizeLine ∧ Nx (upd H4 D (.lst (acc ++ [y]))) else Nx H3) := by
  refine ⟨fun i m H => i + m = z.cps.size ∧ Pv i H, ⟨z.cps.size, by omega, h0⟩, ?_⟩
  rintro i m H ⟨e, p⟩
  by_cases hm : m = 0
  · have e' : i = z.cps.size := by omega
    exact .inl ⟨Nat.le_of_eq e'.symm, hd _ (e' ▸ p)⟩
  have hi : i < z.cps.size := by omega
  refine .inr ⟨hi, Pv (i + 1), fun H' q => ⟨m - 1, by omega, by omega, q⟩, ?_⟩
  rintro _ _ ⟨rfl, c, hc, rfl⟩
  exact hs i c _ hc p
section
variable {P : Program} {w : World} {K : PySem.W.Frag} {mg : Str → Option Value} {base : Heap} {CD C : Addr}
theorem ok_nam {f0 : Addr} {fd : FuncData} (F : Fun K "is_name" "is_name" sNam f0 fd) (B : Bl mg) (gL : ∃ t, mg "LETTERS" = some (.str letS t)) (gD : ∃ t, mg "DIGITS" = some (.str digS t)) (gM : ∃ t, mg "MOST_CHARACTERS" = some (.int 8 t)) : FnOk P w K mg base CX0 1 f0 fd ["value"] spNam := by
  refine F.ok scNam (fun vs H Q E h => ?_) (fun cdv A0 outer s0 H vs Q E hr h => ?_)
  · obtain ⟨nm, rfl, _⟩ := h
    rfl
  obtain ⟨nm, rfl, hn, q⟩ := h
  obtain ⟨tL, cL⟩ := gL
  obtain ⟨tD, cD⟩ := gD
  obtain ⟨tM, cM⟩ := gM
  refine ⟨_, pss_cons (ps_if (PW.pt (pw_or (pt_not (pt_val (pe_callB call_isi (by rfl) B.isi bIsi (pa_cons (pv 0) (pa_cons (pe_bltn (v := .ty "str") (by rfl) B.str bStr rfl) pa_nil)))))
      (pw_or (pt_not (pt_chain op_le op_le pe_int (pe_callB call_len_str (by rfl) B.len PySem.boot_len (pa_cons (pv 0) pa_nil)) (pe_glob (v := .int 8) rfl cM ⟨_, rfl⟩)))
      (pw_or1 (pt_cmpR op_notIn_sign (pe_ix ix_str (pv 0) pe_int (fun _ _ => rfl)) (pe_glob (v := .str letS) rfl cL ⟨_, rfl⟩) (by rfl)))))) (pss_one (ps_ret pe_bl)) pss_nil)
    (pss_one (ps_ret (pe_callB (cr_all rfl) (by rfl) B.all bAll9 (pa_cons (pe_lc (own := [("character", 1)]) (g := gName 1) (tt := tYes) (te := tOrV (tOp rInSg (tVar 1) (tC (.str letS))) (tOp rInSg (tVar 1) (tC (.str digS)))) rfl scNam.nd (pi_str (pv 0)) (blkOk_by (own := [("character", 1)]) (N := NNam) (sc := defScope sNam) (by decide +kernel))
        (fun _ _ _ _ _ => pg_name (i := 1) scNam.nd rfl (Or.inl rfl)) (fun _ _ _ _ _ => pts_nil) (fun _ _ _ _ _ => pe_or (pe_cmpR op_inSg (pv 1) (pe_glob (v := .str letS) rfl cL ⟨_, rfl⟩) (by rfl)) (pe_one (pe_cmpR op_inSg (pv 1) (pe_glob (v := .str digS) rfl cD ⟨_, rfl⟩) (by rfl))))) pa_nil)))), ?_⟩
  have h8 := hn.hi
  have h1 := hn.lo
  have hz : nm.length ≤ sizeLine := by rw [sizeLine_eq]; omega
  obtain ⟨c0, hc0, hl0⟩ := hn.fst
  refine ⟨_, rfl, _, _, _, _, true, rfl, .ty _, .base (.str nm), kit_ty (by decide +kernel), true, rfl, iteF ?_⟩
  refine ⟨_, rfl, nm, rfl, hz, _, _, rfl, rfl, _, rfl, ?_⟩
  rw [decide_eq_true (show (1 : Int) ≤ (nm.length : Int) by omega)]
  refine iteT ⟨_, _, rfl, rfl, _, rfl, ?_⟩
  rw [decide_eq_true (show (nm.length : Int) ≤ 8 by omega)]
  refine iteF ⟨_, rfl, nm, 0, c0, rfl, rfl, hz, atI_nat (j := 0) hc0, c0, letS, rfl, rfl, _, rfl, ?_⟩
  rw [decide_eq_true hl0]
  refine iteF ?_
  refine nx_read ?_
  dsimp only
  refine ret_read (cb_read (cons_read ⟨_, rfl, nm, rfl, fun D hD => ?_⟩))
  refine lc_str (fun i H' => Same H H' ∧ H' D = some (.lst ((List.replicate i true).map V.bl))) ⟨same_lay hD, upd_same⟩ ?_ ?_
  · rintro i c H' hc ⟨s1, e1⟩
    have hil : i < nm.cps.size := by
      rcases Nat.lt_or_ge i nm.cps.size with z | z
      · exact z
      · rw [Array.getElem?_eq_none z] at hc; cases hc
    have hin : c ∈ nm.cps.toList := by
      rw [Array.getElem?_eq_getElem hil] at hc
      rw [← Option.some.inj hc]
      exact Array.getElem_mem_toList hil
    have fin : ∃ acc, H' D = some (.lst acc) ∧ acc.length < sizeLine ∧ Same H (L2.upd H' D (.lst (acc ++ [V.bl true]))) ∧ (L2.upd H' D (.lst (acc ++ [V.bl true]))) D = some (.lst ((List.replicate (i + 1) true).map V.bl)) := by
      refine ⟨_, e1, ?_, fun d u e => ?_, ?_⟩
      · rw [List.length_map, List.length_replicate, sizeLine_eq]
        have : nm.cps.size = nm.length := rfl
        omega
      · rw [upd_ne (ne_of_none e hD)]
        exact s1 _ _ e
      · rw [upd_same, List.replicate_succ', List.map_append]
        rfl
    refine ⟨rfl, ?_⟩
    unfold tYes
    dsimp only
    rw [if_pos rfl]
    refine ⟨_, rfl, c, letS, rfl, rfl, _, rfl, ?_⟩
    by_cases hl : c ∈ letS.cps.toList
    · rw [decide_eq_true hl]
      exact iteT fin
    · rw [decide_eq_false hl]
      refine iteF ⟨_, rfl, c, digS, rfl, rfl, ?_⟩
      rw [decide_eq_true ((hn.all c hin).resolve_left hl)]
      exact fin
  · rintro H' ⟨s1, e1⟩
    refine nil_read ⟨D, List.replicate nm.cps.size true, rfl, SqL.of e1, ?_⟩
    have e2 : (List.replicate nm.cps.size true).all id = true := by
      rw [List.all_eq_true]
      intro b hb
      exact (List.mem_replicate.mp hb).2
    rw [e2]
    exact q H' s1
end
end K6

set_option Elab.async false
set_option linter.all false
set_option maxRecDepth 100000
set_option maxHeartbeats 4000000
namespace K6
open PySem PySem.Spec PyProof.Rows L2 G1 G2 K2 G5 LamX
abbrev sIev : Stmt := topS 53
abbrev NIev : List Str := ["value", "word", "name"]
theorem scIev : FnScope NIev ["value"] (defScope sIev) := ⟨rfl, rfl, rfl, by decide +kernel, rfl, by decide +kernel, by decide +kernel⟩
def spIev (K : PySem.W.Frag) : Sp := fun vs H Q _ => ∃ (e : Addr) (wd nm : Str), vs = [.ref e] ∧ SqT K H e [.str wd, .str nm] ∧ (wd = "write" ∨ wd = "trim") ∧ NameOk nm ∧ ∀ H', Same H H' → Q (.bl true) H'
section
variable {P : Program} {w : World} {K : PySem.W.Frag} {mg : Str → Option Value} {base : Heap} {CD C : Addr}
theorem ok_iev {f0 : Addr} {fd : FuncData} (F : Fun K "is_event" "is_event" sIev f0 fd) (B : Bl mg) (gW : ∃ t, mg "WRITE" = some (.str "write" t)) (gT : ∃ t, mg "TRIM" = some (.str "trim" t)) (GN : FAt P w K mg base 1 "is_name" ["value"] spNam) : FnOk P w K mg base CX0 2 f0 fd ["value"] (spIev K) := by
  refine F.ok scIev (fun vs H Q E h => ?_) (fun cdv A0 outer s0 H vs Q E hr h => ?_)
  · obtain ⟨e, wd, nm, rfl, _⟩ := h
    rfl
  obtain ⟨e, wd, nm, rfl, he, hw, hn, q⟩ := h
  obtain ⟨tW, cW⟩ := gW
  obtain ⟨tT, cT⟩ := gT
  obtain ⟨fN, dN, GN, kN, bN, gN⟩ := GN.ex
  refine ⟨_, pss_cons (ps_if (PW.pt (pw_or (pt_not (pt_val (pe_callB call_isi (by rfl) B.isi bIsi (pa_cons (pv 0) (pa_cons (pe_bltn (v := .ty "tuple") (by rfl) B.tup bTup rfl) pa_nil)))))
      (pw_or1 (pt_cmpR op_ne (pe_callB call_len_seq (by rfl) B.len PySem.boot_len (pa_cons (pv 0) pa_nil)) pe_int (nomark _))))) (pss_one (ps_ret pe_bl)) pss_nil)
    (pss_cons (ps_asg (pv 0) (pg_tup rfl (pgs_cons (pg_name (i := 1) scIev.nd rfl (.inl rfl)) (pgs_cons (pg_name (i := 2) scIev.nd rfl (.inl rfl)) pgs_nil))))
    (pss_one (ps_ret (pe_and (pe_callB call_isi (by rfl) B.isi bIsi (pa_cons (pv 1) (pa_cons (pe_bltn (v := .ty "str") (by rfl) B.str bStr rfl) pa_nil)))
      (pe_and (pe_cmpR op_in_seq (pv 1) (pe_tup (pa_cons (pe_glob (v := .str "write") rfl cW ⟨_, rfl⟩) (pa_cons (pe_glob (v := .str "trim") rfl cT ⟨_, rfl⟩) pa_nil))) (by rfl))
      (pe_one (pe_call GN hr (by rfl) gN kN bN .nil pass0 (pa_cons (pv 2) pa_nil)))))))), ?_⟩
  refine ⟨_, rfl, _, _, _, _, true, rfl, .ty _, tup_ty he, kit_ty (by decide +kernel), true, rfl, iteF ?_⟩
  refine ⟨_, rfl, e, _, rfl, .inr he, rfl, _, rfl, iteF ?_⟩
  refine nx_read ?_
  dsimp only
  refine seq_asg ⟨_, rfl, e, _, rfl, he, rfl, _, _, rfl, _, _, rfl, rfl, ?_⟩
  refine ⟨_, rfl, _, _, _, _, true, rfl, .ty _, .base (.str wd), kit_ty (by decide +kernel), true, rfl, iteT ?_⟩
  refine ⟨_, rfl, by show 2 ≤ sizeLine; decide, fun u nu => ?_⟩
  have sN : Same H (L2.upd H u (.tup [.str "write", .str "trim"])) := same_lay nu
  have hin : inV (.str wd) [.str "write", .str "trim"] = true := by
    rcases hw with z | z <;> subst z <;> decide +kernel
  refine ⟨u, _, rfl, .inr (SqT.of upd_same), rfl, rfl, true, ?_, iteT ?_⟩
  · exact congrArg V.bl hin
  refine ⟨_, rfl, nm, rfl, hn, fun H' s' => q H' (sN.trans s')⟩
end
end K6

set_option Elab.async false
set_option linter.all false
set_option maxRecDepth 100000
set_option maxHeartbeats 4000000
namespace K6
open PySem PySem.Spec PyProof.Rows L2 G1 G2 K2 G5 LamX
abbrev sPin : Stmt := inClass (topS 52) 0
abbrev NPin : List Str := ["self", "drive", "block"]
theorem scPin : FnScope NPin ["self", "drive"] (defScope sPin) := ⟨rfl, rfl, rfl, by decide +kernel, rfl, by decide +kernel, by decide +kernel⟩
/-- a new play -/
def newP (b : Nat) : Pl := ⟨List.replicate b [], List.replicate b 0, List.range b, [], none, [], []⟩
/-- all stays but what stands at x -/
def spPin (K : PySem.W.Frag) (CD C : Addr) : Sp := fun vs H Q _ => ∃ (x dx dr : Addr) (b p n : Nat) (ini : List RowD) (y : Str), vs = [.ref x, .ref dr] ∧ H x = some (.ins C dx []) ∧ DrvAt K CD H dr b p n ini y ∧ dr ≠ x ∧ b ≤ 10 ∧
  ∀ (H' : Hp) (A : PAd), PlayAt C H' x (newP b) A → A.dr = dr → (∀ a ∈ A.foot x, a = x ∨ H a = none) → Keep x H H' → Q .non H'
theorem keep_none {x a : Addr} {H H' : Hp} {o : HO} (k : Keep x H H') (hx : H' x = some o) (h : H' a = none) : H a = none ∧ a ≠ x := by
  have ne : a ≠ x := fun z => by rw [z, hx] at h; cases h
  refine ⟨?_, ne⟩
  cases e : H a with
  | none => rfl
  | some u => rw [k a u e ne] at h; cases h
section
variable {P : Program} {w : World} {K : PySem.W.Frag} {mg : Str → Option Value} {base : Heap} {CD C : Addr}
theorem ok_pin {f0 : Addr} {fd : FuncData} (F : Fun K "__init__" "Play.__init__" sPin f0 fd) (B : Bl mg) (hlist : mg "list" = none) (M : DD P w K mg base CD) (PC : PCls K C) : FnOk P w K mg base CX0 3 f0 fd ["self", "drive"] (spPin K CD C) := by
  refine F.ok scPin (fun vs H Q E h => ?_) (fun cdv A0 outer s0 H vs Q E hr h => ?_)
  · obtain ⟨x, dx, dr, b, p, n, ini, y, rfl, _⟩ := h
    rfl
  obtain ⟨x, dx, dr, b, p, n, ini, y, rfl, hx, ⟨dd, td, hd, hR⟩, hdx, hb, q⟩ := h
  obtain ⟨pp, gp, fp, P2, F2, B2⟩ := M.pb.ex
  refine ⟨_, pss_cons (ps_fld (pv 0) (pv 1) rfl)
    (pss_cons (ps_fld (pv 0) (pe_lc (own := [("block", 2)]) (g := gName 2) (tt := tYes) (te := tLst tNil) rfl scPin.nd (pi_range1 (by rfl) B.range (pa_cons (pe_prop (pv 1) M.T.cl P2 F2 hr B2 .nil pass0 rfl) pa_nil)) (blkOk_by (own := [("block", 2)]) (N := NPin) (sc := defScope sPin) (by decide +kernel))
        (fun _ _ _ _ _ => pg_name (i := 2) scPin.nd rfl (Or.inl rfl)) (fun _ _ _ _ _ => pts_nil) (fun _ _ _ _ _ => pe_lst pa_nil)) rfl)
    (pss_cons (ps_fld (pv 0) (pe_op op_rep (pe_lst (pa_cons pe_int pa_nil)) (pe_prop (pv 1) M.T.cl P2 F2 hr B2 .nil pass0 rfl)) rfl)
    (pss_cons (ps_fld (pv 0) (pe_listRg rfl (by rfl) hlist (prg_1 (by rfl) B.range (pe_prop (pv 1) M.T.cl P2 F2 hr B2 .nil pass0 rfl))) rfl)
    (pss_cons (ps_fld (pv 0) (pe_lst pa_nil) rfl)
    (pss_cons (ps_fld (pv 0) pe_non rfl)
    (pss_cons (ps_fld (pv 0) pe_dnewK rfl)
    (pss_one (ps_fld (pv 0) (pe_lst pa_nil) rfl)))))))), ?_⟩
  -- drive
  refine ⟨_, rfl, _, rfl, x, C, dx, _, rfl, hx, PC.cl, PC.n1, by decide, ?_⟩
  have k1 : Keep x H (L2.upd H x (.ins C dx [("drive", .ref dr)])) := Keep.upd x H _
  have x1 : (L2.upd H x (.ins C dx [("drive", .ref dr)])) x = some (.ins C dx [("drive", .ref dr)]) := upd_same
  dsimp only
  show tSeq (sFld _ _ _ _) _ _ _ (L2.upd H x (.ins C dx [("drive", .ref dr)]))
  generalize L2.upd H x (.ins C dx [("drive", .ref dr)]) = H1 at k1 x1 ⊢
  have hd1 := k1 _ _ hd hdx
  -- content
  refine ⟨_, rfl, dr, dd, _, rfl, hd1, dr, dd, _, _, rfl, hd1, rfl, nil_read ⟨(b : Int), rfl, by omega, by omega, fun D hD => ?_⟩⟩
  rw [Int.toNat_natCast]
  refine lc_range (lo := 0) (n := b) (fun i H' => Same H1 H' ∧ ∃ rcs : List Addr, H' D = some (.lst (rcs.map V.ref)) ∧ rcs.length = i ∧ rcs.Nodup ∧ ∀ r ∈ rcs, H' r = some (.lst []) ∧ H1 r = none ∧ r ≠ D) ⟨same_lay hD, [], upd_same, rfl, List.nodup_nil, fun r z => (nomatch z)⟩ ?_ ?_
  · rintro i H' hi ⟨s1, rcs, e1, e2, e3, e4⟩
    refine ⟨rfl, ?_⟩
    unfold tYes
    dsimp only
    rw [if_pos rfl]
    refine lst_read (nil_read ⟨by show 0 ≤ sizeLine; decide, fun r nr => ?_⟩)
    have rD : r ≠ D := Ne.symm (ne_of_none e1 nr)
    have nr1 : H1 r = none := by
      cases e : H1 r with
      | none => rfl
      | some o => rw [s1 _ _ e] at nr; cases nr
    refine ⟨rcs.map V.ref, (same_lay nr) _ _ e1, by rw [List.length_map, sizeLine_eq]; omega, fun d u e => ?_, rcs ++ [r], ?_, ?_, ?_, fun r' z => ?_⟩
    · rw [upd_ne (ne_of_none e hD)]
      exact (same_lay nr) _ _ (s1 _ _ e)
    · rw [upd_same, List.map_append]
      rfl
    · rw [List.length_append, e2]
      rfl
    · rw [List.nodup_append]
      refine ⟨e3, by simp, fun a ha c hc z => ?_⟩
      rw [List.mem_singleton.mp hc] at z
      have := (e4 a ha).1
      rw [z, nr] at this
      cases this
    · rcases List.mem_append.mp z with z | z
      · obtain ⟨z1, z2, z3⟩ := e4 r' z
        exact ⟨by rw [upd_ne z3]; exact (same_lay nr) _ _ z1, z2, z3⟩
      · rw [List.mem_singleton.mp z]
        exact ⟨by rw [upd_ne rD, upd_same], nr1, rD⟩
  rintro H2 ⟨s2, rcs, hD2, e2, nd2, hr2⟩
  refine ⟨_, rfl, x, C, dx, _, rfl, s2 _ _ x1, PC.cl, PC.n2, by show 1 < 1000; decide, ?_⟩
  obtain ⟨nD, nDx⟩ := keep_none k1 x1 hD
  have hrx : ∀ r ∈ rcs, H r = none ∧ r ≠ x := fun r z => keep_none k1 x1 (hr2 r z).2.1
  have k3 : Keep x H (L2.upd H2 x (.ins C dx [("drive", .ref dr), ("content", .ref D)])) := (k1.trans (Keep.of s2)).trans (Keep.upd x H2 _)
  have x3 : (L2.upd H2 x (.ins C dx [("drive", .ref dr), ("content", .ref D)])) x = some (.ins C dx [("drive", .ref dr), ("content", .ref D)]) := upd_same
  have D3 : (L2.upd H2 x (.ins C dx [("drive", .ref dr), ("content", .ref D)])) D = some (.lst (rcs.map V.ref)) := by rw [upd_ne nDx]; exact hD2
  have r3 : ∀ r ∈ rcs, (L2.upd H2 x (.ins C dx [("drive", .ref dr), ("content", .ref D)])) r = some (.lst []) := fun r z => by rw [upd_ne (hrx r z).2]; exact (hr2 r z).1
  dsimp only
  show tSeq (sFld _ _ _ _) _ _ _ (L2.upd H2 x (.ins C dx [("drive", .ref dr), ("content", .ref D)]))
  generalize L2.upd H2 x (.ins C dx [("drive", .ref dr), ("content", .ref D)]) = H3 at k3 x3 D3 r3 ⊢
  have hd3 := k3 _ _ hd hdx
  -- living
  have DH3 := D3
  have rcH3 := r3
  have kH3 := k3
  have xH3 := x3
  refine ⟨by show 1 ≤ sizeLine; decide, fun l0 nl0 => ?_⟩
  have hd3' := (same_lay (o := .lst [.int 0]) nl0) _ _ hd3
  refine ⟨_, rfl, dr, dd, _, rfl, hd3', dr, dd, _, _, rfl, hd3', rfl, l0, (b : Int), _, rfl, rfl, upd_same, by omega, by omega, ?_, fun L nL => ?_⟩
  · show 1 * ((b : Int)).toNat ≤ sizeLine
    rw [sizeLine_eq]
    omega
  have eL : (List.replicate ((b : Int)).toNat [V.int 0]).flatten = (List.replicate b (0 : Int)).map V.int := by
    rw [Int.toNat_natCast, List.map_replicate]
    exact List.flatten_replicate_singleton
  rw [eL]
  have s3 : Same H3 (L2.upd (L2.upd H3 l0 (.lst [.int 0])) L (.lst ((List.replicate b (0 : Int)).map V.int))) := (same_lay nl0).trans (same_lay nL)
  have fL : (L2.upd (L2.upd H3 l0 (.lst [.int 0])) L (.lst ((List.replicate b (0 : Int)).map V.int))) L = some (.lst ((List.replicate b (0 : Int)).map V.int)) := upd_same
  have nL3 : H3 L = none := by
    cases e : H3 L with
    | none => rfl
    | some o => rw [(same_lay nl0) _ _ e] at nL; cases nL
  generalize L2.upd (L2.upd H3 l0 (.lst [.int 0])) L (.lst ((List.replicate b (0 : Int)).map V.int)) = H4 at s3 fL ⊢
  obtain ⟨nLH, nLx⟩ := keep_none kH3 xH3 nL3
  have neLD : L ≠ D := Ne.symm (ne_of_none DH3 nL3)
  have neLr : ∀ r ∈ rcs, L ≠ r := fun r z => Ne.symm (ne_of_none (rcH3 r z) nL3)
  have fD := s3 _ _ DH3
  have frc : ∀ r ∈ rcs, _ := fun r z => s3 _ _ (rcH3 r z)
  refine ⟨_, rfl, x, C, dx, _, rfl, s3 _ _ xH3, PC.cl, PC.n3, by show 2 < 1000; decide, ?_⟩
  have kH5 : Keep x H (L2.upd H4 x (.ins C dx [("drive", .ref dr), ("content", .ref D), ("living", .ref L)])) := (kH3.trans (Keep.of s3)).trans (Keep.upd x H4 _)
  have xH5 : (L2.upd H4 x (.ins C dx [("drive", .ref dr), ("content", .ref D), ("living", .ref L)])) x = some (.ins C dx [("drive", .ref dr), ("content", .ref D), ("living", .ref L)]) := upd_same
  have DH5 : (L2.upd H4 x (.ins C dx [("drive", .ref dr), ("content", .ref D), ("living", .ref L)])) D = some (.lst (rcs.map V.ref)) := by rw [upd_ne nDx]; exact fD
  have LH5 : (L2.upd H4 x (.ins C dx [("drive", .ref dr), ("content", .ref D), ("living", .ref L)])) L = some (.lst ((List.replicate b (0 : Int)).map V.int)) := by rw [upd_ne nLx]; exact fL
  have rcH5 : ∀ r ∈ rcs, (L2.upd H4 x (.ins C dx [("drive", .ref dr), ("content", .ref D), ("living", .ref L)])) r = some (.lst []) := fun r z => by rw [upd_ne (hrx r z).2]; exact frc r z
  dsimp only
  show tSeq (sFld _ _ _ _) _ _ _ (L2.upd H4 x (.ins C dx [("drive", .ref dr), ("content", .ref D), ("living", .ref L)]))
  generalize L2.upd H4 x (.ins C dx [("drive", .ref dr), ("content", .ref D), ("living", .ref L)]) = H5 at DH5 LH5 rcH5 kH5 xH5 ⊢
  have hd5 := kH5 _ _ hd hdx
  refine ⟨_, rfl, dr, dd, _, rfl, hd5, dr, dd, _, _, rfl, hd5, rfl, (b : Int), rfl, RgOk.of_le (by omega) (by omega) (by omega) (by omega), fun Fq nFq => ?_⟩
  have eF : rgV 0 (b : Int) = (List.range b).map nV := by
    unfold rgV
    rw [Int.sub_zero, Int.toNat_natCast]
    exact List.map_congr_left fun i _ => by rw [Int.zero_add]
  rw [eF]
  have sH6 : Same H5 (L2.upd H5 Fq (.lst ((List.range b).map nV))) := same_lay nFq
  have fFq : (L2.upd H5 Fq (.lst ((List.range b).map nV))) Fq = some (.lst ((List.range b).map nV)) := upd_same
  generalize L2.upd H5 Fq (.lst ((List.range b).map nV)) = H6 at sH6 fFq ⊢
  obtain ⟨nFqH, nFqx⟩ := keep_none kH5 xH5 nFq
  have neFqD : Fq ≠ D := Ne.symm (ne_of_none DH5 nFq)
  have neFqL : Fq ≠ L := Ne.symm (ne_of_none LH5 nFq)
  have neFqr : ∀ r ∈ rcs, Fq ≠ r := fun r z => Ne.symm (ne_of_none (rcH5 r z) nFq)
  have fD := sH6 _ _ DH5
  have fL := sH6 _ _ LH5
  have frc : ∀ r ∈ rcs, _ := fun r z => sH6 _ _ (rcH5 r z)
  refine ⟨_, rfl, x, C, dx, _, rfl, sH6 _ _ xH5, PC.cl, PC.n4, by show 3 < 1000; decide, ?_⟩
  have kH7 : Keep x H (L2.upd H6 x (.ins C dx [("drive", .ref dr), ("content", .ref D), ("living", .ref L), ("free", .ref Fq)])) := (kH5.trans (Keep.of sH6)).trans (Keep.upd x H6 _)
  have xH7 : (L2.upd H6 x (.ins C dx [("drive", .ref dr), ("content", .ref D), ("living", .ref L), ("free", .ref Fq)])) x = some (.ins C dx [("drive", .ref dr), ("content", .ref D), ("living", .ref L), ("free", .ref Fq)]) := upd_same
  have DH7 : (L2.upd H6 x (.ins C dx [("drive", .ref dr), ("content", .ref D), ("living", .ref L), ("free", .ref Fq)])) D = some (.lst (rcs.map V.ref)) := by rw [upd_ne nDx]; exact fD
  have LH7 : (L2.upd H6 x (.ins C dx [("drive", .ref dr), ("content", .ref D), ("living", .ref L), ("free", .ref Fq)])) L = some (.lst ((List.replicate b (0 : Int)).map V.int)) := by rw [upd_ne nLx]; exact fL
  have FqH7 : (L2.upd H6 x (.ins C dx [("drive", .ref dr), ("content", .ref D), ("living", .ref L), ("free", .ref Fq)])) Fq = some (.lst ((List.range b).map nV)) := by rw [upd_ne nFqx]; exact fFq
  have rcH7 : ∀ r ∈ rcs, (L2.upd H6 x (.ins C dx [("drive", .ref dr), ("content", .ref D), ("living", .ref L), ("free", .ref Fq)])) r = some (.lst []) := fun r z => by rw [upd_ne (hrx r z).2]; exact frc r z
  dsimp only
  show tSeq (sFld _ _ _ _) _ _ _ (L2.upd H6 x (.ins C dx [("drive", .ref dr), ("content", .ref D), ("living", .ref L), ("free", .ref Fq)]))
  generalize L2.upd H6 x (.ins C dx [("drive", .ref dr), ("content", .ref D), ("living", .ref L), ("free", .ref Fq)]) = H7 at DH7 LH7 FqH7 rcH7 kH7 xH7 ⊢
  refine ⟨by show 0 ≤ sizeLine; decide, fun Cl nCl => ?_⟩
  have sH8 : Same H7 (L2.upd H7 Cl (.lst [])) := same_lay nCl
  have fCl : (L2.upd H7 Cl (.lst [])) Cl = some (.lst []) := upd_same
  generalize L2.upd H7 Cl (.lst []) = H8 at sH8 fCl ⊢
  obtain ⟨nClH, nClx⟩ := keep_none kH7 xH7 nCl
  have neClD : Cl ≠ D := Ne.symm (ne_of_none DH7 nCl)
  have neClL : Cl ≠ L := Ne.symm (ne_of_none LH7 nCl)
  have neClFq : Cl ≠ Fq := Ne.symm (ne_of_none FqH7 nCl)
  have neClr : ∀ r ∈ rcs, Cl ≠ r := fun r z => Ne.symm (ne_of_none (rcH7 r z) nCl)
  have fD := sH8 _ _ DH7
  have fL := sH8 _ _ LH7
  have fFq := sH8 _ _ FqH7
  have frc : ∀ r ∈ rcs, _ := fun r z => sH8 _ _ (rcH7 r z)
  refine ⟨_, rfl, x, C, dx, _, rfl, sH8 _ _ xH7, PC.cl, PC.n5, by show 4 < 1000; decide, ?_⟩
  have kH9 : Keep x H (L2.upd H8 x (.ins C dx [("drive", .ref dr), ("content", .ref D), ("living", .ref L), ("free", .ref Fq), ("closed", .ref Cl)])) := (kH7.trans (Keep.of sH8)).trans (Keep.upd x H8 _)
  have xH9 : (L2.upd H8 x (.ins C dx [("drive", .ref dr), ("content", .ref D), ("living", .ref L), ("free", .ref Fq), ("closed", .ref Cl)])) x = some (.ins C dx [("drive", .ref dr), ("content", .ref D), ("living", .ref L), ("free", .ref Fq), ("closed", .ref Cl)]) := upd_same
  have DH9 : (L2.upd H8 x (.ins C dx [("drive", .ref dr), ("content", .ref D), ("living", .ref L), ("free", .ref Fq), ("closed", .ref Cl)])) D = some (.lst (rcs.map V.ref)) := by rw [upd_ne nDx]; exact fD
  have LH9 : (L2.upd H8 x (.ins C dx [("drive", .ref dr), ("content", .ref D), ("living", .ref L), ("free", .ref Fq), ("closed", .ref Cl)])) L = some (.lst ((List.replicate b (0 : Int)).map V.int)) := by rw [upd_ne nLx]; exact fL
  have FqH9 : (L2.upd H8 x (.ins C dx [("drive", .ref dr), ("content", .ref D), ("living", .ref L), ("free", .ref Fq), ("closed", .ref Cl)])) Fq = some (.lst ((List.range b).map nV)) := by rw [upd_ne nFqx]; exact fFq
  have ClH9 : (L2.upd H8 x (.ins C dx [("drive", .ref dr), ("content", .ref D), ("living", .ref L), ("free", .ref Fq), ("closed", .ref Cl)])) Cl = some (.lst []) := by rw [upd_ne nClx]; exact fCl
  have rcH9 : ∀ r ∈ rcs, (L2.upd H8 x (.ins C dx [("drive", .ref dr), ("content", .ref D), ("living", .ref L), ("free", .ref Fq), ("closed", .ref Cl)])) r = some (.lst []) := fun r z => by rw [upd_ne (hrx r z).2]; exact frc r z
  dsimp only
  show tSeq (sFld _ _ _ _) _ _ _ (L2.upd H8 x (.ins C dx [("drive", .ref dr), ("content", .ref D), ("living", .ref L), ("free", .ref Fq), ("closed", .ref Cl)]))
  generalize L2.upd H8 x (.ins C dx [("drive", .ref dr), ("content", .ref D), ("living", .ref L), ("free", .ref Fq), ("closed", .ref Cl)]) = H9 at DH9 LH9 FqH9 ClH9 rcH9 kH9 xH9 ⊢
  have sH9 : Same H9 H9 := fun _ _ e => e
  have fD := sH9 _ _ DH9
  have fL := sH9 _ _ LH9
  have fFq := sH9 _ _ FqH9
  have fCl := sH9 _ _ ClH9
  have frc : ∀ r ∈ rcs, _ := fun r z => sH9 _ _ (rcH9 r z)
  refine ⟨_, rfl, x, C, dx, _, rfl, xH9, PC.cl, PC.n6, by show 5 < 1000; decide, ?_⟩
  have kH10 : Keep x H (L2.upd H9 x (.ins C dx [("drive", .ref dr), ("content", .ref D), ("living", .ref L), ("free", .ref Fq), ("closed", .ref Cl), ("filling", .non)])) := (kH9.trans (Keep.of sH9)).trans (Keep.upd x H9 _)
  have xH10 : (L2.upd H9 x (.ins C dx [("drive", .ref dr), ("content", .ref D), ("living", .ref L), ("free", .ref Fq), ("closed", .ref Cl), ("filling", .non)])) x = some (.ins C dx [("drive", .ref dr), ("content", .ref D), ("living", .ref L), ("free", .ref Fq), ("closed", .ref Cl), ("filling", .non)]) := upd_same
  have DH10 : (L2.upd H9 x (.ins C dx [("drive", .ref dr), ("content", .ref D), ("living", .ref L), ("free", .ref Fq), ("closed", .ref Cl), ("filling", .non)])) D = some (.lst (rcs.map V.ref)) := by rw [upd_ne nDx]; exact fD
  have LH10 : (L2.upd H9 x (.ins C dx [("drive", .ref dr), ("content", .ref D), ("living", .ref L), ("free", .ref Fq), ("closed", .ref Cl), ("filling", .non)])) L = some (.lst ((List.replicate b (0 : Int)).map V.int)) := by rw [upd_ne nLx]; exact fL
  have FqH10 : (L2.upd H9 x (.ins C dx [("drive", .ref dr), ("content", .ref D), ("living", .ref L), ("free", .ref Fq), ("closed", .ref Cl), ("filling", .non)])) Fq = some (.lst ((List.range b).map nV)) := by rw [upd_ne nFqx]; exact fFq
  have ClH10 : (L2.upd H9 x (.ins C dx [("drive", .ref dr), ("content", .ref D), ("living", .ref L), ("free", .ref Fq), ("closed", .ref Cl), ("filling", .non)])) Cl = some (.lst []) := by rw [upd_ne nClx]; exact fCl
  have rcH10 : ∀ r ∈ rcs, (L2.upd H9 x (.ins C dx [("drive", .ref dr), ("content", .ref D), ("living", .ref L), ("free", .ref Fq), ("closed", .ref Cl), ("filling", .non)])) r = some (.lst []) := fun r z => by rw [upd_ne (hrx r z).2]; exact frc r z
  dsimp only
  show tSeq (sFld _ _ _ _) _ _ _ (L2.upd H9 x (.ins C dx [("drive", .ref dr), ("content", .ref D), ("living", .ref L), ("free", .ref Fq), ("closed", .ref Cl), ("filling", .non)]))
  generalize L2.upd H9 x (.ins C dx [("drive", .ref dr), ("content", .ref D), ("living", .ref L), ("free", .ref Fq), ("closed", .ref Cl), ("filling", .non)]) = H10 at DH10 LH10 FqH10 ClH10 rcH10 kH10 xH10 ⊢
  refine fun Hm nHm => ?_
  have sH11 : Same H10 (L2.upd H10 Hm (.dK [])) := same_lay nHm
  have fHm : (L2.upd H10 Hm (.dK [])) Hm = some (.dK []) := upd_same
  generalize L2.upd H10 Hm (.dK []) = H11 at sH11 fHm ⊢
  obtain ⟨nHmH, nHmx⟩ := keep_none kH10 xH10 nHm
  have neHmD : Hm ≠ D := Ne.symm (ne_of_none DH10 nHm)
  have neHmL : Hm ≠ L := Ne.symm (ne_of_none LH10 nHm)
  have neHmFq : Hm ≠ Fq := Ne.symm (ne_of_none FqH10 nHm)
  have neHmCl : Hm ≠ Cl := Ne.symm (ne_of_none ClH10 nHm)
  have neHmr : ∀ r ∈ rcs, Hm ≠ r := fun r z => Ne.symm (ne_of_none (rcH10 r z) nHm)
  have fD := sH11 _ _ DH10
  have fL := sH11 _ _ LH10
  have fFq := sH11 _ _ FqH10
  have fCl := sH11 _ _ ClH10
  have frc : ∀ r ∈ rcs, _ := fun r z => sH11 _ _ (rcH10 r z)
  refine ⟨_, rfl, x, C, dx, _, rfl, sH11 _ _ xH10, PC.cl, PC.n7, by show 6 < 1000; decide, ?_⟩
  have kH12 : Keep x H (L2.upd H11 x (.ins C dx [("drive", .ref dr), ("content", .ref D), ("living", .ref L), ("free", .ref Fq), ("closed", .ref Cl), ("filling", .non), ("homes", .ref Hm)])) := (kH10.trans (Keep.of sH11)).trans (Keep.upd x H11 _)
  have xH12 : (L2.upd H11 x (.ins C dx [("drive", .ref dr), ("content", .ref D), ("living", .ref L), ("free", .ref Fq), ("closed", .ref Cl), ("filling", .non), ("homes", .ref Hm)])) x = some (.ins C dx [("drive", .ref dr), ("content", .ref D), ("living", .ref L), ("free", .ref Fq), ("closed", .ref Cl), ("filling", .non), ("homes", .ref Hm)]) := upd_same
  have DH12 : (L2.upd H11 x (.ins C dx [("drive", .ref dr), ("content", .ref D), ("living", .ref L), ("free", .ref Fq), ("closed", .ref Cl), ("filling", .non), ("homes", .ref Hm)])) D = some (.lst (rcs.map V.ref)) := by rw [upd_ne nDx]; exact fD
  have LH12 : (L2.upd H11 x (.ins C dx [("drive", .ref dr), ("content", .ref D), ("living", .ref L), ("free", .ref Fq), ("closed", .ref Cl), ("filling", .non), ("homes", .ref Hm)])) L = some (.lst ((List.replicate b (0 : Int)).map V.int)) := by rw [upd_ne nLx]; exact fL
  have FqH12 : (L2.upd H11 x (.ins C dx [("drive", .ref dr), ("content", .ref D), ("living", .ref L), ("free", .ref Fq), ("closed", .ref Cl), ("filling", .non), ("homes", .ref Hm)])) Fq = some (.lst ((List.range b).map nV)) := by rw [upd_ne nFqx]; exact fFq
  have ClH12 : (L2.upd H11 x (.ins C dx [("drive", .ref dr), ("content", .ref D), ("living", .ref L), ("free", .ref Fq), ("closed", .ref Cl), ("filling", .non), ("homes", .ref Hm)])) Cl = some (.lst []) := by rw [upd_ne nClx]; exact fCl
  have HmH12 : (L2.upd H11 x (.ins C dx [("drive", .ref dr), ("content", .ref D), ("living", .ref L), ("free", .ref Fq), ("closed", .ref Cl), ("filling", .non), ("homes", .ref Hm)])) Hm = some (.dK []) := by rw [upd_ne nHmx]; exact fHm
  have rcH12 : ∀ r ∈ rcs, (L2.upd H11 x (.ins C dx [("drive", .ref dr), ("content", .ref D), ("living", .ref L), ("free", .ref Fq), ("closed", .ref Cl), ("filling", .non), ("homes", .ref Hm)])) r = some (.lst []) := fun r z => by rw [upd_ne (hrx r z).2]; exact frc r z
  dsimp only
  show sFld _ _ _ _ _ _ (L2.upd H11 x (.ins C dx [("drive", .ref dr), ("content", .ref D), ("living", .ref L), ("free", .ref Fq), ("closed", .ref Cl), ("filling", .non), ("homes", .ref Hm)]))
  generalize L2.upd H11 x (.ins C dx [("drive", .ref dr), ("content", .ref D), ("living", .ref L), ("free", .ref Fq), ("closed", .ref Cl), ("filling", .non), ("homes", .ref Hm)]) = H12 at DH12 LH12 FqH12 ClH12 HmH12 rcH12 kH12 xH12 ⊢
  refine ⟨by show 0 ≤ sizeLine; decide, fun Tl nTl => ?_⟩
  have sH13 : Same H12 (L2.upd H12 Tl (.lst [])) := same_lay nTl
  have fTl : (L2.upd H12 Tl (.lst [])) Tl = some (.lst []) := upd_same
  generalize L2.upd H12 Tl (.lst []) = H13 at sH13 fTl ⊢
  obtain ⟨nTlH, nTlx⟩ := keep_none kH12 xH12 nTl
  have neTlD : Tl ≠ D := Ne.symm (ne_of_none DH12 nTl)
  have neTlL : Tl ≠ L := Ne.symm (ne_of_none LH12 nTl)
  have neTlFq : Tl ≠ Fq := Ne.symm (ne_of_none FqH12 nTl)
  have neTlCl : Tl ≠ Cl := Ne.symm (ne_of_none ClH12 nTl)
  have neTlHm : Tl ≠ Hm := Ne.symm (ne_of_none HmH12 nTl)
  have neTlr : ∀ r ∈ rcs, Tl ≠ r := fun r z => Ne.symm (ne_of_none (rcH12 r z) nTl)
  have fD := sH13 _ _ DH12
  have fL := sH13 _ _ LH12
  have fFq := sH13 _ _ FqH12
  have fCl := sH13 _ _ ClH12
  have fHm := sH13 _ _ HmH12
  have frc : ∀ r ∈ rcs, _ := fun r z => sH13 _ _ (rcH12 r z)
  refine ⟨_, rfl, x, C, dx, _, rfl, sH13 _ _ xH12, PC.cl, PC.n8, by show 7 < 1000; decide, ?_⟩
  have kH14 : Keep x H (L2.upd H13 x (.ins C dx [("drive", .ref dr), ("content", .ref D), ("living", .ref L), ("free", .ref Fq), ("closed", .ref Cl), ("filling", .non), ("homes", .ref Hm), ("told", .ref Tl)])) := (kH12.trans (Keep.of sH13)).trans (Keep.upd x H13 _)
  have xH14 : (L2.upd H13 x (.ins C dx [("drive", .ref dr), ("content", .ref D), ("living", .ref L), ("free", .ref Fq), ("closed", .ref Cl), ("filling", .non), ("homes", .ref Hm), ("told", .ref Tl)])) x = some (.ins C dx [("drive", .ref dr), ("content", .ref D), ("living", .ref L), ("free", .ref Fq), ("closed", .ref Cl), ("filling", .non), ("homes", .ref Hm), ("told", .ref Tl)]) := upd_same
  have DH14 : (L2.upd H13 x (.ins C dx [("drive", .ref dr), ("content", .ref D), ("living", .ref L), ("free", .ref Fq), ("closed", .ref Cl), ("filling", .non), ("homes", .ref Hm), ("told", .ref Tl)])) D = some (.lst (rcs.map V.ref)) := by rw [upd_ne nDx]; exact fD
  have LH14 : (L2.upd H13 x (.ins C dx [("drive", .ref dr), ("content", .ref D), ("living", .ref L), ("free", .ref Fq), ("closed", .ref Cl), ("filling", .non), ("homes", .ref Hm), ("told", .ref Tl)])) L = some (.lst ((List.replicate b (0 : Int)).map V.int)) := by rw [upd_ne nLx]; exact fL
  have FqH14 : (L2.upd H13 x (.ins C dx [("drive", .ref dr), ("content", .ref D), ("living", .ref L), ("free", .ref Fq), ("closed", .ref Cl), ("filling", .non), ("homes", .ref Hm), ("told", .ref Tl)])) Fq = some (.lst ((List.range b).map nV)) := by rw [upd_ne nFqx]; exact fFq
  have ClH14 : (L2.upd H13 x (.ins C dx [("drive", .ref dr), ("content", .ref D), ("living", .ref L), ("free", .ref Fq), ("closed", .ref Cl), ("filling", .non), ("homes", .ref Hm), ("told", .ref Tl)])) Cl = some (.lst []) := by rw [upd_ne nClx]; exact fCl
  have HmH14 : (L2.upd H13 x (.ins C dx [("drive", .ref dr), ("content", .ref D), ("living", .ref L), ("free", .ref Fq), ("closed", .ref Cl), ("filling", .non), ("homes", .ref Hm), ("told", .ref Tl)])) Hm = some (.dK []) := by rw [upd_ne nHmx]; exact fHm
  have TlH14 : (L2.upd H13 x (.ins C dx [("drive", .ref dr), ("content", .ref D), ("living", .ref L), ("free", .ref Fq), ("closed", .ref Cl), ("filling", .non), ("homes", .ref Hm), ("told", .ref Tl)])) Tl = some (.lst []) := by rw [upd_ne nTlx]; exact fTl
  have rcH14 : ∀ r ∈ rcs, (L2.upd H13 x (.ins C dx [("drive", .ref dr), ("content", .ref D), ("living", .ref L), ("free", .ref Fq), ("closed", .ref Cl), ("filling", .non), ("homes", .ref Hm), ("told", .ref Tl)])) r = some (.lst []) := fun r z => by rw [upd_ne (hrx r z).2]; exact frc r z
  dsimp only
  show Q .non (L2.upd H13 x (.ins C dx [("drive", .ref dr), ("content", .ref D), ("living", .ref L), ("free", .ref Fq), ("closed", .ref Cl), ("filling", .non), ("homes", .ref Hm), ("told", .ref Tl)]))
  generalize L2.upd H13 x (.ins C dx [("drive", .ref dr), ("content", .ref D), ("living", .ref L), ("free", .ref Fq), ("closed", .ref Cl), ("filling", .non), ("homes", .ref Hm), ("told", .ref Tl)]) = H14 at DH14 LH14 FqH14 ClH14 HmH14 TlH14 rcH14 kH14 xH14 ⊢
  refine q H14 ⟨dx, dr, D, rcs, L, Fq, Cl, Hm, Tl, []⟩ ⟨xH14, DH14, ?_, LH14, FqH14, ClH14, HmH14, TlH14, .nil, ?_⟩ rfl (fun a z => ?_) kH14
  · have go : ∀ (rs : List Addr) (m : Nat), rs.length = m → (∀ r ∈ rs, H14 r = some (.lst [])) → Paired (fun (a : Addr) (c : List (Option Str)) => H14 a = some (.lst (c.map oS))) rs (List.replicate m []) := by
      intro rs
      induction rs with
      | nil => intro m e _; subst e; exact .nil
      | cons r rs ih =>
        intro m e h
        subst e
        exact .cons (h r (List.mem_cons_self ..)) (ih _ rfl fun r' z => h r' (List.mem_cons_of_mem _ z))
    exact go rcs b e2 rcH14
  · show (D :: L :: Fq :: Cl :: Tl :: rcs).Nodup
    simp only [List.nodup_cons, List.mem_cons, not_or]
    exact ⟨⟨Ne.symm neLD, Ne.symm neFqD, Ne.symm neClD, Ne.symm neTlD, fun z => (hr2 D z).2.2 rfl⟩, ⟨Ne.symm neFqL, Ne.symm neClL, Ne.symm neTlL, fun z => neLr L z rfl⟩, ⟨Ne.symm neClFq, Ne.symm neTlFq, fun z => neFqr Fq z rfl⟩, ⟨Ne.symm neTlCl, fun z => neClr Cl z rfl⟩, fun z => neTlr Tl z rfl, nd2⟩
  · unfold PAd.foot PAd.ls at z
    simp only [List.mem_cons] at z
    rcases z with z | z | z | z | z | z | z | z
    · exact .inl z
    · exact .inr (z ▸ nHmH)
    · exact .inr (z ▸ nD)
    · exact .inr (z ▸ nLH)
    · exact .inr (z ▸ nFqH)
    · exact .inr (z ▸ nClH)
    · exact .inr (z ▸ nTlH)
    · exact .inr (hrx a z).1
end
end K6

set_option Elab.async false
set_option linter.all false
set_option maxRecDepth 100000
set_option maxHeartbeats 4000000
namespace K6
open PySem PySem.Spec PyProof.Rows L2 G1 G2 K2 G5 LamX
abbrev sLod : Stmt := topS 54
abbrev NLod : List Str := ["drive", "load", "play", "index", "event"]
theorem scLod : FnScope NLod ["drive", "load"] (defScope sLod) := ⟨rfl, rfl, rfl, by decide +kernel, rfl, by decide +kernel, by decide +kernel⟩
section
variable {P : Program} {w : World} {K : PySem.W.Frag} {mg : Str → Option Value} {base : Heap} {CD C : Addr}
end
end K6

set_option Elab.async false
set_option linter.all false
set_option maxRecDepth 100000
set_option maxHeartbeats 4000000
namespace K6
open PySem PySem.Spec PyProof.Rows L2 G1 G2 K2 G5 LamX
abbrev sCkd : Stmt := topS 47
theorem scCkd : FnScope ["drive"] ["drive"] (defScope sCkd) := ⟨rfl, rfl, rfl, by decide +kernel, rfl, by decide +kernel, by decide +kernel⟩
def spCkd (K : PySem.W.Frag) (C : Addr) : Sp := fun vs H Q _ => ∃ (x : Addr) (b p n : Nat) (ini : List RowD) (y : Str), vs = [.ref x] ∧ DrvAt K C H x b p n ini y ∧ Q .non H
section
variable {P : Program} {w : World} {K : PySem.W.Frag} {mg : Str → Option Value} {base : Heap} {C : Addr}
theorem ok_ckd {f : Addr} {fd : FuncData} (F : Fun K "check_drive" "check_drive" sCkd f fd) (B : Bl mg) (M : DD P w K mg base C) : FnOk P w K mg base CX0 1 f fd ["drive"] (spCkd K C) := by
  refine F.ok scCkd (fun vs H Q E h => ?_) (fun cdv A outer s H vs Q E hr h => ?_)
  · obtain ⟨x, b, p, n, ini, y, rfl, _⟩ := h
    rfl
  obtain ⟨x, b, p, n, ini, y, rfl, ⟨dx, t, hx, hR⟩, k⟩ := h
  have D := M.D
  have T := M.T
  refine ⟨_, pss_one (ps_if (pt_not (pt_val (pe_callB call_isi (by rfl) B.isi bIsi (pa_cons (pv 0) (pa_cons (pe_glob (v := .ref C) rfl M.gD rfl) pa_nil))))) (pss_one ps_never) pss_nil), ?_⟩
  exact ⟨_, rfl, _, _, _, _, true, rfl, .own C, .base (.ins hx T.cl D.ha D.hn D.htk D.hm), D.own, true, rfl, iteF k⟩
end
end K6

set_option Elab.async false
set_option linter.all false
set_option maxRecDepth 100000
set_option maxHeartbeats 4000000
namespace K6
open PySem PySem.Spec PyProof.Rows L2 G1 G2 K2 G5 LamX
/-- a loop over enumerate(a list) that is run through -/
theorem for_enumL {K : PySem.W.Frag} {a : Addr} {xs : List V} {g : TG} {tb : TS} {D : Ends} {σ : L2.St} {H : Hp} (Pv : Nat → L2.St → Hp → Prop) (h0 : Pv 0 σ H) (hl : ∀ i σ H, Pv i σ H → SqL K H a xs)
    (hs : ∀ i x T σ H, xs[i]? = some x → Pv i σ H → H T = none → g (.ref T) σ (upd H T (.tup [.int (i : Nat), x])) fun σ2 H2 => tb { D with nx := Pv (i + 1), ct := Pv (i + 1), bk := D.nx } σ2 H2)
    (hd : ∀ σ H, Pv xs.length σ H → D.nx σ H) :
    ∃ W : Nat → Nat → L2.St → Hp → Prop, (∃ m, W 0 m σ H) ∧ ∀ i m σ H, W i m σ H →
      ((Ite K a).stop i H ∧ D.nx σ H) ∨ ((Ite K a).go i H ∧ ∃ N : L2.St → Hp → Prop, (∀ σ' H', N σ' H' → ∃ m', m' < m ∧ W (i + 1) m' σ' H') ∧
        ∀ x H', (Ite K a).yld i H x H' → g x σ H' fun σ2 H2 => tb { D with nx := N, ct := N, bk := D.nx } σ2 H2) := by
  refine ⟨fun i m σ H => i + m = xs.length ∧ Pv i σ H, ⟨xs.length, by omega, h0⟩, ?_⟩
  rintro i m σ H ⟨e, p⟩
  by_cases hm : m = 0
  · have e' : i = xs.length := by omega
    exact .inl ⟨⟨xs, hl _ _ _ p, Nat.le_of_eq e'.symm⟩, hd _ _ (e' ▸ p)⟩
  have hi : i < xs.length := by omega
  refine .inr ⟨⟨xs, xs[i], hl _ _ _ p, List.getElem?_eq_getElem hi⟩, Pv (i + 1), fun σ' H' q => ⟨m - 1, by omega, by omega, q⟩, ?_⟩
  rintro _ _ ⟨T, x', rfl, hT, rfl, hx⟩
  exact hs i x' T σ H (hx xs (hl _ _ _ p)) p hT
abbrev sBlo : Stmt := topS 74
abbrev NBlo : List Str := ["drive", "load", "play", "told", "block", "content", "state", "name"]
theorem scBlo : FnScope NBlo ["drive", "load"] (defScope sBlo) := ⟨rfl, rfl, rfl, by decide +kernel, rfl, by decide +kernel, by decide +kernel⟩
/-- what is told of block i -/
def bloM (s : Pl) (i : Nat) : Str × List Str := (if i ∈ s.free then "free" else if i ∈ s.clo then "closed" else "open", keptN (s.cont.getD i []))
def BlAt (H : Hp) (a : Addr) (t : Str × List Str) : Prop := ∃ q, H a = some (.tup [.str t.1, .ref q]) ∧ H q = some (.tup (t.2.map V.str))
theorem BlAt.same {H H' : Hp} {a : Addr} {t : Str × List Str} (h : BlAt H a t) (s : Same H H') : BlAt H' a t := by
  obtain ⟨q, h1, h2⟩ := h
  exact ⟨q, s _ _ h1, s _ _ h2⟩
theorem BlAt.upd {H : Hp} {a c : Addr} {t : Str × List Str} {xs : List V} {o : HO} (h : BlAt H a t) (hc : H c = some (.lst xs)) : BlAt (L2.upd H c o) a t := by
  obtain ⟨q, h1, h2⟩ := h
  exact ⟨q, by rw [upd_ne (ne_of h1 hc (by intro z; cases z))]; exact h1, by rw [upd_ne (ne_of h2 hc (by intro z; cases z))]; exact h2⟩
theorem eqV_nat (a k : Nat) : eqV (nV a) (nV k) = decide (a = k) := by
  show ((a : Int) == (k : Int)) = decide (a = k)
  by_cases e : a = k
  · rw [decide_eq_true e, e]
    exact beq_self_eq_true _
  · rw [decide_eq_false e, beq_eq_false_iff_ne]
    exact fun z => e (by omega)
theorem inV_nat : ∀ (l : List Nat) (k : Nat), inV (nV k) (l.map nV) = decide (k ∈ l)
  | [], k => rfl
  | a :: l, k => by
    have ih := inV_nat l k
    unfold inV at ih ⊢
    rw [List.map_cons, List.any_cons, ih, eqV_nat]
    by_cases e : a = k
    · subst e
      simp
    · have e2 : ¬ k = a := fun z => e z.symm
      simp [e, e2]
theorem flat_nat : ∀ l : List Nat, (l.map nV).all flatV = true
  | [] => rfl
  | _ :: l => by rw [List.map_cons, List.all_cons, flat_nat l]; rfl
theorem state_read {K : PySem.W.Frag} {C x : Addr} {H : Hp} {s : Pl} {A : PAd} {σ : L2.St} {Q : VK} {i : Nat} (PC : PCls K C) (p : PlayAt C H x s A) (h4 : σ[4]? = some (some (nV i))) (h2 : σ[2]? = some (some (.ref x))) (h : Q (.str (bloM s i).1) H) :
    tIf (tTest (tOp (rIn K false) (tVar 4) (tFld K (tVar 2) "free"))) (tC (.str "free")) (tIf (tTest (tOp (rIn K false) (tVar 4) (tFld K (tVar 2) "closed"))) (tC (.str "closed")) (tC (.str "open"))) σ H Q := by
  refine ⟨_, h4, _, h2, x, C, A.dx, _, _, rfl, p.ins, PC.cl, PC.n4, rfl, A.af, _, rfl, .inl (SqL.of p.free), rfl, flat_nat _, _, rfl, ?_⟩
  show (if inV (nV i) (s.free.map nV) = true then _ else _)
  rw [inV_nat]
  unfold bloM at h
  by_cases e : i ∈ s.free
  · rw [decide_eq_true e]
    rw [if_pos e] at h
    exact iteT h
  · rw [decide_eq_false e]
    rw [if_neg e] at h
    refine iteF ⟨_, h4, _, h2, x, C, A.dx, _, _, rfl, p.ins, PC.cl, PC.n5, rfl, A.acl, _, rfl, .inl (SqL.of p.clo), rfl, flat_nat _, _, rfl, ?_⟩
    show (if inV (nV i) (s.clo.map nV) = true then _ else _)
    rw [inV_nat]
    by_cases e2 : i ∈ s.clo
    · rw [decide_eq_true e2]
      rw [if_pos e2] at h
      exact iteT h
    · rw [decide_eq_false e2]
      rw [if_neg e2] at h
      exact iteF h
section
variable {P : Program} {w : World} {K : PySem.W.Frag} {mg : Str → Option Value} {base : Heap} {CD C : Addr}
end
end K6

set_option Elab.async false
set_option linter.all false
set_option maxRecDepth 100000
set_option maxHeartbeats 4000000
namespace K6
open PySem PySem.Spec PyProof.Rows L2 G1 G2 K2 G5 LamX
abbrev sStp : Stmt := topS 73
abbrev NStp : List Str := ["drive", "load", "told"]
theorem scStp : GScope NStp ["drive", "load"] (defScope sStp) := ⟨rfl, rfl, rfl, by decide +kernel, rfl, by decide +kernel, by decide +kernel⟩
section
variable {P : Program} {w : World} {K : PySem.W.Frag} {mg : Str → Option Value} {base : Heap} {CD C : Addr}
end
end K6

set_option Elab.async false
set_option linter.all false
set_option maxRecDepth 100000
set_option maxHeartbeats 4000000
/-! is a tuple in a set of tuples -/
namespace G5
open PySem PySem.Spec PyProof.Rows L2 Builtin
section
variable {P : Program} {w : World} {A : Around} {E : Value → Shared → Prop} {s : Shared}
variable {a : Addr} {Lz : List (Addr × List Int)} {es : Array (Int × Value)} {ep : Nat} {t : SetTable}
theorem look_from (Rz : SetTR P w s.heap a Lz es ep t) {xz : Addr} {kz : List Int} (hxz : IsT P w s.heap kz xz) (hu : A.units < cLine) {K : Nat} (hKg : K < 10 * SetTable.turns t.mask)
    (hKz : way t.mask (thash P w kz) K ∉ t.place.toList) (hKc : ∀ c, c < K → way t.mask (thash P w kz) c ∈ t.place.toList) {Q : SetFound → Shared → Prop}
    (hyes : ∀ i, kz ∈ Lz.map (·.2) → Q (.there (some i)) s) (hnot : kz ∉ Lz.map (·.2) → Q (.free (way t.mask (thash P w kz) K) false) s) :
    ∀ (f c : Nat) (stand : Option SetTable.Probe), stand.getD (t.probeStart (thash P w kz)) = nth t.mask (runAt t.mask (SetTable.bits (thash P w kz) % (t.mask + 1)) (SetTable.bits (thash P w kz))) c → c ≤ K → K - c < f →
      (∀ (i : Nat) p, Lz[i]? = some p → p.2 = kz → ∃ c', c ≤ c' ∧ c' < K ∧ t.place.toList[i]? = some (way t.mask (thash P w kz) c')) →
      wpAny (model P w) A (setSearchFrom a (.ref xz) (thash P w kz) false f stand) Q E s
  | 0, c, stand, _, _, hf, _ => absurd hf (Nat.not_lt_zero _)
  | f + 1, c, stand, hstz, hc, hf, hrest => by
    obtain ⟨o, ho, hex, hd⟩ := Rz.ob
    rw [setSearchFrom_succ]
    refine wpAny_bind (wpAny_setState_of ho hd Rz.fits ?_)
    dsimp only
    refine wp_if_neg Rz.gw ?_
    ( try refine wpAny_bind (wpAny_pure ?_) )
    have hndz : (nth t.mask (runAt t.mask (SetTable.bits (thash P w kz) % (t.mask + 1)) (SetTable.bits (thash P w kz))) c).dummy = none := by
      have keyz : ∀ (n : Nat) (p : SetTable.Probe), p.dummy = none → (nth t.mask p n).dummy = none := by
        intro n
        induction n with
        | zero => intro p h; exact h
        | succ n ih =>
          intro p h
          refine ih (adv t.mask p) ?_
          unfold adv
          split <;> exact h
      exact keyz c _ rfl
    have shz : ∀ qz, nth t.mask (nth t.mask (runAt t.mask (SetTable.bits (thash P w kz) % (t.mask + 1)) (SetTable.bits (thash P w kz))) c) qz = nth t.mask (runAt t.mask (SetTable.bits (thash P w kz) % (t.mask + 1)) (SetTable.bits (thash P w kz))) (c + qz) := fun qz => (nth_add t.mask c _ qz).symm
    have ez1 : ∀ qz, (nth t.mask (nth t.mask (runAt t.mask (SetTable.bits (thash P w kz) % (t.mask + 1)) (SetTable.bits (thash P w kz))) c) qz).j = way t.mask (thash P w kz) (c + qz) := fun qz => congrArg SetTable.Probe.j (shz qz)
    have spc := go_spec t Rz.tab.ris Rz.tab.dm (fun i => (es[i]?.map (·.1)).getD 0) (thash P w kz) (10 * SetTable.turns t.mask) (K - c) _ hndz (by omega)
      (fun qz hq => by rw [ez1]; exact hKc (c + qz) (by omega)) (by rw [ez1, show c + (K - c) = K by omega]; exact hKz)
    have hashz : ∀ (i : Nat) p, Lz[i]? = some p → (fun i => (es[i]?.map (·.1)).getD 0) i = thash P w p.2 := fun i p hpz => by
      show (es[i]?.map (·.1)).getD 0 = _
      rw [Rz.entry hpz] <;> rfl
    rcases spc with ⟨qz, i, hq, hiz, hh, hnone, hprz⟩ | ⟨hnone, hprz⟩
    · -- a candidate
      have hpr' : t.probe (fun i => (es[i]?.map (·.1)).getD 0) (thash P w kz) (stand.getD (t.probeStart (thash P w kz))) = some (.candidate (way t.mask (thash P w kz) (c + qz)) i (nth t.mask (runAt t.mask (SetTable.bits (thash P w kz) % (t.mask + 1)) (SetTable.bits (thash P w kz))) (c + (qz + 1)))) := by
        rw [hstz, ← ez1, ← shz]
        exact hprz
      rw [hpr']
      dsimp only
      rw [ez1] at hiz
      -- the entry
      have hilz : i < Lz.length := by
        have h1 : i < t.place.toList.length := (List.getElem?_eq_some_iff.mp hiz).1
        have h2 := Rz.tab.sz
        rw [List.length_map] at h2
        rw [Array.length_toList] at h1
        omega
      have hpz : Lz[i]? = some Lz[i] := List.getElem?_eq_getElem hilz
      generalize hpe : Lz[i] = p at hpz
      have hmemz : p ∈ Lz := List.mem_of_getElem? hpz
      have hptz := Rz.tup p hmemz
      have restz : wpAny (model P w) A (searchRest a (.ref xz) (thash P w kz) false f es t (way t.mask (thash P w kz) (c + qz)) i (nth t.mask (runAt t.mask (SetTable.bits (thash P w kz) % (t.mask + 1)) (SetTable.bits (thash P w kz))) (c + (qz + 1)))) Q E s := by
        unfold searchRest
        rw [Rz.entry hpz]
        dsimp only
        refine wpAny_bind (wpAny_holding (wpAny_eqBool_tuple hu hptz hxz ?_))
        refine wpAny_bind (wpAny_setState_of ho hd Rz.fits ?_)
        dsimp only
        refine wp_if_neg (by simp) ?_
        ( try refine wpAny_bind (wpAny_pure ?_) )
        rw [sameMem]
        dsimp only
        have hslz : t.slot (way t.mask (thash P w kz) (c + qz)) = .live i := slot_live Rz.tab.ris hiz
        simp only [if_true, hslz, Rz.entry hpz]
        refine wpAny_bind (wpAny_isSame_ref_self (wpAny_bind (wpAny_pure ?_)))
        simp only [if_true]
        by_cases hkkz : p.2 = kz
        · refine wp_if_pos (by simp [hkkz]) ?_
          exact wpAny_pure (hyes i (List.mem_map.mpr ⟨p, hmemz, hkkz⟩))
        · refine wp_if_neg (by simp [hkkz]) ?_
          refine look_from Rz hxz hu hKg hKz hKc hyes hnot f (c + (qz + 1)) _ rfl (by omega) (by omega) fun iz0 pz0 hz0 hk0 => ?_
          obtain ⟨c', a1, a2, a3⟩ := hrest iz0 pz0 hz0 hk0
          refine ⟨c', ?_, a2, a3⟩
          -- it isn't passed
          rcases Nat.lt_or_ge c' (c + qz) with z | z
          · exfalso
            refine hnone (c' - c) iz0 (by omega) (by rw [ez1, show c + (c' - c) = c' by omega]; exact a3) ?_
            exact (hashz iz0 pz0 hz0).trans (congrArg (thash P w) hk0)
          · rcases Nat.lt_or_ge (c + qz) c' with y | y
            · omega
            · exfalso
              have ec : c' = c + qz := Nat.le_antisymm y z
              rw [ec] at a3
              have sz0 := slot_live Rz.tab.ris a3
              rw [hslz] at sz0
              injection sz0 with sz0
              rw [← sz0, hpz] at hz0
              exact hkkz ((congrArg Prod.snd (Option.some.inj hz0)).trans hk0)
      by_cases hl : t.led = true
      · refine wp_if_neg (by simp [hl]) ?_
        ( try refine wpAny_bind (wpAny_pure ?_) )
        exact restz
      · refine wp_if_pos (by simp [hl]) ?_
        refine wpAny_bind (seen_tup hxz (fun y hy => ?_) ?_)
        · obtain ⟨e, he, ee⟩ := List.mem_map.mp hy
          have he1 : e ∈ es ∧ e.1 = thash P w kz := by simpa using he
          have he2 : e ∈ es.toList := by simpa using he1.1
          rw [Rz.rows] at he2
          obtain ⟨p2, hp2, ez2⟩ := List.mem_map.mp he2
          refine ⟨p2.2, p2.1, ?_, Rz.tup p2 hp2⟩
          rw [← ee, ← ez2]
        · refine wp_if_neg (by decide) ?_
          ( try refine wpAny_bind (wpAny_pure ?_) )
          exact restz
    · -- the empty slot
      have hpr' : t.probe (fun i => (es[i]?.map (·.1)).getD 0) (thash P w kz) (stand.getD (t.probeStart (thash P w kz))) = some (.empty (way t.mask (thash P w kz) K) none) := by
        have ez2 : way t.mask (thash P w kz) K = (nth t.mask (nth t.mask (runAt t.mask (SetTable.bits (thash P w kz) % (t.mask + 1)) (SetTable.bits (thash P w kz))) c) (K - c)).j := by
          rw [ez1, show c + (K - c) = K by omega]
        rw [hstz, ez2]
        exact hprz
      rw [hpr']
      dsimp only
      refine wpAny_pure (hnot fun hm => ?_)
      obtain ⟨pz0, hz0, hk0⟩ := List.mem_map.mp hm
      obtain ⟨iz0, hi0, e0⟩ := List.getElem_of_mem hz0
      have h00 : Lz[iz0]? = some pz0 := by rw [List.getElem?_eq_getElem hi0, e0]
      obtain ⟨c', a1, a2, a3⟩ := hrest iz0 pz0 h00 hk0
      refine hnone (c' - c) iz0 (by omega) (by rw [ez1, show c + (c' - c) = c' by omega]; exact a3) ?_
      exact (hashz iz0 pz0 h00).trans (congrArg (thash P w) hk0)

theorem look_at (Rz : SetTR P w s.heap a Lz es ep t) {xz : Addr} {kz : List Int} (hxz : IsT P w s.heap kz xz) (hu : A.units < cLine) {Q : Option Nat → Shared → Prop} (hyes : ∀ i, kz ∈ Lz.map (·.2) → Q (some i) s) (hnot : kz ∉ Lz.map (·.2) → Q none s) :
    wpAny (model P w) A (setFind a (.ref xz) (thash P w kz)) Q E s := by
  obtain ⟨o, ho, hex, hd⟩ := Rz.ob
  have hroom := Rz.room
  obtain ⟨K, hKg, hKz, hKc⟩ := Rz.tab.first (by rw [List.length_map]; omega) (thash P w kz)
  have hbig : K < 100000 := by
    have z : 10 * SetTable.turns t.mask ≤ 1420 := by
      unfold SetTable.turns
      rcases Rz.tab.mok with e | e | e <;> omega
    omega
  unfold setFind
  rw [show (100000 : Nat) = 99999 + 1 from rfl]
  unfold setFindIn
  refine wpAny_bind (wpAny_setState_of ho hd Rz.fits ?_)
  dsimp only
  refine wp_if_neg (by simp [byScan, Value.scannable]) ?_
  ( try refine wpAny_bind (wpAny_pure ?_) )
  unfold setSearch
  refine wpAny_bind (look_from Rz hxz hu hKg hKz hKc (fun i hm => ?_) (fun hn => ?_) 100000 0 none rfl (Nat.zero_le _) (by omega) fun i p hp hk => ?_)
  · exact wpAny_pure (hyes i hm)
  · exact wpAny_pure (hnot hn)
  · have hi : (Lz.map fun p => thash P w p.2)[i]? = some (thash P w kz) := by rw [List.getElem?_map, hp, ← hk] <;> rfl
    have hil : i < t.place.toList.length := by
      have z1 : i < Lz.length := (List.getElem?_eq_some_iff.mp hp).1
      have z2 := Rz.tab.sz
      rw [List.length_map] at z2
      rw [Array.length_toList]
      omega
    have hj := List.getElem?_eq_getElem hil
    obtain ⟨c, hc, e⟩ := Rz.tab.before hKz hi hj
    exact ⟨c, Nat.zero_le _, hc, by rw [hj, e]⟩
/-- x in a set -/
theorem in_set (Rz : SetTR P w s.heap a Lz es ep t) {xz : Addr} {kz : List Int} (hxz : IsT P w s.heap kz xz) (hu : A.units + 64 < cLine) {Q : Value → Shared → Prop} (hQ : ∀ n c, (c = true ↔ kz ∈ Lz.map (·.2)) → Q (.bool c) { s with toks := n }) : wpAny (model P w) A (compareOp .In (.ref xz) (.ref a)) Q E s := by
  have hT : s.TypeIs (.ref a) "set" := by
    obtain ⟨o, ho, hex, hd⟩ := Rz.ob
    exact ⟨o, ho, hex.1⟩
  show wpAny _ _ (do return .bool (← contains (.ref a) (.ref xz))) Q E s
  (refine wpAny_bind ?_; unfold contains; try with_reducible refine wpAny_holding ?_)
  refine wpAny_bind (wpAny_specialOf hT F.slot_set_contains.lookup ?_)
  show wpAny _ _ (if (some (Value.builtin "set.__contains__") == some Value.none) = true then _ else _) _ E s
  rw [if_neg (by rw [beq_builtin_none]; exact Bool.false_ne_true)]
  refine wpAny_bind (wpAny_callSpecialUnlessNone?_slot (name := Str.ofString "__contains__") hT F.slot_set_contains (wpAny_call_entry F.slot_set_contains hT entry_set_contains ?_ (F.args_set_contains_2 _ _)))
  (unfold Builtin.«frozenset.__contains__» Builtin.Frozenset.oneOther; simp only [List.isEmpty_nil, bind_assoc]; unfold Builtin.Frozenset.addrOf Builtin.Frozenset.withSetAsKey setContains)
  (refine wpAny_bind (wpAny_pure ?_); try dsimp only)
  (refine wpAny_bind (wpAny_pure ?_); try dsimp only)
  (refine wpAny_bind (wpAny_tryCatch ?_); refine wpAny_holding ?_)
  refine wpAny_bind ((TK P w).pyHash (k := kz) (by show _ < _; simp; omega) hxz ?_)
  refine wpAny_bind (look_at (s := { s with toks := s.toks + (TK P w).draws kz }) Rz hxz (by simp; omega) (fun i hm => ?_) (fun hn => ?_))
  · (refine wpAny_pure ?_; show wpAny _ _ (ret (Value.bool true)) _ _ _)
    exact wpAny_pure ⟨_, rfl, wpAny_truthy_bool (wpAny_pure (hQ _ true ⟨fun _ => hm, fun _ => rfl⟩))⟩
  · (refine wpAny_pure ?_; show wpAny _ _ (ret (Value.bool false)) _ _ _)
    exact wpAny_pure ⟨_, rfl, wpAny_truthy_bool (wpAny_pure (hQ _ false ⟨fun z => (Bool.noConfusion z), fun z => absurd z hn⟩))⟩
end
section
variable {X : Cx}
def rInTs (K : PySem.W.Frag) (P : Program) (w : World) : R2 := fun x y H Q => ∃ (b a : Addr) (k : List Int) (L : List (Addr × List Int)), x = .ref b ∧ y = .ref a ∧ SqT K H b (k.map V.int) ∧ H a = some (SetTO P w a L) ∧ TupsOf K H L ∧ ∀ c : Bool, (c = true ↔ k ∈ L.map (·.2)) → Q (.bl c) H
theorem op_inTs (hu : X.A.units + 64 < cLine) : OpR X (compareOp .In) (rInTs X.K X.prog X.w) := by
  intro pins s σ H x y v u Q I rx ry h
  obtain ⟨b, a, k, L, rfl, rfl, hb, ha, hL, q⟩ := h
  cases rx
  cases ry
  obtain ⟨es, ep, t, R⟩ := set_full I ha hL
  exact in_set R (I.isT hb) hu fun n c hc => ⟨.bl c, H, I.tok n, rfl, q c hc⟩
end
end G5

set_option Elab.async false
set_option linter.all false
set_option maxRecDepth 100000
set_option maxHeartbeats 4000000
/-! one object changes: what stays -/
namespace K6
open PySem PySem.Spec PyProof.Rows L2 G1 G2 K2 G5 LamX
theorem set_ne_code {P : Program} {w : World} {a : Addr} {L : List (Addr × List Int)} {q : Str} : SetTO P w a L ≠ CodeO a q := fun e => by
  have e' := HO.ext.inj e
  let oc : Obj := { cls := .none, data := .fields #[Value.none, Value.str q default] }
  let h : Heap := { objs := Array.replicate (a + 1) oc }
  have hg : h.get? a = some oc := by
    unfold Heap.get?
    have z : h.objs[a]? = some oc := by
      show (Array.replicate (a + 1) oc)[a]? = some oc
      rw [Array.getElem?_replicate, if_pos (by omega)]
    rw [z]
  have hc : ∃ (oc : Obj) (vs : Array Value) (t : Tok), h.get? a = some oc ∧ oc.data = .fields vs ∧ vs[1]? = some (.str q t) := ⟨oc, _, default, hg, rfl, rfl⟩
  have z := congrFun e' h
  have z : SetT0 P w h a L = ∃ (oc : Obj) (vs : Array Value) (t : Tok), h.get? a = some oc ∧ oc.data = .fields vs ∧ vs[1]? = some (.str q t) := z
  rw [← z] at hc
  obtain ⟨es, ep, t, ⟨o, ho, _, hd⟩, _⟩ := SetT0.ex hc
  rw [hg] at ho
  cases ho
  cases hd
section
variable {K : PySem.W.Frag} {CD C x a : Addr} {H H' : Hp} {s : Pl} {A : PAd} {o : HO}
theorem tup_kind {c : Addr} {xs : List V} (h : SqT K H c xs) (ha : H a = some o) (h1 : ∀ xs, o ≠ .tup xs) (h2 : ∀ ob z, o ≠ .frz ob z) (k : ∀ b u, b ≠ a → H b = some u → H' b = some u) : SqT K H' c xs := by
  rcases h with (h | ⟨ob, h⟩) | h
  · exact .inl (.inl (k _ _ (ne_of h ha (Ne.symm (h1 _))) h))
  · exact .inl (.inr ⟨ob, k _ _ (ne_of h ha (Ne.symm (h2 _ _))) h⟩)
  · exact .inr h
theorem drv_kind {b p n : Nat} {ini : List RowD} {y : Str} {d : Addr} (h : DrvAt K CD H d b p n ini y) (ha : H a = some o) (h1 : ∀ xs, o ≠ .tup xs) (h2 : ∀ ob z, o ≠ .frz ob z) (h3 : ∀ C dx fs, o ≠ .ins C dx fs) (k : ∀ b u, b ≠ a → H b = some u → H' b = some u) : DrvAt K CD H' d b p n ini y := by
  obtain ⟨dx, t, e1, rs, e2, e3⟩ := h
  exact ⟨dx, t, k _ _ (ne_of e1 ha (Ne.symm (h3 _ _ _))) e1, rs, tup_kind e2 ha h1 h2 k, Paired.mapP e3 fun _ _ z => tup_kind z ha h1 h2 k⟩
theorem play_but (h : PlayAt C H x s A) (na : a ∉ A.foot x) (ha : H a = some o) (h1 : ∀ xs, o ≠ .tup xs) (k : ∀ b u, b ≠ a → H b = some u → H' b = some u) : PlayAt C H' x s A := by
  have nf : ∀ b ∈ A.foot x, b ≠ a := fun b hb z => na (z ▸ hb)
  have e : ∀ {b : Addr} {u : HO}, b ∈ A.foot x → H b = some u → H' b = some u := fun {b u} hb => k b u (nf b hb)
  have et : ∀ {b : Addr} {xs : List V}, H b = some (.tup xs) → H' b = some (.tup xs) := fun {b xs} hb => k b _ (ne_of hb ha (Ne.symm (h1 _))) hb
  have mem : ∀ b ∈ A.ls, b ∈ A.foot x := fun b hb => foot_ls hb
  refine ⟨e foot_x h.ins, e (mem _ (by unfold PAd.ls; simp)) h.cont, ?_, e (mem _ (by unfold PAd.ls; simp)) h.liv, e (mem _ (by unfold PAd.ls; simp)) h.free, e (mem _ (by unfold PAd.ls; simp)) h.clo, e (by unfold PAd.foot; simp) h.hom, e (mem _ (by unfold PAd.ls; simp)) h.told, Paired.mapP h.tat fun _ _ z => ?_, h.nd⟩
  · have key : ∀ {rs : List Addr} {cs : List (List (Option Str))}, (∀ r ∈ rs, r ∈ A.ls) → Paired (fun (a : Addr) (c : List (Option Str)) => H a = some (.lst (c.map oS))) rs cs → Paired (fun (a : Addr) (c : List (Option Str)) => H' a = some (.lst (c.map oS))) rs cs := by
      intro rs cs hr hp
      induction hp with
      | nil => exact .nil
      | cons r t ih => exact .cons (e (mem _ (hr _ (List.mem_cons_self ..))) r) (ih fun z hz => hr z (List.mem_cons_of_mem _ hz))
    exact key (fun r hr => by unfold PAd.ls; simp [hr]) h.inner
  · obtain ⟨q, z1, z2⟩ := z
    exact ⟨q, et z1, et z2⟩
theorem tabs_set {T : List (Addr × Str)} {P : Program} {w : World} {L : List (Addr × List Int)} (t : Tabs T H) (ha : H a = some (SetTO P w a L)) (k : ∀ b u, b ≠ a → H b = some u → H' b = some u) : Tabs T H' := fun p hp => by
  obtain ⟨ps, e1, e2, e3⟩ := t p hp
  refine ⟨ps, k _ _ (ne_of e1 ha (by intro z; cases z)) e1, e2, fun pos cv hc => ?_⟩
  obtain ⟨c, f1, f2⟩ := e3 pos cv hc
  refine ⟨c, f1, k _ _ (fun z => ?_) f2⟩
  subst z
  rw [ha] at f2
  exact set_ne_code (Option.some.inj f2)
theorem foot_back {T : List Addr} {b : Addr} (f : FrmN T H H') (h : H' b = none) : b ∈ T ∨ NwN H b := by
  by_cases z : b ∈ T
  · exact .inl z
  · refine .inr fun u e => ?_
    by_cases t : ∃ ps, u = .tbl ps
    · exact t
    · have := f b u e z fun ps q => t ⟨ps, q⟩
      rw [h] at this
      cases this
end
end K6

set_option Elab.async false
set_option linter.all false
set_option maxRecDepth 100000
set_option maxHeartbeats 4000000
/-! bring_name with any number of cleanings, or a write that sticks -/
namespace K6
open PySem PySem.Spec PyProof.Rows L2 G1 G2 K2 G5 LamX
inductive Cleans (p : Nat) (rows : List RowD) : List (List Int) → Pl → Pl → Nat → List Nat → Int → Prop
  | stop {seen : List (List Int)} {s : Pl} {k : Nat} : s.fil = some k → Cleans p rows seen s s k [] 0
  | step {seen : List (List Int)} {s s2 : Pl} {i j f k : Nat} {cl : List Nat} {cp : Int} : s.fil = none → s.free = [f] → s.clo[i]? = some j → cntP s ∉ seen → PickR rows (cntP s) i → Cleans p rows (cntP s :: seen) (cleanP p s i j f) s2 k cl cp → Cleans p rows seen s s2 k (j :: cl) (s.liv.getD j 0 + cp)
inductive Stuck (p : Nat) (rows : List RowD) : List (List Int) → Pl → Pl → Prop
  | here {seen : List (List Int)} {s : Pl} {f : Nat} : s.fil = none → s.free = [f] → cntP s ∈ seen → Stuck p rows seen s s
  | step {seen : List (List Int)} {s s2 : Pl} {i j f : Nat} : s.fil = none → s.free = [f] → s.clo[i]? = some j → cntP s ∉ seen → PickR rows (cntP s) i → Stuck p rows (cntP s :: seen) (cleanP p s i j f) s2 → Stuck p rows seen s s2
def OpnG (p : Nat) (rows : List RowD) (s s1 : Pl) (k : Nat) (cl : List Nat) (cp : Int) : Prop :=
  (s.fil = none ∧ 1 < s.free.length ∧ s.free[0]? = some k ∧ s1 = { s with free := s.free.eraseIdx 0, fil := some k } ∧ cl = [] ∧ cp = 0) ∨ ((s.fil = none → s.free.length ≤ 1) ∧ Cleans p rows [] s s1 k cl cp)
/-- a state at which a block may be cleaned -/
structure Ready (p : Nat) (s : Pl) (f : Nat) : Prop where
  fre : s.free = [f]
  fit : Fit2 s
  fl : f < s.cont.length
  fe : s.cont.getD f [] = []
  ne : s.clo ≠ []
  clo : ∀ k ∈ s.clo, k < s.cont.length ∧ f ≠ k ∧ s.liv.getD k 0 ≤ (p : Int) ∧ (keptN (s.cont.getD k [])).length ≤ p
  told : s.told.length ≤ 10000
structure Opened (s : Pl) (k : Nat) : Prop where
  fil : s.fil = some k
  lt : k < s.cont.length
  fit : Fit s
  told : s.told.length ≤ 10000
/-- it goes on, with so many cleanings at most, till a block is open; st: it may stick -/
def CleanOk (p : Nat) (rows : List RowD) (st : Bool) : Nat → List (List Int) → Pl → Prop
  | 0, _, s => ∃ k, Opened s k
  | m + 1, seen, s => (∃ k, Opened s k) ∨ (s.fil = none ∧ ∃ f, Ready p s f ∧ (cntP s ∈ seen → st = true) ∧ (cntP s ∉ seen → ∀ i j, PickR rows (cntP s) i → s.clo[i]? = some j → CleanOk p rows st m (cntP s :: seen) (cleanP p s i j f)))
structure BrgG (p : Nat) (rows : List RowD) (st : Bool) (s : Pl) : Prop where
  fit : Fit2 s
  fil : ∀ k, s.fil = some k → k < s.cont.length
  fre : ∀ k ∈ s.free, k < s.cont.length
  due : s.fil = none → s.free.length ≤ 1 → ∃ m, m ≤ 50 ∧ CleanOk p rows st m [] s
  told : s.told.length ≤ 10000
def spBrgG (K : PySem.W.Frag) (T : List (Addr × Str)) (st : Bool) (CD C : Addr) : Sp := fun vs H Q _ => ∃ (x : Addr) (nm : Str) (s : Pl) (A : PAd) (b p n : Nat) (ini : List RowD) (y : Str), vs = [.ref x, .str nm] ∧ PlayAt C H x s A ∧ BrgG p (ini ++ [((p : Int), y)]) st s ∧ (∀ r ∈ ini ++ [((p : Int), y)], r.2 ∈ wordsL) ∧ DrvAt K CD H A.dr b p n ini y ∧ A.dr ≠ x ∧ Tabs T H ∧
  (∀ (H' : Hp) (A' : PAd) (s1 : Pl) (k : Nat) (cl : List Nat) (cp : Int), OpnG p (ini ++ [((p : Int), y)]) s s1 k cl cp → PlayAt C H' x (putP p { s1 with told := s1.told ++ [(some k, cl, cp)] } k nm) A' → A'.dr = A.dr → FrmN (A.foot x) H H' → (∀ a ∈ A'.foot x, a ∈ A.foot x ∨ NwN H a) → Tabs T H' → Q (.bl true) H') ∧
  (st = true → ∀ (H' : Hp) (A' : PAd) (s2 : Pl), s.fil = none → s.free.length ≤ 1 → Stuck p (ini ++ [((p : Int), y)]) [] s s2 → PlayAt C H' x s2 A' → A'.dr = A.dr → FrmN (A.foot x) H H' → (∀ a ∈ A'.foot x, a ∈ A.foot x ∨ NwN H a) → Tabs T H' → Q (.bl false) H')
theorem not_in_foot {C x a : Addr} {H : Hp} {s : Pl} {A A' : PAd} (h : PlayAt C H x s A) (n : a ∉ A.foot x) (e : H a ≠ none) (g : ∀ c ∈ A'.foot x, c ∈ A.foot x ∨ Nw H c) : a ∉ A'.foot x := fun z => by
  rcases g a z with q | q
  · exact n q
  · exact e q
theorem ext_foot {C x a : Addr} {H : Hp} {s : Pl} {A : PAd} {g : Heap → Prop} (h : PlayAt C H x s A) (e : H a = some (.ext g)) : a ∉ A.foot x := foot_out h e (by intro _ z; cases z) (by intro _ z; cases z) (by intro _ _ _ z; cases z)
/-- how the loop stands -/
structure Lop (P : Program) (w : World) (K : PySem.W.Frag) (T : List (Addr × Str)) (CD C : Addr) (p b n : Nat) (ini : List RowD) (y : Str) (rows : List RowD) (x lc se : Addr) (s : Pl) (A : PAd) (H : Hp) (seen : List (List Int)) (s' : Pl) (A' : PAd) (cl : List Nat) (cp : Int) (H' : Hp) : Prop where
  pl : PlayAt C H' x s' A'
  dr : A'.dr = A.dr
  frm : FrmN (A.foot x) H H'
  foot : ∀ a ∈ A'.foot x, a ∈ A.foot x ∨ NwN H a
  lcH : H' lc = some (.lst (cl.map nV))
  nlc : lc ∉ A'.foot x
  set : ∃ L, H' se = some (SetTO P w se L) ∧ TupsOf K H' L ∧ (∀ c, c ∈ L.map (·.2) ↔ c ∈ seen) ∧ L.length = seen.length
  drv : DrvAt K CD H' A.dr b p n ini y
  tab : Tabs T H'
  fw : ∀ s1 k cl2 cp2, Cleans p rows seen s' s1 k cl2 cp2 → Cleans p rows [] s s1 k (cl ++ cl2) (cp + cp2)
  fws : ∀ s2, Stuck p rows seen s' s2 → Stuck p rows [] s s2
section
variable {P : Program} {w : World} {K : PySem.W.Frag} {mg : Str → Option Value} {base : Heap} {CD C : Addr}
theorem ok_brgG {f0 : Addr} {fd : FuncData} {T : List (Addr × Str)} {st : Bool} (F : Fun K "bring_name" "bring_name" sBrg f0 fd) (B : Bl mg) (hset : mg "set" = none) (M : DD P w K mg base CD) (PC : PCls K C) (GP : FAt P w K mg base 3 "put_page" ["play", "name"] (spPut K CD C)) (GC : FAt P w K mg base 4 "clean_place" ["play", "place"] (spCln K CD C)) (GK : FAt P w K mg base 4 "pick" ["rows", "closed"] (spPck K T)) :
    FnOk P w K mg base CX0 5 f0 fd ["play", "name"] (spBrgG K T st CD C) := by
  refine F.ok scBrg (fun vs H Q E h => ?_) (fun cdv A0 outer s0 H vs Q E hr h => ?_)
  · obtain ⟨x, nm, s, A, b, p, n, ini, y, rfl, _⟩ := h
    rfl
  obtain ⟨x, nm, s, A, b, p, n, ini, y, rfl, hp, hok, hwd, hd, hdx, hT, q, qs⟩ := h
  obtain ⟨fP, dP, GP, kP, bP, gP⟩ := GP.ex
  obtain ⟨fC, dC, GC, kC, bC, gC⟩ := GC.ex
  obtain ⟨fK, dK, GK, kK, bK, gK⟩ := GK.ex
  obtain ⟨pp, gp, fp, P2, F2, B2⟩ := M.pr.ex
  have hu := hr.units
  refine ⟨_, pss_cons (ps_set (i := 2) scBrg.nd rfl (.inl rfl) (pe_lst pa_nil))
    (pss_cons (ps_set (i := 3) scBrg.nd rfl (.inl rfl) pe_int)
    (pss_cons (ps_set (i := 4) scBrg.nd rfl (.inl rfl) (pe_callTy0 cr_set0T (by rfl) hset bSet9))
    (pss_cons (ps_while PassesOwn.never (pt_cmpR op_isN (pe_fld (pv 0) rfl) pe_non (nomark _))
      (pss_one (ps_if (pt_cmpR op_gt (pe_callB call_len_seq (by rfl) B.len PySem.boot_len (pa_cons (pe_fld (pv 0) rfl) pa_nil)) pe_int (nomark _))
        (pss_one (ps_fld (pv 0) (pe_bm PySem.F.plainAttrs_list PySem.F.slot_list_pop PySem.F.type_list_pop mt_popAt (pe_fld (pv 0) rfl) (pa_cons pe_int pa_nil)) rfl))
        (pss_cons (ps_set (i := 5) scBrg.nd rfl (.inl rfl) (pe_callTy call_tuple_of (by rfl) B.tup bTup (pa_cons (pe_lc (own := [("block", 7)]) (g := gName 7) (tt := tYes) (te := tOp (rIxL K) (tFld K (tVar 0) "living") (tVar 7)) rfl scBrg.nd (pi_list (pe_fld (pv 0) rfl)) (blkOk_by (own := [("block", 7)]) (N := NBrg) (sc := defScope sBrg) (by decide +kernel))
            (fun _ _ _ _ _ => pg_name (i := 7) scBrg.nd rfl (Or.inl rfl)) (fun _ _ _ _ _ => pts_nil) (fun _ _ _ _ _ => pe_ix ix_list (pe_fld (pv 0) rfl) (pv 7) (fun _ _ => rfl))) pa_nil)))
        (pss_cons (ps_if (pt_cmpR (op_inTs hu) (pv 5) (pv 4) (by rfl)) (pss_one (ps_ret pe_bl)) pss_nil)
        (pss_cons (ps_expr (pe_addT hu (pv 4) (pa_cons (pv 5) pa_nil)))
        (pss_cons (ps_set (i := 6) scBrg.nd rfl (.inl rfl) (pe_call GK hr (by rfl) gK kK bK .nil pass0 (pa_cons (pe_prop (pe_fld (pv 0) rfl) M.T.cl P2 F2 (hr.mono (by decide)) B2 .nil pass0 rfl) (pa_cons (pv 5) pa_nil))))
        (pss_cons (ps_aug (i := 3) scBrg.nd rfl (.inl rfl) (pe_ix ix_tup (pv 5) (pv 6) (fun _ _ => rfl)) ip_add)
        (pss_cons (ps_expr (pe_bm PySem.F.plainAttrs_list PySem.F.slot_list_append PySem.F.type_list_append mt_append (pv 2) (pa_cons (pe_ix ix_list (pe_fld (pv 0) rfl) (pv 6) (fun _ _ => rfl)) pa_nil)))
        (pss_one (ps_expr (pe_call GC hr (by rfl) gC kC bC .nil pass0 (pa_cons (pv 0) (pa_cons (pv 6) pa_nil))))))))))))))
    (pss_cons (ps_expr (pe_bm PySem.F.plainAttrs_list PySem.F.slot_list_append PySem.F.type_list_append mt_append (pe_fld (pv 0) rfl) (pa_cons (pe_tup (pa_cons (pe_fld (pv 0) rfl) (pa_cons (pe_callTy call_tuple_of (by rfl) B.tup bTup (pa_cons (pv 2) pa_nil)) (pa_cons (pv 3) pa_nil)))) pa_nil)))
    (pss_cons (ps_expr (pe_call GP (hr.mono (by decide)) (by rfl) gP kP bP .nil pass0 (pa_cons (pv 0) (pa_cons (pv 1) pa_nil))))
    (pss_one (ps_ret pe_bl))))))), ?_⟩
  generalize erows : ini ++ [((p : Int), y)] = rows at hok hwd q qs
  refine seq_asg (lst_read (nil_read ⟨by show 0 ≤ sizeLine; decide, fun lc nlc => ?_⟩))
  refine seq_asg (c_read ?_)
  refine seq_asg (cb_read (nil_read ⟨rfl, fun se nse => ?_⟩))
  have sA : Same H (L2.upd (L2.upd H lc (.lst [])) se (SetTO P w se [])) := (same_lay nlc).trans (same_lay nse)
  have hlc : (L2.upd (L2.upd H lc (.lst [])) se (SetTO P w se [])) lc = some (.lst []) := (same_lay nse) lc _ upd_same
  have hse : (L2.upd (L2.upd H lc (.lst [])) se (SetTO P w se [])) se = some (SetTO P w se []) := upd_same
  have nse' : H se = none := by
    cases e : H se with
    | none => rfl
    | some o => rw [(same_lay nlc) se o e] at nse; cases nse
  have elc : lc ≠ se := fun z => by rw [← z, upd_same] at nse; cases nse
  show tSeq _ _ _ [some (.ref x), some (.str nm), some (.ref lc), some (.int 0), some (.ref se), none, none, none] (L2.upd (L2.upd H lc (.lst [])) se (SetTO P w se []))
  generalize L2.upd (L2.upd H lc (.lst [])) se (SetTO P w se []) = H2 at sA hlc hse ⊢
  have p1 := hp.same sA
  have d1 := hd.same sA
  have t1 := hT.ext sA
  have f1 : FrmN (A.foot x) H H2 := .of (Frm.same sA)
  refine seq_while9 ?_
  let OpS : L2.St → Hp → Prop := fun σ H' => ∃ (s1 : Pl) (A1 : PAd) (k : Nat) (cl : List Nat) (cp : Int) (x4 x5 x6 x7 : Option V), σ = [some (.ref x), some (.str nm), some (.ref lc), some (.int cp), x4, x5, x6, x7] ∧ OpnG p rows s s1 k cl cp ∧ PlayAt C H' x s1 A1 ∧ Fit s1 ∧ s1.fil = some k ∧ k < s1.cont.length ∧ A1.dr = A.dr ∧ FrmN (A.foot x) H H' ∧ (∀ a ∈ A1.foot x, a ∈ A.foot x ∨ NwN H a) ∧ H' lc = some (.lst (cl.map nV)) ∧ DrvAt K CD H' A.dr b p n ini y ∧ Tabs T H' ∧ s1.told.length ≤ 10000
  let LpS : Nat → L2.St → Hp → Prop := fun m σ H' => ∃ (seen : List (List Int)) (s' : Pl) (A' : PAd) (cl : List Nat) (cp : Int) (x5 x6 x7 : Option V), σ = [some (.ref x), some (.str nm), some (.ref lc), some (.int cp), some (.ref se), x5, x6, x7] ∧ Lop P w K T CD C p b n ini y rows x lc se s A H seen s' A' cl cp H' ∧ s'.fil = none ∧ CleanOk p rows st m seen s' ∧ seen.length + m ≤ 51 ∧ cl.length ≤ seen.length
  have toOp : ∀ (seen : List (List Int)) (s' : Pl) (A' : PAd) (cl : List Nat) (cp : Int) (x4 x5 x6 x7 : Option V) (H' : Hp) (k : Nat), (s.fil = none → s.free.length ≤ 1) → Lop P w K T CD C p b n ini y rows x lc se s A H seen s' A' cl cp H' → Opened s' k → OpS [some (.ref x), some (.str nm), some (.ref lc), some (.int cp), x4, x5, x6, x7] H' := fun seen s' A' cl cp x4 x5 x6 x7 H' k hs lp op => by
    have z := lp.fw s' k [] 0 (.stop op.fil)
    rw [List.append_nil, Int.add_zero] at z
    exact ⟨s', A', k, cl, cp, x4, x5, x6, x7, rfl, .inr ⟨hs, z⟩, lp.pl, op.fit, op.fil, op.lt, lp.dr, lp.frm, lp.foot, lp.lcH, lp.drv, lp.tab, op.told⟩
  have lp0 : Lop P w K T CD C p b n ini y rows x lc se s A H [] s A [] 0 H2 := ⟨p1, rfl, f1, fun a z => .inl z, hlc, not_foot hp nlc, ⟨[], hse, fun p hp => (nomatch hp), fun c => Iff.rfl, rfl⟩, d1, t1, fun s1 k cl2 cp2 z => by rw [Int.zero_add]; exact z, fun s2 z => z⟩
  refine ⟨fun m σ H' => (m = 0 ∧ OpS σ H') ∨ (m = 60 ∧ s.fil = none ∧ 1 < s.free.length ∧ σ = [some (.ref x), some (.str nm), some (.ref lc), some (.int 0), some (.ref se), none, none, none] ∧ H' = H2) ∨ (m ≤ 50 ∧ (s.fil = none ∧ s.free.length ≤ 1) ∧ LpS m σ H'), ?_, ?_⟩
  · cases hfil : s.fil with
    | none =>
      by_cases hlen : 1 < s.free.length
      · exact ⟨60, .inr (.inl ⟨rfl, rfl, hlen, rfl, rfl⟩)⟩
      · obtain ⟨m, hm, hco⟩ := hok.due hfil (by omega)
        exact ⟨m, .inr (.inr ⟨hm, ⟨rfl, by omega⟩, [], s, A, [], 0, _, _, _, rfl, lp0, hfil, hco, by show 0 + m ≤ 51; omega, Nat.le_refl _⟩)⟩
    | some k => exact ⟨0, .inl ⟨rfl, s, A, k, [], 0, _, _, _, _, rfl, .inr ⟨(fun z => by rw [hfil] at z; cases z), .stop hfil⟩, p1, hok.fit.fit, hfil, hok.fil k hfil, rfl, f1, fun a z => .inl z, hlc, d1, t1, hok.told⟩⟩
  rintro m σ H' (⟨rfl, s1, A1, k, cl, cp, x4, x5, x6, x7, rfl, ho, p3, fit3, hfil, hk, hdr, f3, g3, hlc3, d3, t3, htl⟩ | ⟨rfl, hfil, hlen, rfl, rfl⟩ | ⟨hm50, hs1, seen, s', A', cl, cp, x5, x6, x7, rfl, lp, hfil, hco, hsm, hcl⟩)
  · -- a block is open
    refine test_read6 (op_read ⟨_, rfl, x, C, A1.dx, _, oN s1.fil, rfl, p3.ins, PC.cl, PC.n6, rfl, c_read ⟨rfl, _, rfl, ?_⟩⟩)
    rw [hfil, oN_non]
    refine iteF ?_
    have htl1 : A1.rt.length ≤ 10000 := by rw [Paired.length p3.tat]; exact htl
    refine ⟨_, rfl, x, C, A1.dx, _, _, rfl, p3.ins, PC.cl, PC.n8, rfl, .inl ⟨rfl, _, SqL.of p3.told⟩, cons_read (tup_read (cons_read ⟨_, rfl, x, C, A1.dx, _, oN s1.fil, rfl, p3.ins, PC.cl, PC.n6, rfl, cons_read (cb_read (cons_read ⟨_, rfl, nil_read ⟨lc, _, rfl, .inl ⟨SqL.of hlc3, fun q1 nq1 => ?_⟩⟩⟩))⟩))⟩
    refine cons_read ⟨_, rfl, nil_read ⟨by show 3 ≤ sizeLine; decide, fun u nu => nil_read ⟨A1.ta, A1.rt.map V.ref, _, rfl, rfl, ?_, ?_, ?_⟩⟩⟩
    · exact (same_lay nu) _ _ ((same_lay nq1) _ _ p3.told)
    · rw [List.length_map, sizeLine_eq]; omega
    have sB : Same H' (L2.upd (L2.upd H' q1 (.tup (cl.map nV))) u (.tup [oN s1.fil, .ref q1, .int cp])) := (same_lay nq1).trans (same_lay nu)
    have p4 := p3.same sB
    have ht : TldAt (L2.upd (L2.upd H' q1 (.tup (cl.map nV))) u (.tup [oN s1.fil, .ref q1, .int cp])) u (some k, cl, cp) := ⟨q1, by rw [upd_same, hfil], (same_lay nu) _ _ upd_same⟩
    have p5 := p4.told_put ht
    have f5 := (Frm.same (F := A1.foot x) sB).upd (o := .lst (A1.rt.map V.ref ++ [.ref u])) (foot_ls (A := A1) (x := x) (a := A1.ta) (by unfold PAd.ls; simp))
    dsimp only
    generalize L2.upd (L2.upd (L2.upd H' q1 (.tup (cl.map nV))) u (.tup [oN s1.fil, .ref q1, .int cp])) A1.ta (.lst (A1.rt.map V.ref ++ [.ref u])) = H5 at p5 f5 ⊢
    have d5 : DrvAt K CD H5 A.dr b p n ini y := by
      rw [← hdr] at d3 ⊢
      exact drv_frm p3 f5 (by rw [hdr]; exact hdx) d3
    have t5 := tabs_frm p3 f5 t3
    refine ⟨_, rfl, _, rfl, x, nm, _, _, k, b, p, n, ini, y, rfl, p5, ⟨fit3.cont, fit3.hom, fit3.clo, fit3.lens⟩, hfil, hk, by show DrvAt K CD H5 A1.dr b p n ini y; rw [hdr]; exact d5, by show A1.dr ≠ x; rw [hdr]; exact hdx, fun H6 p6 f6 => ?_⟩
    have t6 := tabs_frm p5 f6 t5
    show Q (.bl true) H6
    exact q H6 _ s1 k cl cp ho p6 hdr (f3.grow (.of (f5.trans f6)) g3) g3 t6
  · -- a free block is opened
    refine test_read6 (op_read ⟨_, rfl, x, C, A.dx, _, oN s.fil, rfl, p1.ins, PC.cl, PC.n6, rfl, c_read ⟨rfl, _, rfl, ?_⟩⟩)
    rw [hfil]
    refine iteT ⟨_, fun σ' H'' z => z, one_ifE ?_⟩
    refine test_read6 (op_read (cb_read (cons_read ⟨_, rfl, x, C, A.dx, _, _, rfl, p1.ins, PC.cl, PC.n4, rfl, nil_read ⟨A.af, _, rfl, .inl (SqL.of p1.free), c_read ⟨_, _, rfl, rfl, _, rfl, ?_⟩⟩⟩)))
    rw [List.length_map]
    rw [decide_eq_true (by omega)]
    refine iteT ?_
    have hfr : s.free[0]? = some s.free[0] := List.getElem?_eq_getElem (by omega)
    refine ⟨_, rfl, x, C, A.dx, _, _, rfl, p1.ins, PC.cl, PC.n4, rfl, .inl ⟨rfl, _, SqL.of p1.free⟩, cons_read (c_read (nil_read ⟨A.af, _, ((0 : Nat) : Int), 0, nV s.free[0], rfl, rfl, p1.free, by decide, by decide, sq_ix (by rw [List.length_map]; omega), by rw [List.getElem?_map, hfr]; rfl, ?_⟩))⟩
    dsimp only
    rw [map_erase]
    have p2 := p1.free_put (s.free.eraseIdx 0)
    have f2 := (Frm.refl (A.foot x) H').upd (o := .lst ((s.free.eraseIdx 0).map nV)) (foot_ls (A := A) (x := x) (a := A.af) (by unfold PAd.ls; simp))
    generalize L2.upd H' A.af (.lst ((s.free.eraseIdx 0).map nV)) = H3 at p2 f2 ⊢
    refine ⟨_, rfl, x, C, A.dx, _, rfl, p2.ins, PC.cl, PC.n6, by show 8 < 1000; decide, ?_⟩
    have e6 : putF "filling" (nV s.free[0]) (plF A s.fil) = plF A (some s.free[0]) := put_fil A s.fil (some s.free[0])
    dsimp only
    rw [e6]
    have p3 := p2.fil_put (some s.free[0])
    have f3 := f2.upd (o := .ins C A.dx (plF A (some s.free[0]))) (foot_x (A := A) (x := x))
    generalize L2.upd H3 x (.ins C A.dx (plF A (some s.free[0]))) = H4 at p3 f3 ⊢
    have fit := hok.fit
    refine ⟨0, by decide, .inl ⟨rfl, _, A, s.free[0], [], 0, _, _, _, _, rfl, .inl ⟨hfil, hlen, hfr, rfl, rfl, rfl⟩, p3, ⟨fit.fit.cont, fit.fit.hom, fit.fit.clo, fit.fit.lens⟩, rfl, hok.fre _ (List.getElem_mem _), rfl, f1.trans (.of f3), fun a z => .inl z, f3 _ _ hlc (not_foot hp nlc), drv_frm p1 f3 hdx d1, tabs_frm p1 f3 t1, hok.told⟩⟩
  · -- one is cleaned
    have pl := lp.pl
    refine test_read6 (op_read ⟨_, rfl, x, C, A'.dx, _, oN s'.fil, rfl, pl.ins, PC.cl, PC.n6, rfl, c_read ⟨rfl, _, rfl, ?_⟩⟩)
    rw [hfil]
    cases m with
    | zero =>
      obtain ⟨k, hk⟩ := hco
      have z := hk.fil
      rw [hfil] at z
      cases z
    | succ m =>
    obtain ⟨f, hrd, hst, hgo⟩ : ∃ f, Ready p s' f ∧ (cntP s' ∈ seen → st = true) ∧ (cntP s' ∉ seen → ∀ i j, PickR rows (cntP s') i → s'.clo[i]? = some j → CleanOk p rows st m (cntP s' :: seen) (cleanP p s' i j f)) := by
      rcases hco with ⟨k, hk⟩ | ⟨_, z⟩
      · have z := hk.fil
        rw [hfil] at z
        cases z
      · exact z
    refine iteT ⟨_, fun σ' H'' z => z, one_ifE ?_⟩
    refine test_read6 (op_read (cb_read (cons_read ⟨_, rfl, x, C, A'.dx, _, _, rfl, pl.ins, PC.cl, PC.n4, rfl, nil_read ⟨A'.af, _, rfl, .inl (SqL.of pl.free), c_read ⟨_, _, rfl, rfl, _, rfl, ?_⟩⟩⟩)))
    rw [List.length_map, hrd.fre, decide_eq_false (by show ¬ (1 : Int) < ((1 : Nat) : Int); decide)]
    refine iteF ?_
    have hck := hrd.clo
    have hfit := hrd.fit
    refine seq_asg (cb_read (cons_read ⟨_, rfl, x, C, A'.dx, _, _, rfl, pl.ins, PC.cl, PC.n5, rfl, A'.acl, rfl, ⟨_, SqL.of pl.clo⟩, fun D hD => ?_⟩))
    refine lc_list (K := K) (xs := s'.clo.map nV) (fun j H3 => Same H' H3 ∧ H3 D = some (.lst (((cntP s').take j).map V.int))) ⟨same_lay hD, upd_same⟩ (fun j H3 _ z => SqL.of (z.1 _ _ pl.clo)) ?_ ?_
    · rintro j v H3 hj ⟨sj, ej⟩
      rw [List.getElem?_map] at hj
      obtain ⟨k, hk, rfl⟩ : ∃ k, s'.clo[j]? = some k ∧ nV k = v := by
        cases hq : s'.clo[j]? with
        | none => rw [hq] at hj; cases hj
        | some k => rw [hq] at hj; exact ⟨k, rfl, Option.some.inj hj⟩
      have hkl := (hck k (List.mem_of_getElem? hk)).1
      have hkv : k < s'.liv.length := by rw [hfit.lens]; exact hkl
      have hc5 := hfit.clo
      refine ⟨rfl, ?_⟩
      unfold tYes
      dsimp only
      rw [if_pos rfl]
      refine ⟨_, rfl, x, C, A'.dx, _, _, rfl, sj _ _ pl.ins, PC.cl, PC.n3, rfl, _, rfl, A'.al, _, (k : Int), .int (s'.liv.getD k 0), rfl, rfl, SqL.of (sj _ _ pl.liv), atI_nat (by rw [List.getElem?_map, List.getElem?_eq_getElem hkv, List.getD_eq_getElem?_getD, List.getElem?_eq_getElem hkv]; rfl), _, ej, ?_, fun d u e => ?_, ?_⟩
      · rw [List.length_map, List.length_take, sizeLine_eq]
        unfold cntP
        rw [List.length_map]
        omega
      · rw [upd_ne (ne_of_none e hD)]
        exact sj _ _ e
      · rw [upd_same, List.take_add_one]
        have e5 : (cntP s')[j]? = some (s'.liv.getD k 0) := by
          unfold cntP
          rw [List.getElem?_map, hk]
          rfl
        rw [e5, List.map_append]
        rfl
    rintro H3 ⟨s3, hD3⟩
    have ecl : (s'.clo.map nV).length = (cntP s').length := by unfold cntP; rw [List.length_map, List.length_map]
    rw [ecl, List.take_length] at hD3
    refine nil_read ⟨D, _, rfl, .inl ⟨SqL.of hD3, fun u nu => ?_⟩⟩
    obtain ⟨L, hL1, hL2, hL3, hL4⟩ := lp.set
    have s4 : Same H' (L2.upd H3 u (.tup ((cntP s').map V.int))) := s3.trans (same_lay nu)
    have hu4 : (L2.upd H3 u (.tup ((cntP s').map V.int))) u = some (.tup ((cntP s').map V.int)) := upd_same
    have hus : u ≠ se := Ne.symm (ne_of_none (s3 _ _ hL1) nu)
    generalize L2.upd H3 u (.tup ((cntP s').map V.int)) = H4 at s4 hu4 ⊢
    have tups4 : TupsOf K H4 L := fun p hp => K2.Same.tup s4 (hL2 p hp)
    have frm4 : FrmN (A.foot x) H H4 := lp.frm.trans (.of (Frm.same s4))
    refine seq_if6 (test_read6 (op_read ⟨_, rfl, _, rfl, u, se, cntP s', L, rfl, rfl, SqT.of hu4, s4 _ _ hL1, tups4, fun c hc => ⟨c, rfl, ?_⟩⟩))
    cases c with
    | true =>
      have hin : cntP s' ∈ seen := (hL3 _).mp (hc.mp rfl)
      refine iteT (ret_read (c_read ?_))
      exact qs (hst hin) H4 A' s' hs1.1 hs1.2 (lp.fws s' (.here hfil hrd.fre hin)) (pl.same s4) lp.dr frm4 lp.foot (lp.tab.ext s4)
    | false =>
    have hnin : cntP s' ∉ seen := fun z => by have := hc.mpr ((hL3 _).mpr z); cases this
    refine iteF ?_
    refine ⟨_, rfl, ⟨se, L, rfl, s4 _ _ hL1⟩, cons_read ⟨_, rfl, nil_read ⟨se, u, cntP s', L, rfl, rfl, SqT.of hu4, s4 _ _ hL1, tups4, by omega, fun L' _ hL' => ?_⟩⟩⟩
    have hperm := hL' (fun z => hnin ((hL3 _).mp z))
    have kp5 : ∀ b o, b ≠ se → H' b = some o → (L2.upd H4 se (SetTO P w se L')) b = some o := fun b o nb e => by
      rw [upd_ne nb]
      exact s4 _ _ e
    have hlcs : lc ≠ se := ne_of lp.lcH hL1 (by intro z; cases z)
    have hlc5 := kp5 _ _ hlcs lp.lcH
    have hu5 : (L2.upd H4 se (SetTO P w se L')) u = some (.tup ((cntP s').map V.int)) := by rw [upd_ne hus]; exact hu4
    have hse5 : (L2.upd H4 se (SetTO P w se L')) se = some (SetTO P w se L') := upd_same
    have f5 : Frm [se] H' (L2.upd H4 se (SetTO P w se L')) := fun b o e nb => kp5 b o (fun z => nb (by rw [z]; exact List.mem_cons_self ..)) e
    have nsef : se ∉ A'.foot x := ext_foot pl hL1
    have p5 : PlayAt C (L2.upd H4 se (SetTO P w se L')) x s' A' := play_but pl nsef hL1 (by intro _ z; cases z) fun b o nb e => kp5 b o nb e
    have d5 : DrvAt K CD (L2.upd H4 se (SetTO P w se L')) A.dr b p n ini y := drv_kind lp.drv hL1 (by intro _ z; cases z) (by intro _ _ z; cases z) (by intro _ _ _ z; cases z) fun b o nb e => kp5 b o nb e
    have t5 : Tabs T (L2.upd H4 se (SetTO P w se L')) := tabs_set lp.tab hL1 fun b o nb e => kp5 b o nb e
    have frm5 : FrmN (A.foot x) H (L2.upd H4 se (SetTO P w se L')) := fun b o e nb nt => by
      rw [upd_ne (ne_of_none e nse')]
      exact frm4 b o e nb nt
    have tups5 : TupsOf K (L2.upd H4 se (SetTO P w se L')) L' := fun pr hpr => by
      rcases List.mem_cons.mp (hperm.mem_iff.mp hpr) with z | z
      · subst z
        exact SqT.of hu5
      · exact tup_kind (tups4 pr z) (s4 _ _ hL1) (by intro _ z; cases z) (by intro _ _ z; cases z) fun b o nb e => by rw [upd_ne nb]; exact e
    have hL5 : (∀ c, c ∈ L'.map (·.2) ↔ c ∈ cntP s' :: seen) ∧ L'.length = (cntP s' :: seen).length := by
      refine ⟨fun c => ?_, by rw [hperm.length_eq, List.length_cons, List.length_cons, hL4]⟩
      rw [(hperm.map (·.2)).mem_iff, List.map_cons, List.mem_cons, List.mem_cons, hL3]
    dsimp only
    show tSeq (tAsg _ _) _ _ [some (.ref x), some (.str nm), some (.ref lc), some (.int cp), some (.ref se), some (.ref u), x6, x7] (L2.upd H4 se (SetTO P w se L'))
    generalize L2.upd H4 se (SetTO P w se L') = H5 at hlc5 hu5 hse5 p5 d5 t5 frm5 tups5 kp5 ⊢
    obtain ⟨dd, td, hd5, hR5⟩ := id d5
    rw [erows] at hR5
    have hc5 := hfit.clo
    refine seq_asg ?_
    refine call_read ?_
    refine cons_read ?_
    refine ⟨_, rfl, x, C, A'.dx, _, _, rfl, p5.ins, PC.cl, PC.n1, rfl, A'.dr, dd, _, rfl, by rw [lp.dr]; exact hd5, A'.dr, dd, _, .ref td, rfl, by rw [lp.dr]; exact hd5, rfl, ?_⟩
    refine cons_read ⟨_, rfl, nil_read ?_⟩
    refine ⟨td, u, p, rows, ini, y, cntP s', rfl, hR5, hwd, erows.symm, SqT.of hu5, ?_, ?_, ?_, t5, fun H6 i e6 t6 hpk => ?_⟩
    · intro z
      unfold cntP at z
      exact hrd.ne (List.map_eq_nil_iff.mp z)
    · intro c hc
      unfold cntP at hc
      obtain ⟨k, hk, rfl⟩ := List.mem_map.mp hc
      exact (hck k hk).2.2.1
    · rw [← ecl, List.length_map]
      omega
    have hil : i < s'.clo.length := by
      obtain ⟨_, _, _, _, z, _⟩ := hpk
      have := plcs_lt z
      rwa [← ecl, List.length_map] at this
    obtain ⟨k, hik⟩ : ∃ k, s'.clo[i]? = some k := ⟨_, List.getElem?_eq_getElem hil⟩
    have p6 := p5.ext e6
    have hlc6 := e6 _ _ hlc5 (by intro _ z; cases z)
    have hse6 := e6 _ _ hse5 (by intro _ z; cases z)
    obtain ⟨hkl, hfk, _, hkp⟩ := hck k (List.mem_of_getElem? hik)
    have e7 : (cntP s')[i]? = some (s'.liv.getD k 0) := by
      unfold cntP
      rw [List.getElem?_map, hik]
      rfl
    refine ⟨.int cp, rfl, _, rfl, _, rfl, u, _, (i : Int), .int (s'.liv.getD k 0), rfl, rfl, ext_tup e6 (SqT.of hu5), atI_nat (by rw [List.getElem?_map, e7]; rfl), _, _, rfl, rfl, ?_⟩
    refine ⟨_, rfl, .inl ⟨rfl, _, SqL.of hlc6⟩, cons_read ⟨_, rfl, x, C, A'.dx, _, _, rfl, p6.ins, PC.cl, PC.n5, rfl, _, rfl, A'.acl, _, (i : Int), nV k, rfl, rfl, SqL.of p6.clo, atI_nat (by rw [List.getElem?_map, hik]; rfl), nil_read ⟨lc, cl.map nV, _, rfl, rfl, hlc6, by rw [List.length_map, sizeLine_eq]; omega, ?_⟩⟩⟩
    have elst : cl.map nV ++ [nV k] = (cl ++ [k]).map nV := by rw [List.map_append]; rfl
    dsimp only
    rw [elst]
    have kp7 : ∀ b o, b ≠ lc → H6 b = some o → (L2.upd H6 lc (.lst ((cl ++ [k]).map nV))) b = some o := fun b o nb e => by rw [upd_ne nb]; exact e
    have hlc7 : (L2.upd H6 lc (.lst ((cl ++ [k]).map nV))) lc = some (.lst ((cl ++ [k]).map nV)) := upd_same
    have p7 : PlayAt C (L2.upd H6 lc (.lst ((cl ++ [k]).map nV))) x s' A' := play_but p6 lp.nlc hlc6 (by intro _ z; cases z) kp7
    have d7 : DrvAt K CD (L2.upd H6 lc (.lst ((cl ++ [k]).map nV))) A.dr b p n ini y := drv_kind (DrvAt.extN d5 e6) hlc6 (by intro _ z; cases z) (by intro _ _ z; cases z) (by intro _ _ _ z; cases z) kp7
    have t7 : Tabs T (L2.upd H6 lc (.lst ((cl ++ [k]).map nV))) := tabs_upd hlc6 t6
    have frm7 : FrmN (A.foot x) H (L2.upd H6 lc (.lst ((cl ++ [k]).map nV))) := fun b o e nb nt => by
      rw [upd_ne (ne_of_none e nlc)]
      exact e6 _ _ (frm5 b o e nb nt) nt
    have hse7 := kp7 _ _ (Ne.symm hlcs) hse6
    have tups7 : TupsOf K (L2.upd H6 lc (.lst ((cl ++ [k]).map nV))) L' := fun pr hpr => tup_kind (ext_tup e6 (tups5 pr hpr)) hlc6 (by intro _ z; cases z) (by intro _ _ z; cases z) kp7
    generalize L2.upd H6 lc (.lst ((cl ++ [k]).map nV)) = H7 at hlc7 p7 d7 t7 frm7 hse7 tups7 kp7 ⊢
    refine ⟨_, rfl, _, rfl, x, s', A', i, k, f, b, p, n, ini, y, rfl, p7, hfit, hik, by rw [hrd.fre]; rfl, hkl, hrd.fl, hfk, hrd.fe, hkp, by rw [lp.dr]; exact d7, by rw [lp.dr]; exact hdx, fun H8 A8 p8 hdr8 f8 g8 => ?_⟩
    have nse7 : se ∉ A'.foot x := ext_foot p7 hse7
    have hco' := hgo hnin i k hpk hik
    have lp8 : Lop P w K T CD C p b n ini y rows x lc se s A H (cntP s' :: seen) (cleanP p s' i k f) A8 (cl ++ [k]) (cp + s'.liv.getD k 0) H8 := by
      refine ⟨p8, hdr8.trans lp.dr, fun b o e nb nt => ?_, fun a z => ?_, f8 _ _ hlc7 lp.nlc, not_in_foot p7 lp.nlc (by rw [hlc7]; simp) g8, ⟨L', f8 _ _ hse7 nse7, fun pr hpr => tup_frm p7 f8 (tups7 pr hpr), hL5.1, hL5.2⟩, ?_, tabs_frm p7 f8 t7, fun s1 k2 cl2 cp2 z => ?_, fun s2 z => lp.fws s2 (.step hfil hrd.fre hik hnin hpk z)⟩
      · have e7 := frm7 b o e nb nt
        refine f8 b o e7 fun z => ?_
        rcases lp.foot b z with z | z
        · exact nb z
        · obtain ⟨ps, e2⟩ := z o e
          exact nt ps e2
      · rcases g8 a z with z | z
        · exact lp.foot a z
        · exact foot_back frm7 z
      · have z2 := drv_frm p7 f8 (by rw [lp.dr]; exact hdx) (by rw [lp.dr]; exact d7)
        rw [lp.dr] at z2
        exact z2
      · have e9 := lp.fw s1 k2 (k :: cl2) (s'.liv.getD k 0 + cp2) (.step hfil hrd.fre hik hnin hpk z)
        rw [List.append_assoc, Int.add_assoc]
        exact e9
    by_cases hf8 : (cleanP p s' i k f).fil = none
    · exact ⟨m, Nat.lt_succ_self m, .inr (.inr ⟨by omega, hs1, _, _, A8, _, _, _, _, _, rfl, lp8, hf8, hco', by rw [List.length_cons]; omega, by rw [List.length_append]; show cl.length + 1 ≤ seen.length + 1; omega⟩)⟩
    · obtain ⟨k8, hop⟩ : ∃ k8, Opened (cleanP p s' i k f) k8 := by
        cases m with
        | zero => exact hco'
        | succ m =>
          rcases hco' with z | ⟨z, _⟩
          · exact z
          · exact absurd z hf8
      exact ⟨0, Nat.succ_pos m, .inl ⟨rfl, toOp _ _ A8 _ _ _ _ _ _ H8 k8 (fun _ => hs1.2) lp8 hop⟩⟩
end
end K6

set_option Elab.async false
set_option linter.all false
set_option maxRecDepth 100000
set_option maxHeartbeats 4000000
namespace K6
open PySem PySem.Spec PyProof.Rows L2 G1 G2 K2 G5 LamX
/-- a let event -/
def EvtOkG (p n : Nat) (rows : List RowD) (st : Bool) (s : Pl) (wd nm : Str) : Prop := s.liv.length = s.cont.length ∧ s.told.length ≤ 10000 ∧ (wd = "write" ∨ wd = "trim") ∧
  ((valV s.hom (.inr nm) = none ∧ wd = "write" ∧ s.hom.length ≠ n ∧ BrgG p rows st s) ∨ ∃ h j, LivesAt s nm h j ∧ (wd = "write" → BrgG p rows st (dieP s h j nm)))
def EvtRG (p : Nat) (rows : List RowD) (s s' : Pl) (wd nm : Str) : Prop := ∃ s0, DeadR s s0 nm ∧
  ((wd = "trim" ∧ s' = { s0 with told := s0.told ++ [(none, [], 0)] }) ∨ (wd = "write" ∧ ∃ (s1 : Pl) (k : Nat) (cl : List Nat) (cp : Int), OpnG p rows s0 s1 k cl cp ∧ s' = putP p { s1 with told := s1.told ++ [(some k, cl, cp)] } k nm))
def EvtStuck (p : Nat) (rows : List RowD) (s s2 : Pl) (wd nm : Str) : Prop := ∃ s0, DeadR s s0 nm ∧ wd = "write" ∧ s0.fil = none ∧ s0.free.length ≤ 1 ∧ Stuck p rows [] s0 s2
def spEvtG (K : PySem.W.Frag) (T : List (Addr × Str)) (st : Bool) (CD C : Addr) : Sp := fun vs H Q _ => ∃ (x e : Addr) (wd nm : Str) (s : Pl) (A : PAd) (b p n : Nat) (ini : List RowD) (y : Str), vs = [.ref x, .ref e] ∧ SqT K H e [.str wd, .str nm] ∧ PlayAt C H x s A ∧ EvtOkG p n (ini ++ [((p : Int), y)]) st s wd nm ∧ (∀ r ∈ ini ++ [((p : Int), y)], r.2 ∈ wordsL) ∧ DrvAt K CD H A.dr b p n ini y ∧ A.dr ≠ x ∧ Tabs T H ∧
  (∀ (H' : Hp) (A' : PAd) (s' : Pl), EvtRG p (ini ++ [((p : Int), y)]) s s' wd nm → PlayAt C H' x s' A' → A'.dr = A.dr → FrmN (A.foot x) H H' → (∀ a ∈ A'.foot x, a ∈ A.foot x ∨ NwN H a) → Tabs T H' → Q (.bl true) H') ∧
  (st = true → ∀ (H' : Hp) (A' : PAd) (s2 : Pl), EvtStuck p (ini ++ [((p : Int), y)]) s s2 wd nm → PlayAt C H' x s2 A' → A'.dr = A.dr → FrmN (A.foot x) H H' → (∀ a ∈ A'.foot x, a ∈ A.foot x ∨ NwN H a) → Tabs T H' → Q (.bl false) H')
section
variable {P : Program} {w : World} {K : PySem.W.Frag} {mg : Str → Option Value} {base : Heap} {CD C : Addr}
theorem evt_tailG {D : Ends} {st : Bool} {T : List (Addr × Str)} {H1 : Hp} {x e : Addr} {wd nm : Str} {s0 : Pl} {A : PAd} {b p n : Nat} {ini : List RowD} {y : Str} (PC : PCls K C) (p1 : PlayAt C H1 x s0 A) (hbr : wd = "write" → BrgG p (ini ++ [((p : Int), y)]) st s0) (hw : wd = "write" ∨ wd = "trim") (htl : s0.told.length ≤ 10000) (d1 : DrvAt K CD H1 A.dr b p n ini y) (hdx : A.dr ≠ x) (t1 : Tabs T H1) (hwd : ∀ r ∈ ini ++ [((p : Int), y)], r.2 ∈ wordsL)
    (q : ∀ (H' : Hp) (A' : PAd) (s' : Pl), ((wd = "trim" ∧ s' = { s0 with told := s0.told ++ [(none, [], 0)] }) ∨ (wd = "write" ∧ ∃ (s1 : Pl) (k : Nat) (cl : List Nat) (cp : Int), OpnG p (ini ++ [((p : Int), y)]) s0 s1 k cl cp ∧ s' = putP p { s1 with told := s1.told ++ [(some k, cl, cp)] } k nm)) → PlayAt C H' x s' A' → A'.dr = A.dr → FrmN (A.foot x) H1 H' → (∀ a ∈ A'.foot x, a ∈ A.foot x ∨ NwN H1 a) → Tabs T H' → D.rt (.bl true) H')
    (qs : (st = true → ∀ (H' : Hp) (A' : PAd) (s2 : Pl), wd = "write" → s0.fil = none → s0.free.length ≤ 1 → Stuck p (ini ++ [((p : Int), y)]) [] s0 s2 → PlayAt C H' x s2 A' → A'.dr = A.dr → FrmN (A.foot x) H1 H' → (∀ a ∈ A'.foot x, a ∈ A.foot x ∨ NwN H1 a) → Tabs T H' → D.rt (.bl false) H')) :
    tSeq (tIfS (tTest (tOp rEq (tVar 2) (tC (V.str "trim")))) (tSeq (tDrop (tBM K "list" rAppend (tFld K (tVar 0) "told") (tCons (tTup (tCons (tC V.non) (tCons (tTup tNil) (tCons (tC (V.int 0)) tNil)))) tNil))) (tRet (tC (V.bl true)))) tNext)
      (tRet (tCall (spBrgG K T st CD C) [] E0 (tCons (tVar 0) (tCons (tVar 3) tNil)))) D [some (.ref x), some (.ref e), some (.str wd), some (.str nm)] H1 := by
  rcases hw with w | w
  · subst w
    refine seq_if6 (test_read6 (op_read ⟨_, rfl, c_read ⟨rfl, _, rfl, iteF ?_⟩⟩))
    refine ret_read (call_read (cons_read ⟨_, rfl, cons_read ⟨_, rfl, nil_read ?_⟩⟩))
    exact ⟨x, nm, s0, A, b, p, n, ini, y, rfl, p1, hbr rfl, hwd, d1, hdx, t1, fun H' A' s1 k cl cp ho p' hdr f g t => q H' A' _ (.inr ⟨rfl, s1, k, cl, cp, ho, rfl⟩) p' hdr f g t, fun e H' A' s2 z1 z2 z3 p' hdr f g t => qs e H' A' s2 rfl z1 z2 z3 p' hdr f g t⟩
  · subst w
    refine seq_if6 (test_read6 (op_read ⟨_, rfl, c_read ⟨rfl, _, rfl, iteT ?_⟩⟩))
    have htl1 : A.rt.length ≤ 10000 := by rw [Paired.length p1.tat]; exact htl
    refine ⟨_, rfl, x, C, A.dx, _, _, rfl, p1.ins, PC.cl, PC.n8, rfl, .inl ⟨rfl, _, SqL.of p1.told⟩, cons_read (tup_read (cons_read (c_read (cons_read (tup_read (nil_read ⟨by show 0 ≤ sizeLine; decide, fun q1 nq1 => ?_⟩))))))⟩
    refine cons_read (c_read (nil_read ⟨by show 3 ≤ sizeLine; decide, fun u nu => nil_read ⟨A.ta, A.rt.map V.ref, _, rfl, rfl, ?_, ?_, ?_⟩⟩))
    · exact (same_lay nu) _ _ ((same_lay nq1) _ _ p1.told)
    · rw [List.length_map, sizeLine_eq]; omega
    have sB : Same H1 (L2.upd (L2.upd H1 q1 (.tup [])) u (.tup [.non, .ref q1, .int 0])) := (same_lay nq1).trans (same_lay nu)
    have ht : TldAt (L2.upd (L2.upd H1 q1 (.tup [])) u (.tup [.non, .ref q1, .int 0])) u (none, [], 0) := ⟨q1, upd_same, (same_lay nu) _ _ upd_same⟩
    have p5 := (p1.same sB).told_put ht
    have f5 := (Frm.same (F := A.foot x) sB).upd (o := .lst (A.rt.map V.ref ++ [.ref u])) (foot_ls (A := A) (x := x) (a := A.ta) (by unfold PAd.ls; simp))
    show D.rt (.bl true) _
    exact q _ _ _ (.inl ⟨rfl, rfl⟩) p5 rfl (.of f5) (fun a z => .inl z) (tabs_frm p1 f5 t1)
theorem ok_evtG {f0 : Addr} {fd : FuncData} {T : List (Addr × Str)} {st : Bool} (F : Fun K "play_event" "play_event" sEvt f0 fd) (B : Bl mg) (gT : ∃ t, mg "TRIM" = some (.str "trim" t)) (M : DD P w K mg base CD) (PC : PCls K C) (GL : FAt P w K mg base 1 "let_name_die" ["play", "name"] (spDie C)) (GB : FAt P w K mg base 5 "bring_name" ["play", "name"] (spBrgG K T st CD C)) :
    FnOk P w K mg base CX0 6 f0 fd ["play", "event"] (spEvtG K T st CD C) := by
  refine F.ok scEvt (fun vs H Q E h => ?_) (fun cdv A0 outer s0 H vs Q E hr h => ?_)
  · obtain ⟨x, e, wd, nm, s, A, b, p, n, ini, y, rfl, _⟩ := h
    rfl
  obtain ⟨x, e, wd, nm, s, A, b, p, n, ini, y, rfl, he, hp, hok, hwd, hd, hdx, hT, q, qs⟩ := h
  obtain ⟨fL, dL, GL, kL, bL, gL⟩ := GL.ex
  obtain ⟨fB, dB, GB, kB, bB, gB⟩ := GB.ex
  obtain ⟨pp, gp, fp, P2, F2, B2⟩ := M.pn.ex
  obtain ⟨tT, cT⟩ := gT
  refine ⟨_, pss_cons (ps_asg (pv 1) (pg_tup rfl (pgs_cons (pg_name (i := 2) scEvt.nd rfl (.inl rfl)) (pgs_cons (pg_name (i := 3) scEvt.nd rfl (.inl rfl)) pgs_nil))))
    (pss_cons (ps_if (pt_cmp (pc_din (hu_of hr) (pv 3) (pe_fld (pv 0) rfl)))
        (pss_one (ps_expr (pe_call GL (hr.mono (by decide)) (by rfl) gL kL bL .nil pass0 (pa_cons (pv 0) (pa_cons (pv 3) pa_nil)))))
        (pss_one (ps_if (PW.pt (pw_or (pt_cmpR op_eq (pv 2) (pe_glob (v := .str "trim") rfl cT ⟨_, rfl⟩) (nomark _)) (pw_or1 (pt_cmpR op_eq (pe_callB call_lenD (by rfl) B.len PySem.boot_len (pa_cons (pe_fld (pv 0) rfl) pa_nil)) (pe_prop (pe_fld (pv 0) rfl) M.T.cl P2 F2 (hr.mono (by decide)) B2 .nil pass0 rfl) (nomark _))))) (pss_one (ps_ret pe_bl)) pss_nil)))
    (pss_cons (ps_if (pt_cmpR op_eq (pv 2) (pe_glob (v := .str "trim") rfl cT ⟨_, rfl⟩) (nomark _))
        (pss_cons (ps_expr (pe_bm PySem.F.plainAttrs_list PySem.F.slot_list_append PySem.F.type_list_append mt_append (pe_fld (pv 0) rfl) (pa_cons (pe_tup (pa_cons pe_non (pa_cons (pe_tup pa_nil) (pa_cons pe_int pa_nil)))) pa_nil)))
        (pss_one (ps_ret pe_bl))) pss_nil)
    (pss_one (ps_ret (pe_call GB hr (by rfl) gB kB bB .nil pass0 (pa_cons (pv 0) (pa_cons (pv 3) pa_nil))))))), ?_⟩
  obtain ⟨hlv, htl, hw, hc⟩ := hok
  refine seq_asg ⟨_, rfl, e, _, rfl, he, rfl, _, _, rfl, _, _, rfl, rfl, ?_⟩
  refine seq_ifE (b_read9 ⟨_, rfl, _, rfl, x, C, A.dx, _, _, rfl, hp.ins, PC.cl, PC.n7, rfl, A.ad, valV s.hom (.inr nm), rfl, DGet.k (k := Sum.inr nm) hp.hom, _, rfl, ?_⟩)
  rcases hc with ⟨hn, hwr, hnn, hbr⟩ | ⟨h, j, hl, hbr⟩
  · rw [hn]
    refine iteF ?_
    obtain ⟨dd, td, hd', _⟩ := id hd
    subst hwr
    refine ⟨_, rfl, rfl, _, rfl, iteF ?_⟩
    refine ⟨_, rfl, x, C, A.dx, _, _, rfl, hp.ins, PC.cl, PC.n7, rfl, nil_read ⟨A.ad, _, rfl, hp.hom, ?_⟩⟩
    refine ⟨_, rfl, x, C, A.dx, _, _, rfl, hp.ins, PC.cl, PC.n1, rfl, A.dr, dd, _, rfl, hd', A.dr, dd, _, _, rfl, hd', rfl, rfl, _, rfl, ?_⟩
    rw [eqI6, decide_eq_false (by omega)]
    refine iteF ?_
    exact evt_tailG PC hp (fun _ => hbr) hw htl hd hdx hT hwd (fun H' A' s' z p' hdr f g t => q H' A' s' ⟨s, .inl ⟨hn, rfl⟩, z⟩ p' hdr f g t) fun e H' A' s2 z0 z1 z2 z3 p' hdr f g t => qs e H' A' s2 ⟨s, .inl ⟨hn, rfl⟩, rfl, z1, z2, z3⟩ p' hdr f g t
  · rw [hl.hom]
    refine iteT ?_
    refine ⟨_, rfl, _, rfl, x, nm, s, A, h, j, rfl, hp, hlv, hl.hom, hl.blk, hl.pg, hl.fst, fun H1 p1 f1 => ?_⟩
    exact evt_tailG PC p1 hbr hw htl (drv_frm hp f1 hdx hd) hdx (tabs_frm hp f1 hT) hwd (fun H' A' s' z p' hdr f g t => q H' A' s' ⟨_, .inr ⟨h, j, hl, rfl⟩, z⟩ p' hdr ((FrmN.of f1).trans f) (fun a m => (g a m).imp id fun z => (FrmN.of f1).back (fun b hb => foot_some p1 b hb) z) t) fun e H' A' s2 z0 z1 z2 z3 p' hdr f g t => qs e H' A' s2 ⟨_, .inr ⟨h, j, hl, rfl⟩, z0, z1, z2, z3⟩ p' hdr ((FrmN.of f1).trans f) (fun a m => (g a m).imp id fun z => (FrmN.of f1).back (fun b hb => foot_some p1 b hb) z) t
end
end K6

set_option Elab.async false
set_option linter.all false
set_option maxRecDepth 100000
set_option maxHeartbeats 4000000
namespace K6
open PySem PySem.Spec PyProof.Rows L2 G1 G2 K2 G5 LamX
/-- every event is let, however the ones before it went -/
def LoadOkG (p n : Nat) (rows : List RowD) : Pl → List (Str × Str) → Prop
  | _, [] => True
  | s, e :: es => EvtOkG p n rows false s e.1 e.2 ∧ NameOk e.2 ∧ ∀ s', EvtRG p rows s s' e.1 e.2 → LoadOkG p n rows s' es
def PlaysToG (p : Nat) (rows : List RowD) : Pl → List (Str × Str) → Pl → Prop
  | s, [], s' => s' = s
  | s, e :: es, s' => ∃ s1, EvtRG p rows s s1 e.1 e.2 ∧ PlaysToG p rows s1 es s'
theorem plays_snocG {p : Nat} {rows : List RowD} : ∀ {es : List (Str × Str)} {s s1 s2 : Pl} {e : Str × Str}, PlaysToG p rows s es s1 → EvtRG p rows s1 s2 e.1 e.2 → PlaysToG p rows s (es ++ [e]) s2
  | [], s, s1, s2, e, h, h2 => by
    cases (show s1 = s from h)
    exact ⟨s2, h2, rfl⟩
  | _ :: es, s, s1, s2, e, ⟨s0, h0, h⟩, h2 => ⟨s0, h0, plays_snocG h h2⟩
def spLodG (K : PySem.W.Frag) (T : List (Addr × Str)) (CD C : Addr) : Sp := fun vs H Q _ => ∃ (dr ld : Addr) (eas : List Addr) (es : List (Str × Str)) (b p n : Nat) (ini : List RowD) (y : Str), vs = [.ref dr, .ref ld] ∧ SqT K H ld (eas.map V.ref) ∧ Paired (fun (a : Addr) (e : Str × Str) => SqT K H a [.str e.1, .str e.2]) eas es ∧ DrvAt K CD H dr b p n ini y ∧ b ≤ 10 ∧ (∀ r ∈ ini ++ [((p : Int), y)], r.2 ∈ wordsL) ∧ LoadOkG p n (ini ++ [((p : Int), y)]) (newP b) es ∧ es.length ≤ 2000 ∧ Tabs T H ∧
  ∀ (H' : Hp) (x : Addr) (s' : Pl) (A : PAd), PlaysToG p (ini ++ [((p : Int), y)]) (newP b) es s' → PlayAt C H' x s' A → A.dr = dr → H x = none → ExtN H H' → Tabs T H' → Q (.ref x) H'
section
variable {P : Program} {w : World} {K : PySem.W.Frag} {mg : Str → Option Value} {base : Heap} {CD C : Addr}
theorem ok_lodG {f0 fI : Addr} {fd fdI : FuncData} {T : List (Addr × Str)} (F : Fun K "play_load" "play_load" sLod f0 fd) (B : Bl mg) (gM : ∃ t, mg "MOST_EVENTS" = some (.int 2000 t)) (MP : Mk K C fI) (GI : FnOk P w K mg base CX0 3 fI fdI ["self", "drive"] (spPin K CD C)) (bI : Binds K fdI ["self", "drive"] []) (gP : mg "Play" = some (.ref C))
    (GE : FAt P w K mg base 2 "is_event" ["value"] (spIev K)) (GV : FAt P w K mg base 6 "play_event" ["play", "event"] (spEvtG K T false CD C)) : FnOk P w K mg base CX0 7 f0 fd ["drive", "load"] (spLodG K T CD C) := by
  refine F.ok scLod (fun vs H Q E h => ?_) (fun cdv A0 outer s0 H vs Q E hr h => ?_)
  · obtain ⟨dr, ld, eas, es, b, p, n, ini, y, rfl, _⟩ := h
    rfl
  obtain ⟨dr, ld, eas, es, b, p, n, ini, y, rfl, hld, hes, hd, hb, hwd, hok, hlen, hT, q⟩ := h
  obtain ⟨fE, dE, GE, kE, bE, gE⟩ := GE.ex
  obtain ⟨fV, dV, GV, kV, bV, gV⟩ := GV.ex
  obtain ⟨tM, cM⟩ := gM
  refine ⟨_, pss_cons (ps_if (pt_not (pt_val (pe_callB call_isi (by rfl) B.isi bIsi (pa_cons (pv 1) (pa_cons (pe_bltn (v := .ty "tuple") (by rfl) B.tup bTup rfl) pa_nil))))) (pss_one ps_never) pss_nil)
    (pss_cons (ps_set (i := 2) scLod.nd rfl (.inl rfl) (pe_make MP GI (hr.mono (by decide)) (by rfl) gP bI .nil pass0 (pa_cons (pv 0) pa_nil)))
    (pss_cons (ps_for PassesOwn.never rfl (pi_enumT (by rfl) B.enm (pa_cons (pv 1) pa_nil)) (pg_tup rfl (pgs_cons (pg_name (i := 3) scLod.nd rfl (.inl rfl)) (pgs_cons (pg_name (i := 4) scLod.nd rfl (.inl rfl)) pgs_nil)))
      (pss_one (ps_if (PW.pt (pw_or (pt_cmpR op_eq (pv 3) (pe_glob (v := .int 2000) rfl cM ⟨_, rfl⟩) (nomark _)) (pw_or (pt_not (pt_val (pe_call GE (hr.mono (by decide)) (by rfl) gE kE bE .nil pass0 (pa_cons (pv 4) pa_nil))))
        (pw_or1 (pt_not (pt_val (pe_call GV hr (by rfl) gV kV bV .nil pass0 (pa_cons (pv 2) (pa_cons (pv 4) pa_nil))))))))) (pss_one ps_never) pss_nil)))
    (pss_one (ps_ret (pv 2))))), ?_⟩
  generalize erows : ini ++ [((p : Int), y)] = rows at hwd hok q
  refine ⟨_, rfl, _, _, _, _, true, rfl, .ty _, tup_ty hld, kit_ty (by decide +kernel), true, rfl, iteF ?_⟩
  refine nx_read ?_
  dsimp only
  refine seq_asg ⟨_, rfl, fun x dx nx nd ne => ?_⟩
  have sm : Same H (L2.upd (L2.upd H dx (.own x)) x (.ins C dx [])) := fun c o e => by rw [upd_ne (ne_of_none e nx), upd_ne (ne_of_none e nd)]; exact e
  have hdrx : dr ≠ x := by
    obtain ⟨_, _, z, _⟩ := id hd
    exact ne_of_none z nx
  refine ⟨x, dx, dr, b, p, n, ini, y, rfl, upd_same, hd.same sm, hdrx, hb, fun H1 A p1 hdr g1 k1 => ⟨rfl, ?_⟩⟩
  have s1 : Same H H1 := fun c o e => k1 c o (sm c o e) (ne_of_none e nx)
  have w1 : ∀ a ∈ A.foot x, NwN H a := fun a z => by
    rcases g1 a z with e | e
    · exact .of (e ▸ nx)
    · refine .of ?_
      cases e2 : H a with
      | none => rfl
      | some o => rw [sm _ _ e2] at e; cases e
  refine seq_for fun D' hD1 hD2 => ?_
  refine ⟨_, rfl, ld, _, rfl, K2.Same.tup s1 hld, ?_⟩
  have hle : eas.length = es.length := Paired.length hes
  refine for_enumT (K := K) (xs := eas.map V.ref) (fun i σ H' => ∃ (s2 : Pl) (A2 : PAd) (x3 x4 : Option V), σ = [some (.ref dr), some (.ref ld), some (.ref x), x3, x4] ∧ PlayAt C H' x s2 A2 ∧ A2.dr = dr ∧ PlaysToG p rows (newP b) (es.take i) s2 ∧ LoadOkG p n rows s2 (es.drop i) ∧ ExtN H H' ∧ (∀ a ∈ A2.foot x, NwN H a) ∧ Tabs T H') ⟨newP b, A, none, none, rfl, p1, hdr, rfl, hok, .of s1, w1, hT.ext s1⟩ (fun i σ H' z => ?_) ?_ ?_
  · obtain ⟨_, _, _, _, _, _, _, _, _, z, _⟩ := z
    exact ext_tup z hld
  · rintro i v T1 σ H' hi ⟨s2, A2, x3, x4, rfl, p2, hdr2, pl2, ok2, e2, w2, t2⟩ hT1
    rw [List.getElem?_map] at hi
    obtain ⟨a, ha, rfl⟩ : ∃ a, eas[i]? = some a ∧ V.ref a = v := by
      cases hq : eas[i]? with
      | none => rw [hq] at hi; cases hi
      | some a => rw [hq] at hi; exact ⟨a, rfl, Option.some.inj hi⟩
    obtain ⟨ev, hev, hat⟩ := K2.paired_get hes ha
    have hil := (List.getElem?_eq_some_iff.mp hev).1
    have edr : es.drop i = ev :: es.drop (i + 1) := by
      rw [List.drop_eq_getElem_cons hil]
      rw [List.getElem?_eq_getElem hil] at hev
      rw [Option.some.inj hev]
    rw [edr] at ok2
    obtain ⟨o1, o2, o3⟩ := ok2
    have sT : Same H' (L2.upd H' T1 (.tup [.int (i : Nat), .ref a])) := same_lay hT1
    refine ⟨T1, _, rfl, SqT.of upd_same, rfl, _, _, rfl, _, _, rfl, rfl, ?_⟩
    refine ⟨_, rfl, rfl, _, rfl, ?_⟩
    rw [eqI6, decide_eq_false (by omega)]
    have eT : ExtN H (L2.upd H' T1 (.tup [.int (i : Nat), .ref a])) := e2.trans (.of sT)
    refine iteF ⟨_, rfl, a, ev.1, ev.2, rfl, ext_tup eT hat, o1.2.2.1, o2, fun H3 s3 => ⟨true, rfl, iteF ?_⟩⟩
    have e3 : ExtN H H3 := eT.trans (.of s3)
    have s23 : Same H' H3 := sT.trans s3
    refine ⟨_, rfl, _, rfl, x, a, ev.1, ev.2, s2, A2, b, p, n, ini, y, rfl, ext_tup e3 hat, p2.same s23, by rw [erows]; exact o1, by rw [erows]; exact hwd, by rw [hdr2]; exact DrvAt.extN hd e3, by rw [hdr2]; exact hdrx, t2.ext s23, (fun H4 A4 s4 r4 p4 dr4 f4 g4 t4 => ⟨true, rfl, iteF ?_⟩), fun z => by cases z⟩
    rw [erows] at r4
    refine ⟨s4, A4, _, _, rfl, p4, by rw [dr4]; exact hdr2, ?_, o3 s4 r4, fun c o e nt => ?_, fun c z => ?_, t4⟩
    · rw [List.take_add_one, hev]
      exact plays_snocG pl2 r4
    · refine f4 c o (e3 c o e nt) (fun z => ?_) nt
      obtain ⟨ps, z2⟩ := w2 c z o e
      exact nt ps z2
    · rcases g4 c z with z | z
      · exact w2 c z
      · intro o e
        by_cases nt : ∃ ps, o = .tbl ps
        · exact nt
        · exact z o (e3 c o e fun ps z => nt ⟨ps, z⟩)
  · rintro σ H' ⟨s2, A2, x3, x4, rfl, p2, hdr2, pl2, ok2, e2, w2, t2⟩
    rw [hD1]
    rw [List.length_map, hle, List.take_length] at pl2
    refine ⟨_, rfl, ?_⟩
    exact q H' x s2 A2 pl2 p2 hdr2 nx e2 t2
end
end K6

set_option Elab.async false
set_option linter.all false
set_option maxRecDepth 100000
set_option maxHeartbeats 4000000
namespace K6
open PySem PySem.Spec PyProof.Rows L2 G1 G2 K2 G5 LamX
def spBloG (K : PySem.W.Frag) (T : List (Addr × Str)) (CD C : Addr) : Sp := fun vs H Q _ => ∃ (dr ld : Addr) (eas : List Addr) (es : List (Str × Str)) (b p n : Nat) (ini : List RowD) (y : Str), vs = [.ref dr, .ref ld] ∧ SqT K H ld (eas.map V.ref) ∧ Paired (fun (a : Addr) (e : Str × Str) => SqT K H a [.str e.1, .str e.2]) eas es ∧ DrvAt K CD H dr b p n ini y ∧ b ≤ 10 ∧ (∀ r ∈ ini ++ [((p : Int), y)], r.2 ∈ wordsL) ∧ LoadOkG p n (ini ++ [((p : Int), y)]) (newP b) es ∧ es.length ≤ 2000 ∧ Tabs T H ∧
  (∀ s', PlaysToG p (ini ++ [((p : Int), y)]) (newP b) es s' → s'.cont.length ≤ 10 ∧ ∀ c ∈ s'.cont, c.length ≤ 10) ∧
  ∀ (H' : Hp) (t : Addr) (rs : List Addr) (s' : Pl), PlaysToG p (ini ++ [((p : Int), y)]) (newP b) es s' → H' t = some (.tup (rs.map V.ref)) → Paired (BlAt H') rs ((List.range s'.cont.length).map (bloM s')) → ExtN H H' → Tabs T H' → Q (.ref t) H'
section
variable {P : Program} {w : World} {K : PySem.W.Frag} {mg : Str → Option Value} {base : Heap} {CD C : Addr}
theorem ok_bloG {f0 : Addr} {fd : FuncData} {T : List (Addr × Str)} (F : Fun K "blocks_of" "blocks_of" sBlo f0 fd) (B : Bl mg) (PC : PCls K C) (GD : FAt P w K mg base 1 "check_drive" ["drive"] (spCkd K CD)) (GL : FAt P w K mg base 7 "play_load" ["drive", "load"] (spLodG K T CD C)) : FnOk P w K mg base CX0 8 f0 fd ["drive", "load"] (spBloG K T CD C) := by
  refine F.ok scBlo (fun vs H Q E h => ?_) (fun cdv A0 outer s0 H vs Q E hr h => ?_)
  · obtain ⟨dr, ld, eas, es, b, p, n, ini, y, rfl, _⟩ := h
    rfl
  obtain ⟨dr, ld, eas, es, b, p, n, ini, y, rfl, hld, hes, hd, hb, hwd, hok, hlen, hT, hsz, q⟩ := h
  obtain ⟨fD, dD, GD, kD, bD, gD⟩ := GD.ex
  obtain ⟨fL, dL, GL, kL, bL, gL⟩ := GL.ex
  refine ⟨_, pss_cons (ps_expr (pe_call GD (hr.mono (by decide)) (by rfl) gD kD bD .nil pass0 (pa_cons (pv 0) pa_nil)))
    (pss_cons (ps_set (i := 2) scBlo.nd rfl (.inl rfl) (pe_call GL hr (by rfl) gL kL bL .nil pass0 (pa_cons (pv 0) (pa_cons (pv 1) pa_nil))))
    (pss_cons (ps_set (i := 3) scBlo.nd rfl (.inl rfl) (pe_lst pa_nil))
    (pss_cons (ps_for PassesOwn.never rfl (pi_enum (by rfl) B.enm (pa_cons (pe_fld (pv 2) rfl) pa_nil)) (pg_tup rfl (pgs_cons (pg_name (i := 4) scBlo.nd rfl (.inl rfl)) (pgs_cons (pg_name (i := 5) scBlo.nd rfl (.inl rfl)) pgs_nil)))
      (pss_cons (ps_set (i := 6) scBlo.nd rfl (.inl rfl) (pe_ifExp (pt_cmpR op_in_seq (pv 4) (pe_fld (pv 2) rfl) (by rfl)) pe_str (pe_ifExp (pt_cmpR op_in_seq (pv 4) (pe_fld (pv 2) rfl) (by rfl)) pe_str pe_str)))
      (pss_one (ps_expr (pe_bm PySem.F.plainAttrs_list PySem.F.slot_list_append PySem.F.type_list_append mt_append (pv 3) (pa_cons (pe_tup (pa_cons (pv 6) (pa_cons (pe_callTy call_tuple_of (by rfl) B.tup bTup (pa_cons (pe_lc (own := [("name", 7)]) (g := gName 7) (tt := tTest (tOp (fun x y H Q => y = .non ∧ Q (.bl (!decide (x = .non))) H) (tVar 7) (tC .non))) (te := tVar 7) rfl scBlo.nd (pi_list (pv 5)) (blkOk_by (own := [("name", 7)]) (N := NBlo) (sc := defScope sBlo) (by decide +kernel))
        (fun _ _ _ _ _ => pg_name (i := 7) scBlo.nd rfl (Or.inl rfl)) (fun _ _ _ _ _ => pts_one (pt_cmpR op_notN (pv 7) pe_non (nomark _))) (fun _ _ _ _ _ => pv 7)) pa_nil)) pa_nil))) pa_nil))))))
    (pss_one (ps_ret (pe_callTy call_tuple_of (by rfl) B.tup bTup (pa_cons (pv 3) pa_nil))))))), ?_⟩
  refine ⟨_, rfl, dr, b, p, n, ini, y, rfl, hd, ?_⟩
  dsimp only
  refine seq_asg ?_
  refine call_read ?_
  refine cons_read ⟨_, rfl, cons_read ⟨_, rfl, nil_read ?_⟩⟩
  refine ⟨dr, ld, eas, es, b, p, n, ini, y, rfl, hld, hes, hd, hb, hwd, hok, hlen, hT, fun H1 x s1 A pl1 p1 hdr nx e1 t1 => ?_⟩
  obtain ⟨hcl, hc10⟩ := hsz s1 pl1
  refine seq_asg (lst_read (nil_read ⟨by show 0 ≤ sizeLine; decide, fun tl ntl => ?_⟩))
  refine seq_for fun D' hD1 hD2 => ?_
  have sA : Same H1 (L2.upd H1 tl (.lst [])) := same_lay ntl
  have pA := p1.same sA
  refine ⟨_, rfl, x, C, A.dx, _, _, rfl, pA.ins, PC.cl, PC.n2, rfl, nil_read ⟨A.ac, _, rfl, SqL.of pA.cont, ?_⟩⟩
  have hlr := Paired.length p1.inner
  refine for_enumL (K := K) (xs := A.rcs.map V.ref) (fun i σ H' => ∃ (x4 x5 x6 x7 : Option V) (rs : List Addr), σ = [some (.ref dr), some (.ref ld), some (.ref x), some (.ref tl), x4, x5, x6, x7] ∧ Same H1 H' ∧ H' tl = some (.lst (rs.map V.ref)) ∧ Paired (BlAt H') rs ((List.range i).map (bloM s1))) ⟨none, none, none, none, [], rfl, sA, upd_same, .nil⟩ (fun i σ H' z => ?_) ?_ ?_
  · obtain ⟨_, _, _, _, _, _, z, _⟩ := z
    exact SqL.of (z _ _ p1.cont)
  · rintro i v T1 σ H' hi ⟨x4, x5, x6, x7, rs, rfl, s2, htl, hrs⟩ hT1
    rw [List.getElem?_map] at hi
    obtain ⟨a, ha, rfl⟩ : ∃ a, A.rcs[i]? = some a ∧ V.ref a = v := by
      cases hq : A.rcs[i]? with
      | none => rw [hq] at hi; cases hi
      | some a => rw [hq] at hi; exact ⟨a, rfl, Option.some.inj hi⟩
    obtain ⟨c, hc, hin⟩ := K2.paired_get p1.inner ha
    have hcD : s1.cont.getD i [] = c := by rw [List.getD_eq_getElem?_getD, hc]; rfl
    have hc1 := hc10 c (List.mem_of_getElem? hc)
    have hil := (List.getElem?_eq_some_iff.mp ha).1
    have hrl := Paired.length hrs
    rw [List.length_map, List.length_range] at hrl
    have s3 : Same H' (L2.upd H' T1 (.tup [.int (i : Nat), .ref a])) := same_lay hT1
    refine ⟨T1, _, rfl, SqT.of upd_same, rfl, _, _, rfl, _, _, rfl, rfl, ?_⟩
    generalize L2.upd H' T1 (.tup [.int (i : Nat), .ref a]) = H3 at s3 ⊢
    have p3 := p1.same (s2.trans s3)
    refine seq_asg (state_read (i := i) PC p3 rfl rfl ?_)
    refine ⟨_, rfl, .inl ⟨rfl, _, SqL.of (s3 _ _ htl)⟩, cons_read (tup_read (cons_read ⟨_, rfl, cons_read (cb_read (cons_read ⟨_, rfl, a, rfl, ⟨_, SqL.of (s3 _ _ (s2 _ _ hin))⟩, fun D hD => ?_⟩))⟩))⟩
    refine lc_list (K := K) (xs := c.map oS) (fun j H4 => Same H3 H4 ∧ H4 D = some (.lst ((keptN (c.take j)).map V.str))) ⟨same_lay hD, upd_same⟩ (fun j H4 _ z => SqL.of (z.1 _ _ (s3 _ _ (s2 _ _ hin)))) ?_ ?_
    · rintro j v H4 hj ⟨sj, ej⟩
      rw [List.getElem?_map] at hj
      obtain ⟨o, ho, rfl⟩ : ∃ o, c[j]? = some o ∧ oS o = v := by
        cases hq : c[j]? with
        | none => rw [hq] at hj; cases hj
        | some o => rw [hq] at hj; exact ⟨o, rfl, Option.some.inj hj⟩
      have hjl := (List.getElem?_eq_some_iff.mp ho).1
      have htk : c.take (j + 1) = c.take j ++ [o] := by rw [List.take_add_one, ho]; rfl
      refine ⟨rfl, test_read6 (op_read ⟨_, rfl, c_read ⟨rfl, _, rfl, ?_⟩⟩)⟩
      cases o with
      | none =>
        refine iteF ⟨sj, ?_⟩
        rw [htk, kept_snoc, List.append_nil]
        exact ej
      | some z =>
        refine iteT ⟨_, rfl, _, ej, ?_, fun d u e => ?_, ?_⟩
        · have := kept_len (c.take j)
          rw [List.length_take] at this
          rw [List.length_map, sizeLine_eq]
          omega
        · rw [upd_ne (ne_of_none e hD)]
          exact sj _ _ e
        · rw [upd_same, htk, kept_snoc, List.map_append]
          rfl
    rintro H4 ⟨s4, hD4⟩
    rw [List.length_map, List.take_length] at hD4
    refine nil_read ⟨D, _, rfl, .inl ⟨SqL.of hD4, fun q1 nq1 => ?_⟩⟩
    refine nil_read ⟨by show 2 ≤ sizeLine; decide, fun u nu => nil_read ⟨tl, rs.map V.ref, _, rfl, rfl, ?_, ?_, ?_⟩⟩
    · exact (same_lay nu) _ _ ((same_lay nq1) _ _ (s4 _ _ (s3 _ _ htl)))
    · rw [List.length_map, sizeLine_eq]; omega
    have sU : Same H' (L2.upd (L2.upd H4 q1 (.tup ((keptN c).map V.str))) u (.tup [.str (bloM s1 i).1, .ref q1])) := s3.trans (s4.trans ((same_lay nq1).trans (same_lay nu)))
    have bU : BlAt (L2.upd (L2.upd H4 q1 (.tup ((keptN c).map V.str))) u (.tup [.str (bloM s1 i).1, .ref q1])) u (bloM s1 i) := ⟨q1, upd_same, by
      have e5 : (bloM s1 i).2 = keptN c := by
        show keptN (s1.cont.getD i []) = keptN c
        rw [hcD]
      rw [e5]
      exact (same_lay nu) _ _ upd_same⟩
    dsimp only
    generalize L2.upd (L2.upd H4 q1 (.tup ((keptN c).map V.str))) u (.tup [.str (bloM s1 i).1, .ref q1]) = H5 at sU bU ⊢
    refine ⟨_, _, _, _, rs ++ [u], rfl, fun d o e => ?_, ?_, ?_⟩
    · rw [upd_ne (ne_of_none e ntl)]
      exact sU _ _ (s2 _ _ e)
    · rw [upd_same, List.map_append]
      rfl
    · rw [List.range_succ, List.map_append]
      exact K2.paired_snoc (Paired.mapP hrs fun _ _ z => (z.same sU).upd (sU _ _ htl)) (bU.upd (sU _ _ htl))
  · rintro σ H' ⟨x4, x5, x6, x7, rs, rfl, s2, htl, hrs⟩
    rw [hD1]
    rw [List.length_map, hlr] at hrs
    refine ret_read (cb_read (cons_read ⟨_, rfl, nil_read ⟨tl, _, rfl, .inl ⟨SqL.of htl, fun t nt => ?_⟩⟩⟩))
    have sT : Same H' (L2.upd H' t (.tup (rs.map V.ref))) := same_lay nt
    exact q _ t rs s1 pl1 upd_same (Paired.mapP hrs fun _ _ z => z.same sT) (e1.trans (.of (s2.trans sT))) (t1.ext (s2.trans sT))
end
end K6

set_option Elab.async false
set_option linter.all false
set_option maxRecDepth 100000
set_option maxHeartbeats 4000000
namespace K6
open PySem PySem.Spec PyProof.Rows L2 G1 G2 K2 G5 LamX
def spStpG (K : PySem.W.Frag) (T : List (Addr × Str)) (CD C : Addr) : SpG := fun vs H Q _ => ∃ (dr ld : Addr) (eas : List Addr) (es : List (Str × Str)) (b p n : Nat) (ini : List RowD) (y : Str), vs = [.ref dr, .ref ld] ∧ SqT K H ld (eas.map V.ref) ∧ Paired (fun (a : Addr) (e : Str × Str) => SqT K H a [.str e.1, .str e.2]) eas es ∧ DrvAt K CD H dr b p n ini y ∧ b ≤ 10 ∧ (∀ r ∈ ini ++ [((p : Int), y)], r.2 ∈ wordsL) ∧ LoadOkG p n (ini ++ [((p : Int), y)]) (newP b) es ∧ es.length ≤ 2000 ∧ Tabs T H ∧
  (∀ s', PlaysToG p (ini ++ [((p : Int), y)]) (newP b) es s' → s'.told.length ≤ 10000) ∧
  ∀ (H' : Hp) (rs : List Addr) (s' : Pl), PlaysToG p (ini ++ [((p : Int), y)]) (newP b) es s' → Paired (TldAt H') rs s'.told → ExtN H H' → Tabs T H' → Q (rs.map V.ref) H'
section
variable {P : Program} {w : World} {K : PySem.W.Frag} {mg : Str → Option Value} {base : Heap} {CD C : Addr}
theorem ok_stpG {f0 : Addr} {fd : FuncData} {T : List (Addr × Str)} (F : Fun K "steps" "steps" sStp f0 fd) (B : Bl mg) (PC : PCls K C) (GD : FAt P w K mg base 1 "check_drive" ["drive"] (spCkd K CD)) (GL : FAt P w K mg base 7 "play_load" ["drive", "load"] (spLodG K T CD C)) : GFn P w K mg base 8 f0 fd ["drive", "load"] (spStpG K T CD C) := by
  obtain ⟨oc, od, kV, doc, pm, an, cdv, ct, osl, rfl, lk, hcd⟩ := F.ex
  refine gfn_of lk hcd scStp (fun vs H Q E h => ?_) (fun A0 outer s0 H vs Q E pn hr h => ?_)
  · obtain ⟨dr, ld, eas, es, b, p, n, ini, y, rfl, _⟩ := h
    rfl
  obtain ⟨dr, ld, eas, es, b, p, n, ini, y, rfl, hld, hes, hd, hb, hwd, hok, hlen, hT, hsz, q⟩ := h
  obtain ⟨fD, dD, GD, kD, bD, gD⟩ := GD.ex
  obtain ⟨fL, dL, GL, kL, bL, gL⟩ := GL.ex
  refine ⟨_, gss_cons (gs_ps (ps_expr (pe_call GD (hr.mono (by decide)) (by rfl) gD kD bD .nil pass0 (pa_cons (pv 0) pa_nil))))
    (gss_cons (gs_ps (ps_set (i := 2) scStp.nd rfl (.inl rfl) (pe_fld (pe_call GL hr (by rfl) gL kL bL .nil pass0 (pa_cons (pv 0) (pa_cons (pv 1) pa_nil))) rfl)))
    (gss_cons (gs_yieldFrom (yf_lst (pv 2)) hr.hd) gss_nil)), ?_⟩
  refine ⟨_, rfl, dr, b, p, n, ini, y, rfl, hd, ?_⟩
  refine ⟨_, rfl, _, rfl, dr, ld, eas, es, b, p, n, ini, y, rfl, hld, hes, hd, hb, hwd, hok, hlen, hT, fun H1 x s1 A pl1 p1 hdr nx e1 t1 => ?_⟩
  refine ⟨x, C, A.dx, _, _, rfl, p1.ins, PC.cl, PC.n8, rfl, ?_⟩
  have hl := hsz s1 pl1
  have hrl := Paired.length p1.tat
  refine ⟨_, rfl, A.ta, _, rfl, p1.told, ?_, ?_⟩
  · rw [sizeLine_eq, List.length_map]
    show 0 + _ ≤ _
    omega
  · exact q H1 A.rt s1 pl1 p1.tat e1 t1
end
end K6

set_option Elab.async false
set_option linter.all false
set_option maxRecDepth 100000
set_option maxHeartbeats 4000000
/-! loads that are let: how they go on, and blocks that are filled one by one -/
namespace K6
open PySem PySem.Spec PyProof.Rows L2 G1 G2 K2 G5 LamX
section
variable {p n : Nat} {rows : List RowD} {R R2 : Pl → Prop}
end
/-! ### blocks that are filled one by one -/
abbrev Cb := List (Option Str)
def livI (c : Cb) : Int := ((keptN c).length : Int)
theorem livI_some (c : Cb) (x : Str) : livI (c ++ [some x]) = livI c + 1 := by
  unfold livI
  rw [kept_snoc, List.length_append]
  rfl
section
variable {b p : Nat} {rows : List RowD} {done : List Cb} {cur : Cb} {hom : List (L2.Key × V)} {told : List Tld} {x : Str}
end
end K6

set_option Elab.async false
set_option linter.all false
set_option maxRecDepth 100000
set_option maxHeartbeats 4000000
namespace K6
open PySem PySem.Spec PyProof.Rows L2 G1 G2 K2 G5 LamX
theorem nV_inj {a b : Nat} (h : nV a = nV b) : a = b := by
  have z : V.int (a : Int) = V.int (b : Int) := h
  cases z
  rfl
section
variable {b p : Nat} {rows : List RowD} {done : List Cb} {cur : Cb} {hom : List (L2.Key × V)} {told : List Tld} {x : Str}
end
section
variable {b p m : Nat} {rows : List RowD} {done : List Cb} {cur : Cb} {x : Str} {s : Pl}
end
end K6

set_option Elab.async false
set_option linter.all false
set_option maxRecDepth 100000
set_option maxHeartbeats 4000000
/-! the write that cleans one block, behind a fill -/
namespace K6
open PySem PySem.Spec PyProof.Rows L2 G1 G2 K2 G5 LamX
theorem set_getD_self {l : List Cb} {k : Nat} (h : k < l.length) : l.set k (l.getD k []) = l := by
  rw [List.getD_eq_getElem?_getD, List.getElem?_eq_getElem h]
  exact List.set_getElem_self h
theorem puts_cont {p k : Nat} : ∀ {ns : List Str} {s : Pl}, k < s.cont.length → (putsP p k s ns).cont = s.cont.set k (s.cont.getD k [] ++ ns.map some)
  | [], s, h => by
    rw [List.map_nil, List.append_nil, set_getD_self h]
    rfl
  | nm :: ns, s, h => by
    show (putsP p k (putP p s k nm) ns).cont = _
    rw [puts_cont (by rw [put_cont, List.length_set]; exact h), put_cont, getD_set h, List.set_set, List.append_assoc]
    rfl
theorem kept_some (ns : List Str) : keptN (ns.map some) = ns := by
  unfold keptN
  rw [List.filterMap_map]
  show ns.filterMap (fun x => some x) = ns
  exact List.filterMap_some
section
variable {b p n : Nat} {rows : List RowD} {done : List Cb} {hom : List (L2.Key × V)} {told : List Tld} {x : Str}
end
/-! ### the block that is due -/
abbrev csI (lv : List Nat) : List Int := lv.map fun (v : Nat) => (v : Int)
section
variable {lv : List Nat} {few more d i : Nat} {L : Int}
end
end K6

set_option Elab.async false
set_option linter.all false
set_option maxRecDepth 100000
set_option maxHeartbeats 4000000
/-! what holds of a play at all times -/
namespace K6
open PySem PySem.Spec PyProof.Rows L2 G1 G2 K2 G5 LamX
theorem swap_perm {α : Type} (A X B : List α) : ((A ++ X) ++ B).Perm ((B ++ X) ++ A) := by
  refine List.perm_append_comm.trans ?_
  rw [List.append_assoc B X A]
  exact List.Perm.append_left B List.perm_append_comm
theorem flat_set {α β : Type} (g : α → List β) (d : α) : ∀ (l : List α) (k : Nat) (c : α), k < l.length → ((l.set k c).flatMap g ++ g (l.getD k d)).Perm (l.flatMap g ++ g c)
  | a :: l, 0, c, _ => by
    show ((c :: l).flatMap g ++ g a).Perm ((a :: l).flatMap g ++ g c)
    rw [List.flatMap_cons, List.flatMap_cons]
    exact swap_perm _ _ _
  | a :: l, k + 1, c, h => by
    have h' : k < l.length := Nat.lt_of_succ_lt_succ h
    show ((a :: l.set k c).flatMap g ++ g (l.getD k d)).Perm ((a :: l).flatMap g ++ g c)
    rw [List.flatMap_cons, List.flatMap_cons, List.append_assoc, List.append_assoc]
    exact List.Perm.append_left _ (flat_set g d l k c h')
theorem kept_flat : ∀ c : Cb, keptN c = c.flatMap Option.toList
  | [] => rfl
  | none :: c => by
    have := kept_flat c
    unfold keptN at this ⊢
    rw [List.flatMap_cons, ← this]
    rfl
  | some x :: c => by
    have := kept_flat c
    unfold keptN at this ⊢
    rw [List.flatMap_cons, ← this]
    rfl
theorem kept_die {c : Cb} {j : Nat} {x : Str} (h : c[j]? = some (some x)) : (keptN (c.set j none) ++ [x]).Perm (keptN c) := by
  have hj := (List.getElem?_eq_some_iff.mp h).1
  have z := flat_set Option.toList none c j none hj
  have e : c.getD j none = some x := by rw [List.getD_eq_getElem?_getD, h]; rfl
  rw [e] at z
  rw [kept_flat, kept_flat]
  have e2 : c.flatMap Option.toList ++ (none : Option Str).toList = c.flatMap Option.toList := List.append_nil _
  rw [e2] at z
  exact z
theorem valV_drop : ∀ (l : List (L2.Key × V)) (k j : L2.Key), valV (dropK l k) j = if j = k then none else valV l j
  | [], k, j => by split <;> rfl
  | p :: r, k, j => by
    by_cases e : p.1 = k
    · rw [dropK_pos e, valV_drop r k j]
      by_cases ej : j = k
      · rw [if_pos ej, if_pos ej]
      · rw [if_neg ej, if_neg ej, valV_neg (fun z => ej (z.symm.trans e))]
    · rw [dropK_neg e]
      by_cases ep : p.1 = j
      · rw [valV_pos ep, valV_pos ep, if_neg (fun z => e (ep.trans z))]
      · rw [valV_neg ep, valV_neg ep, valV_drop r k j]
theorem putK_keys {kvs : List (L2.Key × V)} {k : L2.Key} {v w : V} (h : valV kvs k = some w) : (putK kvs k v).map (·.1) = kvs.map (·.1) := by
  unfold putK
  rw [if_pos (by rw [valV_any, h]; rfl), List.map_map]
  refine List.map_congr_left fun kv _ => ?_
  show (if kv.1 = k then (kv.1, v) else kv).1 = kv.1
  split <;> rfl
/-- the homes once all of ns live in f -/
def homs (hom : List (L2.Key × V)) (f : Nat) (ns : List Str) : List (L2.Key × V) := ns.foldl (fun h nm => putK h (.inr nm) (nV f)) hom
theorem homs_keys {f : Nat} : ∀ {ns : List Str} {hom : List (L2.Key × V)}, (∀ x ∈ ns, ∃ w, valV hom (.inr x) = some w) → (homs hom f ns).map (·.1) = hom.map (·.1)
  | [], _, _ => rfl
  | x :: ns, hom, h => by
    obtain ⟨w, hw⟩ := h x (List.mem_cons_self ..)
    show (homs (putK hom (.inr x) (nV f)) f ns).map (·.1) = _
    rw [homs_keys (ns := ns) fun y hy => ?_, putK_keys hw]
    obtain ⟨w2, hw2⟩ := h y (List.mem_cons_of_mem _ hy)
    rw [valV_put]
    split
    · exact ⟨_, rfl⟩
    · exact ⟨w2, hw2⟩
theorem homs_val {f : Nat} {y : Str} : ∀ {ns : List Str} {hom : List (L2.Key × V)}, valV (homs hom f ns) (.inr y) = if y ∈ ns then some (nV f) else valV hom (.inr y)
  | [], hom => by rw [if_neg (List.not_mem_nil)]; rfl
  | x :: ns, hom => by
    show valV (homs (putK hom (.inr x) (nV f)) f ns) (.inr y) = _
    rw [homs_val (ns := ns), valV_put]
    by_cases e1 : y ∈ ns
    · rw [if_pos e1, if_pos (List.mem_cons_of_mem _ e1)]
    · rw [if_neg e1]
      by_cases e2 : y = x
      · subst e2
        rw [if_pos rfl, if_pos (List.mem_cons_self ..)]
      · rw [if_neg (fun z => e2 (Sum.inr.inj z)), if_neg (fun z => by rcases List.mem_cons.mp z with z | z; exact e2 z; exact e1 z)]
/-! ### pages put one behind another -/
theorem puts_hom (p k : Nat) : ∀ (ns : List Str) (s : Pl), (putsP p k s ns).hom = homs s.hom k ns
  | [], s => rfl
  | x :: ns, s => by
    show (putsP p k (putP p s k x) ns).hom = homs (putK s.hom (.inr x) (nV k)) k ns
    rw [puts_hom p k ns, put_hom]
theorem puts_liv (p k : Nat) : ∀ (ns : List Str) (s : Pl), k < s.liv.length → (putsP p k s ns).liv = s.liv.set k (s.liv.getD k 0 + (ns.length : Int))
  | [], s, h => by
    show s.liv = _
    rw [show s.liv.getD k 0 + (([] : List Str).length : Int) = s.liv.getD k 0 from Int.add_zero _, List.getD_eq_getElem?_getD, List.getElem?_eq_getElem h]
    exact (List.set_getElem_self h).symm
  | x :: ns, s, h => by
    show (putsP p k (putP p s k x) ns).liv = _
    rw [puts_liv p k ns _ (by rw [put_livn, List.length_set]; exact h), put_livn, List.set_set]
    congr 1
    rw [List.getD_eq_getElem?_getD, List.getElem?_set_self h]
    show s.liv.getD k 0 + 1 + (ns.length : Int) = _
    rw [List.length_cons]
    omega
theorem puts_end (p k : Nat) : ∀ (ns : List Str) (s : Pl) (c : Nat), k < s.cont.length → (s.cont.getD k []).length = c → c < p → c + ns.length ≤ p → s.fil = some k →
    (putsP p k s ns).fil = (if c + ns.length = p then none else some k) ∧ (putsP p k s ns).clo = s.clo ++ (if c + ns.length = p then [k] else [])
  | [], s, c, hk, hc, h0, h1, hf => by
    rw [if_neg (by show ¬ c + 0 = p; omega), if_neg (by show ¬ c + 0 = p; omega), List.append_nil]
    exact ⟨hf, rfl⟩
  | x :: ns, s, c, hk, hc, h0, h1, hf => by
    rw [List.length_cons] at h1 ⊢
    show (putsP p k (putP p s k x) ns).fil = _ ∧ (putsP p k (putP p s k x) ns).clo = _
    by_cases e : c + 1 = p
    · have en : ns = [] := List.length_eq_zero_iff.mp (by omega)
      subst en
      rw [if_pos (by show c + (0 + 1) = p; omega), if_pos (by show c + (0 + 1) = p; omega)]
      show (putP p s k x).fil = none ∧ (putP p s k x).clo = s.clo ++ [k]
      unfold putP
      rw [if_pos (by omega)]
      exact ⟨rfl, rfl⟩
    · obtain ⟨e1, e2⟩ := put_filn (p := p) (k := k) (s := s) (nm := x) (by omega)
      have ih := puts_end p k ns (putP p s k x) (c + 1) (by rw [put_cont, List.length_set]; exact hk) (by rw [put_cont, getD_set hk, List.length_append, hc]; rfl) (by omega) (by omega) (by rw [e1]; exact hf)
      rw [e2] at ih
      rw [show c + (ns.length + 1) = c + 1 + ns.length by omega]
      exact ih
/-! ### the play -/
structure PInv (b p : Nat) (s : Pl) (al : List Str) : Prop where
  cl : s.cont.length = b
  ll : s.liv.length = b
  lv : ∀ k, k < b → s.liv.getD k 0 = livI (s.cont.getD k [])
  pt : (s.free ++ s.clo ++ s.fil.toList).Perm (List.range b)
  fr : ∀ k ∈ s.free, s.cont.getD k [] = []
  fc : ∀ k ∈ s.clo, (s.cont.getD k []).length = p
  fo : ∀ k, s.fil = some k → (s.cont.getD k []).length < p
  fe : s.free ≠ []
  names : (s.cont.flatMap keptN).Perm al
  nd : al.Nodup
  loc : ∀ h x, h < b → x ∈ keptN (s.cont.getD h []) → valV s.hom (.inr x) = some (nV h)
  no : ∀ x, x ∉ al → valV s.hom (.inr x) = none
  hl : s.hom.length = al.length
  hk : (s.hom.map (·.1)).Nodup
section
variable {b p : Nat} {s : Pl} {al : List Str} {x : Str}
theorem PInv.told (I : PInv b p s al) (t : List Tld) : PInv b p { s with told := t } al := ⟨I.cl, I.ll, I.lv, I.pt, I.fr, I.fc, I.fo, I.fe, I.names, I.nd, I.loc, I.no, I.hl, I.hk⟩
theorem PInv.mem (I : PInv b p s al) {k : Nat} (h : k ∈ s.free ++ s.clo ++ s.fil.toList) : k < b := List.mem_range.mp (I.pt.mem_iff.mp h)
theorem PInv.ptn (I : PInv b p s al) : (s.free ++ s.clo ++ s.fil.toList).Nodup := I.pt.nodup_iff.mpr List.nodup_range
theorem getD_mem {l : List Cb} {k : Nat} (h : k < l.length) : l.getD k [] ∈ l := by
  rw [List.getD_eq_getElem?_getD, List.getElem?_eq_getElem h]
  exact List.getElem_mem h
/-- where a living name lives -/
theorem PInv.at_ (I : PInv b p s al) (h : x ∈ al) : ∃ (h j : Nat), h < b ∧ LivesAt s x h j := by
  have hm := I.names.mem_iff.mpr h
  obtain ⟨c, hc, hx⟩ := List.mem_flatMap.mp hm
  obtain ⟨k, hk, e⟩ := List.getElem_of_mem hc
  have ek : s.cont.getD k [] = c := by rw [List.getD_eq_getElem?_getD, List.getElem?_eq_getElem hk, e]; rfl
  have hkb : k < b := by rw [← I.cl]; exact hk
  have hl := I.loc k x hkb (by rw [ek]; exact hx)
  unfold keptN at hx
  obtain ⟨o, ho, eo⟩ := List.mem_filterMap.mp hx
  have eo' : o = some x := eo
  subst eo'
  -- the first page of it
  have hfind : ∃ j : Nat, c[j]? = some (some x) ∧ ∀ m, m < j → c[m]? ≠ some (some x) := by
    have : ∀ n : Nat, (∃ j : Nat, j < n ∧ c[j]? = some (some x)) → ∃ j : Nat, c[j]? = some (some x) ∧ ∀ m, m < j → c[m]? ≠ some (some x) := by
      intro n
      induction n with
      | zero => rintro ⟨j, hj, _⟩; omega
      | succ n ih =>
        rintro ⟨j, hj, e⟩
        by_cases q : ∃ j : Nat, j < n ∧ c[j]? = some (some x)
        · exact ih q
        · refine ⟨j, e, fun m hm em => q ⟨m, by omega, em⟩⟩
    obtain ⟨j, hj, e⟩ := List.getElem_of_mem ho
    exact this c.length ⟨j, hj, by rw [List.getElem?_eq_getElem hj, e]⟩
  obtain ⟨j, hj, hf⟩ := hfind
  exact ⟨k, j, hkb, ⟨hl, hk, by rw [ek]; exact hj, fun m hm => by rw [ek]; exact hf m hm⟩⟩
theorem set_getD_ne {l : List Cb} {k h : Nat} {c : Cb} (e : h ≠ k) : (l.set k c).getD h [] = l.getD h [] := by
  rw [List.getD_eq_getElem?_getD, List.getD_eq_getElem?_getD, List.getElem?_set_ne (Ne.symm e)]
theorem setI_ne {l : List Int} {k h : Nat} {c : Int} (e : h ≠ k) : (l.set k c).getD h 0 = l.getD h 0 := by
  rw [List.getD_eq_getElem?_getD, List.getD_eq_getElem?_getD, List.getElem?_set_ne (Ne.symm e)]
theorem setI_self {l : List Int} {k : Nat} {c : Int} (e : k < l.length) : (l.set k c).getD k 0 = c := by
  rw [List.getD_eq_getElem?_getD, List.getElem?_set_self e]
  rfl
theorem erase_perm {al : List Str} {x : Str} (h : x ∈ al) : ((al.erase x) ++ [x]).Perm al := (List.perm_append_comm (l₁ := al.erase x) (l₂ := [x])).trans (List.perm_cons_erase h).symm
/-- a name dies -/
theorem PInv.die (I : PInv b p s al) {h j : Nat} (L : LivesAt s x h j) : PInv b p (dieP s h j x) (al.erase x) := by
  have hcl := I.cl
  have hb : h < b := by rw [← hcl]; exact L.blk
  have hkd : (keptN ((s.cont.getD h []).set j none) ++ [x]).Perm (keptN (s.cont.getD h [])) := kept_die L.pg
  have hxm : x ∈ keptN (s.cont.getD h []) := hkd.mem_iff.mp (by simp)
  have hxal : x ∈ al := I.names.mem_iff.mp (List.mem_flatMap.mpr ⟨_, getD_mem L.blk, hxm⟩)
  have hklen : (keptN ((s.cont.getD h []).set j none)).length + 1 = (keptN (s.cont.getD h [])).length := by
    have := hkd.length_eq
    rw [List.length_append] at this
    exact this
  have hnames : ((s.cont.set h ((s.cont.getD h []).set j none)).flatMap keptN).Perm (al.erase x) := by
    have z := flat_set keptN [] s.cont h ((s.cont.getD h []).set j none) L.blk
    have z2 : ((s.cont.set h ((s.cont.getD h []).set j none)).flatMap keptN ++ (keptN ((s.cont.getD h []).set j none) ++ [x])).Perm (al.erase x ++ [x] ++ keptN ((s.cont.getD h []).set j none)) :=
      (List.Perm.append_left _ hkd).trans (z.trans (List.Perm.append_right _ (I.names.trans (erase_perm hxal).symm)))
    rw [← List.append_assoc] at z2
    have z3 : ((s.cont.set h ((s.cont.getD h []).set j none)).flatMap keptN ++ [x] ++ keptN ((s.cont.getD h []).set j none)).Perm (al.erase x ++ [x] ++ keptN ((s.cont.getD h []).set j none)) := by
      refine List.Perm.trans ?_ z2
      rw [List.append_assoc, List.append_assoc]
      exact List.Perm.append_left _ List.perm_append_comm
    exact (List.perm_append_right_iff _).mp ((List.perm_append_right_iff _).mp z3)
  have hlen : (((s.cont.getD h []).set j none)).length = (s.cont.getD h []).length := List.length_set
  have hD : ∀ k, ((s.cont.set h ((s.cont.getD h []).set j none)).getD k []).length = (s.cont.getD k []).length := fun k => by
    by_cases e : k = h
    · subst e
      rw [getD_set L.blk, hlen]
    · rw [set_getD_ne e]
  refine ⟨by show (s.cont.set h _).length = b; rw [List.length_set]; exact hcl, by show (s.liv.set h _).length = b; rw [List.length_set]; exact I.ll, fun k hk => ?_, I.pt, fun k hk => ?_, fun k hk => ?_, fun k hk => ?_, I.fe, hnames, I.nd.erase x, fun k y hk hy => ?_, fun y hy => ?_, ?_, nd_dropK I.hk⟩
  · show (s.liv.set h (s.liv.getD h 0 - 1)).getD k 0 = livI ((s.cont.set h ((s.cont.getD h []).set j none)).getD k [])
    by_cases e : k = h
    · subst e
      rw [setI_self (by rw [I.ll]; exact hk), getD_set L.blk, I.lv k hk]
      unfold livI
      omega
    · rw [setI_ne e, set_getD_ne e]
      exact I.lv k hk
  · have z := I.fr k hk
    have z2 := hD k
    rw [z] at z2
    exact List.length_eq_zero_iff.mp z2
  · show ((s.cont.set h _).getD k []).length = p
    rw [hD]
    exact I.fc k hk
  · show ((s.cont.set h _).getD k []).length < p
    rw [hD]
    exact I.fo k hk
  · show valV (dropK s.hom (.inr x)) (.inr y) = some (nV k)
    have hy' : y ∈ keptN ((s.cont.set h ((s.cont.getD h []).set j none)).getD k []) := hy
    have hne : y ≠ x := fun z => by
      subst z
      have hm := hnames.mem_iff.mp (List.mem_flatMap.mpr ⟨_, getD_mem (by rw [List.length_set, hcl]; exact hk), hy'⟩)
      exact (List.Nodup.mem_erase_iff I.nd).mp hm |>.1 rfl
    rw [valV_drop, if_neg (fun z => hne (Sum.inr.inj z))]
    refine I.loc k y hk ?_
    by_cases e : k = h
    · subst e
      rw [getD_set L.blk] at hy'
      exact hkd.mem_iff.mp (List.mem_append_left _ hy')
    · rw [set_getD_ne e] at hy'
      exact hy'
  · show valV (dropK s.hom (.inr x)) (.inr y) = none
    rw [valV_drop]
    split
    · rfl
    · refine I.no y fun z => hy ?_
      rename_i hne
      exact (List.mem_erase_of_ne (fun q => hne (congrArg Sum.inr q))).mpr z
  · show (dropK s.hom (.inr x)).length = (al.erase x).length
    have z := dropK_len I.hk (valV_in L.hom)
    rw [List.length_erase_of_mem hxal, ← I.hl]
    omega
/-- a free block is opened -/
theorem PInv.pop (I : PInv b p s al) (hp : 0 < p) (hf : s.fil = none) (hl : 1 < s.free.length) {k : Nat} (h0 : s.free[0]? = some k) : PInv b p { s with free := s.free.eraseIdx 0, fil := some k } al := by
  obtain ⟨r, er⟩ : ∃ r, s.free = k :: r := by
    cases e : s.free with
    | nil => rw [e] at h0; cases h0
    | cons a r => rw [e] at h0; cases h0; exact ⟨r, rfl⟩
  have hk : k ∈ s.free := by rw [er]; exact List.mem_cons_self ..
  have e1 : s.free.eraseIdx 0 = r := by rw [er]; rfl
  refine ⟨I.cl, I.ll, I.lv, ?_, fun j hj => I.fr j ?_, I.fc, fun j hj => ?_, ?_, I.names, I.nd, I.loc, I.no, I.hl, I.hk⟩
  · show (s.free.eraseIdx 0 ++ s.clo ++ [k]).Perm _
    have z := I.pt
    rw [hf, er] at z
    rw [e1]
    refine List.Perm.trans ?_ z
    show (r ++ s.clo ++ [k]).Perm ((k :: r) ++ s.clo ++ [])
    rw [List.append_nil]
    exact List.perm_append_comm
  · have hj' : j ∈ s.free.eraseIdx 0 := hj
    rw [e1] at hj'
    rw [er]
    exact List.mem_cons_of_mem _ hj'
  · have ej : some k = some j := hj
    cases ej
    rw [I.fr k hk]
    exact hp
  · show s.free.eraseIdx 0 ≠ []
    rw [e1]
    intro z
    rw [er, z] at hl
    simp at hl
end
end K6

set_option Elab.async false
set_option linter.all false
set_option maxRecDepth 100000
set_option maxHeartbeats 4000000
namespace K6
open PySem PySem.Spec PyProof.Rows L2 G1 G2 K2 G5 LamX
section
variable {b p : Nat} {s : Pl} {al : List Str} {x : Str} {rows : List RowD}
theorem disj_of {A B : List Nat} (h : (A ++ B).Nodup) {k : Nat} (ha : k ∈ A) (hb : k ∈ B) : False := (List.nodup_append.mp h).2.2 k ha k hb rfl
theorem kept_in {cont : List Cb} {k : Nat} {y : Str} (hk : k < cont.length) (hy : y ∈ keptN (cont.getD k [])) : y ∈ cont.flatMap keptN := List.mem_flatMap.mpr ⟨_, getD_mem hk, hy⟩
/-- a name is written into the open block -/
theorem PInv.put (I : PInv b p s al) {k : Nat} (hf : s.fil = some k) (hx : x ∉ al) : PInv b p (putP p s k x) (al ++ [x]) := by
  have hkb : k < b := I.mem (List.mem_append_right _ (by rw [hf]; exact List.mem_singleton.mpr rfl))
  have hkl : k < s.cont.length := by rw [I.cl]; exact hkb
  have hop := I.fo k hf
  have hpt := I.ptn
  rw [hf] at hpt
  have nfree : ∀ j ∈ s.free, j ≠ k := fun j hj e => disj_of hpt (List.mem_append_left _ (e ▸ hj)) (List.mem_singleton.mpr rfl)
  have nclo : ∀ j ∈ s.clo, j ≠ k := fun j hj e => disj_of hpt (List.mem_append_right _ (e ▸ hj)) (List.mem_singleton.mpr rfl)
  have hcont := put_cont p k s x
  have hliv := put_livn p k s x
  have hhom := put_hom p k s x
  have hfree := put_free p k s x
  have hnew := I.no x hx
  have hks : keptN (s.cont.getD k [] ++ [some x]) = keptN (s.cont.getD k []) ++ [x] := kept_snoc _ _
  have hfc : ((s.cont.getD k []).length + 1 = p ∧ (putP p s k x).fil = none ∧ (putP p s k x).clo = s.clo ++ [k]) ∨ ((s.cont.getD k []).length + 1 < p ∧ (putP p s k x).fil = some k ∧ (putP p s k x).clo = s.clo) := by
    by_cases e : (s.cont.getD k []).length + 1 = p
    · refine .inl ⟨e, ?_⟩
      unfold putP
      rw [if_pos e]
      exact ⟨rfl, rfl⟩
    · obtain ⟨e1, e2⟩ := put_filn (p := p) (k := k) (s := s) (nm := x) e
      exact .inr ⟨by omega, by rw [e1, hf], e2⟩
  refine ⟨by rw [hcont, List.length_set]; exact I.cl, by rw [hliv, List.length_set]; exact I.ll, fun j hj => ?_, ?_, fun j hj => ?_, fun j hj => ?_, fun j hj => ?_, by rw [hfree]; exact I.fe, ?_, ?_, fun j y hj hy => ?_, fun y hy => ?_, ?_, by rw [hhom]; exact nd_putK _ I.hk hnew⟩
  · rw [hcont, hliv]
    by_cases e : j = k
    · subst e
      rw [setI_self (by rw [I.ll]; exact hj), getD_set hkl, I.lv j hj, livI_some]
    · rw [setI_ne e, set_getD_ne e]
      exact I.lv j hj
  · rw [hfree]
    have z := I.pt
    rw [hf] at z
    rcases hfc with ⟨_, e1, e2⟩ | ⟨_, e1, e2⟩
    · rw [e1, e2]
      show (s.free ++ (s.clo ++ [k]) ++ []).Perm _
      rw [List.append_nil, ← List.append_assoc]
      exact z
    · rw [e1, e2]
      exact z
  · rw [hfree] at hj
    rw [hcont, set_getD_ne (nfree j hj)]
    exact I.fr j hj
  · rw [hcont]
    rcases hfc with ⟨e0, _, e2⟩ | ⟨_, _, e2⟩
    · rw [e2] at hj
      rcases List.mem_append.mp hj with z | z
      · rw [set_getD_ne (nclo j z)]
        exact I.fc j z
      · rw [List.mem_singleton.mp z, getD_set hkl, List.length_append]
        exact e0
    · rw [e2] at hj
      rw [set_getD_ne (nclo j hj)]
      exact I.fc j hj
  · rcases hfc with ⟨_, e1, _⟩ | ⟨e0, e1, _⟩
    · rw [e1] at hj
      cases hj
    · rw [e1] at hj
      cases hj
      rw [hcont, getD_set hkl, List.length_append]
      exact e0
  · rw [hcont]
    have z := flat_set keptN [] s.cont k (s.cont.getD k [] ++ [some x]) hkl
    rw [hks, ← List.append_assoc] at z
    have z2 : ((s.cont.set k (s.cont.getD k [] ++ [some x])).flatMap keptN ++ keptN (s.cont.getD k [])).Perm (s.cont.flatMap keptN ++ [x] ++ keptN (s.cont.getD k [])) := by
      refine z.trans ?_
      rw [List.append_assoc, List.append_assoc]
      exact List.Perm.append_left _ List.perm_append_comm
    exact ((List.perm_append_right_iff _).mp z2).trans (List.Perm.append_right _ I.names)
  · exact List.nodup_append.mpr ⟨I.nd, List.nodup_cons.mpr ⟨List.not_mem_nil, List.nodup_nil⟩, fun a ha c hc e => hx (by rw [List.mem_singleton.mp hc] at e; exact e ▸ ha)⟩
  · rw [hhom, valV_put]
    rw [hcont] at hy
    by_cases ey : y = x
    · subst ey
      rw [if_pos rfl]
      by_cases e : j = k
      · rw [e]
      · exfalso
        rw [set_getD_ne e] at hy
        exact hx (I.names.mem_iff.mp (kept_in (by rw [I.cl]; exact hj) hy))
    · rw [if_neg (fun z => ey (Sum.inr.inj z))]
      refine I.loc j y hj ?_
      by_cases e : j = k
      · subst e
        rw [getD_set hkl, hks] at hy
        rcases List.mem_append.mp hy with z | z
        · exact z
        · exact absurd (List.mem_singleton.mp z) ey
      · rw [set_getD_ne e] at hy
        exact hy
  · rw [hhom, valV_put, if_neg (fun z => hy (List.mem_append_right _ (List.mem_singleton.mpr (Sum.inr.inj z))))]
    exact I.no y fun z => hy (List.mem_append_left _ z)
  · rw [hhom, putK_new _ hnew, List.length_append, List.length_append, I.hl]
    rfl
theorem erase_at : ∀ {l : List Nat} {i k : Nat}, l[i]? = some k → (k :: l.eraseIdx i).Perm l
  | [], i, k, h => by simp at h
  | a :: l, 0, k, h => by
    have e : a = k := Option.some.inj h
    rw [e]
    exact List.Perm.refl _
  | a :: l, i + 1, k, h => by
    have h' : l[i]? = some k := h
    show (k :: a :: l.eraseIdx i).Perm (a :: l)
    exact (List.Perm.swap a k _).trans (List.Perm.cons a (erase_at h'))
/-- what a cleaning does -/
structure ClnTo (p : Nat) (s : Pl) (i k f : Nat) (s' : Pl) : Prop where
  cont : s'.cont = (s.cont.set k []).set f ((keptN (s.cont.getD k [])).map some)
  liv : s'.liv = (s.liv.set k 0).set f ((keptN (s.cont.getD k [])).length : Int)
  free : s'.free = [k]
  clo : s'.clo = s.clo.eraseIdx i ++ (if (keptN (s.cont.getD k [])).length = p then [f] else [])
  fil : s'.fil = if (keptN (s.cont.getD k [])).length = p then none else some f
  hom : s'.hom = homs s.hom f (keptN (s.cont.getD k []))
  told : s'.told = s.told
theorem PInv.cln (I : PInv b p s al) (hp : 0 < p) (hfr : ∃ f, s.free = [f]) {i k f : Nat} (hf : s.fil = none) (hfe : s.free = [f]) (hi : s.clo[i]? = some k) : ClnTo p s i k f (cleanP p s i k f) ∧ f ≠ k ∧ f < b ∧ k < b := by
  have hkc := List.mem_of_getElem? hi
  have hkb : k < b := I.mem (List.mem_append_left _ (List.mem_append_right _ hkc))
  have hfb : f < b := I.mem (List.mem_append_left _ (List.mem_append_left _ (by rw [hfe]; exact List.mem_singleton.mpr rfl)))
  have hpt := I.ptn
  rw [hf, hfe] at hpt
  have hfk : f ≠ k := fun e => disj_of (List.nodup_append.mp hpt).1 (List.mem_singleton.mpr rfl) (e ▸ hkc)
  have hfl : f < (s.cont.set k []).length := by rw [List.length_set, I.cl]; exact hfb
  have hcf : s.cont.getD f [] = [] := I.fr f (by rw [hfe]; exact List.mem_singleton.mpr rfl)
  have hcf' : (s.cont.set k []).getD f [] = [] := by rw [set_getD_ne hfk]; exact hcf
  have hlf : (s.liv.set k 0).getD f 0 = 0 := by
    rw [setI_ne hfk, I.lv f hfb, hcf]
    rfl
  have hlen : (keptN (s.cont.getD k [])).length ≤ p := by
    have := kept_len (s.cont.getD k [])
    rw [I.fc k hkc] at this
    exact this
  have e0 : s.free.eraseIdx 0 = [] := by rw [hfe]; rfl
  obtain ⟨e1, e2⟩ := puts_end p f (keptN (s.cont.getD k [])) (cln1 s i k f) 0 hfl (by show ((s.cont.set k []).getD f []).length = 0; rw [hcf']; rfl) hp (by rw [Nat.zero_add]; exact hlen) rfl
  rw [Nat.zero_add] at e1 e2
  refine ⟨⟨?_, ?_, ?_, e2, e1, ?_, clean_told p s i k f⟩, hfk, hfb, hkb⟩
  · show (putsP p f (cln1 s i k f) (keptN (s.cont.getD k []))).cont = _
    rw [puts_cont hfl]
    show (s.cont.set k []).set f ((s.cont.set k []).getD f [] ++ _) = _
    rw [hcf']
    rfl
  · show (putsP p f (cln1 s i k f) (keptN (s.cont.getD k []))).liv = _
    rw [puts_liv p f _ _ (by show f < (s.liv.set k 0).length; rw [List.length_set, I.ll]; exact hfb)]
    show (s.liv.set k 0).set f ((s.liv.set k 0).getD f 0 + _) = _
    rw [hlf, Int.zero_add]
  · show s.free.eraseIdx 0 ++ [k] = [k]
    rw [e0]
    rfl
  · show (putsP p f (cln1 s i k f) (keptN (s.cont.getD k []))).hom = _
    rw [puts_hom]
    rfl
theorem PInv.clean (I : PInv b p s al) (hp : 0 < p) {i k f : Nat} {s' : Pl} (hf : s.fil = none) (hfe : s.free = [f]) (hi : s.clo[i]? = some k) (hfk : f ≠ k) (hfb : f < b) (hkb : k < b) (T : ClnTo p s i k f s') : PInv b p s' al := by
  have hkc := List.mem_of_getElem? hi
  have hkl : k < s.cont.length := by rw [I.cl]; exact hkb
  have hfl : f < (s.cont.set k []).length := by rw [List.length_set, I.cl]; exact hfb
  have hcf : s.cont.getD f [] = [] := I.fr f (by rw [hfe]; exact List.mem_singleton.mpr rfl)
  have hcf' : (s.cont.set k []).getD f [] = [] := by rw [set_getD_ne hfk]; exact hcf
  have hlen : (keptN (s.cont.getD k [])).length ≤ p := by
    have := kept_len (s.cont.getD k [])
    rw [I.fc k hkc] at this
    exact this
  have hpt := I.ptn
  rw [hf, hfe] at hpt
  have hnd2 : s.clo.Nodup := (List.nodup_append.mp (List.nodup_append.mp hpt).1).2.1
  have herase := erase_at hi
  have hke : k ∉ s.clo.eraseIdx i := (List.nodup_cons.mp (herase.nodup_iff.mpr hnd2)).1
  have hin : ∀ j ∈ s.clo.eraseIdx i, j ∈ s.clo := fun j hj => herase.mem_iff.mp (List.mem_cons_of_mem _ hj)
  have nf : ∀ j ∈ s.clo.eraseIdx i, j ≠ f := fun j hj e => disj_of (List.nodup_append.mp hpt).1 (List.mem_singleton.mpr rfl) (e ▸ hin j hj)
  have getc : ∀ j, s'.cont.getD j [] = if j = f then (keptN (s.cont.getD k [])).map some else if j = k then [] else s.cont.getD j [] := fun j => by
    rw [T.cont]
    by_cases e : j = f
    · rw [if_pos e, e, getD_set hfl]
    · rw [if_neg e, set_getD_ne e]
      by_cases e2 : j = k
      · rw [if_pos e2, e2, getD_set hkl]
      · rw [if_neg e2, set_getD_ne e2]
  have hperm : (s'.cont.flatMap keptN).Perm (s.cont.flatMap keptN) := by
    rw [T.cont]
    have z1 := flat_set keptN [] s.cont k [] hkl
    have z2 := flat_set keptN [] (s.cont.set k []) f ((keptN (s.cont.getD k [])).map some) hfl
    rw [hcf', kept_some] at z2
    have e : keptN ([] : Cb) = [] := rfl
    rw [e, List.append_nil] at z1 z2
    exact z2.trans z1
  have hlocs : ∀ y ∈ keptN (s.cont.getD k []), valV s.hom (.inr y) = some (nV k) := fun y hy => I.loc k y hkb hy
  refine ⟨by rw [T.cont, List.length_set, List.length_set]; exact I.cl, by rw [T.liv, List.length_set, List.length_set]; exact I.ll, fun j hj => ?_, ?_, fun j hj => ?_, fun j hj => ?_, fun j hj => ?_, by rw [T.free]; exact List.cons_ne_nil _ _, hperm.trans I.names, I.nd, fun j y hj hy => ?_, fun y hy => ?_, ?_, ?_⟩
  · rw [T.liv, getc]
    by_cases e : j = f
    · rw [if_pos e, e, setI_self (by rw [List.length_set, I.ll]; exact hfb)]
      unfold livI
      rw [kept_some]
    · rw [if_neg e, setI_ne e]
      by_cases e2 : j = k
      · rw [if_pos e2, e2, setI_self (by rw [I.ll]; exact hkb)]
        rfl
      · rw [if_neg e2, setI_ne e2]
        exact I.lv j hj
  · have z := I.pt
    rw [hf, hfe] at z
    have z' : ([f] ++ s.clo).Perm (List.range b) := by
      have e : [f] ++ s.clo ++ (none : Option Nat).toList = [f] ++ s.clo := List.append_nil _
      rw [e] at z
      exact z
    have key : ([k] ++ (s.clo.eraseIdx i) ++ [f]).Perm (List.range b) := by
      refine List.Perm.trans ?_ z'
      refine List.perm_append_comm.trans (List.Perm.append_left _ ?_)
      exact herase
    rw [T.free, T.clo, T.fil]
    split
    · show ([k] ++ (s.clo.eraseIdx i ++ [f]) ++ []).Perm _
      rw [List.append_nil, ← List.append_assoc]
      exact key
    · show ([k] ++ (s.clo.eraseIdx i ++ []) ++ [f]).Perm _
      rw [List.append_nil]
      exact key
  · rw [T.free] at hj
    rw [getc, List.mem_singleton.mp hj, if_neg (Ne.symm hfk), if_pos rfl]
  · rw [T.clo] at hj
    rcases List.mem_append.mp hj with z | z
    · rw [getc, if_neg (nf j z), if_neg (fun (e : j = k) => hke (e ▸ z))]
      exact I.fc j (hin j z)
    · split at z
      · rename_i hfull
        rw [getc, if_pos (List.mem_singleton.mp z), List.length_map]
        exact hfull
      · cases z
  · rw [T.fil] at hj
    split at hj
    · cases hj
    · rename_i hnf
      cases hj
      rw [getc, if_pos rfl, List.length_map]
      omega
  · rw [getc] at hy
    rw [T.hom, homs_val]
    by_cases e : j = f
    · rw [if_pos e, kept_some] at hy
      rw [if_pos hy, e]
    · rw [if_neg e] at hy
      by_cases e2 : j = k
      · rw [if_pos e2] at hy
        cases hy
      · rw [if_neg e2] at hy
        have hj2 := I.loc j y hj hy
        rw [if_neg (fun z => ?_)]
        · exact hj2
        · have := hlocs y z
          rw [hj2] at this
          exact e2 (nV_inj (Option.some.inj this))
  · rw [T.hom, homs_val, if_neg (fun z => hy (I.names.mem_iff.mp (kept_in hkl z)))]
    exact I.no y hy
  · rw [T.hom, ← List.length_map (f := (·.1)), homs_keys (fun y hy => ⟨_, hlocs y hy⟩), List.length_map]
    exact I.hl
  · rw [T.hom, homs_keys (fun y hy => ⟨_, hlocs y hy⟩)]
    exact I.hk
end
end K6

set_option Elab.async false
set_option linter.all false
set_option maxRecDepth 100000
set_option maxHeartbeats 4000000
namespace K6
open PySem PySem.Spec PyProof.Rows L2 G1 G2 K2 G5 LamX
theorem perm_sum {l m : List Nat} (h : l.Perm m) : l.sum = m.sum := by
  induction h with
  | nil => rfl
  | cons x _ ih => rw [List.sum_cons, List.sum_cons, ih]
  | swap x y l => rw [List.sum_cons, List.sum_cons, List.sum_cons, List.sum_cons]; omega
  | trans _ _ h1 h2 => exact h1.trans h2
abbrev kln (c : Cb) : Nat := (keptN c).length
theorem map_kln (l : List Cb) : (l.map kln).sum = (l.flatMap keptN).length := by
  rw [List.length_flatMap]
theorem range_map (l : List Cb) : (List.range l.length).map (fun k => kln (l.getD k [])) = l.map kln := by
  refine List.ext_getElem (by simp) fun i h1 h2 => ?_
  rw [List.length_map] at h2
  rw [List.getElem_map, List.getElem_range, List.getElem_map, List.getD_eq_getElem?_getD, List.getElem?_eq_getElem h2]
  rfl
/-- the living pages of the closed blocks -/
def lvC (s : Pl) : List Nat := s.clo.map fun k => kln (s.cont.getD k [])
section
variable {b p : Nat} {s : Pl} {al : List Str} {x : Str} {rows : List RowD}
theorem PInv.cnt (I : PInv b p s al) : cntP s = csI (lvC s) := by
  unfold cntP lvC csI
  rw [List.map_map]
  refine List.map_congr_left fun k hk => ?_
  exact I.lv k (I.mem (List.mem_append_left _ (List.mem_append_right _ hk)))
theorem PInv.sum (I : PInv b p s al) : ((s.free ++ s.clo ++ s.fil.toList).map fun k => kln (s.cont.getD k [])).sum = al.length := by
  rw [perm_sum (I.pt.map _), ← I.cl, range_map, map_kln]
  exact I.names.length_eq
theorem PInv.lvc_le (I : PInv b p s al) : ∀ v ∈ lvC s, v ≤ p := fun v hv => by
  obtain ⟨k, hk, rfl⟩ := List.mem_map.mp hv
  have := kept_len (s.cont.getD k [])
  rw [I.fc k hk] at this
  exact this
theorem PInv.clo_len (I : PInv b p s al) {f : Nat} (hf : s.fil = none) (hfe : s.free = [f]) : s.clo.length + 1 = b := by
  have z := I.pt.length_eq
  rw [hf, hfe, List.length_range] at z
  simp only [List.length_append, List.length_cons, List.length_nil, Option.toList] at z
  omega
theorem PInv.fit2 (I : PInv b p s al) (hb : b ≤ 10) (hp : p ≤ 10) (ha : al.length ≤ 100) : Fit2 s := by
  have z := I.pt.length_eq
  rw [List.length_range, List.length_append, List.length_append] at z
  refine ⟨fun c hc => ?_, by rw [I.hl]; omega, by omega, by omega, by rw [I.ll, I.cl]⟩
  obtain ⟨k, hk, e⟩ := List.getElem_of_mem hc
  have ek : s.cont.getD k [] = c := by rw [List.getD_eq_getElem?_getD, List.getElem?_eq_getElem hk, e]; rfl
  have hkm : k ∈ s.free ++ s.clo ++ s.fil.toList := I.pt.mem_iff.mpr (List.mem_range.mpr (by rw [← I.cl]; exact hk))
  rw [← ek]
  rcases List.mem_append.mp hkm with h | h
  · rcases List.mem_append.mp h with h | h
    · rw [I.fr k h]
      exact Nat.zero_le _
    · rw [I.fc k h]
      exact hp
  · cases hfil : s.fil with
    | none => rw [hfil] at h; cases h
    | some j =>
      rw [hfil] at h
      have := I.fo k (by rw [hfil, List.mem_singleton.mp h])
      omega
theorem PInv.opened (I : PInv b p s al) (hb : b ≤ 10) (hp : p ≤ 10) (ha : al.length ≤ 100) (ht : s.told.length ≤ 10000) {k : Nat} (hf : s.fil = some k) : Opened s k :=
  ⟨hf, by rw [I.cl]; exact I.mem (List.mem_append_right _ (by rw [hf]; exact List.mem_singleton.mpr rfl)), (I.fit2 hb hp ha).fit, ht⟩
theorem PInv.ready (I : PInv b p s al) (hb : b ≤ 10) (hb2 : 2 ≤ b) (hp : p ≤ 10) (ha : al.length ≤ 100) (ht : s.told.length ≤ 10000) {f : Nat} (hf : s.fil = none) (hfe : s.free = [f]) : Ready p s f := by
  have hcl := I.clo_len hf hfe
  have hpt := I.ptn
  rw [hf, hfe] at hpt
  have hfm : f ∈ s.free := by rw [hfe]; exact List.mem_singleton.mpr rfl
  refine ⟨hfe, I.fit2 hb hp ha, by rw [I.cl]; exact I.mem (List.mem_append_left _ (List.mem_append_left _ hfm)), I.fr f hfm, fun z => by rw [z] at hcl; simp at hcl; omega, fun k hk => ?_, ht⟩
  have hkb := I.mem (List.mem_append_left s.fil.toList (List.mem_append_right s.free hk))
  have hkl := kept_len (s.cont.getD k [])
  rw [I.fc k hk] at hkl
  refine ⟨by rw [I.cl]; exact hkb, fun e => disj_of (List.nodup_append.mp hpt).1 (List.mem_singleton.mpr rfl) (e ▸ hk), ?_, hkl⟩
  rw [I.lv k hkb]
  unfold livI
  omega
theorem lvc_getD {i k : Nat} (h : s.clo[i]? = some k) : (lvC s).getD i 0 = kln (s.cont.getD k []) := by
  unfold lvC
  rw [List.getD_eq_getElem?_getD, List.getElem?_map, h]
  rfl
/-- a full block is cleaned: the closed ones turn -/
theorem PInv.turn (I : PInv b p s al) (hp : 0 < p) {i k f : Nat} (hf : s.fil = none) (hfe : s.free = [f]) (hi : s.clo[i]? = some k) (hfull : kln (s.cont.getD k []) = p) : lvC (cleanP p s i k f) = (lvC s).eraseIdx i ++ [p] := by
  obtain ⟨T, hfk, hfb, hkb⟩ := I.cln hp ⟨f, hfe⟩ hf hfe hi
  have hfull' : (keptN (s.cont.getD k [])).length = p := hfull
  have hpt := I.ptn
  rw [hf, hfe] at hpt
  have hnd2 : s.clo.Nodup := (List.nodup_append.mp (List.nodup_append.mp hpt).1).2.1
  have herase := erase_at hi
  have hke : k ∉ s.clo.eraseIdx i := (List.nodup_cons.mp (herase.nodup_iff.mpr hnd2)).1
  unfold lvC
  rw [T.clo, if_pos hfull', List.map_append, map_erase (fun k => kln (s.cont.getD k [])) s.clo i]
  congr 1
  · refine List.map_congr_left fun j hj => ?_
    have hjc : j ∈ s.clo := herase.mem_iff.mp (List.mem_cons_of_mem _ hj)
    rw [T.cont, set_getD_ne (fun (e : j = f) => disj_of (List.nodup_append.mp hpt).1 (List.mem_singleton.mpr rfl) (e ▸ hjc)), set_getD_ne (fun (e : j = k) => hke (e ▸ hj))]
  · show [kln ((cleanP p s i k f).cont.getD f [])] = [p]
    rw [T.cont, getD_set (by rw [List.length_set, I.cl]; exact hfb)]
    show [(keptN ((keptN (s.cont.getD k [])).map some)).length] = [p]
    rw [kept_some, hfull']
end
end K6

set_option Elab.async false
set_option linter.all false
set_option maxRecDepth 100000
set_option maxHeartbeats 4000000
namespace K6
open PySem PySem.Spec PyProof.Rows L2 G1 G2 K2 G5 LamX
section
variable {b p : Nat} {s : Pl} {al : List Str} {x : Str} {rows : List RowD}
theorem one_free (I : PInv b p s al) (hl : s.free.length ≤ 1) : ∃ f, s.free = [f] := by
  have hne := I.fe
  match h : s.free, hl with
  | [], _ => exact absurd h hne
  | [f], _ => exact ⟨f, rfl⟩
  | a :: c :: r, hl => simp at hl
structure Dims (b p : Nat) : Prop where
  b2 : 2 ≤ b
  b10 : b ≤ 10
  p0 : 0 < p
  p10 : p ≤ 10
theorem cleans_inv (hp : 0 < p) {seen : List (List Int)} {s1 : Pl} {k : Nat} {cl : List Nat} {cp : Int} (h : Cleans p rows seen s s1 k cl cp) : PInv b p s al → PInv b p s1 al ∧ s1.fil = some k ∧ s1.told = s.told := by
  induction h with
  | stop hf => exact fun I => ⟨I, hf, rfl⟩
  | step hf hfe hi hn hpk _ ih =>
    intro I
    obtain ⟨T, hfk, hfb, hkb⟩ := I.cln hp ⟨_, hfe⟩ hf hfe hi
    obtain ⟨h1, h2, h3⟩ := ih (I.clean hp hf hfe hi hfk hfb hkb T)
    exact ⟨h1, h2, h3.trans T.told⟩
theorem opn_inv (hp : 0 < p) (I : PInv b p s al) {s1 : Pl} {k : Nat} {cl : List Nat} {cp : Int} (h : OpnG p rows s s1 k cl cp) : PInv b p s1 al ∧ s1.fil = some k ∧ s1.told = s.told := by
  rcases h with ⟨hf, hl, h0, rfl, rfl, rfl⟩ | ⟨_, h⟩
  · exact ⟨I.pop hp hf hl h0, rfl, rfl⟩
  · exact cleans_inv hp h I
theorem cleans_some {seen : List (List Int)} {s1 : Pl} {k f : Nat} {cl : List Nat} {cp : Int} (h : Cleans p rows seen s s1 k cl cp) (hf : s.fil = some f) : cl = [] ∧ cp = 0 := by
  cases h with
  | stop _ => exact ⟨rfl, rfl⟩
  | step h2 => rw [hf] at h2; cases h2
theorem liv_kln (I : PInv b p s al) {i j : Nat} (hi : s.clo[i]? = some j) : s.liv.getD j 0 = ((lvC s).getD i 0 : Int) := by
  rw [lvc_getD hi]
  exact I.lv j (I.mem (List.mem_append_left _ (List.mem_append_right _ (List.mem_of_getElem? hi))))
/-! ### events -/
theorem die_in (I : PInv b p s al) (hx : x ∈ al) {s0 : Pl} (h : DeadR s s0 x) : PInv b p s0 (al.erase x) ∧ s0.told = s.told := by
  rcases h with ⟨hn, _⟩ | ⟨h, j, L, rfl⟩
  · obtain ⟨h, j, _, L⟩ := I.at_ hx
    rw [L.hom] at hn
    cases hn
  · exact ⟨I.die L, rfl⟩
theorem die_out (I : PInv b p s al) (hx : x ∉ al) {s0 : Pl} (h : DeadR s s0 x) : s0 = s := by
  rcases h with ⟨_, e⟩ | ⟨h, j, L, _⟩
  · exact e
  · have z := L.hom
    rw [I.no x hx] at z
    cases z
theorem die_any (I : PInv b p s al) {s0 : Pl} (h : DeadR s s0 x) : PInv b p s0 (al.erase x) ∧ s0.told = s.told := by
  by_cases hx : x ∈ al
  · exact die_in I hx h
  · have e := die_out I hx h
    subst e
    rw [List.erase_of_not_mem hx]
    exact ⟨I, rfl⟩
def aft (al : List Str) (e : Str × Str) : List Str := if e.1 = "trim" then al.erase e.2 else al.erase e.2 ++ [e.2]
structure LetE (n : Nat) (al : List Str) (e : Str × Str) : Prop where
  nm : NameOk e.2
  ok : (e.1 = "write" ∧ (e.2 ∈ al ∨ al.length < n)) ∨ (e.1 = "trim" ∧ e.2 ∈ al)
theorem erase_len {al : List Str} {x : Str} {n : Nat} (h : x ∈ al ∨ al.length < n) (hl : al.length ≤ n) : (al.erase x).length < n := by
  by_cases hx : x ∈ al
  · rw [List.length_erase_of_mem hx]
    have := List.length_pos_of_mem hx
    omega
  · rw [List.erase_of_not_mem hx]
    rcases h with h | h
    · exact absurd h hx
    · exact h
theorem evt_to {e : Str × Str} (hp : 0 < p) (I : PInv b p s al) {s' : Pl} (h : EvtRG p rows s s' e.1 e.2) : PInv b p s' (aft al e) ∧ ∃ t : Tld, s'.told = s.told ++ [t] ∧ ((e.1 = "trim" ∧ t = (none, [], 0)) ∨ (e.1 = "write" ∧ ∃ (s0 s1 : Pl) (k : Nat) (cl : List Nat) (cp : Int), PInv b p s0 (al.erase e.2) ∧ OpnG p rows s0 s1 k cl cp ∧ t = (some k, cl, cp))) := by
  obtain ⟨s0, hd, hw⟩ := h
  obtain ⟨I0, ht0⟩ := die_any I hd
  rcases hw with ⟨hw, rfl⟩ | ⟨hw, s1, k, cl, cp, ho, rfl⟩
  · refine ⟨?_, (none, [], 0), by rw [← ht0], .inl ⟨hw, rfl⟩⟩
    unfold aft
    rw [if_pos hw]
    exact I0.told _
  · obtain ⟨I1, hf1, ht1⟩ := opn_inv hp I0 ho
    have hnx : e.2 ∉ al.erase e.2 := fun z => ((List.Nodup.mem_erase_iff I.nd).mp z).1 rfl
    refine ⟨?_, (some k, cl, cp), ?_, .inr ⟨hw, s0, s1, k, cl, cp, I0, ho, rfl⟩⟩
    · unfold aft
      rw [hw, if_neg (by decide)]
      exact (I1.told (s1.told ++ [(some k, cl, cp)])).put hf1 hnx
    · rw [put_told]
      show s1.told ++ _ = _
      rw [ht1, ht0]
/-! ### loads -/
def Lets (n : Nat) : List Str → List (Str × Str) → Prop
  | _, [] => True
  | al, e :: es => LetE n al e ∧ Lets n (aft al e) es
theorem lets_app {n : Nat} {es2 : List (Str × Str)} : ∀ {es : List (Str × Str)} {al : List Str}, Lets n al es → Lets n (es.foldl aft al) es2 → Lets n al (es ++ es2)
  | [], _, _, h => h
  | e :: es, al, ⟨h1, h2⟩, h => ⟨h1, lets_app (es := es) h2 h⟩
theorem aft_len {n : Nat} {e : Str × Str} (h : LetE n al e) (hl : al.length ≤ n) : (aft al e).length ≤ n := by
  unfold aft
  rcases h.ok with ⟨hw, h2⟩ | ⟨hw, h2⟩
  · rw [hw, if_neg (by decide), List.length_append]
    exact erase_len h2 hl
  · rw [if_pos hw]
    have := List.length_erase_le (a := e.2) (l := al)
    omega
theorem pinv_new (hb : 0 < b) (hp : 0 < p) : PInv b p (newP b) [] := by
  have hg : ∀ k, (newP b).cont.getD k [] = [] := fun k => by
    unfold newP
    show (List.replicate b ([] : Cb)).getD k [] = []
    rw [List.getD_eq_getElem?_getD, List.getElem?_replicate]
    split <;> rfl
  refine ⟨by unfold newP; simp, by unfold newP; simp, fun k hk => ?_, ?_, fun k _ => hg k, fun k hk => ?_, fun k hk => ?_, ?_, ?_, List.nodup_nil, fun h x hh hx => ?_, fun x _ => rfl, rfl, List.nodup_nil⟩
  · rw [hg]
    show (List.replicate b (0 : Int)).getD k 0 = 0
    rw [List.getD_eq_getElem?_getD, List.getElem?_replicate]
    split <;> rfl
  · show (List.range b ++ [] ++ []).Perm (List.range b)
    simp
  · exact nomatch (show k ∈ ([] : List Nat) from hk)
  · have z : (none : Option Nat) = some k := hk
    cases z
  · show List.range b ≠ []
    intro z
    have := congrArg List.length z
    simp at this
    omega
  · show ((List.replicate b ([] : Cb)).flatMap keptN).Perm []
    have : ∀ m : Nat, (List.replicate m ([] : Cb)).flatMap keptN = [] := fun m => by
      induction m with
      | zero => rfl
      | succ m ih => rw [List.replicate_succ, List.flatMap_cons, ih]; rfl
    rw [this]
  · rw [hg] at hx
    cases hx
end
end K6

set_option Elab.async false
set_option linter.all false
set_option maxRecDepth 100000
set_option maxHeartbeats 4000000
namespace K6
open PySem PySem.Spec PyProof.Rows L2 G1 G2 K2 G5 LamX
abbrev sWrd : Stmt := topS 85
abbrev NWrd : List Str := ["_law_pool_here", "_law_some", "_law_signs", "_law_found", "_law_k"]
theorem scWrd : FnScope NWrd ["_law_pool_here"] (defScope sWrd) := ⟨rfl, rfl, rfl, by decide +kernel, rfl, by decide +kernel, by decide +kernel⟩
def wrdL : List Str := ["write", "trim", "open", "new", "drive", "any", "oldest", "most", "free", "n0", "n1"]
abbrev sigS : Str := "abcdefghijklmnopqrstuvwxyz0123456789"
/-- a name, checked by computing -/
def nameB (nm : Str) : Bool := decide (1 ≤ nm.length) && decide (nm.length ≤ 8) && (match nm.cps.toList with | [] => false | c :: _ => decide (c ∈ letS.cps.toList)) && nm.cps.toList.all fun c => decide (c ∈ letS.cps.toList ∨ c ∈ digS.cps.toList)
theorem name_of {nm : Str} (h : nameB nm = true) : NameOk nm := by
  unfold nameB at h
  simp only [Bool.and_eq_true, decide_eq_true_iff, List.all_eq_true] at h
  obtain ⟨⟨⟨h1, h2⟩, h3⟩, h4⟩ := h
  refine ⟨h1, h2, ?_, h4⟩
  cases e : nm.cps.toList with
  | nil => rw [e] at h3; cases h3
  | cons c r => rw [e] at h3; exact ⟨c, rfl, of_decide_eq_true h3⟩
theorem wrd_ok : ∀ x ∈ wrdL, nameB x = true := by decide +kernel
theorem sig_len : sigS.cps.toList.length = 36 := by decide +kernel
theorem sig_let : ∀ c ∈ sigS.cps.toList.take 26, c ∈ letS.cps.toList := by decide +kernel
theorem sig_all : ∀ c ∈ sigS.cps.toList, c ∈ letS.cps.toList ∨ c ∈ digS.cps.toList := by decide +kernel
theorem add_cps (a : Str) (c : Nat) : (a ++ (⟨#[c]⟩ : Str)).cps.toList = a.cps.toList ++ [c] := by
  show (a.cps ++ #[c]).toList = _
  simp
structure PreN (nm : Str) (k : Nat) : Prop where
  len : nm.cps.toList.length = k
  fst : ∃ c, nm.cps.toList[0]? = some c ∧ c ∈ letS.cps.toList
  all : ∀ c ∈ nm.cps.toList, c ∈ letS.cps.toList ∨ c ∈ digS.cps.toList
theorem len_cps (nm : Str) : nm.length = nm.cps.toList.length := rfl
theorem PreN.ok {nm : Str} {k : Nat} (h : PreN nm k) (h1 : 1 ≤ k) (h2 : k ≤ 8) : NameOk nm := ⟨by rw [len_cps, h.len]; exact h1, by rw [len_cps, h.len]; exact h2, h.fst, h.all⟩
def spWrd : Sp := fun vs H Q _ => ∃ pl : Addr, vs = [.ref pl] ∧ PoolAt H pl ∧ ∀ (H' : Hp) (nm : Str), Stp pl H H' → NameOk nm → Q (.str nm) H'
theorem at_int {α : Type} {xs : List α} {r : Int} {x : α} (h0 : 0 ≤ r) (h : xs[r.toNat]? = some x) : atI xs r = some x := by
  have e : r = ((r.toNat : Nat) : Int) := by omega
  rw [e]
  exact atI_nat h
section
variable {P : Program} {w : World} {K : PySem.W.Frag} {mg : Str → Option Value} {base : Heap}
theorem ok_wrd {f : Addr} {fd : FuncData} (F : Fun K "_law_word" "_law_word" sWrd f fd) (B : Bl mg) (GD : FAt P w K mg base 1 "_law_draw" ["_law_pool_here", "_law_many"] spDraw) : FnOk P w K mg base CX0 2 f fd ["_law_pool_here"] spWrd := by
  refine F.ok scWrd (fun vs H Q E h => ?_) (fun cdv A outer s H vs Q E hr h => ?_)
  · obtain ⟨pl, rfl, _⟩ := h
    rfl
  obtain ⟨pl, rfl, hp, k⟩ := h
  obtain ⟨fD, dD, GD, kD, bD, gD⟩ := GD.ex
  refine ⟨_, pss_cons (ps_if (pt_cmpR op_eq (pe_call GD hr (by rfl) gD kD bD .nil pass0 (pa_cons (pv 0) (pa_cons pe_int pa_nil))) pe_int (nomark _)) (pss_cons (ps_set (i := 1) scWrd.nd rfl (.inl rfl) (pe_lst (pa_cons pe_str (pa_cons pe_str (pa_cons pe_str (pa_cons pe_str (pa_cons pe_str (pa_cons pe_str (pa_cons pe_str (pa_cons pe_str (pa_cons pe_str (pa_cons pe_str (pa_cons pe_str pa_nil)))))))))))))
    (pss_one (ps_ret (pe_ix ix_list (pv 1) (pe_call GD hr (by rfl) gD kD bD .nil pass0 (pa_cons (pv 0) (pa_cons pe_int pa_nil))) (fun _ _ => rfl))))) pss_nil)
    (pss_cons (ps_set (i := 2) scWrd.nd rfl (.inl rfl) pe_str)
    (pss_cons (ps_set (i := 3) scWrd.nd rfl (.inl rfl) (pe_ix ix_str (pv 2) (pe_call GD hr (by rfl) gD kD bD .nil pass0 (pa_cons (pv 0) (pa_cons pe_int pa_nil))) (fun _ _ => rfl)))
    (pss_cons (ps_for PassesOwn.never rfl (pi_range1 (by rfl) B.range (pa_cons (pe_call GD hr (by rfl) gD kD bD .nil pass0 (pa_cons (pv 0) (pa_cons pe_int pa_nil))) pa_nil)) (pg_name (i := 4) scWrd.nd rfl (.inl rfl))
      (pss_one (ps_set (i := 3) scWrd.nd rfl (.inl rfl) (pe_op op_add_str (pv 3) (pe_ix ix_str (pv 2) (pe_call GD hr (by rfl) gD kD bD .nil pass0 (pa_cons (pv 0) (pa_cons pe_int pa_nil))) (fun _ _ => rfl))))))
    (pss_one (ps_ret (pv 3)))))), ?_⟩
  refine seq_if6 (test_read6 (op_read ?_))
  refine draw_c (p := pl) rfl hp (by decide) (by decide) fun H1 r1 S1 a0 a1 => c_read ⟨rfl, _, rfl, ite2 (fun _ => ?_) (fun _ => ?_)⟩
  · refine seq_asg ⟨by show 11 ≤ sizeLine; decide, fun l nl => ?_⟩
    have s2 : Same H1 (L2.upd H1 l (.lst (wrdL.map V.str))) := same_lay nl
    have e2 : (L2.upd H1 l (.lst (wrdL.map V.str))) l = some (.lst (wrdL.map V.str)) := upd_same
    have nlp : l ≠ pl := pool_new S1.1 nl
    show tRet _ _ _ (L2.upd H1 l (.lst (wrdL.map V.str)))
    generalize L2.upd H1 l (.lst (wrdL.map V.str)) = H2 at s2 e2 ⊢
    have S2 := S1.trans (Stp.of S1.1 s2)
    refine ret_read (op_read ⟨_, rfl, ?_⟩)
    refine draw_c (p := pl) rfl S2.1 (by decide) (by decide) fun H3 r S3 c0 c1 => ?_
    have hl : r.toNat < wrdL.length := by show r.toNat < 11; omega
    refine ⟨l, _, r, .str wrdL[r.toNat], rfl, rfl, SqL.of (S3.2 _ _ nlp e2), at_int c0 (by rw [List.getElem?_map, List.getElem?_eq_getElem hl]; rfl), ?_⟩
    exact k H3 _ (S2.trans S3) (name_of (wrd_ok _ (List.getElem_mem hl)))
  · refine seq_asg (c_read ?_)
    refine seq_asg (op_read ⟨_, rfl, ?_⟩)
    refine draw_c (p := pl) rfl S1.1 (by decide) (by decide) fun H2 r2 S2 c0 c1 => ?_
    have h2 : r2.toNat < sigS.cps.toList.length := by rw [sig_len]; omega
    have ea : r2 = ((r2.toNat : Nat) : Int) := by omega
    refine ⟨sigS, r2, sigS.cps.toList[r2.toNat], rfl, rfl, by show 36 ≤ sizeLine; decide, at_int c0 (List.getElem?_eq_getElem h2), ?_⟩
    have hP : PreN (⟨#[sigS.cps.toList[r2.toNat]]⟩ : Str) 1 := by
      have hm : sigS.cps.toList[r2.toNat] ∈ letS.cps.toList := sig_let _ (by
        refine List.mem_take_iff_getElem.mpr ⟨r2.toNat, by rw [sig_len]; omega, rfl⟩)
      refine ⟨rfl, ⟨_, rfl, hm⟩, fun c hc => ?_⟩
      rw [List.mem_singleton.mp hc]
      exact .inl hm
    generalize (⟨#[sigS.cps.toList[r2.toNat]]⟩ : Str) = nm0 at hP ⊢
    have S12 := S1.trans S2
    refine seq_for fun D' hD1 hD2 => ?_
    refine draw_c (p := pl) rfl S12.1 (by decide) (by decide) fun H3 m S3 m0 m1 => ⟨m, rfl, by omega, by omega, ?_⟩
    refine for_range (lo := 0) (n := m.toNat) (fun i σ H' => ∃ (x4 : Option V) (nm : Str), σ = [some (.ref pl), none, some (.str sigS), some (.str nm), x4] ∧ Stp pl H H' ∧ PreN nm (i + 1)) ⟨none, nm0, rfl, S12.trans S3, hP⟩ ?_ ?_
    · rintro i σ H' hi ⟨x4, nm, rfl, S4, hn⟩
      refine asg_read (op_read ⟨_, rfl, op_read ⟨_, rfl, ?_⟩⟩)
      refine draw_c (p := pl) rfl S4.1 (by decide) (by decide) fun H5 r5 S5 d0 d1 => ?_
      have h5 : r5.toNat < sigS.cps.toList.length := by rw [sig_len]; omega
      have ea5 : r5 = ((r5.toNat : Nat) : Int) := by omega
      refine ⟨sigS, r5, sigS.cps.toList[r5.toNat], rfl, rfl, by show 36 ≤ sizeLine; decide, at_int d0 (List.getElem?_eq_getElem h5), ?_⟩
      have hm := sig_all _ (List.getElem_mem h5)
      have hl := hn.len
      refine ⟨nm, _, rfl, rfl, ?_, _, _, rfl, S4.trans S5, ?_, ?_, ?_⟩
      · rw [sizeLine_eq, len_cps, hl]
        show i + 1 + 1 ≤ _
        omega
      · rw [add_cps, List.length_append, hl]
        rfl
      · obtain ⟨c, hc, hc2⟩ := hn.fst
        exact ⟨c, by rw [add_cps, List.getElem?_append_left (by omega)]; exact hc, hc2⟩
      · intro c hc
        rw [add_cps] at hc
        rcases List.mem_append.mp hc with z | z
        · exact hn.all c z
        · rw [List.mem_singleton.mp z]
          exact hm
    · rintro σ H' ⟨x4, nm, rfl, S4, hn⟩
      rw [hD1]
      exact ret_read ⟨_, rfl, k H' nm S4 (hn.ok (by omega) (by omega))⟩
end
end K6

set_option Elab.async false
set_option linter.all false
set_option maxRecDepth 100000
set_option maxHeartbeats 4000000
namespace K6
open PySem PySem.Spec PyProof.Rows L2 G1 G2 K2 G5 LamX
abbrev sTgs : Stmt := topS 86
abbrev NTgs : List Str := ["_law_pool_here", "_law_many", "_law_found", "_law_spares", "_law_k", "_law_tag", "_law_x"]
theorem scTgs : FnScope NTgs ["_law_pool_here", "_law_many"] (defScope sTgs) := ⟨rfl, rfl, rfl, by decide +kernel, rfl, by decide +kernel, by decide +kernel⟩
def spareS (k : Nat) : Str := ("z" : Str) ++ ((toString (k : Int) : String) : Str)
def sparesL (m : Nat) : List Str := (List.range m).map spareS
theorem spare_ok : ∀ x ∈ sparesL 12, nameB x = true := by decide +kernel
theorem spare_size : ∀ i : Nat, i < 12 → (i : Int).natAbs.log2 < 1920 ∧ ("z" : Str).length + ((toString (i : Int) : String) : Str).length ≤ 10 := by decide +kernel
theorem spare_nd : (sparesL 12).Nodup := by decide +kernel
theorem spare_take {m : Nat} (h : m ≤ 12) : sparesL m = (sparesL 12).take m := by
  unfold sparesL
  rw [← List.map_take, List.take_range, Nat.min_eq_left h]
theorem spares_ok {m : Nat} (h : m ≤ 12) : ∀ x ∈ sparesL m, NameOk x := fun x hx => by
  rw [spare_take h] at hx
  exact name_of (spare_ok x (List.mem_of_mem_take hx))
theorem spares_nd {m : Nat} (h : m ≤ 12) : (sparesL m).Nodup := by
  rw [spare_take h]
  exact spare_nd.sublist (List.take_sublist _ _)
theorem nodup_le6 {α : Type} [DecidableEq α] : ∀ (l U : List α), l.Nodup → (∀ x ∈ l, x ∈ U) → l.length ≤ U.length
  | [], _, _, _ => Nat.zero_le _
  | x :: l, U, hn, h => by
    have hx := h x (List.mem_cons_self ..)
    rw [List.nodup_cons] at hn
    have ih := nodup_le6 l (U.erase x) hn.2 fun y hy => (List.mem_erase_of_ne (fun (e : y = x) => hn.1 (e ▸ hy))).mpr (h y (List.mem_cons_of_mem _ hy))
    rw [List.length_erase_of_mem hx] at ih
    have : 0 < U.length := List.length_pos_of_mem hx
    rw [List.length_cons]
    omega
/-- one of the spare names is none of those that were found -/
theorem spare_left {m : Nat} {tags : List Str} (h : m ≤ 12) (hl : tags.length < m) : ∃ z, (((sparesL m).filter fun x => decide (x ∉ tags)))[0]? = some z ∧ z ∉ tags ∧ NameOk z := by
  cases e : (sparesL m).filter fun x => decide (x ∉ tags) with
  | nil =>
    exfalso
    have z := nodup_le6 (sparesL m) tags (spares_nd h) fun x hx => by
      have q := List.filter_eq_nil_iff.mp e x hx
      by_cases hm : x ∈ tags
      · exact hm
      · exact absurd (decide_eq_true hm) q
    unfold sparesL at z
    rw [List.length_map, List.length_range] at z
    omega
  | cons z r =>
    have hm : z ∈ (sparesL m).filter fun x => decide (x ∉ tags) := by rw [e]; exact List.mem_cons_self ..
    rw [List.mem_filter] at hm
    exact ⟨z, rfl, of_decide_eq_true hm.2, spares_ok h z hm.1⟩
theorem eqV_str (a b : Str) : eqV (.str a) (.str b) = decide (a = b) := by
  show (a == b) = decide (a = b)
  by_cases e : a = b
  · rw [decide_eq_true e, e]
    exact beq_self_eq_true _
  · rw [decide_eq_false e, beq_eq_false_iff_ne]
    exact e
theorem inV_str : ∀ (l : List Str) (x : Str), inV (.str x) (l.map V.str) = decide (x ∈ l)
  | [], x => rfl
  | a :: l, x => by
    have ih := inV_str l x
    unfold inV at ih ⊢
    rw [List.map_cons, List.any_cons, ih, eqV_str]
    by_cases e : a = x
    · subst e
      simp
    · have e2 : ¬ x = a := fun z => e z.symm
      simp [e, e2]
theorem flat_str : ∀ l : List Str, (l.map V.str).all flatV = true
  | [] => rfl
  | _ :: l => by rw [List.map_cons, List.all_cons, flat_str l]; rfl
def spTgs : Sp := fun vs H Q _ => ∃ (pl : Addr) (m : Nat), vs = [.ref pl, .int (m : Int)] ∧ PoolAt H pl ∧ m ≤ 12 ∧ ∀ (H' : Hp) (l : Addr) (tags : List Str), Stp pl H H' → H l = none → H' l = some (.lst (tags.map V.str)) → tags.length = m → tags.Nodup → (∀ x ∈ tags, NameOk x) → Q (.ref l) H'
section
variable {P : Program} {w : World} {K : PySem.W.Frag} {mg : Str → Option Value} {base : Heap}
theorem ok_tgs {f : Addr} {fd : FuncData} (F : Fun K "_law_tags" "_law_tags" sTgs f fd) (B : Bl mg) (GW : FAt P w K mg base 2 "_law_word" ["_law_pool_here"] spWrd) : FnOk P w K mg base CX0 3 f fd ["_law_pool_here", "_law_many"] spTgs := by
  refine F.ok scTgs (fun vs H Q E h => ?_) (fun cdv A outer s H vs Q E hr h => ?_)
  · obtain ⟨pl, m, rfl, _⟩ := h
    rfl
  obtain ⟨pl, m, rfl, hp, hm, k⟩ := h
  obtain ⟨fW, dW, GW, kW, bW, gW⟩ := GW.ex
  refine ⟨_, pss_cons (ps_asg (pe_tup (pa_cons (pe_lst pa_nil) (pa_cons (pe_lc (own := [("_law_k", 4)]) (g := gName 4) (tt := tYes) (te := _) rfl scTgs.nd (pi_range1 (by rfl) B.range (pa_cons (pv 1) pa_nil)) (blkOk_by (own := [("_law_k", 4)]) (N := NTgs) (sc := defScope sTgs) (by decide +kernel))
        (fun _ _ _ _ _ => pg_name (i := 4) scTgs.nd rfl (Or.inl rfl)) (fun _ _ _ _ _ => pts_nil) (fun _ _ _ _ _ => pe_op op_add_str pe_str (pe_callTy call_str_int (by rfl) B.str bStr (pa_cons (pv 4) pa_nil)))) pa_nil)))
      (pg_tup rfl (pgs_cons (pg_name (i := 2) scTgs.nd rfl (.inr rfl)) (pgs_cons (pg_name (i := 3) scTgs.nd rfl (.inl rfl)) pgs_nil))))
    (pss_cons (ps_for PassesOwn.never rfl (pi_range1 (by rfl) B.range (pa_cons (pv 1) pa_nil)) (pg_name (i := 4) scTgs.nd rfl (.inl rfl))
      (pss_cons (ps_set (i := 5) scTgs.nd rfl (.inl rfl) (pe_call GW hr (by rfl) gW kW bW .nil pass0 (pa_cons (pv 0) pa_nil)))
      (pss_cons (ps_if (pt_cmpR op_in_seq (pv 5) (pv 2) (by rfl)) (pss_one (ps_set (i := 5) scTgs.nd rfl (.inl rfl) (pe_ix ix_list (pe_lc (own := [("_law_x", 6)]) (g := gName 6) (tt := tTest (tOp (rIn K true) (tVar 6) (tVar 2))) (te := tVar 6) rfl scTgs.nd (pi_list (pv 3)) (blkOk_by (own := [("_law_x", 6)]) (N := NTgs) (sc := defScope sTgs) (by decide +kernel))
          (fun _ _ _ _ _ => pg_name (i := 6) scTgs.nd rfl (Or.inl rfl)) (fun _ _ _ _ _ => pts_one (pt_cmpR op_notIn_seq (pv 6) (pv 2) (by rfl))) (fun _ _ _ _ _ => pv 6)) pe_int (fun _ _ => rfl)))) pss_nil)
      (pss_one (ps_expr (pe_bm PySem.F.plainAttrs_list PySem.F.slot_list_append PySem.F.type_list_append mt_append (pv 2) (pa_cons (pv 5) pa_nil)))))))
    (pss_one (ps_ret (pv 2)))), ?_⟩
  refine seq_asg (tup_read (cons_read (lst_read (nil_read ⟨by show 0 ≤ sizeLine; decide, fun fl nfl => ?_⟩))))
  have s1 : Same H (L2.upd H fl (.lst [])) := same_lay nfl
  have e1 : (L2.upd H fl (.lst [])) fl = some (.lst (([] : List Str).map V.str)) := upd_same
  generalize L2.upd H fl (.lst []) = H1 at s1 e1 ⊢
  refine cons_read ⟨_, rfl, (m : Int), rfl, by omega, by omega, fun D hD => ?_⟩
  rw [Int.toNat_natCast]
  refine lc_range (lo := 0) (n := m) (fun i H' => Same H1 H' ∧ H' D = some (.lst ((sparesL i).map V.str))) ⟨same_lay hD, upd_same⟩ ?_ ?_
  · rintro i H' hi ⟨s2, e2⟩
    refine ⟨rfl, ?_⟩
    unfold tYes
    dsimp only
    rw [if_pos rfl]
    refine op_read (c_read (cb_read (cons_read ⟨_, rfl, nil_read ⟨_, rfl, ?_, _, _, rfl, rfl, ?_, _, e2, ?_, ?_, ?_⟩⟩)))
    · rw [Int.zero_add]
      exact (spare_size i (by omega)).1
    · rw [Int.zero_add]
      exact Nat.le_trans (spare_size i (by omega)).2 (by decide)
    · rw [List.length_map, sizeLine_eq]
      unfold sparesL
      rw [List.length_map, List.length_range]
      omega
    · exact fun b u e => by rw [upd_ne (ne_of_none e hD)]; exact s2 _ _ e
    · rw [upd_same, Int.zero_add]
      unfold sparesL
      rw [List.range_succ, List.map_append, List.map_append]
      rfl
  rintro H2 ⟨s2, e2⟩
  refine nil_read ⟨by show 2 ≤ sizeLine; decide, fun u nu => ?_⟩
  have s3 : Same H2 (L2.upd H2 u (.tup [.ref fl, .ref D])) := same_lay nu
  refine ⟨u, _, rfl, SqT.of upd_same, rfl, _, _, rfl, _, _, rfl, rfl, ?_⟩
  generalize L2.upd H2 u (.tup [.ref fl, .ref D]) = H3 at s3 ⊢
  have S3 : Stp pl H H3 := Stp.of hp (s1.trans (s2.trans s3))
  have e13 := s3 _ _ (s2 _ _ e1)
  have e23 := s3 _ _ e2
  have nflp : fl ≠ pl := pool_new hp nfl
  have nDp : D ≠ pl := pool_new (Stp.of hp s1).1 hD
  have nDf : D ≠ fl := fun z => by rw [z, e1] at hD; cases hD
  refine seq_for fun D' hD1 hD2 => ?_
  refine ⟨_, rfl, (m : Int), rfl, by omega, by omega, ?_⟩
  rw [Int.toNat_natCast]
  refine for_range (lo := 0) (n := m) (fun i σ H' => ∃ (x4 x5 x6 : Option V) (tags : List Str), σ = [some (.ref pl), some (.int (m : Int)), some (.ref fl), some (.ref D), x4, x5, x6] ∧ Stp pl H H' ∧ H' fl = some (.lst (tags.map V.str)) ∧ H' D = some (.lst ((sparesL m).map V.str)) ∧ tags.length = i ∧ tags.Nodup ∧ ∀ x ∈ tags, NameOk x) ⟨_, _, _, [], rfl, S3, e13, e23, rfl, List.nodup_nil, fun x z => (nomatch z)⟩ ?_ ?_
  · rintro i σ H' hi ⟨x4, x5, x6, tags, rfl, S4, q1, q2, q3, q4, q5⟩
    refine seq_asg (call_read (cons_read ⟨_, rfl, nil_read ⟨pl, rfl, S4.1, fun H5 nm S5 hn => ?_⟩⟩))
    have q15 := S5.2 _ _ nflp q1
    have q25 := S5.2 _ _ nDp q2
    have S45 := S4.trans S5
    have fin : ∀ (H6 : Hp) (z : Str), Same H5 H6 → z ∉ tags → NameOk z → ∃ (tags' : List Str), (L2.upd H6 fl (.lst (tags.map V.str ++ [.str z]))) fl = some (.lst (tags'.map V.str)) ∧ Stp pl H (L2.upd H6 fl (.lst (tags.map V.str ++ [.str z]))) ∧ (L2.upd H6 fl (.lst (tags.map V.str ++ [.str z]))) D = some (.lst ((sparesL m).map V.str)) ∧ tags'.length = i + 1 ∧ tags'.Nodup ∧ ∀ x ∈ tags', NameOk x := by
      intro H6 z s6 hz hzn
      refine ⟨tags ++ [z], by rw [upd_same, List.map_append]; rfl, ?_, ?_, ?_, ?_, ?_⟩
      · have S6 := S45.trans (Stp.of S45.1 s6)
        obtain ⟨i1, j1, n1, z1, z2, z3⟩ := S6.1
        exact ⟨⟨i1, j1, n1, by rw [upd_ne (Ne.symm nflp)]; exact z1, z2, z3⟩, fun c o hc e => by rw [upd_ne (ne_of_none e nfl)]; exact S6.2 c o hc e⟩
      · rw [upd_ne nDf]; exact s6 _ _ q25
      · rw [List.length_append, q3]; rfl
      · refine List.nodup_append.mpr ⟨q4, List.nodup_cons.mpr ⟨by simp, List.nodup_nil⟩, fun a ha b hb => ?_⟩
        rw [List.mem_singleton.mp hb]
        exact fun e => hz (e ▸ ha)
      · intro x hx
        rcases List.mem_append.mp hx with hx | hx
        · exact q5 x hx
        · rw [List.mem_singleton.mp hx]; exact hzn
    have hsz : (tags.map V.str).length < sizeLine := by rw [List.length_map, sizeLine_eq]; omega
    refine seq_if6 (test_read6 (op_read ⟨_, rfl, _, rfl, fl, _, rfl, .inl (SqL.of q15), rfl, flat_str _, _, rfl, ?_⟩))
    show (if inV (.str nm) (tags.map V.str) = true then _ else _)
    rw [inV_str]
    by_cases hin : nm ∈ tags
    · rw [decide_eq_true hin]
      refine iteT (asg_read (op_read ⟨_, rfl, D, rfl, ⟨_, SqL.of q25⟩, fun D2 hD2 => ?_⟩))
      refine lc_list (K := K) (xs := (sparesL m).map V.str) (fun j H6 => Same H5 H6 ∧ H6 D2 = some (.lst ((((sparesL m).take j).filter fun x => decide (x ∉ tags)).map V.str))) ⟨same_lay hD2, upd_same⟩ (fun j H6 _ z => SqL.of (z.1 _ _ q25)) ?_ ?_
      · rintro j v H6 hj ⟨sj, ej⟩
        rw [List.getElem?_map] at hj
        obtain ⟨o, ho, rfl⟩ : ∃ o, (sparesL m)[j]? = some o ∧ V.str o = v := by
          cases hq : (sparesL m)[j]? with
          | none => rw [hq] at hj; cases hj
          | some o => rw [hq] at hj; exact ⟨o, rfl, Option.some.inj hj⟩
        have htk : (sparesL m).take (j + 1) = (sparesL m).take j ++ [o] := by rw [List.take_add_one, ho]; rfl
        refine ⟨rfl, test_read6 (op_read ⟨_, rfl, _, rfl, fl, _, rfl, .inl (SqL.of (sj _ _ q15)), rfl, flat_str _, _, rfl, ?_⟩)⟩
        show (if (!inV (.str o) (tags.map V.str)) = true then _ else _)
        rw [inV_str]
        by_cases ho2 : o ∈ tags
        · rw [decide_eq_true ho2]
          refine iteF ⟨sj, ?_⟩
          rw [htk, List.filter_append]
          have e5 : [o].filter (fun x => decide (x ∉ tags)) = [] := by simp [ho2]
          rw [e5, List.append_nil]
          exact ej
        · rw [decide_eq_false ho2]
          refine iteT ⟨_, rfl, _, ej, ?_, fun d u e => ?_, ?_⟩
          · have z := List.length_filter_le (fun x => decide (x ∉ tags)) ((sparesL m).take j)
            rw [List.length_take] at z
            rw [List.length_map, sizeLine_eq]
            have z2 : (sparesL m).length = m := by unfold sparesL; rw [List.length_map, List.length_range]
            omega
          · rw [upd_ne (ne_of_none e hD2)]
            exact sj _ _ e
          · rw [upd_same, htk, List.filter_append, List.map_append]
            have e5 : [o].filter (fun x => decide (x ∉ tags)) = [o] := by simp [ho2]
            rw [e5]
            rfl
      · rintro H6 ⟨s6, e6⟩
        rw [List.length_map, List.take_length] at e6
        obtain ⟨z, hz1, hz2, hz3⟩ := spare_left (tags := tags) hm (by omega)
        refine c_read ⟨D2, _, _, .str z, rfl, rfl, SqL.of e6, atI_nat (j := 0) (by rw [List.getElem?_map, hz1]; rfl), ?_⟩
        obtain ⟨tags', f1, f2, f3, f4, f5, f6⟩ := fin H6 z s6 hz2 hz3
        exact ⟨_, rfl, .inl ⟨rfl, _, SqL.of (s6 _ _ q15)⟩, cons_read ⟨_, rfl, nil_read ⟨fl, _, _, rfl, rfl, s6 _ _ q15, hsz, _, _, _, tags', rfl, f2, f1, f3, f4, f5, f6⟩⟩⟩
    · rw [decide_eq_false hin]
      refine iteF ?_
      obtain ⟨tags', f1, f2, f3, f4, f5, f6⟩ := fin H5 nm (Same.refl _) hin hn
      exact ⟨_, rfl, .inl ⟨rfl, _, SqL.of q15⟩, cons_read ⟨_, rfl, nil_read ⟨fl, _, _, rfl, rfl, q15, hsz, _, _, _, tags', rfl, f2, f1, f3, f4, f5, f6⟩⟩⟩
  · rintro σ H' ⟨x4, x5, x6, tags, rfl, S4, q1, q2, q3, q4, q5⟩
    rw [hD1]
    exact ret_read ⟨_, rfl, k H' fl tags S4 nfl q1 q3 q4 q5⟩
end
end K6

set_option Elab.async false
set_option linter.all false
set_option maxRecDepth 100000
set_option maxHeartbeats 4000000
/-! The end of a law row with tables of code objects, from a promise of the kind FnG. -/
namespace G3
open PySem PySem.Spec PyProof.Rows L2 LamX G1
section
variable {P : Program} {w : World} {K : PySem.W.Frag} {mg mb : Str → Option Value} {k : Nat} {fa a : Addr} {cs : List (Addr × Addr)} {fd : FuncData} {x : Str} {sp : Sp} {m : Shared} {vs : List Value} {ns : List Int}
abbrev tabs (cs : List (Addr × Addr)) : List Addr := cs.map (·.2)
/-- over an abstract heap in which nothing but the script and the tables may be tracked -/
theorem coreT (kin : K.In m.heap) (g1 : m.heap.Ns mainGlobals mg) (g2 : m.heap.Ns builtinsNs mb) (g3 : ∀ y : Str, y ≠ "__name__" → mb y = bootBuiltins y) (nol : m.heap.NoLimit) (gens : m.gens = #[])
    (tb : ∀ p ∈ cs, m.heap.get? p.2 = some { cls := .none, data := .fields #[] }) (tk : ∀ p ∈ cs, K.lookup p.2 = none) (cd : ∀ p ∈ cs, PySem.W.CodeHd m.heap p.1 p.2)
    (bmm : ∃ (bm : Addr) (ob : Obj), mg "__builtins__" = some (.ref bm) ∧ bm ≠ builtinsNs ∧ m.heap.get? bm = some ob ∧ ob.cls = .type "module" ∧ ob.dict = some builtinsNs ∧ ob.data = .plain)
    (there : m.heap.get? a = some { cls := .type "list", data := .seq vs.toArray }) (room : Room k callerA)
    (F : ∀ base : Heap, K.In base → base.Ns mainGlobals mg → (∀ p ∈ cs, TabB base mg p.1 p.2) → FnG P w K mg base k fa fd [x] sp) (bnd : ∀ (s : Shared) (u : Value), BindsTo s fd ⟨[u], []⟩ [(x, u)])
    (want : ∀ H : Hp, (∀ p ∈ cs, H p.2 = some (.tbl #[])) → SqL K H a (ns.map V.int) → sp [.ref a] H (fun v _ => v = .bl true) fun _ _ _ => False)
    (H : Hp) (hH : ∀ p ∈ cs, H p.2 = some (.tbl #[])) (only : ∀ b, H b = none ∨ b ∈ tabs cs ∨ ∃ o xs, H b = some (.frz o (.lst xs))) (seq : SqL K H a (ns.map V.int)) (ok : HOk P w H m.heap) (one : ∀ y, H y ≠ none → y = a ∨ y ∈ tabs cs) (apart : H a ≠ none → K.lookup a = none) :
    codeAny (model P w) callerA (.call (.ref fa) ⟨[.ref a], []⟩) (fun r m' => r = .ok (.ret (.bool true)) ∧ OldK m.heap m'.heap ∧ m'.os = m.os ∧ AllBare m'.gens) m := by
  have tbA : ∀ {y : Addr}, y ∈ tabs cs → m.heap.get? y = some { cls := .none, data := .fields #[] } := fun {y} hy => by
    obtain ⟨q, hq, e⟩ := List.mem_map.mp hy
    subst e
    exact tb q hq
  have hid : ∀ {y : Addr} {o : Obj}, m.heap.get? y = some o → H y = none → (hidT m.heap H).get? y = some o := fun e n => hidT_get e n
  -- an object that is neither a list nor an empty table is not tracked
  have untr : ∀ {y : Addr} {o : Obj}, m.heap.get? y = some o → (∀ l n, o.data ≠ .seq l n) → o.data ≠ .fields #[] → H y = none := fun {y o} e n1 n2 => by
    cases z : H y with
    | none => rfl
    | some u =>
      exfalso
      rcases one y (by rw [z]; simp) with hy | hy
      · subst hy
        rw [there] at e
        cases e
        exact n1 _ _ rfl
      · rw [tbA hy] at e
        cases e
        exact n2 rfl
  have nsH : ∀ {y : Addr} {f : Str → Option Value}, m.heap.Ns y f → (hidT m.heap H).Ns y f := fun {y f} z => by
    obtain ⟨o, es, ep, e, d, r⟩ := z
    refine ⟨o, es, ep, hid e (untr e (fun l n c => ?_) fun c => ?_), d, r⟩
    · rw [d] at c; cases c
    · rw [d] at c; cases c
  have kinH : K.In (hidT m.heap H) := fun y o e => by
    refine hid (kin y o e) ?_
    cases z : H y with
    | none => rfl
    | some u =>
      exfalso
      rcases one y (by rw [z]; simp) with hy | hy
      · subst hy
        rw [apart (by rw [z]; simp)] at e
        cases e
      · obtain ⟨q, hq, e'⟩ := List.mem_map.mp hy
        subst e'
        rw [tk q hq] at e
        cases e
  have md : Mod K mg (hidT m.heap H) := by
    obtain ⟨mc, h1, h2⟩ := nol
    exact ⟨kinH, nsH g1, ⟨mb, nsH g2, g3⟩, ⟨mc, nsH h1, h2⟩⟩
  have TBs : ∀ p ∈ cs, TabB (hidT m.heap H) mg p.1 p.2 := fun q hq => by
    have hTq := tb q hq
    refine ⟨?_, ?_, fun z => ?_⟩
    · obtain ⟨o, us, fl, tf, fg, tg, iF, tx, tt, e1, r1, r2, r3, r4, r5, r6, r7, r8, hne⟩ := cd q hq
      refine ⟨o, us, fl, tf, fg, tg, iF, tx, tt, hid e1 (untr e1 (fun l n c => ?_) fun c => ?_), r1, r2, r3, r4, r5, r6, r7, r8, hne⟩
      · rw [r2] at c; cases c
      · rw [r2] at c
        cases c
        simp at r3
    · obtain ⟨bm, ob, b1, b2, b3, b4, b5, b6⟩ := bmm
      refine ⟨bm, ob, b1, b2, fun z => ?_, fun z => ?_, hid b3 (untr b3 (fun l n c => ?_) fun c => ?_), b4, b5, b6⟩
      · obtain ⟨o, es, ep, e, d, _⟩ := g1
        rw [z, e] at b3
        cases b3
        rw [d] at b6
        cases b6
      · rw [z, hTq] at b3
        cases b3
        cases b6
      · rw [b6] at c; cases c
      · rw [b6] at c; cases c
    · obtain ⟨o, es, ep, e, d, _⟩ := g1
      rw [z, hTq] at e
      cases e
      cases d
  have e0 : Env0 P w K mg (hidT m.heap H) callerA [] m H :=
    ⟨rfl, md, fun y o e => of_hidT e, Nat.le_of_eq (hidT_size _ _), trivial, fun y hy => absurd (show y ∈ ([] : List Addr) from hy) (by simp), ok, .of_eq gens⟩
  have run := (F _ kinH (nsH g1) TBs).run callerA [] m H ⟨[.ref a], []⟩ [.ref a] [.ref a] _ _ rfl room e0 (bnd m (.ref a)) (.cons rfl .nil) (want H hH seq)
  refine codeAny_mono run fun r m' h => ?_
  match r, h with
  | .error e, h => exact (show False from h).elim
  | .ok .next, h => exact (show False from h).elim
  | .ok .brk, h => exact (show False from h).elim
  | .ok .cont, h => exact (show False from h).elim
  | .ok (.ret u), h =>
    obtain ⟨v, H', hos, hba, un, ok', rv, q⟩ := h
    obtain rfl : v = .bl true := q
    obtain rfl : u = Value.bool true := rv
    have stays : ∀ y o, y ∉ tabs cs → m.heap.get? y = some o → m'.heap.get? y = some o := fun y o ny e => by
      rcases only y with z | z | ⟨ob, xs, z⟩
      · exact un.keep y o e z (fun hm => absurd (show y ∈ ([] : List Addr) from hm) (by simp)) (by simp)
      · exact absurd z ny
      · obtain ⟨e1, _⟩ := ok y _ z
        obtain ⟨e2, _⟩ := ok' y _ (un.frzs y ob _ z)
        rw [e1] at e
        cases e
        exact e2
    have grows : ∀ q ∈ cs, ∃ more : Array Value, m'.heap.get? q.2 = some { cls := .none, data := .fields more } := fun q hq => by
      obtain ⟨more, z⟩ := un.tbls q.2 #[] (hH q hq)
      exact ⟨_, ok' q.2 _ z⟩
    refine ⟨rfl, ⟨fun y o e => ?_, fun y o e => ?_⟩, hos, hba⟩
    · by_cases hy : y ∈ tabs cs
      · obtain ⟨q, hq, e'⟩ := List.mem_map.mp hy
        subst e'
        obtain ⟨more, hm⟩ := grows q hq
        rw [tb q hq] at e
        cases e
        exact .inr (.inl ⟨((cd q hq).tab (tb q hq)).isCodeTable, rfl, #[], more, rfl, by rw [Array.empty_append]; exact hm⟩)
      · exact .inl (stays y o hy e)
    · by_cases hy : y ∈ tabs cs
      · obtain ⟨q, hq, e'⟩ := List.mem_map.mp hy
        subst e'
        obtain ⟨more, hm⟩ := grows q hq
        exact ⟨_, hm⟩
      · exact ⟨o, stays y o hy e⟩
theorem callLawT (kin : K.In m.heap) (g1 : m.heap.Ns mainGlobals mg) (g2 : m.heap.Ns builtinsNs mb) (g3 : ∀ y : Str, y ≠ "__name__" → mb y = bootBuiltins y) (nol : m.heap.NoLimit) (gens : m.gens = #[])
    (tb : ∀ p ∈ cs, m.heap.get? p.2 = some { cls := .none, data := .fields #[] }) (tk : ∀ p ∈ cs, K.lookup p.2 = none) (cd : ∀ p ∈ cs, PySem.W.CodeHd m.heap p.1 p.2)
    (bmm : ∃ (bm : Addr) (ob : Obj), mg "__builtins__" = some (.ref bm) ∧ bm ≠ builtinsNs ∧ m.heap.get? bm = some ob ∧ ob.cls = .type "module" ∧ ob.dict = some builtinsNs ∧ ob.data = .plain)
    (there : m.heap.get? a = some { cls := .type "list", data := .seq vs.toArray }) (hi : IntsAre vs ns) (hl : ns.length ≤ sizeLine) (room : Room k callerA)
    (F : ∀ base : Heap, K.In base → base.Ns mainGlobals mg → (∀ p ∈ cs, TabB base mg p.1 p.2) → FnG P w K mg base k fa fd [x] sp) (bnd : ∀ (s : Shared) (u : Value), BindsTo s fd ⟨[u], []⟩ [(x, u)])
    (want : ∀ H : Hp, (∀ p ∈ cs, H p.2 = some (.tbl #[])) → SqL K H a (ns.map V.int) → sp [.ref a] H (fun v _ => v = .bl true) fun _ _ _ => False) :
    codeAny (model P w) callerA (.call (.ref fa) ⟨[.ref a], []⟩) (fun r m' => r = .ok (.ret (.bool true)) ∧ OldK m.heap m'.heap ∧ m'.os = m.os ∧ AllBare m'.gens) m := by
  have rv := vals_ints hi
  have lv := hi.length
  have tbA : ∀ {y : Addr}, y ∈ tabs cs → m.heap.get? y = some { cls := .none, data := .fields #[] } := fun {y} hy => by
    obtain ⟨q, hq, e⟩ := List.mem_map.mp hy
    subst e
    exact tb q hq
  have aT : a ∉ tabs cs := fun z => by
    have q := tbA z
    rw [there] at q
    have z' : Data.seq vs.toArray _ = Data.fields #[] := congrArg Obj.data (Option.some.inj q)
    cases z'
  have inT : ∀ p ∈ cs, p.2 ∈ tabs cs := fun p hp => List.mem_map.mpr ⟨p, hp, rfl⟩
  cases hk : K.lookup a with
  | some o =>
    have e := kin a o hk
    rw [there] at e
    cases e
    have hn : ∀ y, y ∉ tabs cs → (if y ∈ tabs cs then some (HO.tbl #[]) else none) = none := fun y hy => if_neg hy
    refine coreT (ns := ns) kin g1 g2 g3 nol gens tb tk cd bmm there room F bnd want (fun y => if y ∈ tabs cs then some (.tbl #[]) else none) (fun q hq => if_pos (inT q hq)) (fun y => ?_) ?_ (fun y u z => ?_) (fun y z => ?_) fun z => absurd (hn a aT) z
    · by_cases hy : y ∈ tabs cs
      · exact .inr (.inl hy)
      · exact .inl (hn y hy)
    · exact .inr ⟨_, vs.toArray, _, hk, rfl, rfl, rfl, by rw [List.size_toArray, lv]; exact hl, by simpa using rv⟩
    · by_cases hy : y ∈ tabs cs
      · have z' := (if_pos hy).symm.trans z
        cases z'
        exact tbA hy
      · have z' := (hn y hy).symm.trans z
        cases z'
    · by_cases hy : y ∈ tabs cs
      · exact .inr hy
      · exact absurd (hn y hy) z
  | none =>
    have ha : ∀ y, y = a → (if y = a then some (HO.frz { cls := .type "list", data := .seq vs.toArray } (.lst (ns.map V.int))) else if y ∈ tabs cs then some (.tbl #[]) else none) = some (HO.frz { cls := .type "list", data := .seq vs.toArray } (.lst (ns.map V.int))) := fun y hy => if_pos hy
    have ht : ∀ y, y ≠ a → y ∈ tabs cs → (if y = a then some (HO.frz { cls := .type "list", data := .seq vs.toArray } (.lst (ns.map V.int))) else if y ∈ tabs cs then some (.tbl #[]) else none) = some (.tbl #[]) := fun y h1 h2 => (if_neg h1).trans (if_pos h2)
    have hn : ∀ y, y ≠ a → y ∉ tabs cs → (if y = a then some (HO.frz { cls := .type "list", data := .seq vs.toArray } (.lst (ns.map V.int))) else if y ∈ tabs cs then some (.tbl #[]) else none) = none := fun y h1 h2 => (if_neg h1).trans (if_neg h2)
    refine coreT (ns := ns) kin g1 g2 g3 nol gens tb tk cd bmm there room F bnd want (fun y => if y = a then some (HO.frz { cls := .type "list", data := .seq vs.toArray } (.lst (ns.map V.int))) else if y ∈ tabs cs then some (.tbl #[]) else none)
      (fun q hq => ht q.2 (fun z => aT (by rw [← z]; exact inT q hq)) (inT q hq)) (fun y => ?_) (.inl (.inr ⟨{ cls := .type "list", data := .seq vs.toArray }, if_pos rfl⟩)) (fun y u z => ?_) (fun y z => ?_) fun _ => hk
    · by_cases hy : y = a
      · exact .inr (.inr ⟨_, _, ha y hy⟩)
      · by_cases h2 : y ∈ tabs cs
        · exact .inr (.inl h2)
        · exact .inl (hn y hy h2)
    · by_cases hy : y = a
      · have z' := (ha y hy).symm.trans z
        cases z'
        subst hy
        exact ⟨there, by rw [List.length_map]; exact hl, vs, _, rv, there⟩
      · by_cases h2 : y ∈ tabs cs
        · have z' := (ht y hy h2).symm.trans z
          cases z'
          exact tbA h2
        · have z' := (hn y hy h2).symm.trans z
          cases z'
    · by_cases hy : y = a
      · exact .inl hy
      · by_cases h2 : y ∈ tabs cs
        · exact .inr h2
        · exact absurd (hn y hy h2) z
end
/-- what is known of the law at the head's heap -/
def LawT (l : PySem.W.OpenLaw) (w : World) (K : PySem.W.Frag) (k n : Nat) (x : Str) (mg : Str → Option Value) (fa : Addr) (h : Heap) : Prop :=
  ∃ (fd : FuncData) (cs : List (Addr × Addr)) (sp : Sp), (∀ p ∈ cs, h.get? p.2 = some { cls := .none, data := .fields #[] }) ∧ (∀ p ∈ cs, K.lookup p.2 = none) ∧ (∀ p ∈ cs, PySem.W.CodeHd h p.1 p.2) ∧ (∀ (s : Shared) (u : Value), BindsTo s fd ⟨[u], []⟩ [(x, u)]) ∧
    (∀ (H : Hp) (a : Addr) (ns : List Int), ns.length ≤ n → (∀ p ∈ cs, H p.2 = some (.tbl #[])) → SqL K H a (ns.map V.int) → sp [.ref a] H (fun v _ => v = .bl true) fun _ _ _ => False) ∧
    ∀ base : Heap, K.In base → base.Ns mainGlobals mg → (∀ p ∈ cs, TabB base mg p.1 p.2) → FnG l.prog w K mg base k fa fd [x] sp
theorem walkT {l : PySem.W.OpenLaw} {n k : Nat} {q : Program} {loose : List Str} {XP : (Str → Option Value) → Heap → Prop} {YP : World → Heap → Prop} {d : DefRec} {K : Params → PySem.W.Frag} {x : Str}
    (hn : l.most = some n) (hn2 : n ≤ sizeLine) (hdf : d.params.defaults = []) (room : Room k callerA) (hY : ∀ (w : World) (h : Heap), YP w h → (K w.params).In h)
    (F : ∀ (w : World) (mg : Str → Option Value) (fa : Addr) (h : Heap), YP w h → (K w.params).In h → h.Ns mainGlobals mg → mg d.name = some (.ref fa) → LawT l w (K w.params) k n x mg fa h) :
    PySem.W.WalkO q loose XP YP l.row.toRowW d [] (fun f vs => PySem.call f vs) := by
  refine Att.attach_call hn hdf fun w s₀ s₁ mg mb fa o pm cd doc a vs ns G Y ho hd hcd hmg hobj hints hlen hg => ?_
  have kin := hY w _ Y
  obtain ⟨fd, cs, sp, hT, nT, C, hb, hsp, hF⟩ := F w mg fa _ Y kin G.T.g hmg
  exact callLawT kin G.T.g G.T.b G.T.builtins G.T.nolimit hg hT nT C G.T.bmain hobj hints (Nat.le_trans hlen hn2) room hF hb fun H hH hS => hsp H a ns hlen hH hS
end G3

set_option Elab.async false
set_option linter.all false
set_option maxRecDepth 100000
set_option maxHeartbeats 4000000
/-! erased -/
namespace K6
open PySem PySem.Spec PyProof.Rows L2 G1 G2 K2 G5 LamX
section
variable {P : Program} {w : World} {K : PySem.W.Frag} {mg : Str → Option Value} {base : Heap} {CD C : Addr}
end
end K6

set_option Elab.async false
set_option linter.all false
set_option maxRecDepth 100000
set_option maxHeartbeats 4000000
/-! check_prices, price -/
namespace K6
open PySem PySem.Spec PyProof.Rows L2 G1 G2 K2 G5 LamX
section
variable {P : Program} {w : World} {K : PySem.W.Frag} {mg : Str → Option Value} {base : Heap} {CD C : Addr}
end
end K6

set_option Elab.async false
set_option linter.all false
set_option maxRecDepth 100000
set_option maxHeartbeats 4000000
/-! price by its words; stand -/
namespace K6
open PySem PySem.Spec PyProof.Rows L2 G1 G2 K2 G5 LamX
/-- the numbers of the open block -/
def opnL (s : Pl) : List Int := match s.fil with
  | none => []
  | some k => [((s.cont.getD k []).length : Int), s.liv.getD k 0]
section
variable {P : Program} {w : World} {K : PySem.W.Frag} {mg : Str → Option Value} {base : Heap} {CD C : Addr}
end
end K6

set_option Elab.async false
set_option linter.all false
set_option maxRecDepth 100000
set_option maxHeartbeats 4000000
/-! one load has one play; what its steps are -/
namespace K6
open PySem PySem.Spec PyProof.Rows L2 G1 G2 K2 G5 LamX
theorem best_uniq {sg : Bool} {cs : List Int} {pl : List Nat} {j j' k k' : Nat} (h : Best sg cs pl j k) (h' : Best sg cs pl j' k') : k = k' := by
  have key : ∀ {j j' k k' : Nat}, Best sg cs pl j k → Best sg cs pl j' k' → ¬ j < j' := fun {j j' k k'} a c hlt => by
    have z1 := a.2 j' k' c.1
    have z2 := c.2 j k a.1
    cases sg
    · have q1 : cs.getD k' 0 ≤ cs.getD k 0 := z1.1
      have q2 := z2.2 hlt
      omega
    · have q1 : cs.getD k 0 ≤ cs.getD k' 0 := z1.1
      have q2 := z2.2 hlt
      omega
  have e : j = j' := by
    have a := key h h'
    have c := key h' h
    omega
  subst e
  exact Option.some.inj (h.1.symm.trans h'.1)
theorem cho_uniq {wd : Str} {cs : List Int} {pl : List Nat} {k k' : Nat} (hw : wd ∈ wordsL) (h : ChoR wd cs pl k) (h' : ChoR wd cs pl k') : k = k' := by
  simp only [wordsL, List.mem_cons, List.not_mem_nil, or_false] at hw
  rcases hw with e | e | e | e
  · exact Option.some.inj ((h.1 e).symm.trans (h'.1 e))
  · exact Option.some.inj ((h.2.1 e).symm.trans (h'.2.1 e))
  · obtain ⟨j, a⟩ := h.2.2.1 e
    obtain ⟨j', c⟩ := h'.2.2.1 e
    exact best_uniq a c
  · obtain ⟨j, a⟩ := h.2.2.2 e
    obtain ⟨j', c⟩ := h'.2.2.2 e
    exact best_uniq a c
theorem pick_uniq {rows : List RowD} {cs : List Int} {k k' : Nat} (hw : ∀ r ∈ rows, r.2 ∈ wordsL) (h : PickR rows cs k) (h' : PickR rows cs k') : k = k' := by
  obtain ⟨j, r, hj, hb, hm, hc⟩ := h
  obtain ⟨j', r', hj', hb', hm', hc'⟩ := h'
  have e : j = j' := by
    rcases Nat.lt_trichotomy j j' with z | z | z
    · have := hb' j r z hj
      rw [this] at hm
      cases hm
    · exact z
    · have := hb j' r' z hj'
      rw [this] at hm'
      cases hm'
  subst e
  have er : r = r' := Option.some.inj (hj.symm.trans hj')
  subst er
  exact cho_uniq (hw r (List.mem_of_getElem? hj)) hc hc'
section
variable {p : Nat} {rows : List RowD}
theorem cleans_uniq (hw : ∀ r ∈ rows, r.2 ∈ wordsL) {seen : List (List Int)} {s s1 s2 : Pl} {k k2 : Nat} {cl cl2 : List Nat} {cp cp2 : Int} (h : Cleans p rows seen s s1 k cl cp) : Cleans p rows seen s s2 k2 cl2 cp2 → s1 = s2 ∧ k = k2 ∧ cl = cl2 ∧ cp = cp2 := by
  induction h generalizing s2 k2 cl2 cp2 with
  | stop hf =>
    intro h2
    cases h2 with
    | stop hf2 => exact ⟨rfl, Option.some.inj (hf.symm.trans hf2), rfl, rfl⟩
    | step hf2 => rw [hf] at hf2; cases hf2
  | step hf hfe hi hn hpk hr ih =>
    intro h2
    cases h2 with
    | stop hf2 => rw [hf] at hf2; cases hf2
    | step hf2 hfe2 hi2 hn2 hpk2 hr2 =>
      have e1 := pick_uniq hw hpk hpk2
      subst e1
      have e2 := Option.some.inj (hi.symm.trans hi2)
      subst e2
      have e3 : [_] = [_] := hfe.symm.trans hfe2
      cases e3
      obtain ⟨a, c, d, e⟩ := ih hr2
      exact ⟨a, c, by rw [d], by rw [e]⟩
theorem opn_uniq (hw : ∀ r ∈ rows, r.2 ∈ wordsL) {s s1 s2 : Pl} {k k2 : Nat} {cl cl2 : List Nat} {cp cp2 : Int} (h : OpnG p rows s s1 k cl cp) (h2 : OpnG p rows s s2 k2 cl2 cp2) : s1 = s2 ∧ k = k2 ∧ cl = cl2 ∧ cp = cp2 := by
  rcases h with ⟨a1, a2, a3, rfl, rfl, rfl⟩ | ⟨a1, a2⟩
  · rcases h2 with ⟨c1, c2, c3, rfl, rfl, rfl⟩ | ⟨c1, _⟩
    · have e := Option.some.inj (a3.symm.trans c3)
      subst e
      exact ⟨rfl, rfl, rfl, rfl⟩
    · have := c1 a1
      omega
  · rcases h2 with ⟨c1, c2, _⟩ | ⟨_, c2⟩
    · have := a1 c1
      omega
    · exact cleans_uniq hw a2 c2
theorem lives_uniq {s : Pl} {x : Str} {h j h' j' : Nat} (a : LivesAt s x h j) (c : LivesAt s x h' j') : h = h' ∧ j = j' := by
  have e : h = h' := nV_inj (Option.some.inj (a.hom.symm.trans c.hom))
  subst e
  refine ⟨rfl, ?_⟩
  rcases Nat.lt_trichotomy j j' with z | z | z
  · exact absurd a.pg (c.fst j z)
  · exact z
  · exact absurd c.pg (a.fst j' z)
theorem dead_uniq {s s1 s2 : Pl} {x : Str} (h : DeadR s s1 x) (h2 : DeadR s s2 x) : s1 = s2 := by
  rcases h with ⟨a, rfl⟩ | ⟨h, j, L, rfl⟩
  · rcases h2 with ⟨_, e⟩ | ⟨_, _, L, _⟩
    · exact e.symm
    · rw [L.hom] at a
      cases a
  · rcases h2 with ⟨a, _⟩ | ⟨_, _, L2, rfl⟩
    · rw [L.hom] at a
      cases a
    · obtain ⟨rfl, rfl⟩ := lives_uniq L L2
      rfl
theorem evt_uniq (hw : ∀ r ∈ rows, r.2 ∈ wordsL) {s s1 s2 : Pl} {wd x : Str} (h : EvtRG p rows s s1 wd x) (h2 : EvtRG p rows s s2 wd x) : s1 = s2 := by
  obtain ⟨a, ha, h⟩ := h
  obtain ⟨c, hc, h2⟩ := h2
  have e := dead_uniq ha hc
  subst e
  rcases h with ⟨w1, rfl⟩ | ⟨w1, t1, k, cl, cp, ho, rfl⟩
  · rcases h2 with ⟨_, rfl⟩ | ⟨w2, _⟩
    · rfl
    · rw [w1] at w2
      exact absurd w2 (by decide)
  · rcases h2 with ⟨w2, _⟩ | ⟨_, t2, k2, cl2, cp2, ho2, rfl⟩
    · rw [w1] at w2
      exact absurd w2 (by decide)
    · obtain ⟨rfl, rfl, rfl, rfl⟩ := opn_uniq hw ho ho2
      rfl
theorem plays_uniq (hw : ∀ r ∈ rows, r.2 ∈ wordsL) : ∀ {es : List (Str × Str)} {s s1 s2 : Pl}, PlaysToG p rows s es s1 → PlaysToG p rows s es s2 → s1 = s2
  | [], s, s1, s2, h, h2 => by
    have e1 : s1 = s := h
    have e2 : s2 = s := h2
    rw [e1, e2]
  | e :: es, s, s1, s2, ⟨a, ha, h⟩, ⟨c, hc, h2⟩ => by
    have z := evt_uniq hw ha hc
    subst z
    exact plays_uniq hw h h2
theorem plays_app : ∀ {es es2 : List (Str × Str)} {s s2 : Pl}, PlaysToG p rows s (es ++ es2) s2 → ∃ s1, PlaysToG p rows s es s1 ∧ PlaysToG p rows s1 es2 s2
  | [], _, s, _, h => ⟨s, rfl, h⟩
  | e :: es, es2, s, s2, ⟨a, ha, h⟩ => by
    obtain ⟨s1, h1, h2⟩ := plays_app (es := es) h
    exact ⟨s1, ⟨a, ha, h1⟩, h2⟩
end
section
variable {b p : Nat} {s : Pl} {al : List Str} {rows : List RowD}
theorem cleans_in (hp : 0 < p) {seen : List (List Int)} {s1 : Pl} {k : Nat} {cl : List Nat} {cp : Int} (h : Cleans p rows seen s s1 k cl cp) : PInv b p s al → (∀ j ∈ cl, j < b) ∧ 0 ≤ cp ∧ (cl = [] → cp = 0) := by
  induction h with
  | stop hf => exact fun _ => ⟨fun j z => (nomatch z), Int.le_refl 0, fun _ => rfl⟩
  | step hf hfe hi hn hpk _ ih =>
    intro I
    obtain ⟨T, hfk, hfb, hkb⟩ := I.cln hp ⟨_, hfe⟩ hf hfe hi
    obtain ⟨h1, h2, _⟩ := ih (I.clean hp hf hfe hi hfk hfb hkb T)
    refine ⟨fun j hj => ?_, ?_, fun z => (nomatch z)⟩
    · rcases List.mem_cons.mp hj with e | e
      · rw [e]
        exact hkb
      · exact h1 j e
    · rw [liv_kln I hi]
      omega
end
end K6

set_option Elab.async false
set_option linter.all false
set_option maxRecDepth 100000
set_option maxHeartbeats 4000000
/-! counts, sums, what the blocks hold -/
namespace K6
open PySem PySem.Spec PyProof.Rows L2 G1 G2 K2 G5 LamX
/-! ### the blocks -/
section
variable {b p : Nat} {s : Pl} {al : List Str}
end
end K6

set_option Elab.async false
set_option linter.all false
set_option maxRecDepth 100000
set_option maxHeartbeats 4000000
/-! _law_load -/
namespace K6
open PySem PySem.Spec PyProof.Rows L2 G1 G2 K2 G5 LamX
abbrev sLoa : Stmt := topS 90
abbrev NLoa : List Str := ["_law_pool_here", "_law_tags_here", "_law_room", "_law_many", "_law_found", "_law_alive", "_law_k", "_law_tag", "_law_way", "_law_x"]
theorem scLoa : FnScope NLoa ["_law_pool_here", "_law_tags_here", "_law_room", "_law_many"] (defScope sLoa) := ⟨rfl, rfl, rfl, by decide +kernel, rfl, by decide +kernel, by decide +kernel⟩
abbrev EvA (H : Hp) (a : Addr) (e : Str × Str) : Prop := H a = some (.tup [.str e.1, .str e.2])
theorem neV_str (a c : Str) : (!decide (V.str a = V.str c)) = decide (a ≠ c) := by
  by_cases e : a = c
  · subst e
    rw [decide_eq_true rfl, decide_eq_false (fun z => z rfl)]
    rfl
  · rw [decide_eq_false (fun z => e (by cases z; rfl)), decide_eq_true e]
    rfl
theorem seq_par6 {i j : Nat} {ta : TA} {t2 : TS} {D : Ends} {σ : L2.St} {H : Hp} (h : ta σ H fun vs H1 => ∃ v w, vs = [v, w] ∧ t2 D ((σ.set i (some v)).set j (some w)) H1) : tSeq (tPar i j ta) t2 D σ H := h
theorem and_read6 {ta tb : TT} {σ : L2.St} {H : Hp} {Q : Bool → Hp → Prop} (h : ta σ H fun c H1 => if c = true then tb σ H1 Q else Q false H1) : tAnd ta tb σ H Q := h
theorem or_read6 {ta tb : TT} {σ : L2.St} {H : Hp} {Q : Bool → Hp → Prop} (h : ta σ H fun c H1 => if c = true then Q true H1 else tb σ H1 Q) : tOr ta tb σ H Q := h
section
variable {K : PySem.W.Frag} {H : Hp} {Q : VK}
/-- [x for x in alive if x != tag] -/
theorem filt_read {a : Addr} {tag : Str} {pal : List Str} {s0 s1 s2 s3 s4 s6 s8 s9 : Option V} (ha : H a = some (.lst (pal.map V.str))) (hl : pal.length ≤ 1000)
    (k : ∀ (H' : Hp) (D : Addr), Same H H' → H D = none → H' D = some (.lst ((pal.filter fun x => decide (x ≠ tag)).map V.str)) → Q (.ref D) H') :
    tLc (iList K (tVar 5)) (gName 9) (tTest (tOp rNe (tVar 9) (tVar 7))) (tVar 9) [9] [s0, s1, s2, s3, s4, some (.ref a), s6, some (.str tag), s8, s9] H Q := by
  refine ⟨_, rfl, a, rfl, ⟨_, SqL.of ha⟩, fun D hD => ?_⟩
  refine lc_list (K := K) (xs := pal.map V.str) (fun i H' => Same H H' ∧ H' D = some (.lst (((pal.take i).filter fun x => decide (x ≠ tag)).map V.str))) ⟨same_lay hD, upd_same⟩ (fun i H' _ z => SqL.of (z.1 _ _ ha)) ?_ ?_
  · rintro i v H' hi ⟨si, ei⟩
    rw [List.getElem?_map] at hi
    obtain ⟨o, ho, rfl⟩ : ∃ o, pal[i]? = some o ∧ V.str o = v := by
      cases hq : pal[i]? with
      | none => rw [hq] at hi; cases hi
      | some o => rw [hq] at hi; exact ⟨o, rfl, Option.some.inj hi⟩
    have htk : pal.take (i + 1) = pal.take i ++ [o] := by rw [List.take_add_one, ho]; rfl
    refine ⟨rfl, test_read6 (op_read ⟨_, rfl, _, rfl, rfl, _, rfl, ?_⟩)⟩
    rw [neV_str]
    by_cases e : o ≠ tag
    · rw [decide_eq_true e]
      refine iteT ⟨_, rfl, _, ei, ?_, fun d u z => ?_, ?_⟩
      · have z := List.length_filter_le (fun x => decide (x ≠ tag)) (pal.take i)
        rw [List.length_take] at z
        rw [List.length_map, sizeLine_eq]
        omega
      · rw [upd_ne (ne_of_none z hD)]
        exact si _ _ z
      · rw [upd_same, htk, List.filter_append, List.map_append]
        have e5 : [o].filter (fun x => decide (x ≠ tag)) = [o] := by simp [e]
        rw [e5]
        rfl
    · rw [decide_eq_false e]
      refine iteF ⟨si, ?_⟩
      rw [htk, List.filter_append]
      have e5 : [o].filter (fun x => decide (x ≠ tag)) = [] := by
        have : o = tag := Decidable.byContradiction e
        simp [this]
      rw [e5, List.append_nil]
      exact ei
  · rintro H' ⟨si, ei⟩
    rw [List.length_map, List.take_length] at ei
    exact k H' D si hD ei
end
theorem filt_erase {l : List Str} (h : l.Nodup) (x : Str) : (l.filter fun y => decide (y ≠ x)) = l.erase x := by
  rw [List.Nodup.erase_eq_filter h]
  refine List.filter_congr fun y _ => ?_
  by_cases e : y = x
  · subst e
    simp
  · simp [e]
theorem perm_aft {al pal : List Str} (h : al.Perm pal) (e : Str × Str) : (aft al e).Perm (aft pal e) := by
  unfold aft
  split
  · exact h.erase _
  · exact (h.erase _).append_right _
theorem again_perm {pal : List Str} {x : Str} (h : x ∈ pal) : (aft pal ("write", x)).Perm pal := by
  unfold aft
  rw [if_neg (show ¬ (("write" : Str) = "trim") from by decide)]
  exact erase_perm h
theorem LetE.perm {n : Nat} {al pal : List Str} {e : Str × Str} (h : al.Perm pal) (z : LetE n pal e) : LetE n al e := by
  refine ⟨z.nm, ?_⟩
  rcases z.ok with ⟨a, c⟩ | ⟨a, c⟩
  · refine .inl ⟨a, ?_⟩
    rcases c with c | c
    · exact .inl (h.mem_iff.mpr c)
    · exact .inr (by rw [h.length_eq]; exact c)
  · exact .inr ⟨a, h.mem_iff.mpr c⟩
/-- how the load stands -/
structure Ld (n : Nat) (tags pal : List Str) (es : List (Str × Str)) : Prop where
  lets : Lets n [] es
  perm : (es.foldl aft []).Perm pal
  nd : pal.Nodup
  few : pal.length ≤ n
  sub : ∀ x ∈ pal, x ∈ tags
  ins : ∀ e ∈ es, e.2 ∈ tags
theorem Ld.step {n : Nat} {tags pal pal' : List Str} {es : List (Str × Str)} (L : Ld n tags pal es) {e : Str × Str} (h : LetE n pal e) (hp : (aft pal e).Perm pal') (nd : pal'.Nodup) (few : pal'.length ≤ n) (sub : ∀ x ∈ pal', x ∈ tags) (hm : e.2 ∈ tags) : Ld n tags pal' (es ++ [e]) := by
  refine ⟨lets_app L.lets ⟨h.perm L.perm, trivial⟩, ?_, nd, few, sub, fun d hd => (List.mem_append.mp hd).elim (L.ins d) fun z => by rw [List.mem_singleton.mp z]; exact hm⟩
  rw [List.foldl_append]
  exact (perm_aft L.perm e).trans hp
def spLoa : Sp := fun vs H Q _ => ∃ (pl tl : Addr) (n m : Nat) (tags : List Str), vs = [.ref pl, .ref tl, .int (n : Int), .int (m : Int)] ∧ PoolAt H pl ∧ tl ≠ pl ∧ H tl = some (.lst (tags.map V.str)) ∧ tags ≠ [] ∧ tags.length ≤ 100 ∧ (∀ x ∈ tags, NameOk x) ∧ 1 ≤ n ∧ n ≤ 100 ∧ m ≤ 1000 ∧
  ∀ (H' : Hp) (t : Addr) (eas : List Addr) (es : List (Str × Str)), Stp pl H H' → H' t = some (.tup (eas.map V.ref)) → Paired (EvA H') eas es → Lets n [] es → es.length = m → (∀ e ∈ es, e.2 ∈ tags) → Q (.ref t) H'
section
variable {P : Program} {w : World} {K : PySem.W.Frag} {mg : Str → Option Value} {base : Heap}
theorem ok_loa {f : Addr} {fd : FuncData} (F : Fun K "_law_load" "_law_load" sLoa f fd) (B : Bl mg) (GD : FAt P w K mg base 1 "_law_draw" ["_law_pool_here", "_law_many"] spDraw) : FnOk P w K mg base CX0 2 f fd ["_law_pool_here", "_law_tags_here", "_law_room", "_law_many"] spLoa := by
  refine F.ok scLoa (fun vs H Q E h => ?_) (fun cdv A outer s H vs Q E hr h => ?_)
  · obtain ⟨pl, tl, n, m, tags, rfl, _⟩ := h
    rfl
  obtain ⟨pl, tl, n, m, tags, rfl, hp, ntl, htl, hte, htl100, hnm, hn1, hn100, hm, k⟩ := h
  obtain ⟨fD, dD, GD, kD, bD, gD⟩ := GD.ex
  refine ⟨_, pss_cons (ps_par (i := 4) (j := 5) (by rfl) scLoa.nd rfl rfl (by decide) rfl rfl (pa_cons (pe_lst pa_nil) (pa_cons (pe_lst pa_nil) pa_nil)) (by rfl))
    (pss_cons (ps_for PassesOwn.never rfl (pi_range1 (by rfl) B.range (pa_cons (pv 3) pa_nil)) (pg_name (i := 6) scLoa.nd rfl (.inl rfl))
      (pss_cons (ps_asg (pe_tup (pa_cons (pe_ix ix_list (pv 1) (pe_call GD hr (by rfl) gD kD bD .nil pass0 (pa_cons (pv 0) (pa_cons (pe_callB call_len_seq (by rfl) B.len PySem.boot_len (pa_cons (pv 1) pa_nil)) pa_nil))) (fun _ _ => rfl)) (pa_cons (pe_call GD hr (by rfl) gD kD bD .nil pass0 (pa_cons (pv 0) (pa_cons pe_int pa_nil))) pa_nil)))
          (pg_tup rfl (pgs_cons (pg_name (i := 7) scLoa.nd rfl (.inr rfl)) (pgs_cons (pg_name (i := 8) scLoa.nd rfl (.inl rfl)) pgs_nil))))
      (pss_one (ps_if (PW.pt (pw_and (pt_cmpR op_in_seq (pv 7) (pv 5) (by rfl)) (pw_and1 (pt_cmpR op_eq (pv 8) pe_int (nomark _)))))
        (pss_cons (ps_setLc (i := 5) (own := [("_law_x", 9)]) (g := gName 9) (tt := tTest (tOp rNe (tVar 9) (tVar 7))) (te := tVar 9) rfl scLoa.nd rfl rfl (by rfl) (pi_list (pv 5)) (blkOk_by (own := [("_law_x", 9)]) (N := NLoa) (sc := defScope sLoa) (by decide +kernel))
            (fun _ _ _ _ _ => pg_name (i := 9) scLoa.nd rfl (Or.inl rfl)) (fun _ _ _ _ _ => pts_one (pt_cmpR op_ne (pv 9) (pv 7) (nomark _))) (fun _ _ _ _ _ => pv 9))
        (pss_one (ps_expr (pe_bm PySem.F.plainAttrs_list PySem.F.slot_list_append PySem.F.type_list_append mt_append (pv 4) (pa_cons (pe_tup (pa_cons pe_str (pa_cons (pv 7) pa_nil))) pa_nil)))))
        (pss_one (ps_if (PW.pt (pw_or (pt_cmpR op_in_seq (pv 7) (pv 5) (by rfl)) (pw_or1 (pt_cmpR op_lt (pe_callB call_len_seq (by rfl) B.len PySem.boot_len (pa_cons (pv 5) pa_nil)) (pv 2) (nomark _)))))
          (pss_cons (ps_set (i := 5) scLoa.nd rfl (.inl rfl) (pe_op op_cat (pe_lc (own := [("_law_x", 9)]) (g := gName 9) (tt := tTest (tOp rNe (tVar 9) (tVar 7))) (te := tVar 9) rfl scLoa.nd (pi_list (pv 5)) (blkOk_by (own := [("_law_x", 9)]) (N := NLoa) (sc := defScope sLoa) (by decide +kernel))
            (fun _ _ _ _ _ => pg_name (i := 9) scLoa.nd rfl (Or.inl rfl)) (fun _ _ _ _ _ => pts_one (pt_cmpR op_ne (pv 9) (pv 7) (nomark _))) (fun _ _ _ _ _ => pv 9)) (pe_lst (pa_cons (pv 7) pa_nil))))
          (pss_one (ps_expr (pe_bm PySem.F.plainAttrs_list PySem.F.slot_list_append PySem.F.type_list_append mt_append (pv 4) (pa_cons (pe_tup (pa_cons pe_str (pa_cons (pv 7) pa_nil))) pa_nil)))))
          (pss_one (ps_expr (pe_bm PySem.F.plainAttrs_list PySem.F.slot_list_append PySem.F.type_list_append mt_append (pv 4) (pa_cons (pe_tup (pa_cons pe_str (pa_cons (pe_ix ix_list (pv 5) (pe_call GD hr (by rfl) gD kD bD .nil pass0 (pa_cons (pv 0) (pa_cons (pe_callB call_len_seq (by rfl) B.len PySem.boot_len (pa_cons (pv 5) pa_nil)) pa_nil))) (fun _ _ => rfl)) pa_nil))) pa_nil))))))))))
    (pss_one (ps_ret (pe_callTy call_tuple_of (by rfl) B.tup bTup (pa_cons (pv 4) pa_nil))))), ?_⟩
  refine seq_par6 (cons_read (lst_read (nil_read ⟨by show 0 ≤ sizeLine; decide, fun fl nfl => ?_⟩)))
  have s1 : Same H (L2.upd H fl (.lst [])) := same_lay nfl
  have e1 : (L2.upd H fl (.lst [])) fl = some (.lst []) := upd_same
  generalize L2.upd H fl (.lst []) = H1 at s1 e1 ⊢
  refine cons_read (lst_read (nil_read ⟨by show 0 ≤ sizeLine; decide, fun aA naA => nil_read ⟨_, _, rfl, ?_⟩⟩))
  have s2 : Same H1 (L2.upd H1 aA (.lst [])) := same_lay naA
  have e2 : (L2.upd H1 aA (.lst [])) aA = some (.lst (([] : List Str).map V.str)) := upd_same
  have nfa : fl ≠ aA := ne_of_none e1 naA
  have naA0 : H aA = none := by
    cases e : H aA with
    | none => rfl
    | some o => rw [s1 _ _ e] at naA; cases naA
  show tSeq (tFor _ _ _) _ _ [some (.ref pl), some (.ref tl), some (.int (n : Int)), some (.int (m : Int)), some (.ref fl), some (.ref aA), none, none, none, none] (L2.upd H1 aA (.lst []))
  generalize L2.upd H1 aA (.lst []) = H2 at s2 e2 ⊢
  refine seq_for fun D' hD1 hD2 => ?_
  refine ⟨_, rfl, (m : Int), rfl, by omega, by omega, ?_⟩
  rw [Int.toNat_natCast]
  refine for_range (lo := 0) (n := m) (fun i σ H' => ∃ (x6 x7 x8 : Option V) (aA : Addr) (eas : List Addr) (es : List (Str × Str)) (pal : List Str), σ = [some (.ref pl), some (.ref tl), some (.int (n : Int)), some (.int (m : Int)), some (.ref fl), some (.ref aA), x6, x7, x8, none] ∧ Stp pl H H' ∧ H' fl = some (.lst (eas.map V.ref)) ∧ H' aA = some (.lst (pal.map V.str)) ∧ aA ≠ pl ∧ fl ≠ aA ∧ Paired (EvA H') eas es ∧ Ld n tags pal es ∧ es.length = i)
    ⟨none, none, none, aA, [], [], [], rfl, Stp.of hp (s1.trans s2), s2 _ _ e1, e2, pool_new hp naA0, nfa, .nil, ⟨trivial, List.Perm.refl _, List.nodup_nil, Nat.zero_le _, fun x z => (nomatch z), fun x z => (nomatch z)⟩, rfl⟩ ?_ ?_
  · rintro i σ H3 hi ⟨x6, x7, x8, aA, eas, es, pal, rfl, S3, hfl, hal, nap, nfa, hes, hL, hlen⟩
    have nfp : fl ≠ pl := pool_new hp nfl
    have hel := Paired.length hes
    have hpal : pal.length ≤ 100 := Nat.le_trans hL.few hn100
    refine seq_asg (tup_read (cons_read (op_read ⟨_, rfl, ?_⟩)))
    refine draw_t (p := pl) (m := (tags.length : Int)) rfl (fun R z => cb_read (cons_read ⟨_, rfl, nil_read ⟨tl, _, rfl, .inl (SqL.of (S3.2 _ _ ntl htl)), by rw [List.length_map]; exact z⟩⟩)) S3.1 ?_ (by omega) fun H4 r S4 r0 r1 => ?_
    · have := List.length_pos_iff.mpr hte
      omega
    have hrl : r.toNat < tags.length := by omega
    obtain ⟨tag, htag⟩ : ∃ t, tags[r.toNat]? = some t := ⟨_, List.getElem?_eq_getElem hrl⟩
    have S34 := S3.trans S4
    refine ⟨tl, _, r, .str tag, rfl, rfl, SqL.of (S34.2 _ _ ntl htl), at_int r0 (by rw [List.getElem?_map, htag]; rfl), ?_⟩
    refine cons_read (draw_c (p := pl) rfl S34.1 (by decide) (by decide) fun H5 w S5 w0 w1 => nil_read ⟨by show 2 ≤ sizeLine; decide, fun u nu => ?_⟩)
    have su : Same H5 (L2.upd H5 u (.tup [.str tag, .int w])) := same_lay nu
    refine ⟨u, _, rfl, SqT.of upd_same, rfl, _, _, rfl, _, _, rfl, rfl, ?_⟩
    have S6 : Stp pl H3 (L2.upd H5 u (.tup [.str tag, .int w])) := (S4.trans S5).trans (Stp.of S5.1 su)
    generalize L2.upd H5 u (.tup [.str tag, .int w]) = H6 at S6 ⊢
    have S06 := S3.trans S6
    have hfl6 := S6.2 _ _ nfp hfl
    have hal6 := S6.2 _ _ nap hal
    have hes6 : Paired (EvA H6) eas es := Paired.mapP hes fun a e z => S6.2 _ _ (pool_ne S3.1 z) z
    have htm := List.mem_of_getElem? htag
    have hntag := hnm tag htm
    clear S4 S5 S34 su nu
    -- how a branch ends: found grows by one, alive stands at aA2
    have fin : ∀ (H7 : Hp) (aA2 : Addr) (pal2 : List Str) (wd x : Str) (x6 x7 x8 : Option V), Same H6 H7 → H7 aA2 = some (.lst (pal2.map V.str)) → aA2 ≠ pl → fl ≠ aA2 → Ld n tags pal2 (es ++ [((wd, x) : Str × Str)]) → ∀ (a : Addr), H7 a = none → ∃ (x6' x7' x8' : Option V) (aA' : Addr) (eas' : List Addr) (es' : List (Str × Str)) (pal' : List Str), [some (.ref pl), some (.ref tl), some (.int (n : Int)), some (.int (m : Int)), some (.ref fl), some (.ref aA2), x6, x7, x8, none] = [some (.ref pl), some (.ref tl), some (.int (n : Int)), some (.int (m : Int)), some (.ref fl), some (.ref aA'), x6', x7', x8', none] ∧ Stp pl H (L2.upd (L2.upd H7 a (.tup [.str wd, .str x])) fl (.lst (eas.map V.ref ++ [.ref a]))) ∧ (L2.upd (L2.upd H7 a (.tup [.str wd, .str x])) fl (.lst (eas.map V.ref ++ [.ref a]))) fl = some (.lst (eas'.map V.ref)) ∧ (L2.upd (L2.upd H7 a (.tup [.str wd, .str x])) fl (.lst (eas.map V.ref ++ [.ref a]))) aA' = some (.lst (pal'.map V.str)) ∧ aA' ≠ pl ∧ fl ≠ aA' ∧ Paired (EvA (L2.upd (L2.upd H7 a (.tup [.str wd, .str x])) fl (.lst (eas.map V.ref ++ [.ref a])))) eas' es' ∧ Ld n tags pal' es' ∧ es'.length = i + 1 := by
      intro H7 aA2 pal2 wd x x6 x7 x8 s7 ha2 n1 n2 L2' a na
      have naf : a ≠ fl := fun z => by rw [z, s7 _ _ hfl6] at na; cases na
      have sa : Same H7 (L2.upd H7 a (.tup [.str wd, .str x])) := same_lay na
      have S7 : Stp pl H (L2.upd H7 a (.tup [.str wd, .str x])) := S06.trans (Stp.of S06.1 (s7.trans sa))
      refine ⟨x6, x7, x8, aA2, eas ++ [a], es ++ [(wd, x)], pal2, rfl, ?_, by rw [upd_same, List.map_append]; rfl, by rw [upd_ne (Ne.symm n2)]; exact sa _ _ ha2, n1, n2, ?_, L2', by rw [List.length_append, hlen]; rfl⟩
      · obtain ⟨i1, j1, m1, z1, z2, z3⟩ := S7.1
        exact ⟨⟨i1, j1, m1, by rw [upd_ne (Ne.symm nfp)]; exact z1, z2, z3⟩, fun c o hc e => by rw [upd_ne (ne_of_none e nfl)]; exact S7.2 c o hc e⟩
      · refine K2.paired_snoc (Paired.mapP hes6 fun c e z => ?_) (by show L2.upd _ fl _ a = _; rw [upd_ne naf]; exact upd_same)
        show L2.upd _ fl _ c = _
        rw [upd_ne (ne_of z hfl6 (by intro z; cases z))]
        exact sa _ _ (s7 _ _ z)
    have hsz : (eas.map V.ref).length < sizeLine := by rw [List.length_map, sizeLine_eq]; omega
    refine one_ifE (and_read6 (test_read6 (op_read ⟨_, rfl, _, rfl, aA, _, rfl, .inl (SqL.of hal6), rfl, flat_str _, _, rfl, ?_⟩)))
    show (if inV (.str tag) (pal.map V.str) = true then _ else _)
    rw [inV_str]
    by_cases hin : tag ∈ pal
    · rw [decide_eq_true hin]
      refine iteT (test_read6 (op_read ⟨_, rfl, c_read ⟨rfl, _, rfl, ite2 (fun _ => ?_) (fun _ => ?_)⟩⟩))
      · -- a trim
        refine seq_asg (filt_read hal6 (by omega) fun H7 D s7 nD hD7 => ?_)
        rw [filt_erase hL.nd] at hD7
        refine ⟨_, rfl, .inl ⟨rfl, _, SqL.of (s7 _ _ hfl6)⟩, cons_read (tup_read (cons_read (c_read (cons_read ⟨_, rfl, nil_read ⟨by show 2 ≤ sizeLine; decide, fun a na => nil_read ⟨fl, _, _, rfl, rfl, same_lay na _ _ (s7 _ _ hfl6), hsz, ?_⟩⟩⟩))))⟩
        refine fin H7 D (pal.erase tag) "trim" tag _ _ _ s7 hD7 (pool_new S06.1 nD) (ne_of_none hfl6 nD) (hL.step ⟨hntag, .inr ⟨rfl, hin⟩⟩ ?_ (hL.nd.erase _) (Nat.le_trans List.length_erase_le hL.few) (fun x hx => hL.sub x (List.mem_of_mem_erase hx)) htm) a na
        unfold aft
        rw [if_pos rfl]
      · -- written again
        refine one_ifE (or_read6 (test_read6 (op_read ⟨_, rfl, _, rfl, aA, _, rfl, .inl (SqL.of hal6), rfl, flat_str _, _, rfl, ?_⟩)))
        show (if inV (.str tag) (pal.map V.str) = true then _ else _)
        rw [inV_str, decide_eq_true hin]
        refine iteT ?_
        refine iteT ?_
        refine seq_asg (op_read (filt_read hal6 (by omega) fun H7 D s7 nD hD7 => lst_read (cons_read ⟨_, rfl, nil_read ⟨by show 1 ≤ sizeLine; decide, fun l1 nl1 => ?_⟩⟩)))
        rw [filt_erase hL.nd] at hD7
        have s8 : Same H7 (L2.upd H7 l1 (.lst [.str tag])) := same_lay nl1
        have e8 : (L2.upd H7 l1 (.lst [.str tag])) l1 = some (.lst [.str tag]) := upd_same
        generalize L2.upd H7 l1 (.lst [.str tag]) = H8 at s8 e8 ⊢
        refine ⟨D, l1, _, _, rfl, rfl, s8 _ _ hD7, e8, ?_, fun q nq => ?_⟩
        · have := List.length_erase_le (a := tag) (l := pal)
          rw [List.length_map, sizeLine_eq]
          show (pal.erase tag).length + 1 ≤ _
          omega
        have s9 : Same H6 (L2.upd H8 q (.lst ((pal.erase tag).map V.str ++ [.str tag]))) := s7.trans (s8.trans (same_lay nq))
        have e9 : (L2.upd H8 q (.lst ((pal.erase tag).map V.str ++ [.str tag]))) q = some (.lst ((pal.erase tag ++ [tag]).map V.str)) := by rw [upd_same, List.map_append]; rfl
        have nq6 : H6 q = none := by
          cases e : H6 q with
          | none => rfl
          | some o => rw [(s7.trans s8) _ _ e] at nq; cases nq
        show (tDrop _) _ [some (.ref pl), some (.ref tl), some (.int (n : Int)), some (.int (m : Int)), some (.ref fl), some (.ref q), some (.int (0 + (i : Int))), some (.str tag), some (.int w), none] (L2.upd H8 q (.lst ((pal.erase tag).map V.str ++ [.str tag])))
        generalize L2.upd H8 q (.lst ((pal.erase tag).map V.str ++ [.str tag])) = H9 at s9 e9 ⊢
        refine ⟨_, rfl, .inl ⟨rfl, _, SqL.of (s9 _ _ hfl6)⟩, cons_read (tup_read (cons_read (c_read (cons_read ⟨_, rfl, nil_read ⟨by show 2 ≤ sizeLine; decide, fun a na => nil_read ⟨fl, _, _, rfl, rfl, same_lay na _ _ (s9 _ _ hfl6), hsz, ?_⟩⟩⟩))))⟩
        have hok : LetE n pal ((("write" : Str), tag) : Str × Str) := ⟨hntag, .inl ⟨rfl, .inl hin⟩⟩
        refine fin H9 q (pal.erase tag ++ [tag]) "write" tag _ _ _ s9 e9 (pool_new S06.1 nq6) (ne_of_none hfl6 nq6) (hL.step hok ?_ ?_ ?_ (fun x hx => ?_) htm) a na
        · unfold aft
          rw [if_neg (show ¬ (("write" : Str) = "trim") from by decide)]
        · refine List.nodup_append.mpr ⟨hL.nd.erase _, List.nodup_cons.mpr ⟨List.not_mem_nil, List.nodup_nil⟩, fun a ha c hc e => ?_⟩
          rw [List.mem_singleton.mp hc] at e
          rw [e] at ha
          exact ((List.Nodup.mem_erase_iff hL.nd).mp ha).1 rfl
        · have z := aft_len hok hL.few
          unfold aft at z
          rw [if_neg (show ¬ (("write" : Str) = "trim") from by decide)] at z
          exact z
        · rcases List.mem_append.mp hx with h | h
          · exact hL.sub x (List.mem_of_mem_erase h)
          · rw [List.mem_singleton.mp h]
            exact htm
    · rw [decide_eq_false hin]
      refine iteF (iteF ?_)
      refine one_ifE (or_read6 (test_read6 (op_read ⟨_, rfl, _, rfl, aA, _, rfl, .inl (SqL.of hal6), rfl, flat_str _, _, rfl, ?_⟩)))
      show (if inV (.str tag) (pal.map V.str) = true then _ else _)
      rw [inV_str, decide_eq_false hin]
      refine iteF (test_read6 (op_read (cb_read (cons_read ⟨_, rfl, nil_read ⟨aA, _, rfl, .inl (SqL.of hal6), _, rfl, _, _, rfl, rfl, _, rfl, ?_⟩⟩))))
      rw [List.length_map]
      by_cases hroom : pal.length < n
      · rw [decide_eq_true (by omega)]
        refine iteT ?_
        refine seq_asg (op_read (filt_read hal6 (by omega) fun H7 D s7 nD hD7 => lst_read (cons_read ⟨_, rfl, nil_read ⟨by show 1 ≤ sizeLine; decide, fun l1 nl1 => ?_⟩⟩)))
        rw [filt_erase hL.nd] at hD7
        have s8 : Same H7 (L2.upd H7 l1 (.lst [.str tag])) := same_lay nl1
        have e8 : (L2.upd H7 l1 (.lst [.str tag])) l1 = some (.lst [.str tag]) := upd_same
        generalize L2.upd H7 l1 (.lst [.str tag]) = H8 at s8 e8 ⊢
        refine ⟨D, l1, _, _, rfl, rfl, s8 _ _ hD7, e8, ?_, fun q nq => ?_⟩
        · have := List.length_erase_le (a := tag) (l := pal)
          rw [List.length_map, sizeLine_eq]
          show (pal.erase tag).length + 1 ≤ _
          omega
        have s9 : Same H6 (L2.upd H8 q (.lst ((pal.erase tag).map V.str ++ [.str tag]))) := s7.trans (s8.trans (same_lay nq))
        have e9 : (L2.upd H8 q (.lst ((pal.erase tag).map V.str ++ [.str tag]))) q = some (.lst ((pal.erase tag ++ [tag]).map V.str)) := by rw [upd_same, List.map_append]; rfl
        have nq6 : H6 q = none := by
          cases e : H6 q with
          | none => rfl
          | some o => rw [(s7.trans s8) _ _ e] at nq; cases nq
        show (tDrop _) _ [some (.ref pl), some (.ref tl), some (.int (n : Int)), some (.int (m : Int)), some (.ref fl), some (.ref q), some (.int (0 + (i : Int))), some (.str tag), some (.int w), none] (L2.upd H8 q (.lst ((pal.erase tag).map V.str ++ [.str tag])))
        generalize L2.upd H8 q (.lst ((pal.erase tag).map V.str ++ [.str tag])) = H9 at s9 e9 ⊢
        refine ⟨_, rfl, .inl ⟨rfl, _, SqL.of (s9 _ _ hfl6)⟩, cons_read (tup_read (cons_read (c_read (cons_read ⟨_, rfl, nil_read ⟨by show 2 ≤ sizeLine; decide, fun a na => nil_read ⟨fl, _, _, rfl, rfl, same_lay na _ _ (s9 _ _ hfl6), hsz, ?_⟩⟩⟩))))⟩
        have hok : LetE n pal ((("write" : Str), tag) : Str × Str) := ⟨hntag, .inl ⟨rfl, .inr hroom⟩⟩
        refine fin H9 q (pal.erase tag ++ [tag]) "write" tag _ _ _ s9 e9 (pool_new S06.1 nq6) (ne_of_none hfl6 nq6) (hL.step hok ?_ ?_ ?_ (fun x hx => ?_) htm) a na
        · unfold aft
          rw [if_neg (show ¬ (("write" : Str) = "trim") from by decide)]
        · refine List.nodup_append.mpr ⟨hL.nd.erase _, List.nodup_cons.mpr ⟨List.not_mem_nil, List.nodup_nil⟩, fun a ha c hc e => ?_⟩
          rw [List.mem_singleton.mp hc] at e
          rw [e] at ha
          exact ((List.Nodup.mem_erase_iff hL.nd).mp ha).1 rfl
        · have z := aft_len hok hL.few
          unfold aft at z
          rw [if_neg (show ¬ (("write" : Str) = "trim") from by decide)] at z
          exact z
        · rcases List.mem_append.mp hx with h | h
          · exact hL.sub x (List.mem_of_mem_erase h)
          · rw [List.mem_singleton.mp h]
            exact htm
      · rw [decide_eq_false (by omega)]
        refine iteF ?_
        have hpos : 0 < pal.length := by omega
        refine ⟨_, rfl, .inl ⟨rfl, _, SqL.of hfl6⟩, cons_read (tup_read (cons_read (c_read (cons_read (op_read ⟨_, rfl, ?_⟩)))))⟩
        refine draw_t (p := pl) (m := (pal.length : Int)) rfl (fun R z => cb_read (cons_read ⟨_, rfl, nil_read ⟨aA, _, rfl, .inl (SqL.of hal6), by rw [List.length_map]; exact z⟩⟩)) S06.1 (by omega) (by omega) fun H7 r2 S7 r20 r21 => ?_
        have hrl2 : r2.toNat < pal.length := by omega
        obtain ⟨x, hx⟩ : ∃ t, pal[r2.toNat]? = some t := ⟨_, List.getElem?_eq_getElem hrl2⟩
        have hxm := List.mem_of_getElem? hx
        have hfl7 := S7.2 _ _ nfp hfl6
        have hal7 := S7.2 _ _ nap hal6
        refine ⟨aA, _, r2, .str x, rfl, rfl, SqL.of hal7, at_int r20 (by rw [List.getElem?_map, hx]; rfl), nil_read ⟨by show 2 ≤ sizeLine; decide, fun a na => nil_read ⟨fl, _, _, rfl, rfl, same_lay na _ _ hfl7, hsz, ?_⟩⟩⟩
        have naf : a ≠ fl := fun z => by rw [z, hfl7] at na; cases na
        have sa : Same H7 (L2.upd H7 a (.tup [.str "write", .str x])) := same_lay na
        have S8 : Stp pl H (L2.upd H7 a (.tup [.str "write", .str x])) := (S06.trans S7).trans (Stp.of S7.1 sa)
        have hok : LetE n pal ((("write" : Str), x) : Str × Str) := ⟨hnm x (hL.sub x hxm), .inl ⟨rfl, .inl hxm⟩⟩
        refine ⟨_, _, _, aA, eas ++ [a], es ++ [((("write" : Str), x) : Str × Str)], pal, rfl, ?_, by rw [upd_same, List.map_append]; rfl, by rw [upd_ne (Ne.symm nfa)]; exact sa _ _ hal7, nap, nfa, ?_, hL.step hok (again_perm hxm) hL.nd hL.few hL.sub (hL.sub x hxm), by rw [List.length_append, hlen]; rfl⟩
        · obtain ⟨i1, j1, m1, z1, z2, z3⟩ := S8.1
          exact ⟨⟨i1, j1, m1, by rw [upd_ne (Ne.symm nfp)]; exact z1, z2, z3⟩, fun c o hc e => by rw [upd_ne (ne_of_none e nfl)]; exact S8.2 c o hc e⟩
        · refine K2.paired_snoc (Paired.mapP hes6 fun c e z => ?_) (by show L2.upd _ fl _ a = _; rw [upd_ne naf]; exact upd_same)
          show L2.upd _ fl _ c = _
          rw [upd_ne (ne_of z hfl6 (by intro z; cases z))]
          exact sa _ _ (S7.2 _ _ (pool_ne S06.1 z) z)
  · rintro σ H' ⟨x6, x7, x8, aA, eas, es, pal, rfl, S3, hfl, hal, nap, nfa, hes, hL, hlen⟩
    rw [hD1]
    refine ret_read (cb_read (cons_read ⟨_, rfl, nil_read ⟨fl, _, rfl, .inl ⟨SqL.of hfl, fun t nt => ?_⟩⟩⟩))
    have st : Same H' (L2.upd H' t (.tup (eas.map V.ref))) := same_lay nt
    exact k _ t eas es (S3.trans (Stp.of S3.1 st)) upd_same (Paired.mapP hes fun c e z => st _ _ z) hL.lets hlen hL.ins
end
end K6

set_option Elab.async false
set_option linter.all false
set_option maxRecDepth 100000
set_option maxHeartbeats 4000000
/-! data made of whole numbers: fit to be shown and compared -/
namespace K6
open PySem PySem.Spec PyProof.Rows L2 G1 G2 K2 G5 LamX
theorem lay_map {α : Type} (f : α → PyData) : ∀ l : List α, (∀ x ∈ l, (f x).canLay0 = true) → PyData.canLayAll0 (l.map f) = true
  | [], _ => rfl
  | x :: l, h => by
    rw [List.map_cons]
    unfold PyData.canLayAll0
    rw [h x (List.mem_cons_self ..), lay_map f l (fun y hy => h y (List.mem_cons_of_mem _ hy))]
    rfl
theorem show_map {α : Type} (f : α → PyData) : ∀ l : List α, (∀ x ∈ l, (f x).showable = true) → PyData.showableAll (l.map f) = true
  | [], _ => rfl
  | x :: l, h => by
    rw [List.map_cons]
    unfold PyData.showableAll
    rw [h x (List.mem_cons_self ..), show_map f l (fun y hy => h y (List.mem_cons_of_mem _ hy))]
    rfl
theorem short_map {α : Type} (B : Nat) (f : α → PyData) : ∀ l : List α, (∀ x ∈ l, (f x).leavesShort B = true) → PyData.leavesShortAll B (l.map f) = true
  | [], _ => rfl
  | x :: l, h => by
    rw [List.map_cons]
    unfold PyData.leavesShortAll
    rw [h x (List.mem_cons_self ..), short_map B f l (fun y hy => h y (List.mem_cons_of_mem _ hy))]
    rfl
theorem deep_map {α : Type} (k : Nat) (f : α → PyData) : ∀ l : List α, (∀ x ∈ l, (f x).depth ≤ k) → PyData.depthAll (l.map f) ≤ k
  | [], _ => by simp [PyData.depthAll]
  | x :: l, h => by
    have h1 := h x (List.mem_cons_self ..)
    have h2 := deep_map k f l (fun y hy => h y (List.mem_cons_of_mem _ hy))
    rw [List.map_cons]
    simp only [PyData.depthAll]
    omega
theorem bulk_map {α : Type} (k : Nat) (f : α → PyData) : ∀ l : List α, (∀ x ∈ l, (f x).bulk ≤ k) → PyData.bulkAll (l.map f) ≤ (k + 1) * l.length
  | [], _ => by simp [PyData.bulkAll]
  | x :: l, h => by
    have h1 := h x (List.mem_cons_self ..)
    have h2 := bulk_map k f l (fun y hy => h y (List.mem_cons_of_mem _ hy))
    rw [List.map_cons, List.length_cons, Nat.mul_succ]
    simp only [PyData.bulkAll]
    omega
/-- data that may be shown and compared -/
structure DFit (d : PyData) (k m : Nat) : Prop where
  lay : d.canLay0 = true
  sho : d.showable = true
  sht : d.leavesShort 8 = true
  dep : d.depth ≤ k
  blk : d.bulk ≤ m
theorem small_int {i : Int} (h : i.natAbs < 10 ^ 7) : DFit (.int i) 0 0 := by
  refine ⟨rfl, ?_, ?_, by simp [PyData.depth], by simp [PyData.bulk]⟩
  · unfold PyData.showable
    refine decide_eq_true ?_
    by_cases e : i.natAbs = 0
    · rw [e]
      decide
    · refine (Nat.log2_lt e).mpr (Nat.lt_of_lt_of_le (Nat.lt_trans h (show 10 ^ 7 < 2 ^ 24 by decide)) (Nat.pow_le_pow_right (by decide) (show 24 ≤ 1920 by decide)))
  · unfold PyData.leavesShort
    refine decide_eq_true ?_
    have z := int_text_length_le10 (k := 7) (by decide) h
    show (Str.ofString (toString i)).length ≤ 8
    rw [PySem.ofString_length]
    exact z
theorem non_fit : DFit .none 0 0 := ⟨rfl, rfl, rfl, by simp [PyData.depth], by simp [PyData.bulk]⟩
theorem DFit.up {d : PyData} {k m k' m' : Nat} (h : DFit d k m) (hk : k ≤ k') (hm : m ≤ m') : DFit d k' m' := ⟨h.lay, h.sho, h.sht, Nat.le_trans h.dep hk, Nat.le_trans h.blk hm⟩
theorem tup_fit {α : Type} {f : α → PyData} {l : List α} {k m n : Nat} (h : ∀ x ∈ l, DFit (f x) k m) (hl : l.length ≤ n) : DFit (.tuple (l.map f)) (k + 1) ((m + 1) * n) := by
  refine ⟨?_, ?_, ?_, ?_, ?_⟩
  · unfold PyData.canLay0
    exact lay_map f l fun x hx => (h x hx).lay
  · unfold PyData.showable
    exact show_map f l fun x hx => (h x hx).sho
  · unfold PyData.leavesShort
    exact short_map 8 f l fun x hx => (h x hx).sht
  · simp only [PyData.depth]
    exact Nat.succ_le_succ (deep_map k f l fun x hx => (h x hx).dep)
  · simp only [PyData.bulk]
    exact Nat.le_trans (bulk_map m f l fun x hx => (h x hx).blk) (Nat.mul_le_mul_left _ hl)
theorem lst_fit {α : Type} {f : α → PyData} {l : List α} {k m n : Nat} (h : ∀ x ∈ l, DFit (f x) k m) (hl : l.length ≤ n) : DFit (.list (l.map f)) (k + 1) ((m + 1) * n) := by
  have z := tup_fit h hl
  refine ⟨?_, ?_, ?_, ?_, ?_⟩
  · have := z.lay
    unfold PyData.canLay0 at this ⊢
    exact this
  · have := z.sho
    unfold PyData.showable at this ⊢
    exact this
  · have := z.sht
    unfold PyData.leavesShort at this ⊢
    exact this
  · have := z.dep
    simp only [PyData.depth] at this ⊢
    exact this
  · have := z.blk
    simp only [PyData.bulk] at this ⊢
    exact this
theorem DFit.shaped {d : PyData} {k m : Nat} (h : DFit d k m) (hk : k ≤ 60) : SeqAt.shaped d = true := by
  unfold SeqAt.shaped
  rw [h.lay, Bool.true_and]
  exact decide_eq_true (by have := h.dep; omega)
theorem DFit.refl {d : PyData} {k m : Nat} (h : DFit d k m) : PyData.eqv d d = true := SeqAt.eqv_refl _ h.lay
theorem DFit.gd {d : PyData} {k m : Nat} (h : DFit d k m) (hk : k ≤ 60) (hm : m ≤ 100000) : Gd d := by
  refine ⟨h.sho, ?_, Nat.le_trans h.dep hk⟩
  have z := PyData.shown_le_bulk 8 (Nat.le_refl _) d h.sht
  have := h.blk
  rw [sizeLine_eq]
  omega
theorem DFit.tg {K : PySem.W.Frag} {H : Hp} {v : V} {d : PyData} {k m : Nat} (h : DFit d k m) (hk : k ≤ 60) (hd : Dp K H v d) : Tg K H v d := .dp hd (h.shaped hk) h.refl (PyData.hasDict_of_canLay d h.lay)
/-! ### numbers in a row; steps -/
abbrev iD (l : List Int) : List PyData := l.map PyData.int
theorem ints_fit {l : List Int} {n : Nat} (h : ∀ i ∈ l, i.natAbs < 10 ^ 7) (hl : l.length ≤ n) : DFit (.tuple (iD l)) 1 n := by
  have z := tup_fit (f := PyData.int) (fun i hi => small_int (h i hi)) hl
  rwa [Nat.one_mul] at z
theorem dp_ints {K : PySem.W.Frag} {H : Hp} : ∀ l : List Int, DpAll K H (l.map V.int) (iD l)
  | [] => .nil
  | i :: l => .cons (.int i) (dp_ints l)
theorem dp_nats {K : PySem.W.Frag} {H : Hp} : ∀ l : List Nat, DpAll K H (l.map nV) (iD (csI l))
  | [] => .nil
  | i :: l => .cons (.int (i : Int)) (dp_nats l)
def optD : Option Nat → PyData
  | none => .none
  | some k => .int (k : Int)
def tldD (t : Tld) : PyData := .tuple [optD t.1, .tuple (iD (csI t.2.1)), .int t.2.2]
theorem tld_dp {K : PySem.W.Frag} {H : Hp} {a : Addr} {t : Tld} (h : TldAt H a t) : Dp K H (.ref a) (tldD t) := by
  obtain ⟨q, h1, h2⟩ := h
  refine .tup (SqT.of h1) (.cons ?_ (.cons (.tup (SqT.of h2) (dp_nats _)) (.cons (.int _) .nil)))
  cases t.1 with
  | none => exact .non
  | some k => exact .int _
theorem tlds_dp {K : PySem.W.Frag} {H : Hp} : ∀ {rs : List Addr} {ts : List Tld}, Paired (TldAt H) rs ts → DpAll K H (rs.map V.ref) (ts.map tldD)
  | _, _, .nil => .nil
  | _, _, .cons r t => .cons (tld_dp r) (tlds_dp t)
theorem opt_fit {o : Option Nat} (h : ∀ j, o = some j → j < 100) : DFit (optD o) 0 0 := by
  cases o with
  | none => exact non_fit
  | some j => exact small_int (by have := h j rfl; omega)
end K6

set_option Elab.async false
set_option linter.all false
set_option maxRecDepth 100000
set_option maxHeartbeats 4000000
/-! try with several clauses «except C as e», all with one name. -/
namespace G3
open PySem PySem.Spec PyProof.Rows L2
/-- behind a suite the name is gone -/
def offE (i : Nat) (D : Ends) : Ends := { nx := fun τ G => D.nx (τ.set i none) G, rt := D.rt, bk := fun τ G => D.bk (τ.set i none) G, ct := fun τ G => D.ct (τ.set i none) G }
abbrev SuT := Addr → Value → Option Addr → TS
def wManyA (K : PySem.W.Frag) (i : Nat) (Wo : WX) (D : Ends) : List (Value × SuT) → WX
  | [] => Wo
  | (c, ts) :: r => fun cls d τ G => ∃ b, PySem.W.exmOne K cls c = some b ∧ (b = true → ∀ ea, G ea = none → ts ea cls d (offE i D) (τ.set i (some (.ref ea))) G) ∧ (b = false → wManyA K i Wo D r cls d τ G)
inductive HdsA (Y : Cx) (nm : Str) : List ExceptHandler → List (Value × SuT) → Prop
  | nil : HdsA Y nm [] []
  | cons {x : Str} {c : Value} {ts : SuT} {b₀ : Stmt} {su : List Stmt} {np hp : Pos} {hds : List ExceptHandler} {l : List (Value × SuT)} (hc : Names Y x c)
      (hsu : ∀ (ea : Addr) (eo : Obj) (cls : Value) (d : Option Addr) (pn : List (Addr × Obj)), Zc cls d eo → (∃ vs, eo.data = .fields vs) → PSs (Y.suite ea ((ea, eo) :: pn)) (b₀ :: su) (ts ea cls d)) (r : HdsA Y nm hds l) :
      HdsA Y nm (.ExceptHandler (some (.Name x np)) (some nm) (b₀ :: su) hp :: hds) ((c, ts) :: l)
section
variable {Y : Cx} {body : List Stmt} {h₀ : ExceptHandler} {hds : List ExceptHandler} {l : List (Value × SuT)} {pos : Pos} {tb : WX → TS} {Wo : WX} {i : Nat} {nm : Str}
theorem ps_try_manyA (hs : Y.stack = Y.env :: Y.outer) (hf : Y.env.frame = some Y.env.locals) (hN : Y.N.Nodup) (hi : Y.N[i]? = some nm) (hln : Y.env.kindOf nm = some .local) (tk : Takes Y Wo)
    (hb : ∀ (W : WX) (pn : List (Addr × Obj)) (xe : Value → Shared → Prop), Takes (Y.tr pn xe) W → PassesOwn (model Y.prog Y.w) Y.A Y.env xe → PSs (Y.tr pn xe) body (tb W))
    (hh : HdsA Y nm (h₀ :: hds) l) : PS Y (.Try body (h₀ :: hds) [] [] pos) (fun D τ G => tb (wManyA Y.K i Wo D l) D τ G) := by
  refine ⟨fun pins s τ G D J0 hgo => ?_⟩
  have okY := J0.ok
  have frY : Y.A.frames = some (Y.env :: Y.outer) := by rw [okY.frames, hs]
  have locY : Loc Y.env.scope nm := .inl hln
  refine wpAny_Try_except ?_
  refine wpAny_mono ((hb (wManyA Y.K i Wo D l) (Y.pn ++ pins) (fun ex s₁ => wpAny (model Y.prog Y.w) Y.A (noteFrame ex Y.env) (fun _ s₂ => wpAny (model Y.prog Y.w) Y.A (setFlight ex none) (fun _ s₃ =>
    wpAny (model Y.prog Y.w) Y.A (handleBy ex Y.env (h₀ :: hds)) (SP Y pins D) Y.xe s₃) Y.xe s₂) Y.xe s₁) (fun u s' flown => ?_) PassesOwn.looking).run [] s τ G D (J0.toTry _) hgo) (fun fl s1 hsp => ?_) (fun ex s1 he => he)
  · obtain ⟨ea, B, sI, pins', τ', G', cls, d, rfl, J', nb, upw, sky, na, os, ag, wish⟩ := flown
    have J : Inv Y pins τ' G' sI := J'.ofTry okY
    have skyY : Sky B (Y.env :: Y.outer) ea (Zc cls d) Y.env.locals s'.heap := by rw [← hs]; exact sky
    show wpAny (model Y.prog Y.w) Y.A (noteFrame (.ref ea) Y.env) _ _ _
    refine Sky.land Zc.steady frY hf skyY fun h3 ld3 up3 => ?_
    have J3 : Inv Y pins τ' G' { s' with heap := h3 } := J.landed nb ld3.1 (upw.trans up3) os ag
    obtain ⟨eo3, vs3, he3, hz3, hd3⟩ := ld3.there
    have offFr : ea ∉ frs (Y.env :: Y.outer) := fun hm => by
      obtain ⟨_, o', e', hnf⟩ := ld3.2.2.1.mem hm
      rw [he3] at e'; cases e'
      exact hnf _ hd3
    have nL : ea ≠ Y.env.locals := fun z => offFr (List.mem_filterMap.mpr ⟨Y.env, List.mem_cons_self, by rw [hf, z]⟩)
    have nF : ea ∉ Y.fs := fun hm => by
      obtain ⟨ev, hev, q⟩ := List.mem_filterMap.mp hm
      exact offFr (List.mem_filterMap.mpr ⟨ev, List.mem_cons_of_mem _ hev, q⟩)
    have sS3 := J3.suite he3 hd3 na nL nF
    have go : ∀ {hds' : List ExceptHandler} {l' : List (Value × SuT)}, HdsA Y nm hds' l' → wManyA Y.K i Wo D l' cls d τ' G' →
        wpAny (model Y.prog Y.w) Y.A (handleBy (.ref ea) Y.env hds') (SP Y pins D) Y.xe { s' with heap := h3 } := by
      intro hds' l' hk
      induction hk with
      | nil =>
        intro wish
        refine wpAny_handleBy_nil ?_
        obtain ⟨q1, q2, q3, xo, xs, xt, xT, xts, xe0, xz, xd, x1, xr⟩ := id ld3
        unfold PySem.passOn
        refine wpAny_bind (wpAny_field xe0 xd x1 ?_)
        rw [if_neg (show ¬ ((Value.ref xt == Value.none) = true) from by simp)]
        have outE : wpAny (model Y.prog Y.w) Y.A (setFlight (.ref ea) Y.env.frame) (fun _ s4 => wpAny (model Y.prog Y.w) Y.A (throw (.ref ea) : Sem Flow) (SP Y pins D) Y.xe s4) Y.xe { s' with heap := h3 } := by
          rw [hf]
          refine HandSPX.setFlight_upZ ld3 fun h4 hh4 up4 => wpAny_throw (tk _ _ ?_)
          exact ⟨ea, B, sI, pins, τ', G', cls, d, rfl, J, nb, (upw.trans up3).trans up4, .inr (.inr (by rw [hs]; exact hh4)), na, os, ag, wish⟩
        first
          | exact wpAny_bind (wpAny_pure (wpAny_bind outE))
          | exact wpAny_bind outE
      | @cons x c ts b₀ su np hp hds2 l2 hc hsu r ih =>
        intro wish
        obtain ⟨b, hb1, hyes, hno⟩ := wish
        refine wpAny_handleBy_cons (codeAny_handlers_test ?_) (by intro qq; cases qq)
        have tyE : PySem.W.Looks (model Y.prog Y.w) h3 (typeOf (.ref ea)) cls := fun A Q E s k q => wpAny_typeOf_ref (k _ _ he3) (by rw [hz3.1]; exact q)
        have isE := PySem.W.exm_one (M := model Y.prog Y.w) (J3.kIn) tyE hb1
        have nameE : ∀ {Q : Value → Shared → Prop} {E : Value → Shared → Prop}, Q c { s' with heap := h3 } → wpAny (model Y.prog Y.w) (Y.A.mark (some (.ref ea))) (eval (.Name x np) Y.env) Q E { s' with heap := h3 } := fun {Q E} q => by
          obtain ⟨hg, hdb, hm | ⟨hm, hv, hnn⟩⟩ := hc
          · exact ld_glob (X := Y.suite ea ((ea, eo3) :: (Y.pn ++ pins))) sS3 hg hm q hdb
          · exact ld_blt (X := Y.suite ea ((ea, eo3) :: (Y.pn ++ pins))) sS3 hg hm hv q hnn hdb
        refine nameE (isE.here ?_)
        cases b with
        | true =>
          refine codeAny_handlers_suite_as (?_)
          refine HandSPX.lands_againZ ld3 fun h4 ld4 up4 => ?_
          have J4 : Inv Y pins τ' G' { s' with heap := h4 } := J.landed nb ld4.1 ((upw.trans up3).trans up4) os ag
          obtain ⟨eo4, vs4, he4, hz4, hd4⟩ := ld4.there
          have sS4 := J4.suite he4 hd4 na nL nF
          refine store_ok (X := Y.suite ea ((ea, eo4) :: (Y.pn ++ pins))) (v := .ref ea) sS4 hN hi locY rfl (fun s5 S5 => ?_) (.inr hln)
          refine wpAny_mono ((hsu ea eo4 cls d (Y.pn ++ pins) hz4 ⟨_, hd4⟩).run [] s5 _ G' _ S5 (hyes rfl ea na)) (fun fl s6 hsp => ?_) (fun _ _ z => False.elim z)
          have bye : ∀ {τ6 : L2.St} {G6 : Hp} {Q : Shared → Prop}, Inv (Y.suite ea ((ea, eo4) :: (Y.pn ++ pins))) [] τ6 G6 s6 → (∀ s7, Inv Y pins (τ6.set i none) G6 s7 → Q s7) →
              wpAny (model Y.prog Y.w) Y.A (do bindName Y.env nm .none; unbindBehindTheSuite Y.env nm hp) (fun _ s7 => Q s7) Y.xe s6 := fun {τ6 G6 Q} S6 hq => gone_ok (S6.unsuite okY) hN hi hln hq
          cases fl with
          | next =>
            obtain ⟨τ6, G6, S6, q6⟩ := hsp
            exact bye S6 fun s7 J7 => ⟨_, _, J7, q6⟩
          | brk =>
            obtain ⟨τ6, G6, S6, q6⟩ := hsp
            exact bye S6 fun s7 J7 => ⟨_, _, J7, q6⟩
          | cont =>
            obtain ⟨τ6, G6, S6, q6⟩ := hsp
            exact bye S6 fun s7 J7 => ⟨_, _, J7, q6⟩
          | ret u =>
            obtain ⟨v6, τ6, G6, S6, r6, q6⟩ := hsp
            exact bye S6 fun s7 J7 => ⟨_, _, _, J7, r6, q6⟩
        | false =>
          show wpAny _ Y.A (handleBy (.ref ea) Y.env hds2) _ _ _
          exact ih (hno rfl)
    exact go hh wish
  · cases fl with
    | next =>
      obtain ⟨τ', G', J', q⟩ := hsp
      exact wpAny_execs_nil ⟨τ', G', J'.ofTry okY, q⟩
    | brk =>
      obtain ⟨τ', G', J', q⟩ := hsp
      exact ⟨τ', G', J'.ofTry okY, q⟩
    | cont =>
      obtain ⟨τ', G', J', q⟩ := hsp
      exact ⟨τ', G', J'.ofTry okY, q⟩
    | ret u =>
      obtain ⟨v, τ', G', J', r, q⟩ := hsp
      exact ⟨v, τ', G', J'.ofTry okY, r, q⟩
end
end G3

set_option Elab.async false
set_option linter.all false
set_option maxRecDepth 100000
set_option maxHeartbeats 4000000
/-! a lambda handed through two calls. -/
namespace G3
open PySem PySem.Spec PyProof.Rows L2
end G3

set_option Elab.async false
set_option linter.all false
set_option maxRecDepth 100000
set_option maxHeartbeats 4000000
namespace G3
open PySem PySem.Spec PyProof.Rows L2 LamX
section
variable {X : Cx} {pins : List (Addr × Obj)} {σ : L2.St} {H H1 : Hp} {s s1 : Shared}
end
end G3

set_option Elab.async false
set_option linter.all false
set_option maxRecDepth 100000
set_option maxHeartbeats 4000000
/-! a lambda handed on: x1(lambda: .., y) whose def says x2(a1); x1(lambda: ..) whose def says a1(). -/
namespace G3
open PySem PySem.Spec PyProof.Rows L2 LamX
section
variable {X : Cx} {pins : List (Addr × Obj)} {σ : L2.St} {H H1 : Hp} {s s1 : Shared}
/-- act() in the def that got the lambda -/
theorem act1W {CX2 : CXT} {E2 : XK} {N2 : List Str} {q2 : Str} {sg2 : Scope} {g2 f c' : Addr} {cd2 pm ctv : Value} {params : Arguments} {body : Expr} {scope : Scope} {k i : Nat} {nm : Str} {pn : List (Addr × Obj)} {xe : Value → Shared → Prop} {W : WX} {t : XK → TE} {p1 p2 : Pos}
    (I : Inv X pins σ H s) (L : LamS X.env.scope scope) (hf : s.heap.get? f = some (PySem.W.kla_obj "<lambda>" (X.env.qual ++ "<lambda>") params body scope (cloFrom X.env.cells scope.names []) pm c' ctv)) (hfn : H f = none) (hfr : f ∉ frs X.stack)
    (hbind : bindArgs (PySem.W.kla_fn "<lambda>" (X.env.qual ++ "<lambda>") params body scope (cloFrom X.env.cells scope.names []) pm (.ref c') ctv) ⟨[], []⟩ = pure [])
    (tk : Takes ((cxOf CX2 X.prog X.w X.K X.mg X.base N2 q2 sg2 g2 cd2 X.A X.stack s H E2).tr pn xe) W)
    (hr : Room (k + 1) (X.A.deeper (envOfC q2 sg2 s.heap.objs.size g2 cd2)))
    (hbody : ∀ (A : Around) (outer : List Env) (s : Shared) (H : Hp) (E : XK), Room k (A.deeper (lamEnv X scope s.heap.objs.size f c')) → PE (lamCx X A outer s H E scope f c') body (t E))
    (hN : N2[i]? = some nm) (hv : Vis sg2 nm) (hd : (nm == ("__debug__" : Str)) = false := by decide) (hcd : (nm == ("__classdict__" : Str)) = false := by decide) :
    PE ((cxOf CX2 X.prog X.w X.K X.mg X.base N2 q2 sg2 g2 cd2 X.A X.stack s H E2).tr pn xe) (.Call (.Name nm p1) [] [] p2)
      (fun τ G Q => τ[i]? = some (some (.ref f)) ∧ G c' = some (CodeO c' (X.env.qual ++ "<lambda>")) ∧ t (WE W τ) σ G Q) := by
  refine ⟨fun pinsZ sZ τ G Q JZ want => ?_⟩
  obtain ⟨hs, hc, ht⟩ := want
  refine wpAny_Call_Name_kw (thn ((pe_var (pos := p1) (i := i) hN hv hd hcd).run pinsZ sZ τ G (fun v G1 => v = .ref f ∧ G1 = G) JZ ⟨.ref f, hs, rfl, rfl⟩) fun u s2 ⟨v, G1, J1, r1, qv⟩ => ?_)
  obtain ⟨ev, eG⟩ := qv
  subst ev
  rw [eG] at J1
  obtain rfl : u = Value.ref f := r1
  have ltf := Heap.lt_size hf
  have un : Un (frs X.stack) [] H G s.heap s2.heap := J1.base
  have of2 : s2.heap.get? f = some (PySem.W.kla_obj "<lambda>" (X.env.qual ++ "<lambda>") params body scope (cloFrom X.env.cells scope.names []) pm c' ctv) := un.keep f _ hf hfn hfr (fun z => nomatch z)
  refine PySem.W.callWith_F0 ⟨_, _, _, _, of2⟩ ?_
  obtain ⟨⟨oc, vs, t, hoc, hdc, hvc⟩, _, _⟩ := J1.hok c' _ hc
  have rc : codeAny (model X.prog X.w) (X.A.deeper (envOfC q2 sg2 s.heap.objs.size g2 cd2)) (.call (.ref f) ⟨[], []⟩)
      (CR (L2.CX X.prog X.w) (envOfC q2 sg2 s.heap.objs.size g2 cd2 :: X.stack) X.prog X.w G s2 Q (WE W τ)) s2 := by
    refine PySem.W.kla_callFunE hr.depth of2 rfl L.co L.gen rfl ⟨c', oc, vs, t, rfl, hoc, hdc, hvc⟩ ?_
    rw [hbind]
    refine wpAny_pure (wpAny_newFunctionEnv (fun y hy => (L.own y hy).2) (fun y hy => absurd hy (by simp)) (fun h₁ hns hsb => ⟨J1.nolimit.fresh _ hsb, ?_⟩) L.kind)
    show codeAny _ _ (.expr body (lamEnv X scope s2.heap.objs.size f c')) _ _
    have kp : ∀ b o, s2.heap.get? b = some o → h₁.get? b = some o := fun b o e => hsb.extBut b o (Nat.ne_of_lt (Heap.lt_size e)) (Heap.get?_push_of_some _ e)
    have JL : Inv (lamCx X (X.A.deeper (envOfC q2 sg2 s.heap.objs.size g2 cd2)) (envOfC q2 sg2 s.heap.objs.size g2 cd2 :: X.stack) s2 G (WE W τ) scope f c') [] σ G
        { s2 with heap := h₁, toks := s2.toks + ([] : List (Str × Value)).length } := lam_start2 I L J1.env0 hr.hd un hns kp
    refine PySem.W.kla_codeExpr (wpAny_mono ((hbody _ _ s2 G (WE W τ) (hr.deeper _)).run [] _ _ G Q JL ht) (fun v s' hq => ?_) fun e s' hq => hq)
    obtain ⟨w', G', J', rv, q⟩ := hq
    exact ⟨w', G', J'.os, J'.bare, J'.base, J'.hok, rv, q⟩
  have hx := passAt tk τ
  refine wpAny_call (codeAny_mono rc fun r s' hq => ?_)
  cases r with
  | error e => exact hx pinsZ G s2 e s' J1 hq
  | ok fl =>
    cases fl with
    | ret u => exact J1.after hq
    | next => exact False.elim hq
    | brk => exact False.elim hq
    | cont => exact False.elim hq
end
/-- the def that calls what it got, the errors' wish told at the very slots; TT: what it makes of the lambda's reading -/
def GivesW (X : Cx) (Ng : List Str) (x : Str) (sg : Scope) (g : Addr) (cdg : Value) (bg : List Stmt) (a : Str) (q : Str) (TT : (XK → Hp → VK → Prop) → Hp → VK → Prop) : Prop :=
  ∀ (f c' : Addr) (s : Shared) (H : Hp) (Q : VK) (tl : XK → Hp → VK → Prop),
    (∀ (W : WX) (pn : List (Addr × Obj)) (xe : Value → Shared → Prop) (p1 p2 : Pos), Takes ((cxOf C8.CX0 X.prog X.w X.K X.mg X.base Ng x sg g cdg X.A X.stack s H C8.E0).tr pn xe) W →
      PE ((cxOf C8.CX0 X.prog X.w X.K X.mg X.base Ng x sg g cdg X.A X.stack s H C8.E0).tr pn xe) (.Call (.Name a p1) [] [] p2) (fun τ G Q => τ[0]? = some (some (.ref f)) ∧ G c' = some (CodeO c' q) ∧ tl (WE W τ) G Q)) →
    H c' = some (CodeO c' q) → TT tl H Q →
    ∃ t, PSs (cxOf C8.CX0 X.prog X.w X.K X.mg X.base Ng x sg g cdg X.A X.stack s H C8.E0).nox bg t ∧ t { nx := fun _ H' => Q .non H', rt := Q } (L2.start Ng [.ref f]) H
section
variable {X : Cx} {pins : List (Addr × Obj)} {σ : L2.St} {H : Hp} {s : Shared}
end
section
variable {X : Cx}
theorem pe_lam1 {T : List (Addr × Str)} {TT : (XK → Hp → VK → Prop) → Hp → VK → Prop} {x1 a1 : Str} {g1 c P : Addr} {k : Nat} {pg1 : Arguments} {bg1 : List Stmt} {sg1 : Scope} {dV1 kV1 doc1 pm1 cd1 ct1 oc1 : Value} {an1 od1 : Option Addr} {sl1 : Array (Option Value)} {N1 : List Str}
    {params : Arguments} {body : Expr} {scope : Scope} {t : XK → TE} {p lpos pos : Pos}
    (hg : Gl X x1) (hm : X.mg x1 = some (.ref g1)) (hk : PySem.W.keepIn X.K (.ref g1) = true)
    (lk1 : X.K.lookup g1 = some ⟨oc1, od1, .func (PySem.W.fnOf x1 x1 pg1 bg1 sg1 dV1 kV1 doc1 pm1 an1 cd1 ct1), sl1⟩) (hc1 : PySem.W.codeIn X.K cd1 x1 = true) (hb1 : L2.Binds X.K (PySem.W.fnOf x1 x1 pg1 bg1 sg1 dV1 kV1 doc1 pm1 an1 cd1 ct1) [a1] []) (S1 : FnScope N1 [a1] sg1) (hN1 : N1[0]? = some a1) (hv1 : Vis sg1 a1)
    (hG : GivesW X N1 x1 sg1 g1 cd1 bg1 a1 (X.env.qual ++ "<lambda>") TT)
    (TB : TabB X.base X.mg c P) (hcode : X.env.code = .ref c) (hmT : (P, X.env.qual ++ "<lambda>") ∈ T) (hu : ∀ z ∈ T, z.1 = P → z.2 = X.env.qual ++ "<lambda>") (hr : Room (k + 2) X.A) (L : LamS X.env.scope scope) (hdef : defaultsOf params X.env = ([], []))
    (hbind : ∀ (q : Str) (cl : List (Str × Addr)) (pm cv ctv : Value), bindArgs (PySem.W.kla_fn "<lambda>" q params body scope cl pm cv ctv) ⟨[], []⟩ = pure [])
    (hbody : ∀ (A : Around) (outer : List Env) (s : Shared) (H : Hp) (E : XK) (f c' : Addr), Room k (A.deeper (lamEnv X scope s.heap.objs.size f c')) → PE (lamCx X A outer s H E scope f c') body (t E))
    (hd1 : (x1 == ("__debug__" : Str)) = false := by decide) (hd3 : (a1 == ("__debug__" : Str)) = false := by decide) (hcd3 : (a1 == ("__classdict__" : Str)) = false := by decide) :
    PE X (.Call (.Name x1 p) [.Lambda params body scope lpos] [] pos) (tLam T TT t) := by
  refine ⟨fun pins s σ H Q I h => ?_⟩
  obtain ⟨hT, h⟩ := h
  refine wpAny_Call_Name_kw (ld_glob I hg hm ?_ hd1)
  refine PySem.W.callWith_K (h₀ := X.base) I.ok.mod.kin hk ?_ (by rfl) (by rfl)
  refine Calls.spliced_cons (lam_make2 I TB hcode hmT hu hT hdef (L.has I.ok) fun f c' pm' ctv H1 sM IM eN TM hf hfn hfr hco => ?_)
  refine Calls.spliced_nil ⟨IM.kIn, ?_⟩
  have rc : codeAny (model X.prog X.w) X.A (.call (.ref g1) ⟨[.ref f], []⟩) (CR C8.CX0 X.stack X.prog X.w H1 sM Q C8.E0) sM := by
    refine run_ofS (k := k + 1) (N := N1) (ps := [a1]) (us := [.ref f]) (vs := [.ref f]) lk1 hc1 S1 hr IM.env0 (hb1 sM [.ref f] IM.kIn rfl) (.cons rfl .nil) rfl fun hr' => ?_
    obtain ⟨tt, h1, h2⟩ := hG f c' sM H1 Q (fun E G' Q' => t E σ G' Q') (fun W pn xe r1 r2 tk => act1W (i := 0) IM L hf hfn hfr (hbind _ _ _ _ _) tk hr' (fun A outer s H E hr2 => hbody A outer s H E f c' hr2) hN1 hv1 hd3 hcd3) hco (h H1 eN TM)
    exact ⟨tt, h1.nox, h2⟩
  refine wpAny_call (codeAny_mono rc fun r sE hq => ?_)
  match r, hq with
  | .error e, hq => exact (show False from hq).elim
  | .ok (.ret u), hq => exact IM.after hq
  | .ok .next, hq => exact (show False from hq).elim
  | .ok .brk, hq => exact (show False from hq).elim
  | .ok .cont, hq => exact (show False from hq).elim
end
end G3

set_option Elab.async false
set_option linter.all false
set_option maxRecDepth 100000
set_option maxHeartbeats 4000000
namespace K3
open PySem PySem.Spec PyProof.Rows L2 G1 G2 K2
theorem lst_ty {K : PySem.W.Frag} {H : Hp} {a : Addr} {xs : List V} (h : SqL K H a xs) : TyX K H (.ref a) (.type "list") := by
  rcases h with (h | ⟨o, h⟩) | ⟨o, its, n, hk, hc, _⟩
  · exact .base (.lst h)
  · exact .base (.frz h)
  · exact .kList hk hc
/-- a value of some kind that is no tuple -/
inductive NonT (K : PySem.W.Frag) (H : Hp) : V → Prop
  | non : NonT K H .non
  | bl (b : Bool) : NonT K H (.bl b)
  | int (i : Int) : NonT K H (.int i)
  | str (x : Str) : NonT K H (.str x)
  | lst {a : Addr} {xs : List V} : SqL K H a xs → NonT K H (.ref a)
  | dct {a : Addr} {kvs : List (Key × V)} : H a = some (.dK kvs) → NonT K H (.ref a)
theorem NonT.ty {K : PySem.W.Frag} {H : Hp} {v : V} (h : NonT K H v) : ∃ t, TyX K H v t ∧ PySem.W.kitOne K t (.type "tuple") = some false := by
  cases h with
  | non => exact ⟨_, .base .non, kit_ty (by decide +kernel)⟩
  | bl b => exact ⟨_, .base (.bl b), kit_ty (by decide +kernel)⟩
  | int i => exact ⟨_, .base (.int i), kit_ty (by decide +kernel)⟩
  | str x => exact ⟨_, .base (.str x), kit_ty (by decide +kernel)⟩
  | lst h => exact ⟨_, lst_ty h, kit_ty (by decide +kernel)⟩
  | dct h => exact ⟨_, .base (.dK h), kit_ty (by decide +kernel)⟩
/-! ### stays -/
section
variable {P : Program} {w : World} {K : PySem.W.Frag} {mg : Str → Option Value} {base : Heap}
end
end K3

set_option Elab.async false
set_option linter.all false
set_option maxRecDepth 100000
set_option maxHeartbeats 4000000
/-! own exceptions with one field; promises put together; values that are no events -/
namespace K3
open PySem PySem.Spec PyProof.Rows L2 G1 G2 K2
def spXi (C : Addr) (fld : Str) : Sp := fun vs H Q _ => ∃ (a : Addr) (v : V), vs = [.ref a, v] ∧ H a = some (exo a C none) ∧ ∀ dx, H dx = none → dx ≠ a → Q .non (upd (upd H dx (exd dx [(fld, v)])) a (exo a C (some dx)))
structure XCls (P : Program) (w : World) (K : PySem.W.Frag) (mg : Str → Option Value) (base : Heap) (x fld : Str) (C : Addr) : Prop where
  T : OexC K C
  xf : XfC K C
  no : PySem.W.findIn K (.ref C) fld = some none
  g : mg x = some (.ref C)
  ini : ∃ (fI : Addr) (fd : FuncData), PySem.W.findIn K (.ref C) "__init__" = some (some (.ref fI)) ∧ PySem.W.typeIn K (.ref fI) = some (.type "function") ∧ FnOk P w K mg base CX0 1 fI fd ["self", fld] (spXi C fld) ∧ Binds K fd ["self", fld] []
/-- what is wanted of a raised one -/
def Rsd (C : Addr) (fld : Str) (v : V) (H : Hp) (E : XK) : Prop := ∀ (d : Addr) (H' : Hp), Same H H' → H' d = some (.xd [(fld, v)]) → E (.ref C) (some d) H'
theorem mk_read {C : Addr} {fld : Str} {v : V} {H : Hp} {E : XK} {E2 : XK} (k : Rsd C fld v H E) : [v].length ≤ 1000 ∧ ∀ a, H a = none → spXi C fld (.ref a :: ([v] ++ [])) (upd H a (exo a C none))
    (fun u H2 => u = .non ∧ ∃ (d : Addr) (fs : List (Str × V)), H2 a = some (exo a C (some d)) ∧ H2 d = some (exd d fs) ∧ H d = none ∧ E (.ref C) (some d) (upd (del H2 a) d (.xd fs))) E2 := by
  refine ⟨(by show 1 ≤ 1000; decide), fun a na => ⟨a, v, rfl, upd_same, fun dx nd ne => ⟨rfl, dx, [(fld, v)], upd_same, ?_, ?_, ?_⟩⟩⟩
  · rw [upd_ne ne, upd_same]
  · rw [upd_ne ne] at nd
    exact nd
  · rw [upd_ne ne] at nd
    refine k dx _ (fun b o e => ?_) upd_same
    have n1 : b ≠ dx := ne_of_none e nd
    have n2 : b ≠ a := ne_of_none e na
    rw [upd_ne n1, del_ne n2, upd_ne n2, upd_ne n1, upd_ne n2]
    exact e
abbrev sILd : Stmt := inClass (topS 13) 0
theorem scILd : FnScope ["self", "index"] ["self", "index"] (defScope sILd) := ⟨rfl, rfl, rfl, by decide +kernel, rfl, by decide +kernel, by decide +kernel⟩
section
variable {P : Program} {w : World} {K : PySem.W.Frag} {mg : Str → Option Value} {base : Heap} {C f : Addr} {fd : FuncData}
theorem ok_xLd (F : Fun K "__init__" "InvalidLoad.__init__" sILd f fd) (T : OexC K C) (no : PySem.W.findIn K (.ref C) "index" = some none) : FnOk P w K mg base CX0 1 f fd ["self", "index"] (spXi C "index") := by
  refine F.ok scILd (fun vs H Q E h => ?_) (fun cdv A outer s H vs Q E hr h => ?_)
  · obtain ⟨a, v, rfl, _⟩ := h
    rfl
  obtain ⟨a, v, rfl, ha, k⟩ := h
  exact ⟨_, pss_one (ps_ost (pv 0) (pv 1)), _, rfl, _, rfl, a, C, rfl, T, no, .inl ⟨ha, k⟩⟩
/-- two promises of one def -/
theorem or_ok {CX : CXT} {k : Nat} {ps : List Str} {s1 s2 : Sp} (h1 : FnOk P w K mg base CX k f fd ps s1) (h2 : FnOk P w K mg base CX k f fd ps s2) : FnOk P w K mg base CX k f fd ps (fun vs H Q E => s1 vs H Q E ∨ s2 vs H Q E) :=
  ⟨fun vs H Q E h => h.elim (h1.len vs H Q E) (h2.len vs H Q E), fun A outer s H args us vs Q E hr e0 hb r h => h.elim (h1.run A outer s H args us vs Q E hr e0 hb r) (h2.run A outer s H args us vs Q E hr e0 hb r)⟩
end
end K3
namespace K6
open PySem PySem.Spec PyProof.Rows L2 G1 G2 K2 G5 LamX K3
/-- a value in the place of an event that is none -/
inductive BadEv (K : PySem.W.Frag) (H : Hp) : V → Prop
  | oth {v : V} : NonT K H v → BadEv K H v
  | len {a : Addr} {xs : List V} : SqT K H a xs → xs.length ≠ 2 → BadEv K H (.ref a)
theorem non_ext {K : PySem.W.Frag} {H H' : Hp} {v : V} (h : NonT K H v) (s : ExtN H H') : NonT K H' v := by
  cases h with
  | non => exact .non
  | bl b => exact .bl b
  | int i => exact .int i
  | str x => exact .str x
  | lst h =>
    rcases h with (h | ⟨o, h⟩) | h
    · exact .lst (.inl (.inl (s _ _ h (fun ps z => by cases z))))
    · exact .lst (.inl (.inr ⟨o, s _ _ h (fun ps z => by cases z)⟩))
    · exact .lst (.inr h)
  | dct h => exact .dct (s _ _ h (fun ps z => by cases z))
theorem BadEv.ext {K : PySem.W.Frag} {H H' : Hp} {v : V} (h : BadEv K H v) (s : ExtN H H') : BadEv K H' v := by
  cases h with
  | oth h => exact .oth (non_ext h s)
  | len h n => exact .len (ext_tup s h) n
def spIevX (K : PySem.W.Frag) : Sp := fun vs H Q _ => ∃ v, vs = [v] ∧ BadEv K H v ∧ Q (.bl false) H
def spIevB (K : PySem.W.Frag) : Sp := fun vs H Q E => spIev K vs H Q E ∨ spIevX K vs H Q E
section
variable {P : Program} {w : World} {K : PySem.W.Frag} {mg : Str → Option Value} {base : Heap} {CD C : Addr}
theorem ok_ievX {f0 : Addr} {fd : FuncData} (F : Fun K "is_event" "is_event" sIev f0 fd) (B : Bl mg) (gW : ∃ t, mg "WRITE" = some (.str "write" t)) (gT : ∃ t, mg "TRIM" = some (.str "trim" t)) (GN : FAt P w K mg base 1 "is_name" ["value"] spNam) : FnOk P w K mg base CX0 2 f0 fd ["value"] (spIevX K) := by
  refine F.ok scIev (fun vs H Q E h => ?_) (fun cdv A0 outer s0 H vs Q E hr h => ?_)
  · obtain ⟨v, rfl, _⟩ := h
    rfl
  obtain ⟨v, rfl, hv, q⟩ := h
  obtain ⟨tW, cW⟩ := gW
  obtain ⟨tT, cT⟩ := gT
  obtain ⟨fN, dN, GN, kN, bN, gN⟩ := GN.ex
  refine ⟨_, pss_cons (ps_if (PW.pt (pw_or (pt_not (pt_val (pe_callB call_isi (by rfl) B.isi bIsi (pa_cons (pv 0) (pa_cons (pe_bltn (v := .ty "tuple") (by rfl) B.tup bTup rfl) pa_nil)))))
      (pw_or1 (pt_cmpR op_ne (pe_callB call_len_seq (by rfl) B.len PySem.boot_len (pa_cons (pv 0) pa_nil)) pe_int (nomark _))))) (pss_one (ps_ret pe_bl)) pss_nil)
    (pss_cons (ps_asg (pv 0) (pg_tup rfl (pgs_cons (pg_name (i := 1) scIev.nd rfl (.inl rfl)) (pgs_cons (pg_name (i := 2) scIev.nd rfl (.inl rfl)) pgs_nil))))
    (pss_one (ps_ret (pe_and (pe_callB call_isi (by rfl) B.isi bIsi (pa_cons (pv 1) (pa_cons (pe_bltn (v := .ty "str") (by rfl) B.str bStr rfl) pa_nil)))
      (pe_and (pe_cmpR op_in_seq (pv 1) (pe_tup (pa_cons (pe_glob (v := .str "write") rfl cW ⟨_, rfl⟩) (pa_cons (pe_glob (v := .str "trim") rfl cT ⟨_, rfl⟩) pa_nil))) (by rfl))
      (pe_one (pe_call GN hr (by rfl) gN kN bN .nil pass0 (pa_cons (pv 2) pa_nil)))))))), ?_⟩
  cases hv with
  | oth hn =>
    obtain ⟨t, ty, kf⟩ := hn.ty
    exact ⟨_, rfl, _, _, _, _, false, rfl, .ty _, ty, kf, false, rfl, iteT q⟩
  | @len a xs hT hl =>
    refine ⟨_, rfl, _, _, _, _, true, rfl, .ty _, tup_ty hT, kit_ty (by decide +kernel), true, rfl, iteF ?_⟩
    refine ⟨_, rfl, a, _, rfl, .inr hT, rfl, _, rfl, ?_⟩
    have z : (!decide (V.int (xs.length : Int) = V.int 2)) = true := by
      rw [decide_eq_false (fun z => by injection z with z; omega)]
      rfl
    show (if (!decide (V.int (xs.length : Int) = V.int 2)) = true then _ else _)
    rw [z]
    exact iteT q
end
end K6

set_option Elab.async false
set_option linter.all false
set_option maxRecDepth 100000
set_option maxHeartbeats 4000000
/-! play_load, with its ways out -/
namespace K6
open PySem PySem.Spec PyProof.Rows L2 G1 G2 K2 G5 LamX K3
/-- every event is let, however the ones before it went; st: a write may stick -/
def LoadOkS (p n : Nat) (rows : List RowD) (st : Bool) : Pl → List (Str × Str) → Prop
  | _, [] => True
  | s, e :: es => EvtOkG p n rows st s e.1 e.2 ∧ NameOk e.2 ∧ ∀ s', EvtRG p rows s s' e.1 e.2 → LoadOkS p n rows st s' es
structure LodX (K : PySem.W.Frag) (T : List (Addr × Str)) (st : Bool) (CD C CL : Addr) (H : Hp) (dr ld : Addr) (eas : List Addr) (es : List (Str × Str)) (bad : List V) (b p n : Nat) (rows : List RowD) (Q : VK) (E : XK) : Prop where
  ld : SqT K H ld (eas.map V.ref ++ bad)
  ev : Paired (fun (a : Addr) (e : Str × Str) => SqT K H a [.str e.1, .str e.2]) eas es
  bd : ∀ v r, bad = v :: r → BadEv K H v
  b10 : b ≤ 10
  wd : ∀ r ∈ rows, r.2 ∈ wordsL
  ok : LoadOkS p n rows st (newP b) es
  few : es.length + bad.length ≤ 2000
  tb : Tabs T H
  q : bad = [] → ∀ (H' : Hp) (x : Addr) (s' : Pl) (A : PAd), PlaysToG p rows (newP b) es s' → PlayAt C H' x s' A → A.dr = dr → H x = none → ExtN H H' → Tabs T H' → Q (.ref x) H'
  qb : bad ≠ [] → ∀ (H' : Hp) (s' : Pl), PlaysToG p rows (newP b) es s' → ExtN H H' → Tabs T H' → Rsd CL "index" (.int (es.length : Int)) H' E
  qs : st = true → ∀ (H' : Hp) (i : Nat) (e : Str × Str) (s1 s2 : Pl), es[i]? = some e → PlaysToG p rows (newP b) (es.take i) s1 → EvtStuck p rows s1 s2 e.1 e.2 → ExtN H H' → Tabs T H' → Rsd CL "index" (.int (i : Int)) H' E
def spLodX (K : PySem.W.Frag) (T : List (Addr × Str)) (st : Bool) (CD C CL : Addr) : Sp := fun vs H Q E => ∃ (dr ld : Addr) (eas : List Addr) (es : List (Str × Str)) (bad : List V) (b p n : Nat) (ini : List RowD) (y : Str), vs = [.ref dr, .ref ld] ∧ DrvAt K CD H dr b p n ini y ∧ LodX K T st CD C CL H dr ld eas es bad b p n (ini ++ [((p : Int), y)]) Q E
section
variable {P : Program} {w : World} {K : PySem.W.Frag} {mg : Str → Option Value} {base : Heap} {CD C CL : Addr}
theorem ok_lodX {f0 fI : Addr} {fd fdI : FuncData} {T : List (Addr × Str)} {st : Bool} (F : Fun K "play_load" "play_load" sLod f0 fd) (B : Bl mg) (gM : ∃ t, mg "MOST_EVENTS" = some (.int 2000 t)) (MP : Mk K C fI) (GI : FnOk P w K mg base CX0 3 fI fdI ["self", "drive"] (spPin K CD C)) (bI : Binds K fdI ["self", "drive"] []) (gP : mg "Play" = some (.ref C))
    (R : XCls P w K mg base "InvalidLoad" "index" CL) (GE : FAt P w K mg base 2 "is_event" ["value"] (spIevB K)) (GV : FAt P w K mg base 6 "play_event" ["play", "event"] (spEvtG K T st CD C)) : FnOk P w K mg base (L2.CX P w) 7 f0 fd ["drive", "load"] (spLodX K T st CD C CL) := by
  refine F.okX scLod (fun vs H Q E h => ?_) (fun cdv A0 outer s0 H vs Q E hr h => ?_)
  · obtain ⟨dr, ld, eas, es, bad, b, p, n, ini, y, rfl, _⟩ := h
    rfl
  obtain ⟨dr, ld, eas, es, bad, b, p, n, ini, y, rfl, hd, hX⟩ := h
  obtain ⟨hld, hes, hbd, hb, hwd, hok, hlen, hT, q, qb, qs⟩ := hX
  obtain ⟨fE, dE, GE, kE, bE, gE⟩ := GE.ex
  obtain ⟨fV, dV, GV, kV, bV, gV⟩ := GV.ex
  obtain ⟨fX, fdX, iX, tX, GX, bX⟩ := R.ini
  obtain ⟨tM, cM⟩ := gM
  have hr2 : Room 2 _ := hr.mono (by decide)
  refine ⟨_, pss_cons (ps_if (pt_not (pt_val (pe_callB call_isi (by rfl) B.isi bIsi (pa_cons (pv 1) (pa_cons (pe_bltn (v := .ty "tuple") (by rfl) B.tup bTup rfl) pa_nil))))) (pss_one ps_never) pss_nil)
    (pss_cons (ps_set (i := 2) scLod.nd rfl (.inl rfl) (pe_make MP GI (hr.mono (by decide)) (by rfl) gP bI .nil pass0 (pa_cons (pv 0) pa_nil)))
    (pss_cons (ps_for (passes_of rfl) rfl (pi_enumT (by rfl) B.enm (pa_cons (pv 1) pa_nil)) (pg_tup rfl (pgs_cons (pg_name (i := 3) scLod.nd rfl (.inl rfl)) (pgs_cons (pg_name (i := 4) scLod.nd rfl (.inl rfl)) pgs_nil)))
      (pss_one (ps_if (PW.pt (pw_or (pt_cmpR op_eq (pv 3) (pe_glob (v := .int 2000) rfl cM ⟨_, rfl⟩) (nomark _)) (pw_or (pt_not (pt_val (pe_call GE (hr.mono (by decide)) (by rfl) gE kE bE .nil pass0 (pa_cons (pv 4) pa_nil))))
        (pw_or1 (pt_not (pt_val (pe_call GV hr (by rfl) gV kV bV .nil pass0 (pa_cons (pv 2) (pa_cons (pv 4) pa_nil))))))))) (pss_one (ps_raise (W := fun cls d _ H => E cls d H) rfl (takes_of rfl rfl rfl rfl) (pmk_oex R.T iX tX GX hr2 bX .nil pass0 (by rfl) R.g (pa_cons (pv 3) pa_nil)))) pss_nil)))
    (pss_one (ps_ret (pv 2))))), ?_⟩
  generalize erows : ini ++ [((p : Int), y)] = rows at hwd hok q qb qs
  refine ⟨_, rfl, _, _, _, _, true, rfl, .ty _, tup_ty hld, kit_ty (by decide +kernel), true, rfl, iteF ?_⟩
  refine nx_read ?_
  dsimp only
  refine seq_asg ⟨_, rfl, fun x dx nx nd ne => ?_⟩
  have sm : Same H (L2.upd (L2.upd H dx (.own x)) x (.ins C dx [])) := fun c o e => by rw [upd_ne (ne_of_none e nx), upd_ne (ne_of_none e nd)]; exact e
  have hdrx : dr ≠ x := by
    obtain ⟨_, _, z, _⟩ := id hd
    exact ne_of_none z nx
  refine ⟨x, dx, dr, b, p, n, ini, y, rfl, upd_same, hd.same sm, hdrx, hb, fun H1 A p1 hdr g1 k1 => ⟨rfl, ?_⟩⟩
  have s1 : Same H H1 := fun c o e => k1 c o (sm c o e) (ne_of_none e nx)
  have w1 : ∀ a ∈ A.foot x, NwN H a := fun a z => by
    rcases g1 a z with e | e
    · exact .of (e ▸ nx)
    · refine .of ?_
      cases e2 : H a with
      | none => rfl
      | some o => rw [sm _ _ e2] at e; cases e
  refine seq_for fun D' hD1 hD2 => ?_
  refine ⟨_, rfl, ld, _, rfl, K2.Same.tup s1 hld, ?_⟩
  have hle : eas.length = es.length := Paired.length hes
  refine for_enumT (K := K) (xs := eas.map V.ref ++ bad) (fun i σ H' => i ≤ es.length ∧ ∃ (s2 : Pl) (A2 : PAd) (x3 x4 : Option V), σ = [some (.ref dr), some (.ref ld), some (.ref x), x3, x4] ∧ PlayAt C H' x s2 A2 ∧ A2.dr = dr ∧ PlaysToG p rows (newP b) (es.take i) s2 ∧ LoadOkS p n rows st s2 (es.drop i) ∧ ExtN H H' ∧ (∀ a ∈ A2.foot x, NwN H a) ∧ Tabs T H') ⟨Nat.zero_le _, newP b, A, none, none, rfl, p1, hdr, rfl, hok, .of s1, w1, hT.ext s1⟩ (fun i σ H' z => ?_) ?_ ?_
  · obtain ⟨_, _, _, _, _, _, _, _, _, _, z, _⟩ := z
    exact ext_tup z hld
  · rintro i v T1 σ H' hi ⟨hil0, s2, A2, x3, x4, rfl, p2, hdr2, pl2, ok2, e2, w2, t2⟩ hT1
    have sT : Same H' (L2.upd H' T1 (.tup [.int (i : Nat), v])) := same_lay hT1
    have eT : ExtN H (L2.upd H' T1 (.tup [.int (i : Nat), v])) := e2.trans (.of sT)
    refine ⟨T1, _, rfl, SqT.of upd_same, rfl, _, _, rfl, _, _, rfl, rfl, ?_⟩
    refine ⟨_, rfl, rfl, _, rfl, ?_⟩
    by_cases hil : i < es.length
    · have hil2 : i < (eas.map V.ref).length := by rw [List.length_map, hle]; exact hil
      rw [List.getElem?_append_left hil2, List.getElem?_map] at hi
      obtain ⟨a, ha, rfl⟩ : ∃ a, eas[i]? = some a ∧ V.ref a = v := by
        cases hq : eas[i]? with
        | none => rw [hq] at hi; cases hi
        | some a => rw [hq] at hi; exact ⟨a, rfl, Option.some.inj hi⟩
      obtain ⟨ev, hev, hat⟩ := K2.paired_get hes ha
      have edr : es.drop i = ev :: es.drop (i + 1) := by
        rw [List.drop_eq_getElem_cons hil]
        rw [List.getElem?_eq_getElem hil] at hev
        rw [Option.some.inj hev]
      rw [edr] at ok2
      obtain ⟨o1, o2, o3⟩ := ok2
      rw [eqI6, decide_eq_false (by omega)]
      refine iteF ⟨_, rfl, .inl ⟨a, ev.1, ev.2, rfl, ext_tup eT hat, o1.2.2.1, o2, fun H3 s3 => ⟨true, rfl, iteF ?_⟩⟩⟩
      have e3 : ExtN H H3 := eT.trans (.of s3)
      have s23 : Same H' H3 := sT.trans s3
      refine ⟨_, rfl, _, rfl, x, a, ev.1, ev.2, s2, A2, b, p, n, ini, y, rfl, ext_tup e3 hat, p2.same s23, by rw [erows]; exact o1, by rw [erows]; exact hwd, by rw [hdr2]; exact DrvAt.extN hd e3, by rw [hdr2]; exact hdrx, t2.ext s23, (fun H4 A4 s4 r4 p4 dr4 f4 g4 t4 => ⟨true, rfl, iteF ?_⟩), fun z H4 A4 s4 r4 p4 dr4 f4 g4 t4 => ⟨false, rfl, iteT ?_⟩⟩
      · rw [erows] at r4
        refine ⟨by omega, s4, A4, _, _, rfl, p4, by rw [dr4]; exact hdr2, ?_, o3 s4 r4, fun c o e nt => ?_, fun c z => ?_, t4⟩
        · rw [List.take_add_one, hev]
          exact plays_snocG pl2 r4
        · refine f4 c o (e3 c o e nt) (fun z => ?_) nt
          obtain ⟨ps, z2⟩ := w2 c z o e
          exact nt ps z2
        · rcases g4 c z with z | z
          · exact w2 c z
          · intro o e
            by_cases nt : ∃ ps, o = .tbl ps
            · exact nt
            · exact z o (e3 c o e fun ps z => nt ⟨ps, z⟩)
      · rw [erows] at r4
        refine ⟨_, rfl, mk_read (qs z H4 i ev s2 s4 hev pl2 r4 (fun c o e nt => ?_) t4)⟩
        refine f4 c o (e3 c o e nt) (fun z => ?_) nt
        obtain ⟨ps, z2⟩ := w2 c z o e
        exact nt ps z2
    · have hie : i = es.length := by omega
      have hb0 : bad ≠ [] := fun z => by
        have := (List.getElem?_eq_some_iff.mp hi).1
        rw [z, List.append_nil, List.length_map] at this
        omega
      have hv : BadEv K H v := by
        cases hbq : bad with
        | nil => exact absurd hbq hb0
        | cons v0 r0 =>
          have hil2 : (eas.map V.ref).length ≤ i := by rw [List.length_map, hle]; omega
          rw [List.getElem?_append_right hil2, List.length_map, hle, hie, Nat.sub_self, hbq] at hi
          rw [← Option.some.inj hi]
          exact hbd v0 r0 hbq
      have hbl : 0 < bad.length := List.length_pos_iff.mpr hb0
      rw [eqI6, decide_eq_false (by omega)]
      refine iteF ⟨_, rfl, .inr ⟨v, rfl, hv.ext eT, ⟨false, rfl, iteT ?_⟩⟩⟩
      rw [hie, List.take_length] at pl2
      refine ⟨_, rfl, mk_read ?_⟩
      rw [hie] at eT sT ⊢
      exact qb hb0 _ s2 pl2 eT (t2.ext sT)
  · rintro σ H' ⟨hil0, s2, A2, x3, x4, rfl, p2, hdr2, pl2, ok2, e2, w2, t2⟩
    rw [hD1]
    have hbe : bad = [] := by
      rw [List.length_append, List.length_map, hle] at hil0
      exact List.length_eq_zero_iff.mp (by omega)
    rw [List.length_append, List.length_map, hle, hbe] at pl2
    rw [show es.length + ([] : List V).length = es.length from rfl, List.take_length] at pl2
    refine ⟨_, rfl, ?_⟩
    exact q hbe H' x s2 A2 pl2 p2 hdr2 nx e2 t2
end
end K6

set_option Elab.async false
set_option linter.all false
set_option maxRecDepth 100000
set_option maxHeartbeats 4000000
/-! what is known of a drive and a load; lists of what was told -/
namespace K6
open PySem PySem.Spec PyProof.Rows L2 G1 G2 K2 G5 LamX
theorem bRepr6 : bootBuiltins "repr" = some (.builtin "repr") := by decide +kernel
theorem bList6 : bootBuiltins "list" = some (.type "list") := by decide +kernel
theorem bAll6 : bootBuiltins "all" = some (.builtin "all") := by decide +kernel
structure GAt6 (P : Program) (w : World) (K : PySem.W.Frag) (mg : Str → Option Value) (base : Heap) (k : Nat) (x : Str) (ps : List Str) (sp : Sp) : Prop where
  ex : ∃ (f : Addr) (fd : FuncData), FnG P w K mg base k f fd ps sp ∧ PySem.W.keepIn K (.ref f) = true ∧ Binds K fd ps [] ∧ mg x = some (.ref f)
theorem all_true (m : Nat) : (List.replicate m true).all id = true := by
  rw [List.all_eq_true]
  intro x hx
  rw [(List.mem_replicate.mp hx).2]
  rfl
theorem str_row8 {K : PySem.W.Frag} {H : Hp} (a : Addr) (e : Str × Str) (h : EvA H a e) : SqT K H a [.str e.1, .str e.2] := SqT.of h
structure S8 (K : PySem.W.Frag) (C : Addr) (H : Hp) (mi sc : Addr) (b p n : Nat) (ini : List RowD) (y : Str) (es : List (Str × Str)) : Prop where
  mi : DrvAt K C H mi b p n ini y
  sc : ∃ eas : List Addr, SqT K H sc (eas.map V.ref) ∧ Paired (EvA H) eas es
theorem S8.ext {K : PySem.W.Frag} {C : Addr} {H H' : Hp} {mi sc : Addr} {b p n : Nat} {ini : List RowD} {y : Str} {es : List (Str × Str)} (h : S8 K C H mi sc b p n ini y es) (e : ExtN H H') : S8 K C H' mi sc b p n ini y es := by
  obtain ⟨eas, h1, h2⟩ := h.sc
  exact ⟨DrvAt.extN h.mi e, eas, ext_tup e h1, Paired.mapP h2 fun _ _ z => e _ _ z (by intro _ q; cases q)⟩
theorem listG_read {tg : TGen} {σ : L2.St} {H : Hp} {Q : VK} (h : tg σ H fun out H2 => ∀ p, H2 p = none → Q (.ref p) (L2.upd H2 p (.lst out))) : tListG tg σ H Q := h
theorem callG_read {sp : SpG} {dvs : List V} {E : XK} {t : TA} {σ : L2.St} {H : Hp} {cont : List V → Hp → Prop} (h : t σ H fun vs H1 => sp (vs ++ dvs) H1 cont E) : tCallG sp dvs E t σ H cont := h
structure GnAt (P : Program) (w : World) (K : PySem.W.Frag) (mg : Str → Option Value) (base : Heap) (k : Nat) (x : Str) (ps : List Str) (sp : SpG) : Prop where
  ex : ∃ (f : Addr) (fd : FuncData), GFn P w K mg base k f fd ps sp ∧ PySem.W.keepIn K (.ref f) = true ∧ Binds K fd ps [] ∧ mg x = some (.ref f)
theorem drv_stp {K : PySem.W.Frag} {C pl x : Addr} {H H' : Hp} {b p n : Nat} {ini : List RowD} {y : Str} (hp : PoolAt H pl) (s : Stp pl H H') (hd : DrvAt K C H x b p n ini y) : DrvAt K C H' x b p n ini y := by
  obtain ⟨dx, t, h1, h2⟩ := hd
  have hp' := hp
  obtain ⟨i, j, n, e, _⟩ := hp
  exact ⟨dx, t, s.2 _ _ (ne_of h1 e (by intro z; cases z)) h1, s.rows hp' h2⟩
theorem tld_ext {H H' : Hp} {a : Addr} {t : Tld} (h : TldAt H a t) (e : ExtN H H') : TldAt H' a t := by
  obtain ⟨q, h1, h2⟩ := h
  exact ⟨q, e _ _ h1 (by intro _ z; cases z), e _ _ h2 (by intro _ z; cases z)⟩
section
variable {b p n : Nat} {rows : List RowD} {es : List (Str × Str)}
end
theorem cut_to {xs : List V} {d : Nat} : cutV xs none (some (d : Int)) = xs.take d := by
  unfold cutV
  rw [HT.sIx_none, HT.sIx_nat, List.drop_zero, Nat.sub_zero]
  by_cases h : d ≤ xs.length
  · rw [Nat.min_eq_left h]
  · rw [Nat.min_eq_right (by omega), List.take_length, List.take_of_length_le (by omega)]
theorem shp_dims {b p n : Nat} (h : Shp b p n) : Dims b p := by
  obtain ⟨h1, _, _⟩ := h
  simp only [List.mem_cons, List.mem_nil_iff, or_false, Prod.mk.injEq] at h1
  rcases h1 with ⟨rfl, rfl⟩ | ⟨rfl, rfl⟩ | ⟨rfl, rfl⟩ | ⟨rfl, rfl⟩ | ⟨rfl, rfl⟩ | ⟨rfl, rfl⟩ | ⟨rfl, rfl⟩ <;> exact ⟨by decide, by decide, by decide, by decide⟩
theorem shp_few {b p n : Nat} (h : Shp b p n) : n ≤ 10 := by
  obtain ⟨h1, _, h3⟩ := h
  simp only [List.mem_cons, List.mem_nil_iff, or_false, Prod.mk.injEq] at h1
  rcases h1 with ⟨rfl, rfl⟩ | ⟨rfl, rfl⟩ | ⟨rfl, rfl⟩ | ⟨rfl, rfl⟩ | ⟨rfl, rfl⟩ | ⟨rfl, rfl⟩ | ⟨rfl, rfl⟩ <;> omega
theorem paired_take {α β : Type} {F : α → β → Prop} : ∀ {l : List α} {m : List β}, Paired F l m → ∀ i : Nat, Paired F (l.take i) (m.take i)
  | _, _, h, 0 => .nil
  | _, _, .nil, i + 1 => by simp; exact .nil
  | _, _, .cons r t, i + 1 => .cons r (paired_take t i)
end K6

set_option Elab.async false
set_option linter.all false
set_option maxRecDepth 100000
set_option maxHeartbeats 4000000
/-! any rule: cleaning ends, or the numbers come again -/
namespace K6
open PySem PySem.Spec PyProof.Rows L2 G1 G2 K2 G5 LamX
theorem nodup_lt : ∀ (n : Nat) (l : List Nat), l.Nodup → (∀ x ∈ l, x < n) → l.length ≤ n
  | 0, [], _, _ => Nat.le_refl 0
  | 0, a :: r, _, h => absurd (h a (List.mem_cons_self ..)) (Nat.not_lt_zero _)
  | n + 1, l, hn, h => by
    by_cases hm : n ∈ l
    · have z := nodup_lt n (l.erase n) (hn.erase n) (fun x hx => by
        have h1 := (List.Nodup.mem_erase_iff hn).mp hx
        have h2 := h x h1.2
        have h3 := h1.1
        omega)
      rw [List.length_erase_of_mem hm] at z
      omega
    · have z := nodup_lt n l hn (fun x hx => by
        have h2 := h x hx
        have h3 : x ≠ n := fun e => hm (e ▸ hx)
        omega)
      omega
/-- which of them are full -/
def pat (p : Nat) : List Nat → Nat
  | [] => 0
  | v :: r => (if v < p then 0 else 1) + 2 * pat p r
theorem pat_lt (p : Nat) : ∀ l : List Nat, pat p l < 2 ^ l.length
  | [] => by show 0 < 2 ^ 0; decide
  | v :: r => by
    have := pat_lt p r
    unfold pat
    rw [List.length_cons, Nat.pow_succ]
    split <;> omega
abbrev low (p : Nat) (l : List Nat) : List Nat := l.filter fun v => decide (v < p)
theorem pat_inj (p : Nat) : ∀ {l m : List Nat}, l.length = m.length → (∀ v ∈ l, v ≤ p) → (∀ v ∈ m, v ≤ p) → low p l = low p m → pat p l = pat p m → l = m
  | [], [], _, _, _, _, _ => rfl
  | [], _ :: _, h, _, _, _, _ => by simp at h
  | _ :: _, [], h, _, _, _, _ => by simp at h
  | v :: r, w :: t, h, h1, h2, h3, h4 => by
    have hv := h1 v (List.mem_cons_self ..)
    have hw := h2 w (List.mem_cons_self ..)
    have hr := fun x hx => h1 x (List.mem_cons_of_mem v hx)
    have ht := fun x hx => h2 x (List.mem_cons_of_mem w hx)
    have hl : r.length = t.length := by simpa using h
    unfold pat at h4
    unfold low at h3
    by_cases a : v < p
    · by_cases c : w < p
      · rw [if_pos a, if_pos c] at h4
        rw [List.filter_cons_of_pos (by simpa using a), List.filter_cons_of_pos (by simpa using c)] at h3
        injection h3 with e1 e2
        rw [e1, pat_inj p hl hr ht e2 (by omega)]
      · rw [if_pos a, if_neg c] at h4
        omega
    · by_cases c : w < p
      · rw [if_neg a, if_pos c] at h4
        omega
      · rw [if_neg a, if_neg c] at h4
        rw [List.filter_cons_of_neg (by simpa using a), List.filter_cons_of_neg (by simpa using c)] at h3
        rw [show v = w by omega, pat_inj p hl hr ht h3 (by omega)]
structure Rot (p L : Nat) (fl lv : List Nat) : Prop where
  len : lv.length = L
  le : ∀ v ∈ lv, v ≤ p
  low : low p lv = fl
theorem seen_few {p L : Nat} {fl : List Nat} {lvs : List (List Nat)} (hn : lvs.Nodup) (h : ∀ lv ∈ lvs, Rot p L fl lv) : lvs.length ≤ 2 ^ L := by
  have z := nodup_lt (2 ^ L) (lvs.map (pat p)) ?_ ?_
  · rwa [List.length_map] at z
  · unfold List.Nodup
    rw [List.pairwise_map]
    exact List.Pairwise.imp_of_mem (fun {a c} ha hc hne e => hne (pat_inj p (by rw [(h a ha).len, (h c hc).len]) (h a ha).le (h c hc).le (by rw [(h a ha).low, (h c hc).low]) e)) hn
  · intro x hx
    obtain ⟨lv, hlv, rfl⟩ := List.mem_map.mp hx
    rw [← (h lv hlv).len]
    exact pat_lt p lv
theorem low_erase {p : Nat} : ∀ {l : List Nat} {i : Nat}, i < l.length → l.getD i 0 = p → low p (l.eraseIdx i) = low p l
  | v :: r, 0, _, h => by
    have e : v = p := h
    show low p r = _
    unfold low
    rw [List.filter_cons_of_neg (by simp [e])]
  | v :: r, i + 1, hi, h => by
    have ih := low_erase (p := p) (l := r) (i := i) (Nat.lt_of_succ_lt_succ hi) h
    show low p (v :: r.eraseIdx i) = _
    unfold low at ih ⊢
    by_cases a : v < p
    · rw [List.filter_cons_of_pos (by simpa using a), List.filter_cons_of_pos (by simpa using a), ih]
    · rw [List.filter_cons_of_neg (by simpa using a), List.filter_cons_of_neg (by simpa using a), ih]
theorem Rot.turn {p L : Nat} {fl lv : List Nat} (h : Rot p L fl lv) {i : Nat} (hi : i < lv.length) (hp : lv.getD i 0 = p) : Rot p L fl (lv.eraseIdx i ++ [p]) := by
  refine ⟨?_, fun v hv => ?_, ?_⟩
  · rw [List.length_append, List.length_eraseIdx_of_lt hi, ← h.len]
    show lv.length - 1 + 1 = _
    omega
  · rcases List.mem_append.mp hv with z | z
    · exact h.le v (List.mem_of_mem_eraseIdx z)
    · rw [List.mem_singleton.mp z]
      exact Nat.le_refl _
  · show List.filter _ _ = fl
    rw [List.filter_append]
    have e : ([p] : List Nat).filter (fun v => decide (v < p)) = [] := by simp
    rw [e, List.append_nil]
    exact (low_erase hi hp).trans h.low
section
variable {b p : Nat} {al : List Str} {rows : List RowD}
theorem csI_inj {l m : List Nat} (h : csI l = csI m) : l = m := (List.map_inj_right (fun a c h => by exact Int.ofNat_inj.mp h)).mp h
theorem csI_mem {l : List Nat} {ls : List (List Nat)} : csI l ∈ ls.map csI ↔ l ∈ ls := by
  constructor
  · intro h
    obtain ⟨m, hm, e⟩ := List.mem_map.mp h
    rw [← csI_inj e]
    exact hm
  · exact fun h => List.mem_map_of_mem h
theorem clo_lt {s : Pl} {i k : Nat} (h : s.clo[i]? = some k) : i < (lvC s).length := by
  unfold lvC
  rw [List.length_map]
  exact (List.getElem?_eq_some_iff.mp h).1
theorem cln_okS (hb : b ≤ 10) (hb2 : 2 ≤ b) (hp0 : 0 < p) (hp : p ≤ 10) (ha : al.length ≤ 100) {L : Nat} {fl : List Nat} : ∀ (d : Nat) (lvs : List (List Nat)) (s : Pl), PInv b p s al → s.told.length ≤ 10000 → s.fil = none → (∃ f, s.free = [f]) → lvs.Nodup → (∀ lv ∈ lvs, Rot p L fl lv) → Rot p L fl (lvC s) → 2 ^ L ≤ lvs.length + d → CleanOk p rows true (d + 1) (lvs.map csI) s := by
  intro d
  induction d with
  | zero =>
    intro lvs s I ht hf ⟨f, hfe⟩ hn hr h0 hd
    refine .inr ⟨hf, f, I.ready hb hb2 hp ha ht hf hfe, fun _ => rfl, fun hne i k hpk hik => ?_⟩
    exfalso
    rw [I.cnt] at hne
    have z := seen_few (p := p) (L := L) (fl := fl) (lvs := lvC s :: lvs) (List.nodup_cons.mpr ⟨fun q => hne (csI_mem.mpr q), hn⟩) (fun lv hlv => by
      rcases List.mem_cons.mp hlv with e | e
      · rw [e]; exact h0
      · exact hr lv e)
    rw [List.length_cons] at z
    omega
  | succ d ih =>
    intro lvs s I ht hf ⟨f, hfe⟩ hn hr h0 hd
    refine .inr ⟨hf, f, I.ready hb hb2 hp ha ht hf hfe, fun _ => rfl, fun hne i k hpk hik => ?_⟩
    obtain ⟨T, hfk, hfb, hkb⟩ := I.cln hp0 ⟨f, hfe⟩ hf hfe hik
    have I' := I.clean hp0 hf hfe hik hfk hfb hkb T
    have ht' : (cleanP p s i k f).told.length ≤ 10000 := by rw [T.told]; exact ht
    by_cases hfull : kln (s.cont.getD k []) = p
    · have hfil : (cleanP p s i k f).fil = none := by rw [T.fil, if_pos hfull]
      have hturn := I.turn hp0 hf hfe hik hfull
      have e : cntP s = csI (lvC s) := I.cnt
      rw [e] at hne ⊢
      have z := ih (lvC s :: lvs) (cleanP p s i k f) I' ht' hfil ⟨k, T.free⟩ (List.nodup_cons.mpr ⟨fun q => hne (csI_mem.mpr q), hn⟩) (fun lv hlv => by
        rcases List.mem_cons.mp hlv with e | e
        · rw [e]; exact h0
        · exact hr lv e) (by rw [hturn]; exact h0.turn (clo_lt hik) ((lvc_getD hik).trans hfull)) (by rw [List.length_cons]; omega)
      exact z
    · have hfil : (cleanP p s i k f).fil = some f := by rw [T.fil, if_neg hfull]
      exact .inl ⟨f, I'.opened hb hp ha ht' hfil⟩
theorem pow_le {n : Nat} (h : n ≤ 5) : 2 ^ n ≤ 32 := by
  have z : ∀ n : Nat, n < 6 → 2 ^ n ≤ 32 := by decide
  exact z n (by omega)
theorem rot0 {s : Pl} (I : PInv b p s al) {f : Nat} (hf : s.fil = none) (hfe : s.free = [f]) : Rot p (b - 1) (low p (lvC s)) (lvC s) := by
  refine ⟨?_, I.lvc_le, rfl⟩
  have := I.clo_len hf hfe
  unfold lvC
  rw [List.length_map]
  omega
theorem brg_okS {s : Pl} (D : Dims b p) (hb6 : b ≤ 6) (I : PInv b p s al) (ha : al.length ≤ 100) (ht : s.told.length ≤ 10000) : BrgG p rows true s := by
  have hb := D.b10
  have hp := D.p10
  refine ⟨I.fit2 hb hp ha, fun k hk => ?_, fun k hk => ?_, fun hf hl => ?_, ht⟩
  · rw [I.cl]
    exact I.mem (List.mem_append_right _ (by rw [hk]; exact List.mem_singleton.mpr rfl))
  · rw [I.cl]
    exact I.mem (List.mem_append_left _ (List.mem_append_left _ hk))
  · obtain ⟨f, hfe⟩ := one_free I hl
    have h32 := pow_le (n := b - 1) (by omega)
    exact ⟨2 ^ (b - 1) + 1, by omega, cln_okS hb D.b2 D.p0 hp ha (2 ^ (b - 1)) [] s I ht hf ⟨f, hfe⟩ List.nodup_nil (fun lv z => nomatch z) (rot0 I hf hfe) (by show 2 ^ (b - 1) ≤ 0 + 2 ^ (b - 1); omega)⟩
/-- how much a write cleans and copies at most -/
theorem cleans_lenS (hp0 : 0 < p) {L : Nat} {fl : List Nat} {seen : List (List Int)} {s s1 : Pl} {k : Nat} {cl : List Nat} {cp : Int} (h : Cleans p rows seen s s1 k cl cp) : ∀ (lvs : List (List Nat)), seen = lvs.map csI → lvs.Nodup → (∀ lv ∈ lvs, Rot p L fl lv) → PInv b p s al → (s.fil = none → Rot p L fl (lvC s)) →
    (cl = [] ∨ cl.length + lvs.length ≤ 2 ^ L) ∧ cp ≤ (p : Int) * (cl.length : Int) := by
  induction h with
  | stop hf => exact fun lvs _ _ _ _ _ => ⟨.inl rfl, by simp⟩
  | @step seen s s2 i j f k cl cp hf hfe hi hn hpk hrest ih =>
    intro lvs hs hnd hr I h0
    have h0 := h0 hf
    obtain ⟨T, hfk, hfb, hkb⟩ := I.cln hp0 ⟨_, hfe⟩ hf hfe hi
    have I' := I.clean hp0 hf hfe hi hfk hfb hkb T
    rw [I.cnt, hs] at hn
    have hnd2 : (lvC s :: lvs).Nodup := List.nodup_cons.mpr ⟨fun q => hn (csI_mem.mpr q), hnd⟩
    have hr2 : ∀ lv ∈ lvC s :: lvs, Rot p L fl lv := fun lv hlv => by
      rcases List.mem_cons.mp hlv with e | e
      · rw [e]; exact h0
      · exact hr lv e
    have hfew := seen_few hnd2 hr2
    rw [List.length_cons] at hfew
    have hl : s.liv.getD j 0 ≤ (p : Int) := by
      rw [liv_kln I hi, lvc_getD hi]
      have := kept_len (s.cont.getD j [])
      rw [I.fc j (List.mem_of_getElem? hi)] at this
      exact Int.ofNat_le.mpr this
    obtain ⟨a, c⟩ := ih (lvC s :: lvs) (by rw [List.map_cons, ← I.cnt, hs]) hnd2 hr2 I' (fun hfn => by
      have hfull : kln (s.cont.getD j []) = p := by
        have z := T.fil
        rw [hfn] at z
        by_cases q : kln (s.cont.getD j []) = p
        · exact q
        · rw [if_neg q] at z
          cases z
      rw [I.turn hp0 hf hfe hi hfull]
      exact h0.turn (clo_lt hi) ((lvc_getD hi).trans hfull))
    rw [List.length_cons] at a ⊢
    refine ⟨.inr ?_, ?_⟩
    · rcases a with a | a
      · rw [a]
        show 0 + 1 + lvs.length ≤ _
        omega
      · omega
    · have e : (p : Int) * ((cl.length + 1 : Nat) : Int) = (p : Int) * (cl.length : Int) + (p : Int) := by
        rw [Int.natCast_add, Int.mul_add]
        show _ + (p : Int) * 1 = _
        rw [Int.mul_one]
      rw [e]
      omega
/-- what a step tells -/
structure StepS (b : Nat) (t : Tld) : Prop where
  k : ∀ j, t.1 = some j → j < b
  cl : ∀ j ∈ t.2.1, j < b
  c0 : 0 ≤ t.2.2
  c1 : t.2.2 ≤ 400
  len : t.2.1.length ≤ 32
theorem stepS_trim : StepS b (none, [], 0) := ⟨fun j z => (nomatch z), fun j z => (nomatch z), Int.le_refl 0, (by show (0 : Int) ≤ 400; decide), Nat.zero_le _⟩
theorem opn_stepS {s s1 : Pl} {k : Nat} {cl : List Nat} {cp : Int} (D : Dims b p) (hb6 : b ≤ 6) (I : PInv b p s al) (h : OpnG p rows s s1 k cl cp) : StepS b (some k, cl, cp) := by
  obtain ⟨I1, hf1, _⟩ := opn_inv D.p0 I h
  have hk : k < b := I1.mem (List.mem_append_right _ (by rw [hf1]; exact List.mem_singleton.mpr rfl))
  have hkk : ∀ j, some k = some j → j < b := fun j e => by cases e; exact hk
  rcases h with ⟨_, _, _, _, rfl, rfl⟩ | ⟨hfr, hcs⟩
  · exact ⟨hkk, fun j z => (nomatch z), Int.le_refl 0, (by show (0 : Int) ≤ 400; decide), Nat.zero_le _⟩
  · obtain ⟨c1, c2, c3⟩ := cleans_in D.p0 hcs I
    cases hf : s.fil with
    | some f =>
      obtain ⟨e1, e2⟩ := cleans_some hcs hf
      subst e1 e2
      exact ⟨hkk, c1, Int.le_refl 0, (by show (0 : Int) ≤ 400; decide), Nat.zero_le _⟩
    | none =>
      obtain ⟨f, hfe⟩ := one_free I (hfr hf)
      obtain ⟨a, c⟩ := cleans_lenS D.p0 hcs [] rfl List.nodup_nil (fun lv z => nomatch z) I (fun _ => rot0 I hf hfe)
      have h32 := pow_le (n := b - 1) (by omega)
      have hlen : cl.length ≤ 32 := by
        rcases a with a | a
        · rw [a]; exact Nat.zero_le _
        · have : cl.length + 0 ≤ 2 ^ (b - 1) := a
          omega
      have hp := D.p10
      have : (p : Int) * (cl.length : Int) ≤ 10 * 32 := Int.mul_le_mul (by omega) (by omega) (by omega) (by decide)
      exact ⟨hkk, c1, c2, (by show cp ≤ 400; omega), hlen⟩
theorem evt_okS {s : Pl} {n : Nat} {e : Str × Str} (D : Dims b p) (hb6 : b ≤ 6) (I : PInv b p s al) (hn : n ≤ p * (b - 1)) (hal : al.length ≤ n) (ht : s.told.length ≤ 10000) (h : LetE n al e) : EvtOkG p n rows true s e.1 e.2 := by
  have hb := D.b10
  have hp := D.p10
  have h90 : p * (b - 1) ≤ 10 * 9 := Nat.mul_le_mul hp (by omega)
  refine ⟨by rw [I.ll, I.cl], ht, ?_, ?_⟩
  · rcases h.ok with h | h
    · exact .inl h.1
    · exact .inr h.1
  · by_cases hx : e.2 ∈ al
    · obtain ⟨h2, j, _, L⟩ := I.at_ hx
      have I' := I.die L
      have hl := List.length_erase_le (a := e.2) (l := al)
      exact .inr ⟨h2, j, L, fun _ => brg_okS D hb6 I' (by omega) ht⟩
    · rcases h.ok with ⟨hw, h2 | h2⟩ | ⟨_, h2⟩
      · exact absurd h2 hx
      · exact .inl ⟨I.no _ hx, hw, by rw [I.hl]; omega, brg_okS D hb6 I (by omega) ht⟩
      · exact absurd h2 hx
theorem load_allS {n : Nat} (D : Dims b p) (hb6 : b ≤ 6) (hn : n ≤ p * (b - 1)) : ∀ (es : List (Str × Str)) (s : Pl) (al : List Str), PInv b p s al → al.length ≤ n → Lets n al es → s.told.length + es.length ≤ 10000 →
    LoadOkS p n rows true s es ∧ ∀ s', PlaysToG p rows s es s' → PInv b p s' (es.foldl aft al) ∧ ∃ ts : List Tld, s'.told = s.told ++ ts ∧ ts.length = es.length ∧ ∀ t ∈ ts, StepS b t
  | [], s, al, I, hal, _, _ => ⟨trivial, fun s' e => by
      have e' : s' = s := e
      subst e'
      exact ⟨I, [], (List.append_nil _).symm, rfl, fun t ht => (nomatch ht)⟩⟩
  | e :: es, s, al, I, hal, ⟨h1, h2⟩, ht => by
    rw [List.length_cons] at ht
    have key : ∀ s', EvtRG p rows s s' e.1 e.2 → (LoadOkS p n rows true s' es ∧ ∀ s2, PlaysToG p rows s' es s2 → PInv b p s2 (es.foldl aft (aft al e)) ∧ ∃ ts : List Tld, s2.told = s'.told ++ ts ∧ ts.length = es.length ∧ ∀ t ∈ ts, StepS b t) ∧ ∃ t : Tld, s'.told = s.told ++ [t] ∧ StepS b t := by
      intro s' hr
      obtain ⟨I', t, et, hcase⟩ := evt_to D.p0 I hr
      refine ⟨load_allS D hb6 hn es s' _ I' (aft_len h1 hal) h2 (by rw [et, List.length_append]; show s.told.length + 1 + es.length ≤ _; omega), t, et, ?_⟩
      rcases hcase with ⟨_, rfl⟩ | ⟨hw, s0, s1, k, cl, cp, I0, ho, rfl⟩
      · exact stepS_trim
      · exact opn_stepS D hb6 I0 ho
    refine ⟨⟨evt_okS D hb6 I hn hal (by omega) h1, h1.nm, fun s' hr => (key s' hr).1.1⟩, fun s2 ⟨s', hr, hp2⟩ => ?_⟩
    obtain ⟨⟨_, hk⟩, t, et, hbt⟩ := key s' hr
    obtain ⟨i1, ts, e1, e2, e3⟩ := hk s2 hp2
    refine ⟨i1, t :: ts, by rw [e1, et, List.append_assoc]; rfl, by rw [List.length_cons, List.length_cons, e2], fun u hu => ?_⟩
    rcases List.mem_cons.mp hu with z | z
    · rw [z]
      exact hbt
    · exact e3 u z
/-! ### a load that was played does not stick -/
theorem clean_noS (hw : ∀ r ∈ rows, r.2 ∈ wordsL) : ∀ (m : Nat) {seen : List (List Int)} {s s1 : Pl} {k : Nat} {cl : List Nat} {cp : Int}, CleanOk p rows true m seen s → Cleans p rows seen s s1 k cl cp → CleanOk p rows false m seen s
  | 0, _, _, _, _, _, _, h, _ => h
  | m + 1, seen, s, s1, k, cl, cp, h, hc => by
    rcases h with h | ⟨hf, f, R, _, hstep⟩
    · exact .inl h
    · cases hc with
      | stop hf2 => rw [hf] at hf2; cases hf2
      | @step _ _ _ i j f2 _ _ _ hf2 hfe hi hn hpk hrest =>
        have e0 : [f] = [f2] := R.fre.symm.trans hfe
        cases e0
        refine .inr ⟨hf, f, R, fun z => absurd z hn, fun _ i2 j2 hpk2 hi2 => ?_⟩
        have e1 := pick_uniq hw hpk2 hpk
        subst e1
        have e2 := Option.some.inj (hi.symm.trans hi2)
        subst e2
        exact clean_noS hw m (hstep hn _ _ hpk hi) hrest
theorem brg_noS (hw : ∀ r ∈ rows, r.2 ∈ wordsL) {s s1 : Pl} {k : Nat} {cl : List Nat} {cp : Int} (h : BrgG p rows true s) (ho : OpnG p rows s s1 k cl cp) : BrgG p rows false s := by
  refine ⟨h.fit, h.fil, h.fre, fun hf hl => ?_, h.told⟩
  obtain ⟨m, hm, hc⟩ := h.due hf hl
  rcases ho with ⟨_, hl2, _⟩ | ⟨_, hcs⟩
  · omega
  · exact ⟨m, hm, clean_noS hw m hc hcs⟩
theorem evt_noS (hw : ∀ r ∈ rows, r.2 ∈ wordsL) {n : Nat} {s s' : Pl} {wd nm : Str} (h : EvtOkG p n rows true s wd nm) (hr : EvtRG p rows s s' wd nm) : EvtOkG p n rows false s wd nm := by
  obtain ⟨h1, h2, h3, hc⟩ := h
  refine ⟨h1, h2, h3, ?_⟩
  obtain ⟨s0, hd, hcase⟩ := hr
  rcases hc with ⟨hn, hwr, hne, hb⟩ | ⟨h, j, L, hb⟩
  · refine .inl ⟨hn, hwr, hne, ?_⟩
    have e0 : s0 = s := dead_uniq hd (.inl ⟨hn, rfl⟩)
    subst e0
    rcases hcase with ⟨hw2, _⟩ | ⟨_, s1, k, cl, cp, ho, _⟩
    · rw [hwr] at hw2
      exact absurd hw2 (by decide)
    · exact brg_noS hw hb ho
  · refine .inr ⟨h, j, L, fun hwr => ?_⟩
    have e0 : s0 = dieP s h j nm := dead_uniq hd (.inr ⟨h, j, L, rfl⟩)
    subst e0
    rcases hcase with ⟨hw2, _⟩ | ⟨_, s1, k, cl, cp, ho, _⟩
    · rw [hwr] at hw2
      exact absurd hw2 (by decide)
    · exact brg_noS hw (hb hwr) ho
theorem load_noS (hw : ∀ r ∈ rows, r.2 ∈ wordsL) {n : Nat} : ∀ {es : List (Str × Str)} {s s' : Pl}, LoadOkS p n rows true s es → PlaysToG p rows s es s' → LoadOkG p n rows s es
  | [], _, _, _, _ => trivial
  | e :: es, s, s', ⟨h1, h2, h3⟩, ⟨s1, hr, hp⟩ => ⟨evt_noS hw h1 hr, h2, fun s2 hr2 => by
      have e1 := evt_uniq hw hr2 hr
      subst e1
      exact load_noS hw (h3 _ hr2) hp⟩
end
end K6

set_option Elab.async false
set_option linter.all false
set_option maxRecDepth 100000
set_option maxHeartbeats 4000000
/-! two plays that differ in names -/
namespace K6
open PySem PySem.Spec PyProof.Rows L2 G1 G2 K2 G5 LamX
section
variable {b p : Nat} {al al' : List Str} {rows : List RowD} {π : Str → Str} {U : List Str} {c : Bool}
/-- where a name lives -/
theorem PInv.kept_iff {s : Pl} (I : PInv b p s al) {k : Nat} (hk : k < b) {x : Str} : x ∈ keptN (s.cont.getD k []) ↔ valV s.hom (.inr x) = some (nV k) := by
  constructor
  · exact fun h => I.loc k x hk h
  · intro h
    have hx : x ∈ al := by
      by_cases q : x ∈ al
      · exact q
      · rw [I.no x q] at h
        cases h
    obtain ⟨h2, j, hb, L⟩ := I.at_ hx
    have e : h2 = k := nV_inj (Option.some.inj (L.hom.symm.trans h))
    subst e
    exact List.mem_filterMap.mpr ⟨some x, List.mem_of_getElem? L.pg, rfl⟩
theorem kept_map (f : Str → Str) : ∀ c : Cb, keptN (c.map (Option.map f)) = (keptN c).map f
  | [] => rfl
  | none :: c => kept_map f c
  | some x :: c => by
    show f x :: keptN (c.map (Option.map f)) = f x :: (keptN c).map f
    rw [kept_map f c]
theorem getD_mapc (f : Str → Str) (l : List Cb) (k : Nat) : (l.map (List.map (Option.map f))).getD k [] = (l.getD k []).map (Option.map f) := by
  rw [List.getD_eq_getElem?_getD, List.getD_eq_getElem?_getD, List.getElem?_map]
  cases l[k]? <;> rfl
/-- the names are others, the rest is the same; c: the pages too -/
structure Sim (π : Str → Str) (U : List Str) (c : Bool) (s s' : Pl) : Prop where
  free : s'.free = s.free
  clo : s'.clo = s.clo
  fil : s'.fil = s.fil
  liv : s'.liv = s.liv
  told : s'.told = s.told
  len : ∀ k, (s'.cont.getD k []).length = (s.cont.getD k []).length
  hom : ∀ x ∈ U, valV s'.hom (.inr (π x)) = valV s.hom (.inr x)
  cm : c = true → s'.cont = s.cont.map (List.map (Option.map π))
theorem Sim.cnt {s s' : Pl} (S : Sim π U c s s') : cntP s' = cntP s := by
  unfold cntP
  rw [S.clo, S.liv]
theorem Sim.die {s s' s0 s0' : Pl} {x : Str} (hinj : ∀ a ∈ U, ∀ d ∈ U, π a = π d → a = d) (hx : x ∈ U) (hal : ∀ a ∈ al, a ∈ U) (I : PInv b p s al) (S : Sim π U c s s') (h : DeadR s s0 x) (h' : DeadR s' s0' (π x)) : Sim π U c s0 s0' := by
  rcases h with ⟨hn, rfl⟩ | ⟨h, j, L, rfl⟩
  · rcases h' with ⟨_, rfl⟩ | ⟨h', j', L', rfl⟩
    · exact S
    · have z := L'.hom
      rw [S.hom x hx, hn] at z
      cases z
  · rcases h' with ⟨hn', _⟩ | ⟨h', j', L', rfl⟩
    · rw [S.hom x hx, L.hom] at hn'
      cases hn'
    · have e : h' = h := by
        have z := L'.hom
        rw [S.hom x hx, L.hom] at z
        exact (nV_inj (Option.some.inj z)).symm
      subst e
      refine ⟨S.free, S.clo, S.fil, ?_, S.told, fun k => ?_, fun y hy => ?_, fun hc => ?_⟩
      · show s'.liv.set h' (s'.liv.getD h' 0 - 1) = s.liv.set h' (s.liv.getD h' 0 - 1)
        rw [S.liv]
      · show ((s'.cont.set h' _).getD k []).length = ((s.cont.set h' _).getD k []).length
        by_cases e : k = h'
        · subst e
          rw [getD_set L.blk, getD_set L'.blk, List.length_set, List.length_set]
          exact S.len k
        · rw [set_getD_ne e, set_getD_ne e]
          exact S.len k
      · show valV (dropK s'.hom (.inr (π x))) (.inr (π y)) = valV (dropK s.hom (.inr x)) (.inr y)
        rw [valV_drop, valV_drop]
        by_cases e : y = x
        · subst e
          rw [if_pos rfl, if_pos rfl]
        · rw [if_neg (fun z => e (hinj y hy x hx (Sum.inr.inj z))), if_neg (fun z => e (Sum.inr.inj z))]
          exact S.hom y hy
      · have hcm := S.cm hc
        have hcD : s'.cont.getD h' [] = (s.cont.getD h' []).map (Option.map π) := by rw [hcm, getD_mapc]
        have hb : h' < b := by rw [← I.cl]; exact L.blk
        have ej : j' = j := by
          refine (lives_uniq L' ⟨by rw [S.hom x hx]; exact L.hom, by rw [hcm, List.length_map]; exact L.blk, by rw [hcD, List.getElem?_map, L.pg]; rfl, fun m hm z => ?_⟩).2
          rw [hcD, List.getElem?_map] at z
          cases hq : (s.cont.getD h' [])[m]? with
          | none => rw [hq] at z; cases z
          | some o =>
            rw [hq] at z
            cases o with
            | none => cases z
            | some y =>
              have e1 : π y = π x := by injection z with z; injection z
              have hyk : y ∈ keptN (s.cont.getD h' []) := List.mem_filterMap.mpr ⟨some y, List.mem_of_getElem? hq, rfl⟩
              have hyU : y ∈ U := hal y (I.names.mem_iff.mp (kept_in L.blk hyk))
              have e2 := hinj y hyU x hx e1
              subst e2
              exact L.fst m hm hq
        subst ej
        show s'.cont.set h' ((s'.cont.getD h' []).set j' none) = (s.cont.set h' ((s.cont.getD h' []).set j' none)).map _
        rw [hcD, List.map_set, List.map_set, hcm]
        rfl
theorem Sim.clean {s s' : Pl} {i k f : Nat} (hp : 0 < p) (I : PInv b p s al) (I' : PInv b p s' al') (S : Sim π U c s s') (hf : s.fil = none) (hfe : s.free = [f]) (hi : s.clo[i]? = some k) : Sim π U c (cleanP p s i k f) (cleanP p s' i k f) := by
  obtain ⟨T, hfk, hfb, hkb⟩ := I.cln hp ⟨f, hfe⟩ hf hfe hi
  obtain ⟨T', _, _, _⟩ := I'.cln hp ⟨f, by rw [S.free]; exact hfe⟩ (by rw [S.fil]; exact hf) (by rw [S.free]; exact hfe) (by rw [S.clo]; exact hi)
  have hkl : (keptN (s'.cont.getD k [])).length = (keptN (s.cont.getD k [])).length := by
    have z := I.lv k hkb
    have z' := I'.lv k hkb
    rw [S.liv] at z'
    rw [z] at z'
    unfold livI at z'
    omega
  have fl : f < (s.cont.set k []).length := by rw [List.length_set, I.cl]; exact hfb
  have fl' : f < (s'.cont.set k []).length := by rw [List.length_set, I'.cl]; exact hfb
  refine ⟨by rw [T.free, T'.free], by rw [T.clo, T'.clo, hkl, S.clo], by rw [T.fil, T'.fil, hkl], by rw [T.liv, T'.liv, hkl, S.liv], by rw [T.told, T'.told, S.told], fun m => ?_, fun y hy => ?_, fun hc => ?_⟩
  · rw [T.cont, T'.cont]
    by_cases e : m = f
    · subst e
      rw [getD_set fl, getD_set fl', List.length_map, List.length_map, hkl]
    · rw [set_getD_ne e, set_getD_ne e]
      by_cases e2 : m = k
      · subst e2
        rw [getD_set (by rw [I'.cl]; exact hkb), getD_set (by rw [I.cl]; exact hkb)]
      · rw [set_getD_ne e2, set_getD_ne e2]
        exact S.len m
  · rw [T.hom, T'.hom, homs_val, homs_val]
    have hh := S.hom y hy
    have e1 := I.kept_iff hkb (x := y)
    have e2 := I'.kept_iff hkb (x := π y)
    rw [hh] at e2
    by_cases q : y ∈ keptN (s.cont.getD k [])
    · rw [if_pos q, if_pos (e2.mpr (e1.mp q))]
    · rw [if_neg q, if_neg (fun z => q (e1.mpr (e2.mp z)))]
      exact hh
  · have hcm := S.cm hc
    rw [T.cont, T'.cont, List.map_set, List.map_set, hcm, getD_mapc, kept_map, List.map_map, List.map_map]
    rfl
/-- the one goes on, so the other does not stick -/
theorem Sim.noStuck (hw : ∀ r ∈ rows, r.2 ∈ wordsL) (hp : 0 < p) {seen : List (List Int)} {s s1 : Pl} {k : Nat} {cl : List Nat} {cp : Int} (h : Cleans p rows seen s s1 k cl cp) : ∀ {s' s2' : Pl}, PInv b p s al → PInv b p s' al' → Sim π U c s s' → Stuck p rows seen s' s2' → False := by
  induction h with
  | stop hf =>
    intro s' s2' I I' S h'
    cases h' with
    | here hf' => rw [S.fil, hf] at hf'; cases hf'
    | step hf' => rw [S.fil, hf] at hf'; cases hf'
  | @step seen s s2 i j f k cl cp hf hfe hi hn hpk hrest ih =>
    intro s' s2' I I' S h'
    cases h' with
    | here hf' hfe' hm => rw [S.cnt] at hm; exact hn hm
    | @step _ _ _ i' j' f' hf' hfe' hi' hn' hpk' hrest' =>
      rw [S.cnt] at hpk' hrest'
      rw [S.clo] at hi'
      rw [S.free] at hfe'
      have e1 := pick_uniq hw hpk hpk'
      subst e1
      have e2 := Option.some.inj (hi.symm.trans hi')
      subst e2
      have e3 : [f] = [f'] := hfe.symm.trans hfe'
      cases e3
      obtain ⟨T, hfk, hfb, hkb⟩ := I.cln hp ⟨f, hfe⟩ hf hfe hi
      obtain ⟨T', _, _, _⟩ := I'.cln hp ⟨f, by rw [S.free]; exact hfe⟩ hf' (by rw [S.free]; exact hfe) (by rw [S.clo]; exact hi)
      exact ih (I.clean hp hf hfe hi hfk hfb hkb T) (I'.clean hp hf' (by rw [S.free]; exact hfe) (by rw [S.clo]; exact hi) hfk hfb hkb T') (S.clean hp I I' hf hfe hi) hrest'
/-- an event of other names -/
def ren (π : Str → Str) (e : Str × Str) : Str × Str := (e.1, π e.2)
theorem Sim.evtS (hw : ∀ r ∈ rows, r.2 ∈ wordsL) (hp : 0 < p) (hinj : ∀ a ∈ U, ∀ d ∈ U, π a = π d → a = d) (hal : ∀ a ∈ al, a ∈ U) {s s1 s' s1' : Pl} {e : Str × Str} (hx : e.2 ∈ U) (I : PInv b p s al) (I' : PInv b p s' al') (S : Sim π U c s s') (h : EvtRG p rows s s1 e.1 e.2) (h' : EvtStuck p rows s' s1' (ren π e).1 (ren π e).2) : False := by
  obtain ⟨s0, hd, hcase⟩ := h
  obtain ⟨s0', hd', hw2, hf', hl', hst⟩ := h'
  have S0 := S.die hinj hx hal I hd hd'
  obtain ⟨I0, _⟩ := die_any I hd
  obtain ⟨I0', _⟩ := die_any I' hd'
  rcases hcase with ⟨hw1, rfl⟩ | ⟨hw1, s2, k, cl, cp, ho, rfl⟩
  · have hw2' : e.1 = "write" := hw2
    rw [hw1] at hw2'
    exact absurd hw2' (by decide)
  · rcases ho with ⟨_, hl, _⟩ | ⟨_, hcs⟩
    · rw [S0.free] at hl'
      omega
    · exact Sim.noStuck hw hp hcs I0 I0' S0 hst
end
end K6

set_option Elab.async false
set_option linter.all false
set_option maxRecDepth 100000
set_option maxHeartbeats 4000000
/-! loads that differ in names -/
namespace K6
open PySem PySem.Spec PyProof.Rows L2 G1 G2 K2 G5 LamX
section
variable {b p n : Nat} {rows : List RowD} {π : Str → Str} {U : List Str}
theorem lets_cutS : ∀ {es es2 : List (Str × Str)} {al : List Str}, Lets n al (es ++ es2) → Lets n al es ∧ Lets n (es.foldl aft al) es2
  | [], _, _, h => ⟨trivial, h⟩
  | e :: es, _, _, ⟨h1, h2⟩ => ⟨⟨h1, (lets_cutS (es := es) h2).1⟩, (lets_cutS (es := es) h2).2⟩
/-- what is known of a drive and a load that may stick -/
structure PureS (b p n : Nat) (rows : List RowD) (es : List (Str × Str)) : Prop where
  D : Dims b p
  b6 : b ≤ 6
  wd : ∀ r ∈ rows, r.2 ∈ wordsL
  hn : n ≤ p * (b - 1)
  lets : Lets n [] es
  few : es.length ≤ 100
theorem PureS.all {es : List (Str × Str)} (h : PureS b p n rows es) : LoadOkS p n rows true (newP b) es ∧ ∀ s', PlaysToG p rows (newP b) es s' → PInv b p s' (es.foldl aft []) ∧ s'.told.length = es.length ∧ ∀ t ∈ s'.told, StepS b t := by
  have z := load_allS (rows := rows) h.D h.b6 h.hn es (newP b) [] (pinv_new (by have := h.D.b2; omega) h.D.p0) (Nat.zero_le _) h.lets (by have := h.few; show 0 + es.length ≤ 10000; omega)
  refine ⟨z.1, fun s' hs => ?_⟩
  obtain ⟨a, ts, e1, e2, e3⟩ := z.2 s' hs
  have e4 : s'.told = ts := by rw [e1]; rfl
  rw [e4]
  exact ⟨a, e2, e3⟩
theorem PureS.ok {es : List (Str × Str)} (h : PureS b p n rows es) {s' : Pl} (hs : PlaysToG p rows (newP b) es s') : LoadOkG p n rows (newP b) es := load_noS h.wd h.all.1 hs
theorem PureS.take {es : List (Str × Str)} (h : PureS b p n rows es) (m : Nat) : PureS b p n rows (es.take m) := by
  refine ⟨h.D, h.b6, h.wd, h.hn, ?_, ?_⟩
  · have z := h.lets
    rw [← List.take_append_drop m es] at z
    exact (lets_cutS z).1
  · have := h.few
    rw [List.length_take]
    omega
theorem al_lenS {n : Nat} : ∀ (es : List (Str × Str)) (al : List Str), al.length ≤ n → Lets n al es → (es.foldl aft al).length ≤ n
  | [], al, h, _ => h
  | e :: es, al, h, ⟨h1, h2⟩ => al_lenS es (aft al e) (aft_len h1 h) h2
theorem PureS.fit {es : List (Str × Str)} (h : PureS b p n rows es) {s' : Pl} (hs : PlaysToG p rows (newP b) es s') : s'.cont.length ≤ 10 ∧ ∀ c ∈ s'.cont, c.length ≤ 10 := by
  obtain ⟨I, _⟩ := h.all.2 s' hs
  have hl := al_lenS (n := n) es [] (Nat.zero_le _) h.lets
  have h90 : p * (b - 1) ≤ 10 * 9 := Nat.mul_le_mul h.D.p10 (by have := h.D.b10; omega)
  have hn := h.hn
  have F := I.fit2 h.D.b10 h.D.p10 (by omega)
  exact ⟨by rw [I.cl]; exact h.D.b10, F.cont⟩
theorem plays_take {es : List (Str × Str)} {s s' : Pl} (h : PlaysToG p rows s es s') (m : Nat) : ∃ s1, PlaysToG p rows s (es.take m) s1 ∧ PlaysToG p rows s1 (es.drop m) s' := by
  rw [← List.take_append_drop m es] at h
  exact plays_app h
/-- one event more -/
theorem plays_one {es : List (Str × Str)} {s s' : Pl} {i : Nat} {e : Str × Str} (he : es[i]? = some e) (h : PlaysToG p rows s (es.take (i + 1)) s') : ∃ s1, PlaysToG p rows s (es.take i) s1 ∧ EvtRG p rows s1 s' e.1 e.2 := by
  rw [List.take_add_one, he] at h
  obtain ⟨s1, h1, s2, h2, h3⟩ := plays_app h
  have e3 : s' = s2 := h3
  rw [e3]
  exact ⟨s1, h1, h2⟩
/-! ### other names -/
/-! ### two names exchanged -/
theorem no_both (hw : ∀ r ∈ rows, r.2 ∈ wordsL) (hp : 0 < p) {al : List Str} {s s1 s1' : Pl} {e : Str × Str} (I : PInv b p s al) (h : EvtRG p rows s s1 e.1 e.2) (h' : EvtStuck p rows s s1' e.1 e.2) : False := by
  have S : Sim id (e.2 :: al) false s s := ⟨rfl, rfl, rfl, rfl, rfl, fun _ => rfl, fun _ _ => rfl, fun z => (nomatch z)⟩
  exact S.evtS hw hp (fun a _ d _ z => z) (fun a ha => List.mem_cons_of_mem _ ha) (List.mem_cons_self ..) I I h h'
end
end K6

set_option Elab.async false
set_option linter.all false
set_option maxRecDepth 100000
set_option maxHeartbeats 4000000
/-! steps and stand, where a write may stick -/
namespace K6
open PySem PySem.Spec PyProof.Rows L2 G1 G2 K2 G5 LamX K3
/-- a call with a load whose writes may stick -/
structure CalX (K : PySem.W.Frag) (T : List (Addr × Str)) (CL : Addr) (H : Hp) (ld : Addr) (eas : List Addr) (es : List (Str × Str)) (b p n : Nat) (rows : List RowD) (E : XK) : Prop where
  ld : SqT K H ld (eas.map V.ref)
  ev : Paired (fun (a : Addr) (e : Str × Str) => SqT K H a [.str e.1, .str e.2]) eas es
  b10 : b ≤ 10
  wd : ∀ r ∈ rows, r.2 ∈ wordsL
  ok : LoadOkS p n rows true (newP b) es
  few : es.length ≤ 2000
  tb : Tabs T H
  qs : ∀ (H' : Hp) (i : Nat) (e : Str × Str) (s1 s2 : Pl), es[i]? = some e → PlaysToG p rows (newP b) (es.take i) s1 → EvtStuck p rows s1 s2 e.1 e.2 → ExtN H H' → Tabs T H' → Rsd CL "index" (.int (i : Int)) H' E
def spStpX (K : PySem.W.Frag) (T : List (Addr × Str)) (CD C CL : Addr) : SpG := fun vs H Q E => ∃ (dr ld : Addr) (eas : List Addr) (es : List (Str × Str)) (b p n : Nat) (ini : List RowD) (y : Str), vs = [.ref dr, .ref ld] ∧ DrvAt K CD H dr b p n ini y ∧ CalX K T CL H ld eas es b p n (ini ++ [((p : Int), y)]) E ∧
  (∀ s', PlaysToG p (ini ++ [((p : Int), y)]) (newP b) es s' → s'.told.length ≤ 10000) ∧
  ∀ (H' : Hp) (rs : List Addr) (s' : Pl), PlaysToG p (ini ++ [((p : Int), y)]) (newP b) es s' → Paired (TldAt H') rs s'.told → ExtN H H' → Tabs T H' → Q (rs.map V.ref) H'
section
variable {P : Program} {w : World} {K : PySem.W.Frag} {mg : Str → Option Value} {base : Heap} {CD C CL : Addr}
theorem CalX.lod {T : List (Addr × Str)} {H : Hp} {dr ld : Addr} {eas : List Addr} {es : List (Str × Str)} {b p n : Nat} {rows : List RowD} {E : XK} {Q : VK} (h : CalX K T CL H ld eas es b p n rows E) (q : ∀ (H' : Hp) (x : Addr) (s' : Pl) (A : PAd), PlaysToG p rows (newP b) es s' → PlayAt C H' x s' A → A.dr = dr → H x = none → ExtN H H' → Tabs T H' → Q (.ref x) H') :
    LodX K T true CD C CL H dr ld eas es [] b p n rows Q E :=
  ⟨by rw [List.append_nil]; exact h.ld, h.ev, fun v r z => (by cases z), h.b10, h.wd, h.ok, by have := h.few; show es.length + 0 ≤ 2000; omega, h.tb, fun _ => q, fun z => absurd rfl z, fun _ => h.qs⟩
theorem ok_stpX {f0 fL : Addr} {fd dL : FuncData} {T : List (Addr × Str)} (F : Fun K "steps" "steps" sStp f0 fd) (B : Bl mg) (PC : PCls K C) (GD : FAt P w K mg base 1 "check_drive" ["drive"] (spCkd K CD))
    (GL : FnOk P w K mg base (L2.CX P w) 7 fL dL ["drive", "load"] (spLodX K T true CD C CL)) (kL : PySem.W.keepIn K (.ref fL) = true) (bL : Binds K dL ["drive", "load"] []) (gL : mg "play_load" = some (.ref fL)) : GFn P w K mg base 8 f0 fd ["drive", "load"] (spStpX K T CD C CL) := by
  obtain ⟨oc, od, kV, doc, pm, an, cdv, ct, osl, rfl, lk, hcd⟩ := F.ex
  refine gfn_of lk hcd scStp (fun vs H Q E h => ?_) (fun A0 outer s0 H vs Q E pn hr h => ?_)
  · obtain ⟨dr, ld, eas, es, b, p, n, ini, y, rfl, _⟩ := h
    rfl
  obtain ⟨dr, ld, eas, es, b, p, n, ini, y, rfl, hd, X, hsz, q⟩ := h
  obtain ⟨fD, dD, GD, kD, bD, gD⟩ := GD.ex
  refine ⟨_, gss_cons (gs_ps (ps_expr (pe_call GD (hr.mono (by decide)) (by rfl) gD kD bD .nil pass0 (pa_cons (pv 0) pa_nil))))
    (gss_cons (gs_ps (ps_set (i := 2) scStp.nd rfl (.inl rfl) (pe_fld (pe_call (E := E) GL hr (by rfl) gL kL bL .nil (passes_call takes_gcx (fun _ _ _ _ z => z)) (pa_cons (pv 0) (pa_cons (pv 1) pa_nil))) rfl)))
    (gss_cons (gs_yieldFrom (yf_lst (pv 2)) hr.hd) gss_nil)), ?_⟩
  refine ⟨_, rfl, dr, b, p, n, ini, y, rfl, hd, ?_⟩
  refine ⟨_, rfl, _, rfl, dr, ld, eas, es, [], b, p, n, ini, y, rfl, hd, X.lod fun H1 x s1 A pl1 p1 hdr nx e1 t1 => ?_⟩
  refine ⟨x, C, A.dx, _, _, rfl, p1.ins, PC.cl, PC.n8, rfl, ?_⟩
  have hl := hsz s1 pl1
  have hrl := Paired.length p1.tat
  refine ⟨_, rfl, A.ta, _, rfl, p1.told, ?_, ?_⟩
  · rw [sizeLine_eq, List.length_map]
    show 0 + _ ≤ _
    omega
  · exact q H1 A.rt s1 pl1 p1.tat e1 t1
end
end K6

set_option Elab.async false
set_option linter.all false
set_option maxRecDepth 100000
set_option maxHeartbeats 4000000
/-! _law_outcome, _law_let -/
namespace K6
open PySem PySem.Spec PyProof.Rows L2 G1 G2 G3 K2 G5 LamX K3 ClX
abbrev sOut : Stmt := topS 91
abbrev NOut : List Str := ["_law_act", "_law_told", "e"]
theorem scOut : FnScope NOut ["_law_act"] (defScope sOut) := ⟨rfl, rfl, rfl, by decide +kernel, rfl, by decide +kernel, by decide +kernel⟩
structure Ex1 (K : PySem.W.Frag) (CL : Addr) : Prop where
  ll : PySem.W.exmOne K (.ref CL) (.ref CL) = some true
def OutE (CL : Addr) (Q : VK) : XK := fun cls d H' => ∃ (dd : Addr) (i : Int), cls = .ref CL ∧ d = some dd ∧ H' dd = some (.xd [("index", .int i)]) ∧ ∀ q, H' q = none → Q (.ref q) (upd H' q (.lst [.str "load", .int i]))
def OutQ (Q : VK) : VK := fun v H' => ∀ q, H' q = none → Q (.ref q) (upd H' q (.lst [.str "told", v]))
def TOut (CL : Addr) : (XK → Hp → VK → Prop) → Hp → VK → Prop := fun tl H Q => ∀ (E' : XK) (Q' : VK), (∀ cls d H', OutE CL Q cls d H' → E' cls d H') → (∀ v H', OutQ Q v H' → Q' v H') → tl E' H Q'
section
variable {X : Cx} {g CL : Addr} {cdg : Value} {q : Str}
theorem out_gives (xL : XCls X.prog X.w X.K X.mg X.base "InvalidLoad" "index" CL) (Em : Ex1 X.K CL) :
    GivesW X NOut "_law_outcome" (defScope sOut) g cdg (defBody sOut) "_law_act" q (TOut CL) := by
  intro f c' s H Q tl act hc want
  refine ⟨_, pss_cons (ps_try_manyA (Y := (cxOf C8.CX0 X.prog X.w X.K X.mg X.base NOut "_law_outcome" (defScope sOut) g cdg X.A X.stack s H C8.E0).nox) (i := 2) (Wo := fun _ _ _ _ => False)
      (tb := fun W => tAsg (tLst (tCons (tC (.str "told")) (tCons (fun τ G Q => τ[0]? = some (some (.ref f)) ∧ G c' = some (CodeO c' q) ∧ tl (WE W τ) G Q) tNil))) (gName 1))
      rfl rfl scOut.nd rfl rfl LamX.takes0 (fun W pn xe tk _ => ?_)
      (.cons (c := .ref CL) (ts := fun ea cls d => tAsg (tLst (tCons (tC (.str "load")) (tCons (tXf ea cls d CL "index" (tVar 2)) tNil))) (gName 1)) ⟨rfl, by decide, .inl xL.g⟩ (fun ea eo cls d pn hz hf => pss_one (ps_set (i := 1) scOut.nd rfl (.inl rfl) (pe_lst (pa_cons pe_str (pa_cons (pe_xf xL.xf xL.no hz hf (pv 2)) pa_nil)))))
      .nil)) (pss_one (ps_ret (pv 1))), ?_⟩
  · exact pss_one (ps_set (i := 1) scOut.nd rfl (.inl rfl) (pe_lst (pa_cons pe_str (pa_cons (act W pn xe _ _ tk) pa_nil))))
  · refine ⟨rfl, hc, want _ _ (fun cls d H' hE => ?_) (fun v H' hQ => ?_)⟩
    · have t0 : ∀ {P : Prop}, true = false → P := fun z => by cases z
      obtain ⟨dd, i, rfl, rfl, hdd, k⟩ := hE
      exact ⟨true, Em.ll, fun _ ea _ => ⟨_, rfl, rfl, rfl, dd, _, .int i, rfl, hdd, (by simp [List.lookup]), by show 2 ≤ sizeLine; decide, fun q nq => ⟨_, rfl, k q nq⟩⟩, t0⟩
    · exact ⟨by show 2 ≤ sizeLine; decide, fun q nq => ⟨_, rfl, hQ q nq⟩⟩
end
section
variable {P : Program} {w : World} {K : PySem.W.Frag} {mg : Str → Option Value} {base : Heap}
/-- from the body to the promise, the code object known -/
theorem okGC {x qual : Str} {st : Stmt} {f c : Addr} {fd : FuncData} {N ps : List Str} {k : Nat} {sp : Sp} (F : FunC K x qual st f c fd) (S : FnScope N ps (defScope st))
    (len : ∀ vs H Q E, sp vs H Q E → vs.length = ps.length)
    (hbody : ∀ (A : Around) (outer : List Env) (s : Shared) (H : Hp) (vs : List V) (Q : VK) (E : XK), A.guards = some [] →
      Room k (A.deeper (envOfC qual (defScope st) s.heap.objs.size f (.ref c))) → sp vs H Q E →
      ∃ t, PSs (cxOf CX0 P w K mg base N qual (defScope st) f (.ref c) A outer s H E).nox (defBody st) t ∧ t { nx := fun _ H' => Q .non H', rt := Q } (start N vs) H) :
    FnG P w K mg base (k + 1) f fd ps sp := by
  obtain ⟨oc, od, kV, doc, pm, an, ct, osl, rfl, lk, hcd⟩ := F.ex
  constructor
  · exact len
  intro A outer s H args us vs Q E hgu room e0 bnd rel want
  refine LamX.run_ofS (CX := CX0) (N := N) lk hcd S room e0 bnd rel (len _ _ _ _ want) fun hr' => ?_
  obtain ⟨t, h1, h2⟩ := hbody A outer s H vs Q E hgu hr' want
  exact ⟨t, h1.nox, h2⟩
end
structure OutL (P : Program) (w : World) (K : PySem.W.Frag) (mg : Str → Option Value) (base : Heap) (CL : Addr) : Prop where
  out : ∃ (g : Addr) (fd : FuncData), Fun K "_law_outcome" "_law_outcome" sOut g fd ∧ Binds K fd ["_law_act"] [] ∧ mg "_law_outcome" = some (.ref g)
  xL : XCls P w K mg base "InvalidLoad" "index" CL
  Em : Ex1 K CL
  ns : PySem.W.subIn K (.ref CL) (.type "StopIteration") = some false
section
variable {X : Cx} {CL : Addr}
/-- outcome(lambda: ..) -/
theorem pe_out {T : List (Addr × Str)} {c P0 : Addr} {params : Arguments} {body : Expr} {scope : Scope} {t : XK → TE} {p lpos pos : Pos} (L : OutL X.prog X.w X.K X.mg X.base CL) (hr : Room 13 X.A)
    (TC : TabC X.base X.mg T c P0 (X.env.qual ++ "<lambda>")) (hcode : X.env.code = .ref c) (hg : Gl X "_law_outcome") (Ls : LamS X.env.scope scope) (hdef : defaultsOf params X.env = ([], []))
    (hbind : ∀ (q : Str) (cl : List (Str × Addr)) (pm cv ctv : Value), bindArgs (PySem.W.kla_fn "<lambda>" q params body scope cl pm cv ctv) ⟨[], []⟩ = pure [])
    (hbody : ∀ (A : Around) (outer : List Env) (s : Shared) (H : Hp) (E : XK) (f c' : Addr), Room 11 (A.deeper (lamEnv X scope s.heap.objs.size f c')) → PE (lamCx X A outer s H E scope f c') body (t E)) :
    PE X (.Call (.Name "_law_outcome" p) [.Lambda params body scope lpos] [] pos) (tLam T (TOut CL) t) := by
  obtain ⟨g2, fd2, F2, b2, m2⟩ := L.out
  obtain ⟨oc2, od2, kV2, doc2, pm2, an2, cd2, ct2, sl2, e2, lk2, hc2⟩ := F2.ex
  subst e2
  exact pe_lam1 (k := 11) (N1 := NOut) hg m2 F2.kp lk2 hc2 b2 scOut rfl (.inl rfl) (out_gives L.xL L.Em) TC.tb hcode TC.mem TC.uq hr Ls hdef hbind hbody (by decide)
end
/-! ### _law_let -/
/-- errors of this class alone -/
def ELe (CL : Addr) (E : XK) : XK := fun cls d H => cls = .ref CL ∧ E cls d H
theorem slA8 {K : PySem.W.Frag} {H : Hp} {Q : VK} {a : Addr} {xs : List V} {lo hi : Option Int} (h : SqT K H a xs) (k : ∀ (H' : Hp) (q : Addr), Same H H' → SqT K H' q (cutV xs lo hi) → Q (.ref q) H') : rSlA K (.ref a) lo hi H Q := by
  refine ⟨a, xs, rfl, h, fun hw => ?_, fun _ u nu => k _ u (same_lay nu) (SqT.of upd_same)⟩
  refine k H a (Same.refl H) ?_
  unfold cutV
  rw [hw.1, hw.2, List.drop_zero, Nat.sub_zero, List.take_length]
  exact h
theorem sl_read6 {r : V → Option Int → Option Int → Hp → VK → Prop} {te : TE} {tl th : TO} {σ : L2.St} {H : Hp} {Q : VK} (h : te σ H fun x H1 => tl σ H1 fun l H2 => th σ H2 fun u H3 => r x l u H3 Q) : L2.tSl r te tl th σ H Q := h
section
variable {P : Program} {w : World} {K : PySem.W.Frag} {mg : Str → Option Value} {base : Heap} {CD C CL : Addr}
end
end K6

set_option Elab.async false
set_option linter.all false
set_option maxRecDepth 100000
set_option maxHeartbeats 8000000
/-! data that is compared; what follows a call of stand whose writes may stick -/
namespace K6
open PySem PySem.Spec PyProof.Rows L2 G1 G2 G3 K2 G5 LamX K3 ClX
/-- text -/
theorem name_plain {x : Str} (h : NameOk x) : ∀ c ∈ x.cps.toList, c < 128 := fun c hc => by
  have z : ∀ c ∈ letS.cps.toList ++ digS.cps.toList, c < 128 := by decide +kernel
  exact z c (List.mem_append.mpr (h.all c hc))
theorem str_fit {x : Str} {n : Nat} (hp : ∀ c ∈ x.cps.toList, c < 128) (hl : x.cps.size ≤ n) : DFit (.str x) 0 n := by
  refine ⟨?_, rfl, ?_, by simp [PyData.depth], by simp only [PyData.bulk]; exact hl⟩
  · unfold PyData.canLay0 PyData.strOk
    rw [← Array.all_toList, List.all_eq_true]
    intro c hc
    have := hp c hc
    exact decide_eq_true (by omega)
  · unfold PyData.leavesShort
    rw [List.all_eq_true]
    intro c hc
    have := hp c hc
    exact decide_eq_true (by omega)
theorem name_fit {x : Str} (h : NameOk x) : DFit (.str x) 0 8 := str_fit (name_plain h) h.hi
theorem state_fit : ∀ w ∈ (["free", "closed", "open"] : List Str), DFit (.str w) 0 8 := fun w hw => by
  have z : ∀ w ∈ (["free", "closed", "open"] : List Str), (∀ c ∈ w.cps.toList, c < 128) ∧ w.cps.size ≤ 8 := by decide +kernel
  exact str_fit (z w hw).1 (z w hw).2
def blkD (t : Str × List Str) : PyData := .tuple [.str t.1, .tuple (t.2.map PyData.str)]
theorem dp_strs {K : PySem.W.Frag} {H : Hp} : ∀ l : List Str, DpAll K H (l.map V.str) (l.map PyData.str)
  | [] => .nil
  | x :: l => .cons (.str x) (dp_strs l)
theorem blk_dp {K : PySem.W.Frag} {H : Hp} {a : Addr} {t : Str × List Str} (h : BlAt H a t) : Dp K H (.ref a) (blkD t) := by
  obtain ⟨q, h1, h2⟩ := h
  exact .tup (SqT.of h1) (.cons (.str _) (.cons (.tup (SqT.of h2) (dp_strs _)) .nil))
theorem blks_dp {K : PySem.W.Frag} {H : Hp} : ∀ {rs : List Addr} {ts : List (Str × List Str)}, Paired (BlAt H) rs ts → DpAll K H (rs.map V.ref) (ts.map blkD)
  | _, _, .nil => .nil
  | _, _, .cons r t => .cons (blk_dp r) (blks_dp t)
theorem blk_fit {t : Str × List Str} (h1 : t.1 ∈ (["free", "closed", "open"] : List Str)) (h2 : ∀ x ∈ t.2, NameOk x) (h3 : t.2.length ≤ 10) : DFit (blkD t) 2 200 := by
  have z1 := (state_fit _ h1).up (k' := 1) (m' := 90) (by decide) (by decide)
  have z2 := tup_fit (f := PyData.str) (l := t.2) (k := 0) (m := 8) (n := 10) (fun x hx => name_fit (h2 x hx)) h3
  have z := tup_fit (f := fun (x : PyData) => x) (l := [.str t.1, .tuple (t.2.map PyData.str)]) (k := 1) (m := 90) (n := 2) (fun x hx => by
    simp only [List.mem_cons, List.not_mem_nil, or_false] at hx
    rcases hx with rfl | rfl
    · exact z1
    · exact z2.up (by decide) (by decide)) (Nat.le_refl _)
  rw [List.map_id'] at z
  exact z.up (Nat.le_refl _) (by decide)
theorem blks_fit {ts : List (Str × List Str)} (h : ∀ t ∈ ts, t.1 ∈ (["free", "closed", "open"] : List Str) ∧ (∀ x ∈ t.2, NameOk x) ∧ t.2.length ≤ 10) (hl : ts.length ≤ 10) : DFit (.tuple (ts.map blkD)) 3 2010 := tup_fit (fun t ht => blk_fit (h t ht).1 (h t ht).2.1 (h t ht).2.2) hl
theorem blo_state (s : Pl) (i : Nat) : (bloM s i).1 ∈ (["free", "closed", "open"] : List Str) := by
  unfold bloM
  dsimp only
  split
  · simp
  · split <;> simp
end K6

set_option Elab.async false
set_option linter.all false
set_option maxRecDepth 100000
set_option maxHeartbeats 8000000
/-! _law_rule -/
namespace K7
open PySem PySem.Spec PyProof.Rows L2 G1 G2 G3 K2 G5 LamX K3 ClX K6
/-! ### lists of whole numbers as data -/
section
variable {P : Program} {w : World} {K : PySem.W.Frag} {mg : Str → Option Value} {base : Heap}
end
end K7

set_option Elab.async false
set_option linter.all false
set_option maxRecDepth 100000
set_option maxHeartbeats 4000000
/-! blocks filled one behind another -/
namespace K7
open PySem PySem.Spec PyProof.Rows L2 G1 G2 G3 K2 G5 LamX K3 ClX K6
section
variable {b p i c : Nat} {s : Pl} {al : List Str} {ks : List (List Str)} {cur : List Str} {rows : List RowD}
end
end K7

set_option Elab.async false
set_option linter.all false
set_option maxRecDepth 100000
set_option maxHeartbeats 4000000
/-! what a write does, by the rows of closed blocks -/
namespace K7
open PySem PySem.Spec PyProof.Rows L2 G1 G2 G3 K2 G5 LamX K3 ClX K6
section
variable {b p : Nat} {s : Pl} {al : List Str} {rows : List RowD}
end
section
variable {b p : Nat} {rows : List RowD} {al : List Str} {s0 s : Pl} {seen : List (List Int)} {gl : List Nat} {cp : Int} {f m : Nat}
end
end K7

set_option Elab.async false
set_option linter.all false
set_option maxRecDepth 100000
set_option maxHeartbeats 4000000
namespace K2.KQ
open PySem PySem.Spec PyProof.Rows L2 G1 G2
abbrev sTak : Stmt := topS 61
abbrev sStk : Stmt := topS 62
theorem scTak : FnScope ["drive", "floor", "limit", "word"] ["drive"] (defScope sTak) := ⟨rfl, rfl, rfl, by decide +kernel, rfl, by decide +kernel, by decide +kernel⟩
theorem scStk : FnScope ["drive", "floor", "word", "stuck"] ["drive"] (defScope sStk) := ⟨rfl, rfl, rfl, by decide +kernel, rfl, by decide +kernel, by decide +kernel⟩
structure PrpOk (P : Program) (w : World) (K : PySem.W.Frag) (mg : Str → Option Value) (base : Heap) (C : Addr) (nm fld : Str) : Prop where
  ex : ∃ (p g : Addr) (fd : FuncData), PropOf K C nm p g ∧ FnOk P w K mg base CX0 1 g fd ["self"] (getSp C fld) ∧ Binds K fd ["self"] []
/-- a drive's properties -/
structure DD (P : Program) (w : World) (K : PySem.W.Frag) (mg : Str → Option Value) (base : Heap) (C : Addr) : Prop where
  T : DCls K C
  D : DKit K C
  pb : PrpOk P w K mg base C "blocks" "kept_blocks"
  pp : PrpOk P w K mg base C "pages" "kept_pages"
  pn : PrpOk P w K mg base C "names" "kept_names"
  pr : PrpOk P w K mg base C "rows" "kept_rows"
  gD : mg "Drive" = some (.ref C)
structure FAt (P : Program) (w : World) (K : PySem.W.Frag) (mg : Str → Option Value) (base : Heap) (k : Nat) (x : Str) (ps : List Str) (sp : Sp) : Prop where
  ex : ∃ (f : Addr) (fd : FuncData), FnOk P w K mg base CX0 k f fd ps sp ∧ PySem.W.keepIn K (.ref f) = true ∧ Binds K fd ps [] ∧ mg x = some (.ref f)
/-! ### the mirror -/
def maxI (i j : Int) : Int := if j > i then j else i
/-- the row that takes all blocks, and what lives in each when it comes to it -/
def takM (p : Nat) : Int → List RowD → Int × Str
  | f, [] => (f, Str.empty)
  | f, (l, x) :: rs => if l = (p : Int) then (f, x) else takM p (maxI f (l + 1)) rs
theorem tak_cons (p : Nat) (f l : Int) (x : Str) (rs : List RowD) : takM p f ((l, x) :: rs) = if l = (p : Int) then (f, x) else takM p (maxI f (l + 1)) rs := rfl
def fullW : List Str := ["youngest", "most"]
def stM (b p : Nat) (f : Int) : List Int := List.replicate (b - 2) f ++ [(p : Int)]
def stkM (b p n : Nat) (rows : List RowD) : Option (List Int) :=
  if (takM p 0 rows).2 ∈ fullW ∧ (stM b p (takM p 0 rows).1).sum < (n : Int) then some (stM b p (takM p 0 rows).1) else none
theorem tak_box (p : Nat) : ∀ (rows : List RowD) (f : Int), 0 ≤ f → f ≤ (p : Int) → (∀ r ∈ rows, RowOk p r) → 0 ≤ (takM p f rows).1 ∧ (takM p f rows).1 ≤ (p : Int)
  | [], f, h0, h1, _ => ⟨h0, h1⟩
  | (l, x) :: rs, f, h0, h1, h => by
    obtain ⟨a0, a1, _⟩ := h _ (List.mem_cons_self ..)
    dsimp only at a0 a1
    unfold takM
    split
    · exact ⟨h0, h1⟩
    · refine tak_box p rs _ ?_ ?_ fun r hr => h r (List.mem_cons_of_mem _ hr)
      · unfold maxI; split <;> omega
      · unfold maxI; split <;> omega
theorem st_sum (b p : Nat) (f : Int) (hb : 2 ≤ b) : (stM b p f).sum = ((b : Int) - 2) * f + (p : Int) := by
  unfold stM
  rw [List.sum_append, List.sum_replicate_int, Int.natCast_sub hb]
  simp
def spTak (K : PySem.W.Frag) (C : Addr) : Sp := fun vs H Q _ => ∃ (x : Addr) (b p n : Nat) (ini : List RowD) (y : Str), vs = [.ref x] ∧ DrvAt K C H x b p n ini y ∧ DP b p n ini y ∧
  ∀ (H' : Hp) (q : Addr), Same H H' → H' q = some (.tup [.int (takM p 0 (ini ++ [((p : Int), y)])).1, .str (takM p 0 (ini ++ [((p : Int), y)])).2]) → Q (.ref q) H'
section
variable {P : Program} {w : World} {K : PySem.W.Frag} {mg : Str → Option Value} {base : Heap} {C : Addr}
theorem ok_tak {f : Addr} {fd : FuncData} (F : Fun K "find_taker" "find_taker" sTak f fd) (B : Bl mg) (M : DD P w K mg base C) : FnOk P w K mg base CX0 3 f fd ["drive"] (spTak K C) := by
  refine F.ok scTak (fun vs H Q E h => ?_) (fun cdv A outer s H vs Q E hr h => ?_)
  · obtain ⟨x, b, p, n, ini, y, rfl, _⟩ := h
    rfl
  obtain ⟨x, b, p, n, ini, y, rfl, ⟨dx, t, hx, rs, hT, hP⟩, hd, k⟩ := h
  have hr2 : Room 2 _ := hr.mono (by decide)
  obtain ⟨pp, gp, fp, P2, F2, B2⟩ := M.pp.ex
  obtain ⟨pr, gr, fr, P4, F4, B4⟩ := M.pr.ex
  refine ⟨_, pss_cons (ps_set (i := 1) scTak.nd rfl (.inl rfl) pe_int)
    (pss_one (ps_for PassesOwn.never rfl (pi_tup (pe_prop (pv 0) M.T.cl P4 F4 hr2 B4 .nil pass0 rfl)) (pg_tup rfl (pgs_cons (pg_name (i := 2) scTak.nd rfl (.inl rfl)) (pgs_cons (pg_name (i := 3) scTak.nd rfl (.inl rfl)) pgs_nil)))
      (pss_cons (ps_if (pt_cmpR op_eq (pv 2) (pe_prop (pv 0) M.T.cl P2 F2 hr2 B2 .nil pass0 rfl) (nomark _)) (pss_one (ps_ret (pe_tup (pa_cons (pv 1) (pa_cons (pv 3) pa_nil))))) pss_nil)
      (pss_one (ps_set (i := 1) scTak.nd rfl (.inl rfl) (pe_callB (call_max2 rfl) (by rfl) B.max bMax (pa_cons (pv 1) (pa_cons (pe_op op_add (pv 2) pe_int) pa_nil)))))))), ?_⟩
  generalize hrows : ini ++ [((p : Int), y)] = rows at hP k
  refine seq_asg (c_read ?_)
  refine ⟨_, rfl, x, dx, _, rfl, hx, x, dx, _, _, rfl, hx, rfl, t, rfl, ⟨_, hT⟩, ?_⟩
  refine for_tup (K := K) (xs := rs.map V.ref) (fun i σ H' => ∃ (fl : Int) (x2 x3 : Option V), σ = [some (.ref x), some (.int fl), x2, x3] ∧ Same H H' ∧ takM p 0 rows = takM p fl (rows.drop i) ∧ ∀ r ∈ rows.take i, r.1 ≠ (p : Int))
    ⟨0, none, none, rfl, Same.refl H, rfl, fun r hr => by simp at hr⟩ (fun i σ H' _ q => ?_) ?_ ?_
  · obtain ⟨_, _, _, _, s1, _⟩ := q
    exact K2.Same.tup s1 hT
  · rintro i v σ H' hi ⟨fl, x2, x3, rfl, s1, e1, e2⟩
    rw [List.getElem?_map] at hi
    obtain ⟨a, ha, rfl⟩ : ∃ a, rs[i]? = some a ∧ V.ref a = v := by
      cases hq : rs[i]? with
      | none => rw [hq] at hi; cases hi
      | some a => rw [hq] at hi; exact ⟨a, rfl, Option.some.inj hi⟩
    obtain ⟨⟨l, wd⟩, hr1, hr2'⟩ := paired_get hP ha
    have hdrop : rows.drop i = (l, wd) :: rows.drop (i + 1) := by
      obtain ⟨hlt, e⟩ := List.getElem?_eq_some_iff.mp hr1
      rw [List.drop_eq_getElem_cons hlt, e]
    rw [hdrop, tak_cons] at e1
    refine ⟨a, _, rfl, K2.Same.tup s1 hr2', rfl, _, _, rfl, _, _, rfl, rfl, ?_⟩
    refine ⟨_, rfl, _, rfl, x, dx, _, rfl, s1 _ _ hx, x, dx, _, _, rfl, s1 _ _ hx, rfl, rfl, _, rfl, ite2 (fun c => ?_) (fun c => ?_)⟩
    · have hl : l = (p : Int) := by
        have z := of_decide_eq_true c
        injection z
      rw [if_pos hl] at e1
      refine ⟨_, rfl, _, rfl, by show 2 ≤ sizeLine; decide, fun q nq => ?_⟩
      refine k _ q (s1.trans (same_lay nq)) ?_
      rw [upd_same, e1]
    · have hl : l ≠ (p : Int) := fun z => by
        exact c (decide_eq_true (by rw [z]))
      rw [if_neg hl] at e1
      refine ⟨_, rfl, _, rfl, _, _, rfl, rfl, _, _, rfl, _, _, _, rfl, s1, e1, ?_⟩
      intro r hr
      rw [List.take_add_one, hr1] at hr
      rcases List.mem_append.mp hr with hr | hr
      · exact e2 r hr
      · rw [show r = (l, wd) from by simpa using hr]
        exact hl
  · rintro σ H' ⟨fl, x2, x3, rfl, s1, e1, e2⟩
    exfalso
    refine e2 ((p : Int), y) ?_ rfl
    have hl : (rs.map V.ref).length = rows.length := by rw [List.length_map]; exact Paired.length hP
    rw [hl, List.take_length, ← hrows]
    simp
end
end K2.KQ

set_option Elab.async false
set_option linter.all false
set_option maxRecDepth 100000
set_option maxHeartbeats 4000000
namespace K2.KQ
open PySem PySem.Spec PyProof.Rows L2 G1 G2
def spStk (K : PySem.W.Frag) (C : Addr) : Sp := fun vs H Q _ => ∃ (x : Addr) (b p n : Nat) (ini : List RowD) (y : Str), vs = [.ref x] ∧ DrvAt K C H x b p n ini y ∧ DP b p n ini y ∧
  (stkM b p n (ini ++ [((p : Int), y)]) = none → ∀ H' : Hp, Same H H' → Q .non H') ∧
  ∀ (st : List Int) (H' : Hp) (q : Addr), stkM b p n (ini ++ [((p : Int), y)]) = some st → Same H H' → H' q = some (.tup (st.map V.int)) → Q (.ref q) H'
theorem in_full (x : Str) (h : x ∈ wordsL) : flatV (.str x) = true ∧ inV (.str x) (fullW.map V.str) = decide (x ∈ fullW) := by
  have z : ∀ x ∈ wordsL, flatV (.str x) = true ∧ inV (.str x) (fullW.map V.str) = decide (x ∈ fullW) := by decide +kernel
  exact z x h
theorem flatF : (fullW.map V.str).all flatV = true := by decide +kernel
theorem tak_word (p : Nat) (y : Str) (hy : y ∈ wordsL) : ∀ (ini : List RowD) (f : Int), (∀ r ∈ ini, RowOk p r) → (takM p f (ini ++ [((p : Int), y)])).2 ∈ wordsL
  | [], f, _ => by
    show (takM p f [((p : Int), y)]).2 ∈ wordsL
    rw [tak_cons, if_pos rfl]
    exact hy
  | (l, x) :: rs, f, h => by
    rw [List.cons_append, tak_cons]
    split
    · exact (h _ (List.mem_cons_self ..)).2.2
    · exact tak_word p y hy rs _ fun r hr => h r (List.mem_cons_of_mem _ hr)
theorem flat1 (m : Nat) (v : V) : (List.replicate m [v]).flatten = List.replicate m v := by
  induction m with
  | zero => rfl
  | succ m ih => rw [List.replicate_succ, List.flatten_cons, ih, List.replicate_succ]; rfl
theorem seq_if0 {tt : TT} {t t2 : TS} {D : Ends} {σ : L2.St} {H : Hp} (h : tt σ H fun c H1 => if c = true then t { D with nx := t2 D } σ H1 else t2 D σ H1) : tSeq (tIfS tt t tNext) t2 D σ H := h
section
variable {P : Program} {w : World} {K : PySem.W.Frag} {mg : Str → Option Value} {base : Heap} {C : Addr}
theorem rep_cat {ta tb tc : TE} {σ : L2.St} {H : Hp} {Q : VK} {fl p : Int} {m : Nat} (h1 : ∀ R : VK, R (.int fl) H → ta σ H R) (h2 : ∀ (H' : Hp) (R : VK), Same H H' → R (.int (m : Int)) H' → tb σ H' R) (h3 : ∀ (H' : Hp) (R : VK), Same H H' → R (.int p) H' → tc σ H' R)
    (m1 : 1 ≤ m) (m2 : m ≤ 10) (k : ∀ (H' : Hp) (u : Addr), Same H H' → H' u = some (.tup ((List.replicate m fl ++ [p]).map V.int)) → Q (.ref u) H') : tOp (rCatT K) (tOp (rRepA K) (tTup (tCons ta tNil)) tb) (tTup (tCons tc tNil)) σ H Q := by
  refine op_read (op_read (tup_read (cons_read (h1 _ (nil_read ⟨by show 1 ≤ sizeLine; decide, fun a na => ?_⟩)))))
  have sa : Same H (upd H a (.tup [.int fl])) := same_lay na
  have ea : (upd H a (.tup [.int fl])) a = some (.tup [.int fl]) := upd_same
  generalize upd H a (.tup [.int fl]) = H1 at sa ea ⊢
  refine h2 _ _ sa ⟨a, (m : Int), [.int fl], rfl, rfl, SqT.of ea, by simp, by omega, by omega, by show 1 ≤ 1000; decide, fun hm => ?_, fun hm q nq => ?_⟩
  · have e1 : m = 1 := by omega
    subst e1
    refine tup_read (cons_read (h3 _ _ sa (nil_read ⟨by show 1 ≤ sizeLine; decide, fun c nc => ?_⟩)))
    have sc : Same H1 (upd H1 c (.tup [.int p])) := same_lay nc
    refine ⟨a, c, [.int fl], [.int p], rfl, rfl, SqT.of (sc _ _ ea), SqT.of upd_same, by simp, by show 2 ≤ sizeLine; decide, fun z => by simp at z, fun _ u nu => ?_⟩
    exact k _ u (sa.trans (sc.trans (same_lay nu))) upd_same
  · have sq : Same H1 (upd H1 q (.tup (List.replicate ((m : Int)).toNat [V.int fl]).flatten)) := same_lay nq
    have eq : (upd H1 q (.tup (List.replicate ((m : Int)).toNat [V.int fl]).flatten)) q = some (.tup (List.replicate m (V.int fl))) := by rw [upd_same, flat1, Int.toNat_natCast]
    generalize upd H1 q (.tup (List.replicate ((m : Int)).toNat [V.int fl]).flatten) = H2 at sq eq ⊢
    refine tup_read (cons_read (h3 _ _ (sa.trans sq) (nil_read ⟨by show 1 ≤ sizeLine; decide, fun c nc => ?_⟩)))
    have sc : Same H2 (upd H2 c (.tup [.int p])) := same_lay nc
    refine ⟨q, c, List.replicate m (.int fl), [.int p], rfl, rfl, SqT.of (sc _ _ eq), SqT.of upd_same, fun z => ?_, ?_, fun z => by simp at z, fun _ u nu => ?_⟩
    · have := congrArg List.length z
      simp at this
      omega
    · rw [List.length_replicate, sizeLine_eq]
      show m + 1 ≤ _
      omega
    refine k _ u (sa.trans (sq.trans (sc.trans (same_lay nu)))) ?_
    rw [upd_same, List.map_append, List.map_replicate]
    rfl
theorem ok_stk {f : Addr} {fd : FuncData} (F : Fun K "find_stuck" "find_stuck" sStk f fd) (B : Bl mg) (M : DD P w K mg base C) (GT : FAt P w K mg base 3 "find_taker" ["drive"] (spTak K C)) : FnOk P w K mg base CX0 4 f fd ["drive"] (spStk K C) := by
  refine F.ok scStk (fun vs H Q E h => ?_) (fun cdv A outer s H vs Q E hr h => ?_)
  · obtain ⟨x, b, p, n, ini, y, rfl, _⟩ := h
    rfl
  obtain ⟨x, b, p, n, ini, y, rfl, hx0, hd, k0, k1⟩ := h
  have hr2 : Room 2 _ := hr.mono (by decide)
  obtain ⟨fT, dT, GT, kT, bT, gT⟩ := GT.ex
  obtain ⟨pb, gb, fb, P1, F1, B1⟩ := M.pb.ex
  obtain ⟨pp, gp, fp, P2, F2, B2⟩ := M.pp.ex
  obtain ⟨pn, gn, fn, P3, F3, B3⟩ := M.pn.ex
  refine ⟨_, pss_cons (ps_asg (pe_call GT hr (by rfl) gT kT bT .nil pass0 (pa_cons (pv 0) pa_nil)) (pg_tup rfl (pgs_cons (pg_name (i := 1) scStk.nd rfl (.inl rfl)) (pgs_cons (pg_name (i := 2) scStk.nd rfl (.inl rfl)) pgs_nil))))
    (pss_cons (ps_set (i := 3) scStk.nd rfl (.inl rfl) (pe_op op_catT (pe_op op_repA (pe_tup (pa_cons (pv 1) pa_nil)) (pe_op op_sub (pe_prop (pv 0) M.T.cl P1 F1 hr2 B1 .nil pass0 rfl) pe_int)) (pe_tup (pa_cons (pe_prop (pv 0) M.T.cl P2 F2 hr2 B2 .nil pass0 rfl) pa_nil))))
    (pss_cons (ps_if (PW.pt (pw_and (pt_cmpR op_in_seq (pv 2) (pe_tup (pa_cons pe_str (pa_cons pe_str pa_nil))) (by rfl))
        (pw_and1 (pt_cmpR op_lt (pe_callB (cr_sumT rfl) (by rfl) B.sum bSum (pa_cons (pv 3) pa_nil)) (pe_prop (pv 0) M.T.cl P3 F3 hr2 B3 .nil pass0 rfl) (nomark _))))) (pss_one (ps_ret (pv 3))) pss_nil)
    (pss_one (ps_ret pe_non)))), ?_⟩
  have hx0' := hx0
  obtain ⟨dx, t, hx, hR⟩ := hx0
  have hz := hd.sz
  have b0 := hz.b0
  have b1 := hz.b1
  have p1 := hz.p1
  have hrows := rows_ok hd.ini hd.y
  have hbox := tak_box p (ini ++ [((p : Int), y)]) 0 (by omega) (by omega) hrows.1
  have hword := tak_word p y hd.y ini 0 hd.ini.1
  refine ⟨_, rfl, x, b, p, n, ini, y, rfl, hx0', hd, fun H1 q s1 hq => ?_⟩
  have hst : stkM b p n (ini ++ [((p : Int), y)]) = if (takM p 0 (ini ++ [((p : Int), y)])).2 ∈ fullW ∧ (stM b p (takM p 0 (ini ++ [((p : Int), y)])).1).sum < (n : Int) then some (stM b p (takM p 0 (ini ++ [((p : Int), y)])).1) else none := rfl
  generalize takM p 0 (ini ++ [((p : Int), y)]) = tk at *
  obtain ⟨fl, wd⟩ := tk
  dsimp only at hbox hword hst hq
  refine ⟨q, _, rfl, SqT.of hq, rfl, _, _, rfl, _, _, rfl, rfl, ?_⟩
  have hx1 := s1 _ _ hx
  dsimp only
  refine seq_asg (rep_cat (K := K) (fl := fl) (m := b - 2) (p := (p : Int)) (fun R r => ⟨_, rfl, r⟩) (fun H2 R s2 r => ⟨_, rfl, x, dx, _, rfl, s2 _ _ hx1, x, dx, _, _, rfl, s2 _ _ hx1, rfl, _, _, rfl, rfl, ?_⟩) (fun H2 R s2 r => ⟨_, rfl, x, dx, _, rfl, s2 _ _ hx1, x, dx, _, _, rfl, s2 _ _ hx1, rfl, r⟩) (by omega) (by omega) fun H5 u s5 hu => ?_)
  · have e : ((b - 2 : Nat) : Int) = (b : Int) - 2 := by omega
    rw [e] at r
    exact r
  have s6 := s1.trans s5
  have hx5 := s6 _ _ hx
  refine seq_if0 ?_
  refine ⟨_, rfl, by show 2 ≤ sizeLine; decide, fun v nv => ?_⟩
  have sv : Same H5 (upd H5 v (.tup (fullW.map V.str))) := same_lay nv
  obtain ⟨f1, f2⟩ := in_full wd hword
  refine ⟨v, _, rfl, .inr (SqT.of upd_same), f1, flatF, _, rfl, ?_⟩
  show (if inV (.str wd) (fullW.map V.str) = true then _ else _)
  rw [f2]
  refine ite2 (fun c => ?_) (fun c => ?_)
  · have c' := of_decide_eq_true c
    refine ⟨_, rfl, u, _, rfl, SqT.of (sv _ _ hu), _, rfl, x, dx, _, rfl, sv _ _ hx5, x, dx, _, _, rfl, sv _ _ hx5, rfl, _, _, rfl, rfl, _, rfl, ite2 (fun e => ?_) (fun e => ?_)⟩
    · exact ⟨_, rfl, k1 _ _ _ (by rw [hst, if_pos ⟨c', of_decide_eq_true e⟩]; rfl) (s6.trans sv) (sv _ _ hu)⟩
    · exact k0 (by rw [hst, if_neg fun z => e (decide_eq_true z.2)]) _ (s6.trans sv)
  · exact k0 (by rw [hst, if_neg fun z => c (decide_eq_true z.1)]) _ (s6.trans sv)
end
end K2.KQ

set_option Elab.async false
set_option linter.all false
set_option maxRecDepth 100000
set_option maxHeartbeats 4000000
namespace K2.KQ
open PySem PySem.Spec PyProof.Rows L2 G1 G2
abbrev sFil : Stmt := topS 80
theorem scFil : FnScope ["drive", "closed", "load", "place", "living", "page"] ["drive", "closed"] (defScope sFil) := ⟨rfl, rfl, rfl, by decide +kernel, rfl, by decide +kernel, by decide +kernel⟩
abbrev wWr : Str := Str.ofString "write"
abbrev wSc : Str := Str.ofString "s"
/-- a write of this name -/
def WrE (H : Hp) (a : Addr) (nm : Str) : Prop := H a = some (.tup [.str wWr, .str nm])
abbrev WrL (H : Hp) (rs : List Addr) (ns : List Str) : Prop := Paired (WrE H) rs ns
theorem WrL.same {H H' : Hp} {rs : List Addr} {ns : List Str} (h : WrL H rs ns) (s : Same H H') : WrL H' rs ns := Paired.mapP h fun _ _ z => s _ _ z
theorem pairedA {α β : Type} {F : α → β → Prop} : ∀ {l1 l2 : List α} {m1 m2 : List β}, Paired F l1 m1 → Paired F l2 m2 → Paired F (l1 ++ l2) (m1 ++ m2)
  | [], _, [], _, .nil, h => h
  | _ :: _, _, _ :: _, _, .cons r t, h => .cons r (pairedA t h)
theorem paired_rep {α β : Type} {F : α → β → Prop} {a : α} {x : β} (h : F a x) : ∀ m : Nat, Paired F (List.replicate m a) (List.replicate m x)
  | 0 => .nil
  | m + 1 => .cons h (paired_rep h m)
theorem WrL.app {H : Hp} {rs qs : List Addr} {ns ms : List Str} (h : WrL H rs ns) (g : WrL H qs ms) : WrL H (rs ++ qs) (ns ++ ms) := pairedA h g
/-- the list that grows is no event -/
theorem WrL.upd {H : Hp} {rs : List Addr} {ns : List Str} {l : Addr} {xs ys : List V} (h : WrL H rs ns) (hl : H l = some (.lst xs)) : WrL (L2.upd H l (.lst ys)) rs ns := Paired.mapP h fun a n e => by
  show (L2.upd H l (.lst ys)) a = _
  rw [upd_ne (ne_of e hl (by intro z; cases z))]
  exact e
/-- a name of a page -/
def nmS (i j : Nat) : Str := (((Str.empty ++ Str.ofString "n") ++ numS (i : Int)) ++ Str.ofString "x") ++ numS (j : Int)
/-- what fills one block -/
def blkM (p i : Nat) (li : Int) : List Str := List.replicate ((p : Int) - li).toNat wSc ++ (List.range li.toNat).map (nmS i)
/-- what fills all of them -/
def lodM (p : Nat) (st : List Int) (m : Nat) : List Str := (List.range m).flatMap fun i => blkM p i (st.getD i 0)
theorem lod_succ (p : Nat) (st : List Int) (m : Nat) : lodM p st (m + 1) = lodM p st m ++ blkM p m (st.getD m 0) := by
  unfold lodM
  rw [List.range_succ, List.flatMap_append]
  simp
theorem blk_len {p i : Nat} {li : Int} (h0 : 0 ≤ li) (h1 : li ≤ (p : Int)) : (blkM p i li).length = p := by
  unfold blkM
  rw [List.length_append, List.length_replicate, List.length_map, List.length_range]
  omega
theorem lod_len {p : Nat} {st : List Int} (h : ∀ i ∈ st, 0 ≤ i ∧ i ≤ (p : Int)) : ∀ m, m ≤ st.length → (lodM p st m).length = p * m
  | 0, _ => rfl
  | m + 1, hm => by
    have hx : st.getD m 0 ∈ st := by
      rw [List.getD_eq_getElem?_getD, List.getElem?_eq_getElem hm]
      exact List.getElem_mem hm
    obtain ⟨h0, h1⟩ := h _ hx
    rw [lod_succ, List.length_append, lod_len h m (by omega), blk_len h0 h1, Nat.mul_succ]
structure Gw (mg : Str → Option Value) : Prop where
  wr : ∃ t, mg "WRITE" = some (.str wWr t)
  sc : ∃ t, mg "SCRATCH" = some (.str wSc t)
def spFil (K : PySem.W.Frag) (C : Addr) : Sp := fun vs H Q _ => ∃ (x q : Addr) (b p n : Nat) (ini : List RowD) (y : Str) (st : List Int), vs = [.ref x, .ref q] ∧ DrvAt K C H x b p n ini y ∧ DP b p n ini y ∧ SqT K H q (st.map V.int) ∧ st.length ≤ 10 ∧ (∀ i ∈ st, 0 ≤ i ∧ i ≤ (p : Int)) ∧
  ∀ (H' : Hp) (t : Addr) (rs : List Addr), Same H H' → H' t = some (.tup (rs.map V.ref)) → WrL H' rs (lodM p st st.length) → Q (.ref t) H'
theorem rep_ref (m : Nat) (a : Addr) : (List.replicate m [V.ref a]).flatten = (List.replicate m a).map V.ref := by
  rw [flat1, List.map_replicate]
theorem name_read {t1 t2 : TE} {σ : L2.St} {H : Hp} {Q : Str → Hp → Prop} {i j : Nat} (hi : i < 26) (hj : j < 26) (h1 : ∀ R : VK, R (.int (i : Int)) H → t1 σ H R) (h2 : ∀ R : VK, R (.int (j : Int)) H → t2 σ H R)
    (k : Q (nmS i j) H) : tJs [tC (.str (Str.ofString "n")), tFmt t1, tC (.str (Str.ofString "x")), tFmt t2] Str.empty σ H Q := by
  have z1 := num_len i hi
  have z2 := num_len j hj
  have e1 : (Str.ofString "n").length = 1 := by decide +kernel
  have e2 : (Str.ofString "x").length = 1 := by decide +kernel
  have e5 : Str.empty.length = 0 := by decide +kernel
  refine js_c ?_ (js_i h1 (log_small i hi) ?_ (js_c ?_ (js_i h2 (log_small j hj) ?_ (js_0 k))))
  all_goals
    refine small_line ?_
    simp only [Str.length_append]
    omega
section
variable {P : Program} {w : World} {K : PySem.W.Frag} {mg : Str → Option Value} {base : Heap} {C : Addr}
theorem ok_fil {f : Addr} {fd : FuncData} (F : Fun K "fill_blocks" "fill_blocks" sFil f fd) (B : Bl mg) (M : DD P w K mg base C) (W : Gw mg) : FnOk P w K mg base CX0 3 f fd ["drive", "closed"] (spFil K C) := by
  refine F.ok scFil (fun vs H Q E h => ?_) (fun cdv A outer s H vs Q E hr h => ?_)
  · obtain ⟨x, q, b, p, n, ini, y, st, rfl, _⟩ := h
    rfl
  obtain ⟨x, q, b, p, n, ini, y, st, rfl, ⟨dx, t, hx, hR⟩, hd, hq, hlen, hst, k⟩ := h
  obtain ⟨tw, cw⟩ := W.wr
  obtain ⟨tc, cc⟩ := W.sc
  have hr2 : Room 2 _ := hr.mono (by decide)
  obtain ⟨pp, gp, fp, P2, F2, B2⟩ := M.pp.ex
  refine ⟨_, pss_cons (ps_set (i := 2) scFil.nd rfl (.inl rfl) (pe_lst pa_nil))
    (pss_cons (ps_for PassesOwn.never rfl (pi_enumT (by rfl) B.enm (pa_cons (pv 1) pa_nil)) (pg_tup rfl (pgs_cons (pg_name (i := 3) scFil.nd rfl (.inr rfl)) (pgs_cons (pg_name (i := 4) scFil.nd rfl (.inl rfl)) pgs_nil)))
      (pss_cons (ps_expr (pe_bm PySem.F.plainAttrs_list PySem.F.slot_list_extend PySem.F.type_list_extend mt_extend (pv 2) (pa_cons (pe_op op_rep (pe_lst (pa_cons (pe_tup (pa_cons (pe_glob (v := .str wWr) rfl cw ⟨_, rfl⟩) (pa_cons (pe_glob (v := .str wSc) rfl cc ⟨_, rfl⟩) pa_nil))) pa_nil))
          (pe_op op_sub (pe_prop (pv 0) M.T.cl P2 F2 hr2 B2 .nil pass0 rfl) (pv 4))) pa_nil)))
      (pss_one (ps_expr (pe_bm PySem.F.plainAttrs_list PySem.F.slot_list_extend PySem.F.type_list_extend mt_extend (pv 2) (pa_cons (pe_lc (own := [("page", 5)]) (g := gName 5) (tt := tYes)
          (te := tTup (tCons (tC (.str wWr)) (tCons (fun σ H Q => tJs [tC (.str (Str.ofString "n")), tFmt (tVar 3), tC (.str (Str.ofString "x")), tFmt (tVar 5)] Str.empty σ H fun out H1 => Q (.str out) H1) tNil))) rfl scFil.nd
          (pi_range1 (by rfl) B.range (pa_cons (pv 4) pa_nil))
          (blkOk_by (own := [("page", 5)]) (N := ["drive", "closed", "load", "place", "living", "page"]) (sc := defScope sFil) (by decide +kernel))
          (fun _ _ _ _ _ => pg_name (i := 5) scFil.nd rfl (Or.inl rfl)) (fun _ _ _ _ _ => pts_nil)
          (fun _ _ _ _ _ => pe_tup (pa_cons (pe_glob (v := .str wWr) rfl cw ⟨_, rfl⟩) (pa_cons (pe_joined (.cons pe_str (.cons (pe_fmt (pv 3)) (.cons pe_str (.cons (pe_fmt (pv 5)) .nil))))) pa_nil)))) pa_nil))))))
    (pss_one (ps_ret (pe_callTy call_tuple_of (by rfl) B.tup bTup (pa_cons (pv 2) pa_nil))))), ?_⟩
  have p1 := hd.sz.p1
  refine seq_asg (lst_read (nil_read ⟨by show 0 ≤ sizeLine; decide, fun l nl => ?_⟩))
  have s0 : Same H (upd H l (.lst [])) := same_lay nl
  refine seq_for fun D' hD1 hD2 => ?_
  refine ⟨_, rfl, q, _, rfl, K2.Same.tup s0 hq, ?_⟩
  refine for_enumT (K := K) (xs := st.map V.int) (fun i σ H' => ∃ (x3 x4 : Option V) (rs : List Addr), σ = [some (.ref x), some (.ref q), some (.ref l), x3, x4, none] ∧ Same H H' ∧ H' l = some (.lst (rs.map V.ref)) ∧ WrL H' rs (lodM p st i))
    ⟨none, none, [], rfl, s0, by rw [upd_same]; rfl, .nil⟩ (fun i σ H' z => ?_) ?_ ?_
  · obtain ⟨_, _, _, _, s1, _⟩ := z
    exact K2.Same.tup s1 hq
  · rintro i v T σ H' hi ⟨x3, x4, rs, rfl, s1, hl, hw⟩ hT
    obtain ⟨li, hli, rfl⟩ : ∃ li, st[i]? = some li ∧ V.int li = v := by
      rw [List.getElem?_map] at hi
      cases hq2 : st[i]? with
      | none => rw [hq2] at hi; cases hi
      | some a => rw [hq2] at hi; exact ⟨a, rfl, Option.some.inj hi⟩
    obtain ⟨l0, l1⟩ := hst li (List.mem_of_getElem? hli)
    have hi10 : i < st.length := (List.getElem?_eq_some_iff.mp hli).1
    have hn : rs.length = p * i := (Paired.length hw).trans (lod_len hst i (by omega))
    have egd : st.getD i 0 = li := by rw [List.getD_eq_getElem?_getD, hli]; rfl
    have sT : Same H' (upd H' T (.tup [.int (i : Nat), .int li])) := same_lay hT
    refine ⟨T, _, rfl, SqT.of upd_same, rfl, _, _, rfl, _, _, rfl, rfl, ?_⟩
    have s2 := s1.trans sT
    have hl2 := sT _ _ hl
    have hw2 := WrL.same hw sT
    generalize upd H' T (.tup [.int (i : Nat), .int li]) = H1 at s2 hl2 hw2 ⊢
    have hpi : p * i ≤ 5 * 10 := Nat.mul_le_mul p1 (by omega)
    refine ⟨_, rfl, .inl ⟨rfl, _, SqL.of hl2⟩, ?_⟩
    refine cons_read (op_read (lst_read (cons_read (tup_read (cons_read (c_read (cons_read (c_read (nil_read ⟨by show 2 ≤ sizeLine; decide, fun a na => nil_read ⟨by show 1 ≤ sizeLine; decide, fun c nc => ?_⟩⟩)))))))))
    have s3 : Same H1 (upd (upd H1 a (.tup [.str wWr, .str wSc])) c (.lst [.ref a])) := (same_lay na).trans (same_lay nc)
    have ha3 : (upd (upd H1 a (.tup [.str wWr, .str wSc])) c (.lst [.ref a])) a = some (.tup [.str wWr, .str wSc]) := same_lay nc _ _ upd_same
    have hc3 : (upd (upd H1 a (.tup [.str wWr, .str wSc])) c (.lst [.ref a])) c = some (.lst [.ref a]) := upd_same
    generalize upd (upd H1 a (.tup [.str wWr, .str wSc])) c (.lst [.ref a]) = H3 at s3 ha3 hc3 ⊢
    have hx3 := s3 _ _ (s2 _ _ hx)
    refine ⟨_, rfl, x, dx, _, rfl, hx3, x, dx, _, _, rfl, hx3, rfl, _, rfl, _, _, rfl, rfl, c, (p : Int) - li, _, rfl, rfl, hc3, by omega, by omega, ?_, fun d nd => nil_read ?_⟩
    · rw [sizeLine_eq]
      show 1 * ((p : Int) - li).toNat ≤ _
      omega
    have s4 : Same H3 (upd H3 d (.lst (List.replicate ((p : Int) - li).toNat [V.ref a]).flatten)) := same_lay nd
    have hd4 : (upd H3 d (.lst (List.replicate ((p : Int) - li).toNat [V.ref a]).flatten)) d = some (.lst ((List.replicate ((p : Int) - li).toNat a).map V.ref)) := by rw [upd_same, rep_ref]
    generalize upd H3 d (.lst (List.replicate ((p : Int) - li).toNat [V.ref a]).flatten) = H4 at s4 hd4 ⊢
    have s24 := s3.trans s4
    have hl4 := s24 _ _ hl2
    have hw4 := WrL.same hw2 s24
    have hwa : WrL H4 (List.replicate ((p : Int) - li).toNat a) (List.replicate ((p : Int) - li).toNat wSc) := paired_rep (F := WrE H4) (s4 _ _ ha3) _
    refine ⟨l, d, _, _, rfl, rfl, hl4, hd4, ?_, ?_⟩
    · rw [List.length_map, List.length_map, List.length_replicate, sizeLine_eq]
      omega
    have hl5 : (upd H4 l (.lst (rs.map V.ref ++ (List.replicate ((p : Int) - li).toNat a).map V.ref))) l = some (.lst ((rs ++ List.replicate ((p : Int) - li).toNat a).map V.ref)) := by rw [upd_same, List.map_append]
    have hw5 : WrL (L2.upd H4 l (.lst (rs.map V.ref ++ (List.replicate ((p : Int) - li).toNat a).map V.ref))) (rs ++ List.replicate ((p : Int) - li).toNat a) (lodM p st i ++ List.replicate ((p : Int) - li).toNat wSc) := WrL.upd (WrL.app hw4 hwa) hl4
    have s5 : Same H (upd H4 l (.lst (rs.map V.ref ++ (List.replicate ((p : Int) - li).toNat a).map V.ref))) := fun z o e => by
      rw [upd_ne (ne_of_none e nl)]
      exact s24 _ _ (s2 _ _ e)
    have hn5 : (rs ++ List.replicate ((p : Int) - li).toNat a).length = p * i + ((p : Int) - li).toNat := by rw [List.length_append, List.length_replicate, hn]
    generalize rs ++ List.replicate ((p : Int) - li).toNat a = rs5 at hl5 hw5 hn5
    generalize upd H4 l (.lst (rs.map V.ref ++ (List.replicate ((p : Int) - li).toNat a).map V.ref)) = H5 at hl5 hw5 s5 ⊢
    dsimp only
    refine ⟨_, rfl, .inl ⟨rfl, _, SqL.of hl5⟩, ?_⟩
    refine cons_read ?_
    refine ⟨_, rfl, li, rfl, by omega, by omega, fun D hD => ?_⟩
    refine lc_range (lo := 0) (n := li.toNat) (fun j H' => ∃ qs : List Addr, Same H5 H' ∧ H' D = some (.lst (qs.map V.ref)) ∧ WrL H' qs ((List.range j).map (nmS i))) ⟨[], same_lay hD, upd_same, .nil⟩ ?_ ?_
    · rintro j H6 hj ⟨qs, s6, h6, hw6⟩
      have hn6 : qs.length = j := (Paired.length hw6).trans (by rw [List.length_map, List.length_range])
      refine ⟨rfl, ?_⟩
      unfold tYes
      dsimp only
      rw [if_pos rfl]
      refine tup_read (cons_read (c_read (cons_read ?_)))
      refine name_read (i := i) (j := j) (by omega) (by omega) (fun R r => ⟨_, rfl, r⟩) (fun R r => ⟨_, rfl, by rw [Int.zero_add]; exact r⟩) ?_
      refine nil_read ⟨by show 2 ≤ sizeLine; decide, fun e ne => ?_⟩
      have s7 : Same H6 (upd H6 e (.tup [.str wWr, .str (nmS i j)])) := same_lay ne
      have nD : e ≠ D := fun z => by rw [z, h6] at ne; cases ne
      refine ⟨qs.map V.ref, s7 _ _ h6, by rw [List.length_map, sizeLine_eq]; omega, qs ++ [e], ?_, ?_, ?_⟩
      · intro z o hz
        rw [upd_ne (ne_of_none hz hD)]
        exact s7 _ _ (s6 _ _ hz)
      · rw [upd_same, List.map_append]; rfl
      · rw [List.range_succ, List.map_append]
        refine WrL.app (WrL.upd (WrL.same hw6 s7) (s7 _ _ h6)) (.cons ?_ .nil)
        show (L2.upd (L2.upd H6 e (.tup [.str wWr, .str (nmS i j)])) D _) e = _
        rw [upd_ne nD, upd_same]
    · rintro H6 ⟨qs, s6, h6, hw6⟩
      have hn6 : qs.length = li.toNat := (Paired.length hw6).trans (by rw [List.length_map, List.length_range])
      refine nil_read ⟨l, D, _, _, rfl, rfl, s6 _ _ hl5, h6, ?_, ?_⟩
      · rw [List.length_map, List.length_map, sizeLine_eq]
        omega
      refine ⟨_, _, rs5 ++ qs, rfl, ?_, ?_, ?_⟩
      · intro z o hz
        rw [upd_ne (ne_of_none hz nl)]
        exact s6 _ _ (s5 _ _ hz)
      · rw [upd_same, List.map_append]
      · rw [lod_succ, egd]
        unfold blkM
        rw [← List.append_assoc]
        exact WrL.upd (WrL.app (WrL.same hw5 s6) hw6) (s6 _ _ hl5)
  · rintro σ H' ⟨x3, x4, rs, rfl, s1, hl, hw⟩
    rw [hD1]
    refine ⟨_, rfl, l, _, rfl, .inl ⟨SqL.of hl, fun u nu => ?_⟩⟩
    rw [List.length_map] at hw
    exact k _ u rs (s1.trans (same_lay nu)) upd_same (WrL.same hw (same_lay nu))
end
end K2.KQ

set_option Elab.async false
set_option linter.all false
set_option maxRecDepth 100000
set_option maxHeartbeats 4000000
namespace K2.KQ
open PySem PySem.Spec PyProof.Rows L2 G1 G2
abbrev sCkd : Stmt := topS 47
abbrev sCkt : Stmt := topS 48
abbrev sStl : Stmt := topS 79
theorem scCkd : FnScope ["drive"] ["drive"] (defScope sCkd) := ⟨rfl, rfl, rfl, by decide +kernel, rfl, by decide +kernel, by decide +kernel⟩
theorem scCkt : FnScope ["trims"] ["trims"] (defScope sCkt) := ⟨rfl, rfl, rfl, by decide +kernel, rfl, by decide +kernel, by decide +kernel⟩
theorem scStl : FnScope ["drive", "trims", "stuck"] ["drive", "trims"] (defScope sStl) := ⟨rfl, rfl, rfl, by decide +kernel, rfl, by decide +kernel, by decide +kernel⟩
def spCkd (K : PySem.W.Frag) (C : Addr) : Sp := fun vs H Q _ => ∃ (x : Addr) (b p n : Nat) (ini : List RowD) (y : Str), vs = [.ref x] ∧ DrvAt K C H x b p n ini y ∧ Q .non H
def spCkt : Sp := fun vs H Q _ => ∃ t : Bool, vs = [.bl t] ∧ Q .non H
def spStl (K : PySem.W.Frag) (C : Addr) : Sp := fun vs H Q _ => ∃ (x : Addr) (tr : Bool) (b p n : Nat) (ini : List RowD) (y : Str), vs = [.ref x, .bl tr] ∧ DrvAt K C H x b p n ini y ∧ DP b p n ini y ∧
  (stkM b p n (ini ++ [((p : Int), y)]) = none → ∀ H' : Hp, Same H H' → Q .non H') ∧
  ∀ (st : List Int) (H' : Hp) (q t : Addr) (rs : List Addr), stkM b p n (ini ++ [((p : Int), y)]) = some st → Same H H' → H' q = some (.tup [.ref t, .str wSc]) → H' t = some (.tup (rs.map V.ref)) → WrL H' rs (lodM p st (b - 1)) → Q (.ref q) H'
theorem stk_box {b p n : Nat} {ini : List RowD} {y : Str} {st : List Int} (d : DP b p n ini y) (h : stkM b p n (ini ++ [((p : Int), y)]) = some st) : st.length = b - 1 ∧ ∀ i ∈ st, 0 ≤ i ∧ i ≤ (p : Int) := by
  have hbox := tak_box p (ini ++ [((p : Int), y)]) 0 (by omega) (by omega) (rows_ok d.ini d.y).1
  have b0 := d.sz.b0
  unfold stkM at h
  split at h
  · injection h with h
    rw [← h]
    unfold stM
    refine ⟨?_, fun i hi => ?_⟩
    · rw [List.length_append, List.length_replicate]
      show b - 2 + 1 = b - 1
      omega
    · rcases List.mem_append.mp hi with hi | hi
      · rw [(List.mem_replicate.mp hi).2]
        exact hbox
      · rw [List.mem_singleton.mp hi]
        omega
  · cases h
section
variable {P : Program} {w : World} {K : PySem.W.Frag} {mg : Str → Option Value} {base : Heap} {C : Addr}
theorem ok_ckd {f : Addr} {fd : FuncData} (F : Fun K "check_drive" "check_drive" sCkd f fd) (B : Bl mg) (M : DD P w K mg base C) : FnOk P w K mg base CX0 1 f fd ["drive"] (spCkd K C) := by
  refine F.ok scCkd (fun vs H Q E h => ?_) (fun cdv A outer s H vs Q E hr h => ?_)
  · obtain ⟨x, b, p, n, ini, y, rfl, _⟩ := h
    rfl
  obtain ⟨x, b, p, n, ini, y, rfl, ⟨dx, t, hx, hR⟩, k⟩ := h
  have D := M.D
  have T := M.T
  refine ⟨_, pss_one (ps_if (pt_not (pt_val (pe_callB call_isi (by rfl) B.isi bIsi (pa_cons (pv 0) (pa_cons (pe_glob (v := .ref C) rfl M.gD rfl) pa_nil))))) (pss_one ps_never) pss_nil), ?_⟩
  exact ⟨_, rfl, _, _, _, _, true, rfl, .own C, .base (.ins hx T.cl D.ha D.hn D.htk D.hm), D.own, true, rfl, iteF k⟩
theorem ok_ckt {f : Addr} {fd : FuncData} (F : Fun K "check_trims" "check_trims" sCkt f fd) : FnOk P w K mg base CX0 1 f fd ["trims"] spCkt := by
  refine F.ok scCkt (fun vs H Q E h => ?_) (fun cdv A outer s H vs Q E hr h => ?_)
  · obtain ⟨t, rfl, _⟩ := h
    rfl
  obtain ⟨t, rfl, k⟩ := h
  refine ⟨_, pss_one (ps_if (PW.pt (pw_and (pt_cmpR op_isnot_bl (pv 0) pe_bl (nomark _)) (pw_and1 (pt_cmpR op_isnot_bl (pv 0) pe_bl (nomark _))))) (pss_one ps_never) pss_nil), ?_⟩
  cases t with
  | true => exact ⟨_, rfl, _, _, rfl, rfl, _, rfl, iteF (iteF k)⟩
  | false => exact ⟨_, rfl, _, _, rfl, rfl, _, rfl, iteT ⟨_, rfl, _, _, rfl, rfl, _, rfl, iteF k⟩⟩
abbrev kwT : List (Str × V) := [("trims", .bl true)]
theorem ok_stl {f : Addr} {fd : FuncData} (F : FunD K "stick_load" "stick_load" (defArgs sStl) (defBody sStl) (defScope sStl) [] kwT f fd) (W : Gw mg) (GD : FAt P w K mg base 1 "check_drive" ["drive"] (spCkd K C)) (GT : FAt P w K mg base 1 "check_trims" ["trims"] spCkt) (GS : FAt P w K mg base 4 "find_stuck" ["drive"] (spStk K C))
    (GF : FAt P w K mg base 3 "fill_blocks" ["drive", "closed"] (spFil K C)) : FnOk P w K mg base CX0 5 f fd ["drive", "trims"] (spStl K C) := by
  refine F.ok (CX := CX0) scStl (fun vs H Q E h => ?_) (fun cdv A outer s H vs Q E hr h => ?_)
  · obtain ⟨x, tr, b, p, n, ini, y, rfl, _⟩ := h
    rfl
  obtain ⟨x, tr, b, p, n, ini, y, rfl, hx, hd, k0, k1⟩ := h
  have hr1 : Room 1 _ := hr.mono (by decide)
  have hr3 : Room 3 _ := hr.mono (by decide)
  obtain ⟨tc, cc⟩ := W.sc
  obtain ⟨fD, dD, GD, kD, bD, gD⟩ := GD.ex
  obtain ⟨fT, dT, GT, kT, bT, gT⟩ := GT.ex
  obtain ⟨fS, dS, GS, kS, bS, gS⟩ := GS.ex
  obtain ⟨fF, dF, GF, kF, bF, gF⟩ := GF.ex
  refine ⟨_, pss_cons (ps_expr (pe_call GD hr1 (by rfl) gD kD bD .nil pass0 (pa_cons (pv 0) pa_nil))) (pss_cons (ps_expr (pe_call GT hr1 (by rfl) gT kT bT .nil pass0 (pa_cons (pv 1) pa_nil)))
    (pss_cons (ps_set (i := 2) scStl.nd rfl (.inl rfl) (pe_call GS hr (by rfl) gS kS bS .nil pass0 (pa_cons (pv 0) pa_nil)))
    (pss_one (ps_ret (pe_ifExp (pt_cmpR op_isN (pv 2) pe_non (nomark _)) pe_non (pe_tup (pa_cons (pe_call GF hr3 (by rfl) gF kF bF .nil pass0 (pa_cons (pv 0) (pa_cons (pv 2) pa_nil))) (pa_cons (pe_glob (v := .str wSc) rfl cc ⟨_, rfl⟩) pa_nil)))))))), ?_⟩
  refine ⟨_, rfl, x, b, p, n, ini, y, rfl, hx, ?_⟩
  refine ⟨_, rfl, tr, rfl, ?_⟩
  refine ⟨_, rfl, x, b, p, n, ini, y, rfl, hx, hd, fun e H1 s1 => ?_, fun st H1 q e s1 hq => ?_⟩
  · exact ⟨_, rfl, rfl, _, rfl, iteT (k0 e H1 s1)⟩
  · obtain ⟨h1, h2⟩ := stk_box hd e
    have b1 := hd.sz.b1
    refine ⟨_, rfl, rfl, _, rfl, iteF ?_⟩
    refine ⟨_, rfl, _, rfl, x, q, b, p, n, ini, y, st, rfl, hx.same s1, hd, SqT.of hq, by omega, h2, fun H2 t rs s2 ht hw => ⟨by show 2 ≤ sizeLine; decide, fun u nu => ?_⟩⟩
    have s3 : Same H2 (upd H2 u (.tup [.ref t, .str wSc])) := same_lay nu
    rw [h1] at hw
    exact k1 st _ u t rs e (s1.trans (s2.trans s3)) upd_same (s3 _ _ ht) (WrL.same hw s3)
/-- f(x), f(x, trims = v) -/
theorem b_kw {x : Str} {st : Stmt} {f : Addr} {fd : FuncData} (F : FunD K x x (defArgs st) (defBody st) (defScope st) [] kwT f fd)
    (h : ∀ (D : Addr) (doc pm : Value) (an : Option Addr) (cdv ct : Value) (us ks : List Value), us.length = 1 → ks.length = 1 → KwChain D ((kwT.map (·.1)).zip ks) (bindArgs (PySem.W.fnOf x x (defArgs st) (defBody st) (defScope st) .none (.ref D) doc pm an cdv ct) ⟨us, []⟩) ((["drive", "trims"] : List Str).zip (us ++ ks))) :
    ∃ ds, Vals [V.bl true] ds ∧ Binds K fd ["drive", "trims"] ds := F.binds0 (ps := ["drive", "trims"]) 1 (by simp) rfl h
theorem b_stl {f : Addr} {fd : FuncData} (F : FunD K "stick_load" "stick_load" (defArgs sStl) (defBody sStl) (defScope sStl) [] kwT f fd) : ∃ ds, Vals [V.bl true] ds ∧ Binds K fd ["drive", "trims"] ds := b_kw F fun D doc pm an cdv ct us ks l1 l2 => by
  match us, l1, ks, l2 with
  | [a], _, [z], _ => exact ⟨_, _, _, _, _, _, rfl, rfl, rfl⟩
abbrev gApp {α : Type} (us ws : List α) : List α := us ++ ws
theorem k_stl {f : Addr} {fd : FuncData} (F : FunD K "stick_load" "stick_load" (defArgs sStl) (defBody sStl) (defScope sStl) [] kwT f fd) : KBn K fd ["drive", "trims"] 1 ["trims"] gApp gApp := by
  obtain ⟨oc, od, dV, kV, doc, pm, an, cdv, ct, osl, rfl, lk, hcd, hD, hK⟩ := F.ex
  rcases hD with ⟨_, rfl⟩ | ⟨e, _⟩
  · refine ⟨fun s us ws X l1 l2 => BindsTo.of_eq ?_, fun r1 r2 => r1.append r2⟩
    match us, l1, ws, l2 with
    | [a], _, [b], _ => rfl
  · exact absurd rfl e
end
end K2.KQ

set_option Elab.async false
set_option linter.all false
set_option maxRecDepth 100000
set_option maxHeartbeats 4000000
/-! sticks -/
namespace K2.KQ
open PySem PySem.Spec PyProof.Rows L2 G1 G2
abbrev sSti : Stmt := topS 78
theorem scSti : FnScope ["drive", "trims"] ["drive", "trims"] (defScope sSti) := ⟨rfl, rfl, rfl, by decide +kernel, rfl, by decide +kernel, by decide +kernel⟩
def spSti (K : PySem.W.Frag) (C : Addr) : Sp := fun vs H Q _ => ∃ (x : Addr) (tr : Bool) (b p n : Nat) (ini : List RowD) (y : Str), vs = [.ref x, .bl tr] ∧ DrvAt K C H x b p n ini y ∧ DP b p n ini y ∧
  ∀ H' : Hp, Same H H' → Q (.bl (stkM b p n (ini ++ [((p : Int), y)])).isSome) H'
section
variable {P : Program} {w : World} {K : PySem.W.Frag} {mg : Str → Option Value} {base : Heap} {C : Addr}
theorem ok_sti {f : Addr} {fd : FuncData} (F : FunD K "sticks" "sticks" (defArgs sSti) (defBody sSti) (defScope sSti) [] kwT f fd) (GD : FAt P w K mg base 1 "check_drive" ["drive"] (spCkd K C)) (GT : FAt P w K mg base 1 "check_trims" ["trims"] spCkt) (GS : FAt P w K mg base 4 "find_stuck" ["drive"] (spStk K C)) :
    FnOk P w K mg base CX0 5 f fd ["drive", "trims"] (spSti K C) := by
  refine F.ok (CX := CX0) scSti (fun vs H Q E h => ?_) (fun cdv A outer s H vs Q E hr h => ?_)
  · obtain ⟨x, tr, b, p, n, ini, y, rfl, _⟩ := h
    rfl
  obtain ⟨x, tr, b, p, n, ini, y, rfl, hx, hd, k⟩ := h
  have hr1 : Room 1 _ := hr.mono (by decide)
  obtain ⟨fD, dD, GD, kD, bD, gD⟩ := GD.ex
  obtain ⟨fT, dT, GT, kT, bT, gT⟩ := GT.ex
  obtain ⟨fS, dS, GS, kS, bS, gS⟩ := GS.ex
  refine ⟨_, pss_cons (ps_expr (pe_call GD hr1 (by rfl) gD kD bD .nil pass0 (pa_cons (pv 0) pa_nil))) (pss_cons (ps_expr (pe_call GT hr1 (by rfl) gT kT bT .nil pass0 (pa_cons (pv 1) pa_nil)))
    (pss_one (ps_ret (pe_cmpR op_notN (pe_call GS hr (by rfl) gS kS bS .nil pass0 (pa_cons (pv 0) pa_nil)) pe_non (nomark _))))), ?_⟩
  refine ⟨_, rfl, x, b, p, n, ini, y, rfl, hx, ?_⟩
  refine ⟨_, rfl, tr, rfl, ?_⟩
  refine ⟨_, rfl, x, b, p, n, ini, y, rfl, hx, hd, fun e H1 s1 => ⟨rfl, ?_⟩, fun st H1 q e s1 hq => ⟨rfl, ?_⟩⟩
  · have z := k H1 s1
    rw [e] at z
    exact z
  · have z := k H1 s1
    rw [e] at z
    exact z
theorem b_sti {f : Addr} {fd : FuncData} (F : FunD K "sticks" "sticks" (defArgs sSti) (defBody sSti) (defScope sSti) [] kwT f fd) : ∃ ds, Vals [V.bl true] ds ∧ Binds K fd ["drive", "trims"] ds := b_kw F fun D doc pm an cdv ct us ks l1 l2 => by
  match us, l1, ks, l2 with
  | [a], _, [z], _ => exact ⟨_, _, _, _, _, _, rfl, rfl, rfl⟩
theorem k_sti {f : Addr} {fd : FuncData} (F : FunD K "sticks" "sticks" (defArgs sSti) (defBody sSti) (defScope sSti) [] kwT f fd) : KBn K fd ["drive", "trims"] 1 ["trims"] gApp gApp := by
  obtain ⟨oc, od, dV, kV, doc, pm, an, cdv, ct, osl, rfl, lk, hcd, hD, hK⟩ := F.ex
  rcases hD with ⟨_, rfl⟩ | ⟨e, _⟩
  · refine ⟨fun s us ws X l1 l2 => BindsTo.of_eq ?_, fun r1 r2 => r1.append r2⟩
    match us, l1, ws, l2 with
    | [a], _, [b], _ => rfl
  · exact absurd rfl e
end
end K2.KQ

set_option Elab.async false
set_option linter.all false
set_option maxRecDepth 100000
set_option maxHeartbeats 4000000
namespace K2.KQ
open PySem PySem.Spec PyProof.Rows L2 G1 G2
/-! ### the rule's pick -/
def someM (bd : Int) (ls : List Int) : List Nat := (List.range ls.length).filter fun k => decide (ls.getD k 0 ≤ bd)
def TakeS (t : Str) (s : List Nat) (ls : List Int) (k : Nat) : Prop :=
  k ∈ s ∧ (t = "oldest" → ∀ j ∈ s, k ≤ j) ∧ (t = "youngest" → ∀ j ∈ s, j ≤ k) ∧ (t = "least" → ∀ j ∈ s, ls.getD k 0 ≤ ls.getD j 0) ∧ (t = "most" → ∀ j ∈ s, ls.getD j 0 ≤ ls.getD k 0)
def RuleR : List RowD → List Int → Nat → Prop
  | [], _, k => k = 0
  | (bd, t) :: rs, ls, k => if someM bd ls = [] then RuleR rs ls k else TakeS t (someM bd ls) ls k
def TakeA (t : Str) (ls : List Int) (k : Nat) : Prop :=
  (t = "oldest" → k = 0) ∧ (t = "youngest" → k = ls.length - 1) ∧ (t = "least" → ∀ x ∈ ls, ls.getD k 0 ≤ x) ∧ (t = "most" → ∀ x ∈ ls, x ≤ ls.getD k 0)
theorem mem_some {bd : Int} {ls : List Int} {k : Nat} : k ∈ someM bd ls ↔ k < ls.length ∧ ls.getD k 0 ≤ bd := by
  unfold someM
  rw [List.mem_filter, List.mem_range]
  simp
theorem getD_mem {ls : List Int} {k : Nat} (h : k < ls.length) : ls.getD k 0 ∈ ls := by
  rw [List.getD_eq_getElem?_getD, List.getElem?_eq_getElem h]
  exact List.getElem_mem h
theorem mem_getD {ls : List Int} {x : Int} (h : x ∈ ls) : ∃ k, k < ls.length ∧ ls.getD k 0 = x := by
  obtain ⟨k, hk, e⟩ := List.getElem_of_mem h
  exact ⟨k, hk, by rw [List.getD_eq_getElem?_getD, List.getElem?_eq_getElem hk]; exact e⟩
theorem some_nil {bd : Int} {ls : List Int} (h : someM bd ls = []) : ∀ x ∈ ls, bd + 1 ≤ x := by
  intro x hx
  obtain ⟨k, hk, e⟩ := mem_getD hx
  by_cases c : x ≤ bd
  · have : k ∈ someM bd ls := mem_some.mpr ⟨hk, by rw [e]; exact c⟩
    rw [h] at this
    exact nomatch this
  · omega
theorem tak_ge (p : Nat) : ∀ (rows : List RowD) (f : Int), f ≤ (takM p f rows).1
  | [], f => by unfold takM; exact Int.le_refl _
  | (l, x) :: rs, f => by
    rw [tak_cons]
    split
    · exact Int.le_refl _
    · have := tak_ge p rs (maxI f (l + 1))
      have h : f ≤ maxI f (l + 1) := by unfold maxI; split <;> omega
      omega
theorem rule_split {p : Nat} {ls : List Int} {k : Nat} (hp : ∀ x ∈ ls, x ≤ (p : Int)) (hne : ls ≠ []) : ∀ (rows : List RowD) (f : Int), (∀ r ∈ rows, r.1 ≤ (p : Int)) → (∃ r ∈ rows, r.1 = (p : Int)) → RuleR rows ls k → (∀ x ∈ ls, f ≤ x) →
    k < ls.length ∧ ((ls.getD k 0 < (p : Int) ∧ ¬ ∀ x ∈ ls, (takM p f rows).1 ≤ x) ∨ ((∀ x ∈ ls, (takM p f rows).1 ≤ x) ∧ TakeA (takM p f rows).2 ls k))
  | [], f, _, hex, _, _ => by obtain ⟨r, hr, _⟩ := hex; exact nomatch hr
  | (l, x) :: rs, f, hl, hex, hR, hf => by
    have l1 := hl _ (List.mem_cons_self ..)
    dsimp only at l1
    rw [tak_cons]
    unfold RuleR at hR
    by_cases hlp : l = (p : Int)
    · rw [if_pos hlp]
      have hs : ∀ j, j ∈ someM l ls ↔ j < ls.length := fun j => by
        rw [mem_some]
        exact ⟨fun z => z.1, fun z => ⟨z, by rw [hlp]; exact hp _ (getD_mem z)⟩⟩
      have hlen : 0 < ls.length := by
        cases ls with
        | nil => exact absurd rfl hne
        | cons a l => simp
      have hn : someM l ls ≠ [] := fun z => by
        have := (hs 0).mpr hlen
        rw [z] at this
        exact nomatch this
      rw [if_neg hn] at hR
      obtain ⟨t0, t1, t2, t3, t4⟩ := hR
      have hk := (hs k).mp t0
      refine ⟨hk, .inr ⟨hf, fun e => ?_, fun e => ?_, fun e y hy => ?_, fun e y hy => ?_⟩⟩
      · have := t1 e 0 ((hs 0).mpr hlen)
        omega
      · have := t2 e (ls.length - 1) ((hs _).mpr (by omega))
        omega
      · obtain ⟨j, hj, ej⟩ := mem_getD hy
        rw [← ej]
        exact t3 e j ((hs j).mpr hj)
      · obtain ⟨j, hj, ej⟩ := mem_getD hy
        rw [← ej]
        exact t4 e j ((hs j).mpr hj)
    · rw [if_neg hlp]
      have hlt : l < (p : Int) := by omega
      by_cases hs : someM l ls = []
      · rw [if_pos hs] at hR
        refine rule_split hp hne rs (maxI f (l + 1)) (fun r hr => hl r (List.mem_cons_of_mem _ hr)) ?_ hR ?_
        · obtain ⟨r, hr, e⟩ := hex
          rcases List.mem_cons.mp hr with rfl | hr
          · exact absurd e hlp
          · exact ⟨r, hr, e⟩
        · intro y hy
          have a1 := hf y hy
          have a2 := some_nil hs y hy
          unfold maxI
          split <;> omega
      · rw [if_neg hs] at hR
        obtain ⟨hk, hkl⟩ := mem_some.mp hR.1
        refine ⟨hk, .inl ⟨by omega, fun z => ?_⟩⟩
        have a1 := z _ (getD_mem hk)
        have a2 := tak_ge p rs (maxI f (l + 1))
        have a3 : l + 1 ≤ maxI f (l + 1) := by unfold maxI; split <;> omega
        omega
/-! ### cleaning that never ends -/
def StuckC (fl : Int) (wd : Str) (p : Nat) (c : List Int) : Prop := (∀ x ∈ c, fl ≤ x) ∧ ((wd = "youngest" ∧ c.getD (c.length - 1) 0 = (p : Int)) ∨ (wd = "most" ∧ (p : Int) ∈ c))
def rotM (c : List Int) (k : Nat) : List Int := c.eraseIdx k ++ [c.getD k 0]
theorem erase_perm : ∀ (c : List Int) (k : Nat), k < c.length → (c.getD k 0 :: c.eraseIdx k).Perm c
  | [], _, h => by simp at h
  | x :: c, 0, _ => by simp
  | x :: c, k + 1, h => by
    have ih := erase_perm c k (by simpa using h)
    have e : (x :: c).getD (k + 1) 0 = c.getD k 0 := by simp [List.getD_eq_getElem?_getD]
    rw [e, List.eraseIdx_cons_succ]
    exact (List.Perm.swap _ _ _).trans (ih.cons x)
theorem perm_sum {l m : List Int} (h : l.Perm m) : l.sum = m.sum := by
  induction h with
  | nil => rfl
  | cons x _ ih => rw [List.sum_cons, List.sum_cons, ih]
  | swap x y l => rw [List.sum_cons, List.sum_cons, List.sum_cons, List.sum_cons]; omega
  | trans _ _ a b => exact a.trans b
theorem rot_perm {c : List Int} {k : Nat} (h : k < c.length) : (rotM c k).Perm c := by
  unfold rotM
  refine List.perm_append_comm.trans ?_
  exact erase_perm c k h
def leadM (p : Int) : List Int → Nat
  | [] => 0
  | x :: l => if x = p then leadM p l + 1 else 0
theorem lead_app (p : Int) : ∀ (l : List Int), (∃ x ∈ l, x ≠ p) → leadM p (l ++ [p]) = leadM p l
  | [], h => by obtain ⟨x, hx, _⟩ := h; exact nomatch hx
  | y :: l, h => by
    rw [List.cons_append]
    unfold leadM
    by_cases e : y = p
    · rw [if_pos e, if_pos e, lead_app p l]
      obtain ⟨x, hx, ne⟩ := h
      rcases List.mem_cons.mp hx with rfl | hx
      · exact absurd e ne
      · exact ⟨x, hx, ne⟩
    · rw [if_neg e, if_neg e]
theorem least_sum {fl p : Int} : ∀ (c : List Int), (∀ x ∈ c, fl ≤ x) → p ∈ c → fl * ((c.length : Int) - 1) + p ≤ c.sum
  | [], _, h => nomatch h
  | x :: c, h, hp => by
    have hall : ∀ (l : List Int), (∀ x ∈ l, fl ≤ x) → fl * (l.length : Int) ≤ l.sum := by
      intro l
      induction l with
      | nil => intro _; simp
      | cons a l ih =>
        intro hl
        have h1 := hl a (List.mem_cons_self ..)
        have h2 := ih fun x hx => hl x (List.mem_cons_of_mem _ hx)
        rw [List.sum_cons, List.length_cons, Int.natCast_add, Int.mul_add]
        have : fl * ((1 : Nat) : Int) = fl := by simp
        omega
    rw [List.sum_cons, List.length_cons, Int.natCast_add]
    have e : ((c.length : Int) + ((1 : Nat) : Int) - 1) = (c.length : Int) := by omega
    rw [e]
    rcases List.mem_cons.mp hp with rfl | hp
    · have := hall c fun x hx => h x (List.mem_cons_of_mem _ hx)
      omega
    · have h1 := least_sum c (fun x hx => h x (List.mem_cons_of_mem _ hx)) hp
      have h2 := h x (List.mem_cons_self ..)
      have h3 : fl * (c.length : Int) = fl * ((c.length : Int) - 1) + fl := by rw [Int.mul_sub]; simp
      omega
theorem some_less {p : Int} : ∀ (c : List Int), (∀ x ∈ c, x ≤ p) → c.sum < p * (c.length : Int) → ∃ x ∈ c, x ≠ p
  | [], _, h => by simp at h
  | x :: c, hp, h => by
    by_cases e : x = p
    · rw [List.sum_cons, List.length_cons, Int.natCast_add, Int.mul_add] at h
      have : p * ((1 : Nat) : Int) = p := by simp
      obtain ⟨y, hy, ne⟩ := some_less c (fun x hx => hp x (List.mem_cons_of_mem _ hx)) (by omega)
      exact ⟨y, List.mem_cons_of_mem _ hy, ne⟩
    · exact ⟨x, List.mem_cons_self .., e⟩
/-- what stands when cleaning is due -/
structure Due (b p n : Nat) (c : List Int) : Prop where
  len : c.length = b - 1
  box : ∀ x ∈ c, 0 ≤ x ∧ x ≤ (p : Int)
  sum : c.sum < (n : Int)
structure Rls (p : Nat) (rows : List RowD) : Prop where
  ok : ∀ r ∈ rows, RowOk p r
  ex : ∃ r ∈ rows, r.1 = (p : Int)
  wd : (takM p 0 rows).2 ∈ wordsL
section
variable {b p n : Nat} {rows : List RowD} {c : List Int} {k : Nat}
theorem Due.rot (h : Due b p n c) (hk : k < c.length) : Due b p n (rotM c k) := by
  have hp := rot_perm hk
  refine ⟨hp.length_eq.trans h.len, fun x hx => h.box x (hp.mem_iff.mp hx), ?_⟩
  rw [perm_sum hp]
  exact h.sum
theorem due_split (hb : 3 ≤ b) (h : Due b p n c) (R : Rls p rows) (hR : RuleR rows c k) :
    k < c.length ∧ ((c.getD k 0 < (p : Int) ∧ ¬ ∀ x ∈ c, (takM p 0 rows).1 ≤ x) ∨ ((∀ x ∈ c, (takM p 0 rows).1 ≤ x) ∧ TakeA (takM p 0 rows).2 c k)) := by
  refine rule_split (fun x hx => (h.box x hx).2) (fun z => ?_) rows 0 (fun r hr => (R.ok r hr).2.1) R.ex hR fun x hx => (h.box x hx).1
  have := h.len
  rw [z] at this
  simp at this
  omega
theorem due_less (hb : 3 ≤ b) (hn : n ≤ p * (b - 1)) (h : Due b p n c) : ∃ x ∈ c, x ≠ (p : Int) := by
  refine some_less c (fun x hx => (h.box x hx).2) ?_
  have h1 := h.sum
  rw [h.len]
  have : ((p * (b - 1) : Nat) : Int) = (p : Int) * ((b - 1 : Nat) : Int) := Int.natCast_mul _ _
  omega
theorem stuck_on (hb : 3 ≤ b) (h : Due b p n c) (R : Rls p rows) (hR : RuleR rows c k) (hs : StuckC (takM p 0 rows).1 (takM p 0 rows).2 p c) :
    c.getD k 0 = (p : Int) ∧ StuckC (takM p 0 rows).1 (takM p 0 rows).2 p (rotM c k) := by
  obtain ⟨hk, hc⟩ := due_split hb h R hR
  obtain ⟨h1, h2⟩ := hs
  rcases hc with ⟨_, z⟩ | ⟨_, t1, t2, t3, t4⟩
  · exact absurd h1 z
  have hp := rot_perm hk
  have e : c.getD k 0 = (p : Int) := by
    rcases h2 with ⟨w, e⟩ | ⟨w, e⟩
    · rw [t2 w]; exact e
    · have := t4 w _ e
      have := (h.box _ (getD_mem hk)).2
      omega
  refine ⟨e, fun x hx => h1 x (hp.mem_iff.mp hx), ?_⟩
  rcases h2 with ⟨w, _⟩ | ⟨w, e2⟩
  · refine .inl ⟨w, ?_⟩
    unfold rotM
    rw [e, List.length_append, List.getD_eq_getElem?_getD]
    simp
  · exact .inr ⟨w, hp.mem_iff.mpr e2⟩
theorem stuck_off (hb : 3 ≤ b) (hn : n ≤ p * (b - 1)) (h : Due b p n c) (R : Rls p rows) (hR : RuleR rows c k) (hs : ¬ StuckC (takM p 0 rows).1 (takM p 0 rows).2 p c) (e : c.getD k 0 = (p : Int)) :
    ¬ StuckC (takM p 0 rows).1 (takM p 0 rows).2 p (rotM c k) ∧ leadM (p : Int) (rotM c k) < leadM (p : Int) c := by
  obtain ⟨hk, hc⟩ := due_split hb h R hR
  obtain ⟨z, hz, ne⟩ := due_less hb hn h
  rcases hc with ⟨e2, _⟩ | ⟨h1, t1, t2, t3, t4⟩
  · omega
  have hw := R.wd
  simp only [wordsL, List.mem_cons, List.not_mem_nil, or_false] at hw
  rcases hw with w | w | w | w
  · have k0 := t1 w
    refine ⟨fun q => ?_, ?_⟩
    · rcases q.2 with ⟨q, _⟩ | ⟨q, _⟩ <;> (rw [w] at q; exact absurd q (by decide))
    · subst k0
      cases c with
      | nil => simp at hk
      | cons a l =>
        have ea : a = (p : Int) := by simpa using e
        subst ea
        have : rotM ((p : Int) :: l) 0 = l ++ [(p : Int)] := by unfold rotM; simp
        rw [this, lead_app]
        · show leadM (p : Int) l < leadM (p : Int) ((p : Int) :: l)
          have : leadM (p : Int) ((p : Int) :: l) = leadM (p : Int) l + 1 := by
            show (if (p : Int) = (p : Int) then leadM (p : Int) l + 1 else 0) = _
            rw [if_pos rfl]
          omega
        · rcases List.mem_cons.mp hz with rfl | hz
          · exact absurd rfl ne
          · exact ⟨z, hz, ne⟩
  · exact absurd ⟨h1, .inl ⟨w, by rw [← t2 w]; exact e⟩⟩ hs
  · have := t3 w z hz
    have := (h.box z hz).2
    omega
  · exact absurd ⟨h1, .inr ⟨w, by rw [← e]; exact getD_mem hk⟩⟩ hs
theorem stuck_stk (hb : 3 ≤ b) (h : Due b p n c) (hs : StuckC (takM p 0 rows).1 (takM p 0 rows).2 p c) : (stkM b p n rows).isSome = true := by
  obtain ⟨h1, h2⟩ := hs
  have hl := h.len
  have hm : (p : Int) ∈ c ∧ (takM p 0 rows).2 ∈ fullW := by
    rcases h2 with ⟨w, e⟩ | ⟨w, e⟩
    · exact ⟨by rw [← e]; exact getD_mem (by omega), by rw [w]; decide⟩
    · exact ⟨e, by rw [w]; decide⟩
  have h3 := least_sum c h1 hm.1
  have h4 := h.sum
  unfold stkM
  rw [if_pos]
  · rfl
  refine ⟨hm.2, ?_⟩
  rw [st_sum _ _ _ (by omega), Int.mul_comm]
  rw [hl] at h3
  have e : (((b - 1 : Nat) : Int) - 1) = (b : Int) - 2 := by omega
  rw [e] at h3
  omega
end
end K2.KQ

set_option Elab.async false
set_option linter.all false
set_option maxRecDepth 100000
set_option maxHeartbeats 4000000
namespace K2.KQ
open PySem PySem.Spec PyProof.Rows L2 G1 G2
/-! ### stands -/
abbrev Spot := List Int × List Int
def sumS (s : Spot) : Int := s.1.sum + (s.2.drop 1).sum
def addM (p : Nat) (s : Spot) : Spot := if s.2.getD 0 0 + 1 = (p : Int) then (s.1 ++ [s.2.getD 1 0 + 1], []) else (s.1, [s.2.getD 0 0 + 1, s.2.getD 1 0 + 1])
def dieAt (s : Spot) (k : Nat) : Spot := (s.1.set k (s.1.getD k 0 - 1), s.2)
def diesM (c : List Int) : List Nat := (List.range c.length).filter fun k => decide (c.getD k 0 > 0)
def deadM (s : Spot) : List Spot := (diesM s.1).map (dieAt s) ++ (if s.2 ≠ [] ∧ 0 < s.2.getD 1 0 then [(s.1, [s.2.getD 0 0, s.2.getD 1 0 - 1])] else [])
def Clean (b : Nat) (s : Spot) : Prop := s.2 = [] ∧ s.1.length = b - 1
instance (b : Nat) (s : Spot) : Decidable (Clean b s) := inferInstanceAs (Decidable (_ ∧ _))
structure Good (b p n : Nat) (s : Spot) : Prop where
  len : s.1.length ≤ b - 1
  box : ∀ x ∈ s.1, 0 ≤ x ∧ x ≤ (p : Int)
  half : s.2 = [] ∨ ∃ w l : Int, s.2 = [w, l] ∧ 0 ≤ l ∧ l ≤ w ∧ w < (p : Int) ∧ s.1.length ≤ b - 2
  sum : sumS s ≤ (n : Int)
theorem set_sum : ∀ (c : List Int) (k : Nat) (x : Int), k < c.length → (c.set k x).sum = c.sum - c.getD k 0 + x
  | [], _, _, h => by simp at h
  | a :: c, 0, x, _ => by
    rw [List.set_cons_zero, List.sum_cons, List.sum_cons]
    have : (a :: c).getD 0 0 = a := rfl
    omega
  | a :: c, k + 1, x, h => by
    rw [List.set_cons_succ, List.sum_cons, List.sum_cons, set_sum c k x (by simpa using h)]
    have : (a :: c).getD (k + 1) 0 = c.getD k 0 := by simp [List.getD_eq_getElem?_getD]
    omega
section
variable {b p n : Nat} {s d : Spot}
theorem add_good (hp : 2 ≤ p) (hb : 3 ≤ b) (h1 : s.1.length ≤ b - 2) (h2 : ∀ x ∈ s.1, 0 ≤ x ∧ x ≤ (p : Int)) (h3 : s.2 = [] ∨ ∃ w l : Int, s.2 = [w, l] ∧ 0 ≤ l ∧ l ≤ w ∧ w < (p : Int)) (h4 : sumS s < (n : Int)) : Good b p n (addM p s) := by
  have key : 0 ≤ s.2.getD 1 0 ∧ s.2.getD 1 0 ≤ s.2.getD 0 0 ∧ s.2.getD 0 0 < (p : Int) ∧ sumS s = s.1.sum + s.2.getD 1 0 := by
    rcases h3 with e | ⟨w, l, e, a1, a2, a3⟩
    · unfold sumS
      rw [e]
      refine ⟨by decide, by decide, by simp; omega, by simp⟩
    · unfold sumS
      rw [e]
      exact ⟨a1, a2, a3, by simp⟩
  obtain ⟨k1, k2, k3, k4⟩ := key
  unfold addM
  split
  · rename_i e
    refine ⟨by rw [List.length_append]; simp; omega, fun x hx => ?_, .inl rfl, ?_⟩
    · rcases List.mem_append.mp hx with hx | hx
      · exact h2 x hx
      · rw [List.mem_singleton.mp hx]
        omega
    · show (s.1 ++ [s.2.getD 1 0 + 1]).sum + (([] : List Int).drop 1).sum ≤ _
      rw [List.sum_append, List.sum_cons, List.drop_nil, List.sum_nil]
      omega
  · rename_i e
    refine ⟨by show s.1.length ≤ _; omega, h2, .inr ⟨_, _, rfl, by omega, by omega, by omega, h1⟩, ?_⟩
    show s.1.sum + ([s.2.getD 0 0 + 1, s.2.getD 1 0 + 1].drop 1).sum ≤ _
    rw [List.drop_succ_cons, List.drop_zero, List.sum_cons, List.sum_nil]
    omega
theorem mem_dies {c : List Int} {k : Nat} : k ∈ diesM c ↔ k < c.length ∧ 0 < c.getD k 0 := by
  unfold diesM
  rw [List.mem_filter, List.mem_range]
  simp
theorem dead_good (h : Good b p n s) (hd : d ∈ deadM s) : Good b p n d ∧ sumS d < (n : Int) ∧ (d.2 = [] ↔ s.2 = []) ∧ d.1.length = s.1.length := by
  have hs := h.sum
  unfold deadM at hd
  rcases List.mem_append.mp hd with hd | hd
  · obtain ⟨k, hk, rfl⟩ := List.mem_map.mp hd
    obtain ⟨hk, h0⟩ := mem_dies.mp hk
    have e : sumS (dieAt s k) = sumS s - 1 := by
      unfold sumS dieAt
      dsimp only
      rw [set_sum _ _ _ hk]
      omega
    have el : (dieAt s k).1.length = s.1.length := by unfold dieAt; simp
    refine ⟨⟨by rw [el]; exact h.len, fun x hx => ?_, ?_, by omega⟩, by omega, Iff.rfl, el⟩
    · have bx := h.box _ (getD_mem hk)
      rcases List.mem_or_eq_of_mem_set hx with hx | hx
      · exact h.box x hx
      · omega
    · rcases h.half with e | ⟨w, l, e, a⟩
      · exact .inl e
      · exact .inr ⟨w, l, e, a.1, a.2.1, a.2.2.1, by rw [el]; exact a.2.2.2⟩
  · split at hd
    · rename_i c
      rw [List.mem_singleton.mp hd]
      rcases h.half with e | ⟨w, l, e, a1, a2, a3, a4⟩
      · exact absurd e c.1
      · have c2 := c.2
        have es : sumS s = s.1.sum + l := by unfold sumS; rw [e]; simp
        rw [e] at c2 ⊢
        have c3 : 0 < l := c2
        refine ⟨⟨h.len, h.box, .inr ⟨w, l - 1, rfl, by omega, by omega, a3, a4⟩, ?_⟩, ?_, ?_, rfl⟩
        · unfold sumS
          simp
          omega
        · unfold sumS
          simp
          omega
        · exact ⟨fun z => (by cases z), fun z => (by cases z)⟩
    · exact nomatch hd
theorem Good.open_ (hb : 3 ≤ b) (h : Good b p n s) (c : ¬ Clean b s) : s.1.length ≤ b - 2 ∧ (s.2 = [] ∨ ∃ w l : Int, s.2 = [w, l] ∧ 0 ≤ l ∧ l ≤ w ∧ w < (p : Int)) := by
  have hl := h.len
  rcases h.half with e | ⟨w, l, e, a1, a2, a3, a4⟩
  · refine ⟨?_, .inl e⟩
    have : s.1.length ≠ b - 1 := fun z => c ⟨e, z⟩
    omega
  · exact ⟨a4, .inr ⟨w, l, e, a1, a2, a3⟩⟩
end
/-! ### what a page's way ends with -/
section
variable {b p n : Nat} {rows : List RowD} {s d : Spot} {r : Option Spot}
theorem clean_due (h : Good b p n s) (hs : sumS s < (n : Int)) (c : Clean b s) : Due b p n s.1 := ⟨c.2, h.box, by
  have : sumS s = s.1.sum := by unfold sumS; rw [c.1]; simp
  omega⟩
end
/-! ### a way to the place where a write sticks -/
section
variable {b p n : Nat} {rows : List RowD} {Kn : Spot → Prop}
structure Way (b p n : Nat) (rows : List RowD) (Kn : Spot → Prop) : Prop where
  add : ∀ s, Kn s → sumS s < (n : Int) → ¬ Clean b s → Kn (addM p s)
  die : ∀ s, Kn s → ∀ d ∈ deadM s, ¬ Clean b d → Kn (addM p d)
  stop : ∀ s, Kn s → ∀ d ∈ deadM s, Clean b d → ¬ StuckC (takM p 0 rows).1 (takM p 0 rows).2 p d.1
theorem open_not {S : List Int} {w l : Int} : ¬ Clean b (S, [w, l]) := fun c => by have := c.1; cases this
theorem fill_new (W : Way b p n rows Kn) : ∀ (m : Nat) (S : List Int) (w l : Int), Kn (S, [w, l]) → 1 ≤ m → w + (m : Int) = (p : Int) → S.sum + l + (m : Int) - 1 < (n : Int) → Kn (S ++ [l + (m : Int)], [])
  | 0, _, _, _, _, h, _, _ => by omega
  | 1, S, w, l, hk, _, h1, h2 => by
    have := W.add _ hk (by unfold sumS; simp; omega) open_not
    have e : addM p (S, [w, l]) = (S ++ [l + 1], []) := by
      unfold addM
      rw [if_pos (by show w + 1 = (p : Int); omega)]
      rfl
    rw [e] at this
    exact this
  | m + 2, S, w, l, hk, _, h1, h2 => by
    have := W.add _ hk (by unfold sumS; simp; omega) open_not
    have e : addM p (S, [w, l]) = (S, [w + 1, l + 1]) := by
      unfold addM
      rw [if_neg (by show ¬ w + 1 = (p : Int); omega)]
      rfl
    rw [e] at this
    have z := fill_new W (m + 1) S (w + 1) (l + 1) this (by omega) (by omega) (by omega)
    have e2 : l + 1 + ((m + 1 : Nat) : Int) = l + ((m + 2 : Nat) : Int) := by omega
    rw [e2] at z
    exact z
theorem die_open {S : List Int} {w l : Int} (h : 0 < l) : (S, [w, l - 1]) ∈ deadM (S, [w, l]) := by
  unfold deadM
  rw [if_pos ⟨by simp, h⟩]
  exact List.mem_append_right _ (List.mem_singleton.mpr rfl)
theorem fill_scr (W : Way b p n rows Kn) : ∀ (m : Nat) (S : List Int) (w : Int), Kn (S, [w, 1]) → w + (m : Int) < (p : Int) → Kn (S, [w + (m : Int), 1])
  | 0, S, w, hk, _ => by
    have e : w + ((0 : Nat) : Int) = w := by omega
    rw [e]
    exact hk
  | m + 1, S, w, hk, h => by
    have := W.die _ hk _ (die_open (by decide)) open_not
    have e : addM p (S, [w, 1 - 1]) = (S, [w + 1, 1]) := by
      unfold addM
      rw [if_neg (by show ¬ w + 1 = (p : Int); omega)]
      rfl
    rw [e] at this
    have z := fill_scr W m S (w + 1) this (by omega)
    have e2 : w + 1 + (m : Int) = w + ((m + 1 : Nat) : Int) := by omega
    rw [e2] at z
    exact z
theorem fill_block (hp : 2 ≤ p) (W : Way b p n rows Kn) {S : List Int} {fl : Nat} (hk : Kn (S, [1, 1])) (hf : fl < p) (hs : S.sum + (fl : Int) < (n : Int)) : Kn (S ++ [(fl : Int) + 1], []) := by
  by_cases c : fl = 0
  · subst c
    have z := fill_scr W (p - 2) S 1 hk (by omega)
    have e : (1 : Int) + ((p - 2 : Nat) : Int) = (p : Int) - 1 := by omega
    rw [e] at z
    have y := W.die _ z _ (die_open (by decide)) open_not
    have e2 : addM p (S, [(p : Int) - 1, 1 - 1]) = (S ++ [((0 : Nat) : Int) + 1], []) := by
      unfold addM
      rw [if_pos (by show (p : Int) - 1 + 1 = (p : Int); omega)]
      rfl
    rw [e2] at y
    exact y
  · have z := fill_scr W (p - fl - 1) S 1 hk (by omega)
    have y := fill_new W fl S _ 1 z (by omega) (by omega) (by omega)
    have e : (1 : Int) + (fl : Int) = (fl : Int) + 1 := by omega
    rw [e] at y
    exact y
def wayT (fl : Nat) : Nat → List Int
  | 0 => []
  | j + 1 => List.replicate j (fl : Int) ++ [(fl : Int) + 1]
theorem addNil (hp : 2 ≤ p) (S : List Int) : addM p (S, []) = (S, [1, 1]) := by
  unfold addM
  rw [if_neg (by show ¬ (0 : Int) + 1 = (p : Int); omega)]
  rfl
theorem set_end (S : List Int) (x y : Int) (T : List Int) : (S ++ x :: T).set S.length y = S ++ y :: T := by simp
theorem getD_end (S : List Int) (x : Int) (T : List Int) : (S ++ x :: T).getD S.length 0 = x := by
  rw [List.getD_eq_getElem?_getD]
  simp
theorem die_at {S T : List Int} {x : Int} (h : 0 < x) : (S ++ (x - 1) :: T, ([] : List Int)) ∈ deadM (S ++ x :: T, []) := by
  unfold deadM
  refine List.mem_append_left _ (List.mem_map.mpr ⟨S.length, mem_dies.mpr ⟨by simp, by rw [getD_end]; exact h⟩, ?_⟩)
  unfold dieAt
  dsimp only
  rw [getD_end, set_end]
theorem rep_sum (j fl : Nat) : (List.replicate j (fl : Int)).sum = (j : Int) * (fl : Int) := List.sum_replicate_int ..
theorem way_t (hb : 3 ≤ b) (hp : 2 ≤ p) (W : Way b p n rows Kn) (h0 : Kn ([], [])) {fl : Nat} (hf : fl < p) (hs : ((b : Int) - 2) * (fl : Int) + (p : Int) < (n : Int)) : ∀ j, j ≤ b - 2 → Kn (wayT fl j, [])
  | 0, _ => h0
  | j + 1, hj => by
    have ih := way_t hb hp W h0 hf hs j (by omega)
    have hm : ((j : Int) + 1) * (fl : Int) ≤ ((b : Int) - 2) * (fl : Int) := Int.mul_le_mul_of_nonneg_right (by omega) (by omega)
    have hm2 : ((j : Int) + 1) * (fl : Int) = (j : Int) * (fl : Int) + (fl : Int) := by rw [Int.add_mul]; omega
    have hn : (0 : Int) ≤ ((b : Int) - 2) * (fl : Int) := Int.mul_nonneg (by omega) (by omega)
    have hk : Kn (List.replicate j (fl : Int), [1, 1]) := by
      cases j with
      | zero =>
        have z := W.add _ ih (by unfold sumS wayT; simp; omega) (fun c => by have := c.2; simp [wayT] at this; omega)
        rw [addNil hp] at z
        exact z
      | succ i =>
        have hd : (List.replicate i (fl : Int) ++ ((fl : Int) + 1 - 1) :: [], ([] : List Int)) ∈ deadM (List.replicate i (fl : Int) ++ ((fl : Int) + 1) :: [], []) := die_at (by omega)
        have e : List.replicate i (fl : Int) ++ ((fl : Int) + 1 - 1) :: [] = List.replicate (i + 1) (fl : Int) := by
          rw [List.replicate_succ']
          have : (fl : Int) + 1 - 1 = (fl : Int) := by omega
          rw [this]
        rw [e] at hd
        have z := W.die _ ih _ hd (fun c => by have := c.2; simp at this; omega)
        rw [addNil hp] at z
        exact z
    refine fill_block hp W hk hf ?_
    rw [rep_sum]
    omega
theorem way_end (hb : 3 ≤ b) (hp : 2 ≤ p) (hn : n ≤ p * (b - 1)) (W : Way b p n rows Kn) (h0 : Kn ([], [])) (hfl : 0 ≤ (takM p 0 rows).1) (hfp : (takM p 0 rows).1 ≤ (p : Int)) (hst : (stkM b p n rows).isSome = true) : False := by
  unfold stkM at hst
  split at hst
  · rename_i c
    obtain ⟨c1, c2⟩ := c
    rw [st_sum _ _ _ (by omega)] at c2
    obtain ⟨fl, efl⟩ : ∃ fl : Nat, (takM p 0 rows).1 = (fl : Int) := ⟨(takM p 0 rows).1.toNat, by omega⟩
    have hstop := W.stop
    rw [efl] at c2 hfp hstop
    have hf : fl < p := by
      rcases Nat.lt_or_ge fl p with z | z
      · exact z
      · exfalso
        have e : fl = p := by omega
        subst e
        have e2 : ((fl * (b - 1) : Nat) : Int) = (fl : Int) * ((b : Int) - 1) := by rw [Int.natCast_mul, Int.natCast_sub (by omega)]; rfl
        have e3 : ((b : Int) - 2) * (fl : Int) + (fl : Int) = (fl : Int) * ((b : Int) - 1) := by
          rw [Int.mul_comm (fl : Int), show ((b : Int) - 1) = ((b : Int) - 2) + 1 from by omega, Int.add_mul]
          omega
        omega
    have z := way_t hb hp W h0 hf c2 (b - 2) (Nat.le_refl _)
    have eb : b - 2 = (b - 3) + 1 := by omega
    rw [eb] at z
    have hsum : (wayT fl ((b - 3) + 1)).sum = ((b : Int) - 2) * (fl : Int) + 1 := by
      show (List.replicate (b - 3) (fl : Int) ++ [(fl : Int) + 1]).sum = _
      rw [List.sum_append, rep_sum]
      simp
      rw [show ((b : Int) - 2) = ((b - 3 : Nat) : Int) + 1 from by omega, Int.add_mul]
      omega
    have hlen : (wayT fl ((b - 3) + 1)).length = b - 2 := by
      show (List.replicate (b - 3) (fl : Int) ++ [(fl : Int) + 1]).length = _
      rw [List.length_append, List.length_replicate]
      simp
      omega
    have y := W.add _ z (by unfold sumS; simp; omega) (fun c => by have := c.2; dsimp only at this; omega)
    rw [addNil hp] at y
    have x := fill_new W (p - 1) _ 1 1 y (by omega) (by omega) (by omega)
    have e1 : (1 : Int) + ((p - 1 : Nat) : Int) = (p : Int) := by omega
    rw [e1] at x
    have e2 : wayT fl ((b - 3) + 1) ++ [(p : Int)] = List.replicate (b - 3) (fl : Int) ++ ((fl : Int) + 1) :: [(p : Int)] := by
      show (List.replicate (b - 3) (fl : Int) ++ [(fl : Int) + 1]) ++ [(p : Int)] = _
      rw [List.append_assoc]
      rfl
    rw [e2] at x
    refine hstop _ x _ (die_at (by omega)) ⟨rfl, ?_⟩ ⟨fun y hy => ?_, ?_⟩
    · dsimp only
      rw [List.length_append, List.length_replicate]
      simp
      omega
    · dsimp only at hy
      rcases List.mem_append.mp hy with hy | hy
      · rw [(List.mem_replicate.mp hy).2]
        exact Int.le_refl _
      · simp at hy
        omega
    · simp only [fullW, List.mem_cons, List.not_mem_nil, or_false] at c1
      rcases c1 with c1 | c1
      · refine .inl ⟨c1, ?_⟩
        dsimp only
        rw [List.getD_eq_getElem?_getD]
        have : List.replicate (b - 3) (fl : Int) ++ ((fl : Int) + 1 - 1) :: [(p : Int)] = (List.replicate (b - 3) (fl : Int) ++ [(fl : Int) + 1 - 1]) ++ [(p : Int)] := by simp
        rw [this, List.length_append]
        simp
      · exact .inr ⟨c1, by simp⟩
  · cases hst
end
/-! ### there are few stands -/
theorem nodup_le {α : Type} [DecidableEq α] : ∀ (l U : List α), l.Nodup → (∀ x ∈ l, x ∈ U) → l.length ≤ U.length
  | [], _, _, _ => Nat.zero_le _
  | x :: l, U, hn, h => by
    have hx := h x (List.mem_cons_self ..)
    rw [List.nodup_cons] at hn
    have ih := nodup_le l (U.erase x) hn.2 fun y hy => (List.mem_erase_of_ne (fun (e : y = x) => hn.1 (e ▸ hy))).mpr (h y (List.mem_cons_of_mem _ hy))
    rw [List.length_erase_of_mem hx] at ih
    have : 0 < U.length := List.length_pos_of_mem hx
    rw [List.length_cons]
    omega
def listsN (p : Nat) : Nat → List (List Int)
  | 0 => [[]]
  | m + 1 => (listsN p m).flatMap fun l => (List.range (p + 1)).map fun (x : Nat) => (x : Int) :: l
theorem mem_lists {p : Nat} : ∀ (c : List Int), (∀ x ∈ c, 0 ≤ x ∧ x ≤ (p : Int)) → c ∈ listsN p c.length
  | [], _ => List.mem_singleton.mpr rfl
  | x :: c, h => by
    have hx := h x (List.mem_cons_self ..)
    refine List.mem_flatMap.mpr ⟨c, mem_lists c fun y hy => h y (List.mem_cons_of_mem _ hy), List.mem_map.mpr ⟨x.toNat, List.mem_range.mpr (by omega), ?_⟩⟩
    rw [Int.toNat_of_nonneg hx.1]
def halvesM (p : Nat) : List (List Int) := [] :: (List.range (p + 1)).flatMap fun (w : Nat) => (List.range (p + 1)).map fun (l : Nat) => [(w : Int), (l : Int)]
def allM (b p : Nat) : List Spot := (List.range b).flatMap fun m => (listsN p m).flatMap fun c => (halvesM p).map fun h => (c, h)
theorem mem_all {b p n : Nat} {s : Spot} (hb : 3 ≤ b) (h : Good b p n s) : s ∈ allM b p := by
  have hl := h.len
  refine List.mem_flatMap.mpr ⟨s.1.length, List.mem_range.mpr (by omega), List.mem_flatMap.mpr ⟨s.1, mem_lists _ h.box, List.mem_map.mpr ⟨s.2, ?_, rfl⟩⟩⟩
  rcases h.half with e | ⟨w, l, e, a1, a2, a3, _⟩
  · rw [e]
    exact List.mem_cons_self ..
  · rw [e]
    refine List.mem_cons_of_mem _ (List.mem_flatMap.mpr ⟨w.toNat, List.mem_range.mpr (by omega), List.mem_map.mpr ⟨l.toNat, List.mem_range.mpr (by omega), ?_⟩⟩)
    rw [Int.toNat_of_nonneg a1, Int.toNat_of_nonneg (by omega)]
theorem all_few : ∀ q ∈ [(3, 2), (3, 3), (3, 4), (3, 5), (4, 2), (4, 3), (5, 2)], (allM q.1 q.2).length ≤ 5000 := by decide +kernel
end K2.KQ

set_option Elab.async false
set_option linter.all false
set_option maxRecDepth 100000
set_option maxHeartbeats 4000000
/-! dicts whose keys are pairs of tuples of whole numbers -/
namespace K2.KQ
open PySem PySem.Spec PyProof.Rows L2 G1 G2
def numsK (l : List Int) : NestedKey := .tup (l.map NestedKey.num)
def skey (s : Spot) : NestedKey := .tup [numsK s.1, numsK s.2]
theorem nums_inj : ∀ {l m : List Int}, l.map NestedKey.num = m.map NestedKey.num → l = m
  | [], [], _ => rfl
  | [], _ :: _, h => by simp at h
  | _ :: _, [], h => by simp at h
  | a :: l, b :: m, h => by
    rw [List.map_cons, List.map_cons] at h
    injection h with h1 h2
    injection h1 with h1
    rw [h1, nums_inj h2]
theorem skey_inj {s t : Spot} (h : skey s = skey t) : s = t := by
  unfold skey numsK at h
  injection h with h
  injection h with h1 h2
  injection h2 with h2
  injection h1 with h1
  injection h2 with h2
  exact Prod.ext (nums_inj h1) (nums_inj h2)
/-- the pair of two tuples of whole numbers -/
def SpotAt (H : Hp) (b : Addr) (s : Spot) : Prop := ∃ a1 a2, H b = some (.tup [.ref a1, .ref a2]) ∧ H a1 = some (.tup (s.1.map V.int)) ∧ H a2 = some (.tup (s.2.map V.int))
/-- so, or an object of the top -/
def SpotK (K : PySem.W.Frag) (H : Hp) (b : Addr) (s : Spot) : Prop := ∃ a1 a2, SqT K H b [.ref a1, .ref a2] ∧ SqT K H a1 (s.1.map V.int) ∧ SqT K H a2 (s.2.map V.int)
theorem sqt_same {K : PySem.W.Frag} {H H' : Hp} {a : Addr} {xs : List V} (h : SqT K H a xs) (e : Same H H') : SqT K H' a xs := by
  rcases h with (h | ⟨o, h⟩) | h
  · exact .inl (.inl (e _ _ h))
  · exact .inl (.inr ⟨o, e _ _ h⟩)
  · exact .inr h
theorem sqt_upd {K : PySem.W.Frag} {H : Hp} {a D : Addr} {xs : List V} {o u : HO} (h : SqT K H a xs) (hD : H D = some u) (n1 : ∀ xs, u ≠ .tup xs) (n2 : ∀ o v, u ≠ .frz o v) : SqT K (upd H D o) a xs := by
  rcases h with (h | ⟨o', h⟩) | h
  · exact .inl (.inl (by rw [upd_ne (ne_of h hD (Ne.symm (n1 _)))]; exact h))
  · exact .inl (.inr ⟨o', by rw [upd_ne (ne_of h hD (Ne.symm (n2 _ _)))]; exact h⟩)
  · exact .inr h
theorem SpotK.upd {K : PySem.W.Frag} {H : Hp} {b D : Addr} {s : Spot} {o u : HO} (h : SpotK K H b s) (hD : H D = some u) (n1 : ∀ xs, u ≠ .tup xs) (n2 : ∀ o v, u ≠ .frz o v) : SpotK K (L2.upd H D o) b s := by
  obtain ⟨a1, a2, h0, h1, h2⟩ := h
  exact ⟨a1, a2, sqt_upd h0 hD n1 n2, sqt_upd h1 hD n1 n2, sqt_upd h2 hD n1 n2⟩
theorem SpotK.same {K : PySem.W.Frag} {H H' : Hp} {b : Addr} {s : Spot} (h : SpotK K H b s) (e : Same H H') : SpotK K H' b s := by
  obtain ⟨a1, a2, h0, h1, h2⟩ := h
  exact ⟨a1, a2, sqt_same h0 e, sqt_same h1 e, sqt_same h2 e⟩
theorem depth_nums : ∀ l : List Int, NestedKey.depthAll (l.map NestedKey.num) = 0
  | [] => rfl
  | a :: l => by
    rw [List.map_cons, NestedKey.depthAll, depth_nums l]
    rfl
theorem nums_is {h : Heap} : ∀ {l : List Int} {us : List Value}, Vals (l.map V.int) us → NestedAll h (l.map NestedKey.num) us
  | [], _, .nil => .nil
  | a :: l, _, .cons r t => by
    obtain ⟨t0, e⟩ := (show ∃ t0, _ = Value.int a t0 from r)
    rw [List.map_cons, e]
    exact .cons (.int a t0) (nums_is t)
section
variable {h : Heap} {a : Addr}
theorem tup_is {l : List NestedKey} {us : List Value} (h1 : IsTup h a us.toArray) (r : NestedAll h l us) : NestedIs h (.tup l) (.ref a) := by
  obtain ⟨o, h1, h2, n, h3⟩ := h1
  exact .tup h1 h2 h3 (by simpa using r)
end
section
variable {X : Cx} {pins : List (Addr × Obj)} {σ : L2.St} {H : Hp} {s : Shared} {a b : Addr} {sp : Spot}
theorem nums_at (I : Inv X pins σ H s) {l : List Int} (e : SqT X.K H a (l.map V.int)) : NestedIs s.heap (numsK l) (.ref a) := by
  obtain ⟨its, r, h1, _⟩ := I.tuple e
  exact tup_is h1 (nums_is r)
theorem key_spot (I : Inv X pins σ H s) (e : SpotK X.K H b sp) : (nestedKind X.prog X.w).is s.heap (skey sp) b := by
  obtain ⟨a1, a2, h0, e1, e2⟩ := e
  refine ⟨?_, ?_⟩
  · obtain ⟨its, r, h1, _⟩ := I.tuple h0
    cases r with
    | cons r1 r =>
      cases r with
      | cons r2 r =>
        cases r
        cases (show _ = Value.ref a1 from r1)
        cases (show _ = Value.ref a2 from r2)
        exact tup_is h1 (.cons (nums_at I e1) (.cons (nums_at I e2) .nil))
  · unfold skey numsK
    simp only [NestedKey.depth, NestedKey.depthAll, depth_nums]
    decide
end
/-- a pair of a dict, and what stands for it -/
abbrev NP : Spot × Addr × V → NestedKey × Addr × Value → Prop := fun p q => q.1 = skey p.1 ∧ q.2.1 = p.2.1 ∧ RelV p.2.2 q.2.2
def DNx (P : Program) (w : World) (a : Addr) (kvs : List (Spot × Addr × V)) : HO := .ext fun h => (a == sysModules) = false ∧ kvs.length ≤ sizeLine ∧ ∃ xs : List (NestedKey × Addr × Value), Paired NP kvs xs ∧
  ∃ o es ep, h.get? a = some o ∧ o.ExactDict ∧ o.data = .dict es ep ∧ es.toList = xs.map (entryOfKey (nestedKind P w)) ∧ (xs.map (·.1)).Nodup
/-- the keys stand -/
def KeysAt (K : PySem.W.Frag) (H : Hp) (kvs : List (Spot × Addr × V)) : Prop := ∀ e ∈ kvs, SpotK K H e.2.1 e.1
def valN (kvs : List (Spot × Addr × V)) (s : Spot) : Option V := (kvs.find? fun e => decide (e.1 = s)).map (·.2.2)
theorem val_rel {s : Spot} : ∀ {kvs : List (Spot × Addr × V)} {xs : List (NestedKey × Addr × Value)}, Paired NP kvs xs → RelO (valN kvs s) ((atKey xs (skey s)).map (·.2))
  | _, _, .nil => True.intro
  | _, _, .cons (a := p) (b := q) r t => by
    have ih := val_rel (s := s) t
    unfold valN atKey at ih ⊢
    rw [List.find?_cons, List.find?_cons]
    have e : decide (q.1 = skey s) = decide (p.1 = s) := by
      rw [r.1]
      by_cases c : p.1 = s
      · rw [c, decide_eq_true rfl, decide_eq_true rfl]
      · rw [decide_eq_false c, decide_eq_false fun z => c (skey_inj z)]
    rw [e]
    cases decide (p.1 = s) with
    | true => exact r.2.2
    | false => exact ih
section
variable {P : Program} {w : World} {H : Hp} {h : Heap} {a : Addr} {kvs : List (Spot × Addr × V)}
theorem keys_is {X : Cx} {pins : List (Addr × Obj)} {σ : L2.St} {H : Hp} {s : Shared} (I : Inv X pins σ H s) : ∀ {kvs : List (Spot × Addr × V)} {xs : List (NestedKey × Addr × Value)}, Paired NP kvs xs → KeysAt X.K H kvs → ∀ x ∈ xs, (nestedKind X.prog X.w).is s.heap x.1 x.2.1
  | _, _, .nil, _ => fun _ hx => nomatch hx
  | _, _, .cons (a := p) (b := q) r t, hk => fun x hx => by
    rcases List.mem_cons.mp hx with rfl | hx
    · rw [r.1, r.2.1]
      exact key_spot I (hk p (List.mem_cons_self ..))
    · exact keys_is I t (fun e he => hk e (List.mem_cons_of_mem _ he)) x hx
theorem dn_of {X : Cx} {pins : List (Addr × Obj)} {σ : L2.St} {H : Hp} {s : Shared} {a : Addr} {kvs : List (Spot × Addr × V)} (I : Inv X pins σ H s) (e : H a = some (DNx X.prog X.w a kvs)) (hk : KeysAt X.K H kvs) : (a == sysModules) = false ∧ kvs.length ≤ sizeLine ∧ ∃ xs, Paired NP kvs xs ∧ s.heap.DictOfH (nestedKind X.prog X.w) a xs := by
  obtain ⟨⟨h1, h2, xs, r, o, es, ep, z1, z2, z3, z4, z5⟩, _, _⟩ := (show ObjOk X.prog X.w H s.heap a (DNx X.prog X.w a kvs) from I.hok a _ e)
  exact ⟨h1, h2, xs, r, o, es, ep, z1, z2, z3, z4, keys_is I r hk, z5⟩
theorem dn_new {H' : Hp} {h' : Heap} {xs : List (NestedKey × Addr × Value)} (z : kvs.length ≤ sizeLine) (hd : (a == sysModules) = false) (r : Paired NP kvs xs) (dd : h'.DictOfH (nestedKind P w) a xs) : ObjOk P w H' h' a (DNx P w a kvs) := by
  obtain ⟨o, es, ep, z1, z2, z3, z4, _, z5⟩ := dd
  refine ⟨⟨hd, z, xs, r, o, es, ep, z1, z2, z3, z4, z5⟩, ⟨o, z1⟩, ?_⟩
  rintro h1 h2 ⟨a1, a2, ys, ry, oy, esy, epy, y1, y2, y3, y4, y5⟩ hs
  exact ⟨a1, a2, ys, ry, oy, esy, epy, hs _ y1, y2, y3, y4, y5⟩
end
/-! ### the rules -/
section
variable {X : Cx}
def rNotInN (K : PySem.W.Frag) (P : Program) (w : World) : R2 := fun x y H Q => ∃ (b d : Addr) (s : Spot) (kvs : List (Spot × Addr × V)), x = .ref b ∧ y = .ref d ∧ SpotK K H b s ∧ H d = some (DNx P w d kvs) ∧ KeysAt K H kvs ∧ Q (.bl (!(valN kvs s).isSome)) H
theorem op_notInN (hu : X.A.units + 64 < cLine) : OpR X (compareOp .NotIn) (rNotInN X.K X.prog X.w) := by
  intro pins s σ H x y v u Q I rx ry h
  obtain ⟨b, d, sp, kvs, rfl, rfl, hb, hd, hk, q⟩ := h
  cases rx
  cases ry
  obtain ⟨z1, z2, xs, r, dd⟩ := dn_of I hd hk
  refine wpAny_notIn_heap (knd := nestedKind X.prog X.w) (by show X.A.in1.units + 8 < cLine; show X.A.units + 1 + 8 < cLine; omega) (key_spot I hb) z1 dd ?_
  have e := (val_rel (s := sp) r).isSome_eq
  rw [Option.isSome_map] at e
  rw [← e]
  exact ⟨.bl (!(valN kvs sp).isSome), H, I.tok _, rfl, q⟩
def tGetN (K : PySem.W.Frag) (P : Program) (w : World) (td ty : TE) : TE := fun σ H Q => td σ H fun x H1 => ty σ H1 fun y H2 => ∃ (b d : Addr) (s : Spot) (kvs : List (Spot × Addr × V)) (v : V), x = .ref d ∧ y = .ref b ∧ SpotK K H2 b s ∧ H2 d = some (DNx P w d kvs) ∧ KeysAt K H2 kvs ∧ valN kvs s = some v ∧ Q v H2
theorem pe_getN {o i : Expr} {pos : Pos} {td ty : TE} (hu : X.A.units + 64 < cLine) (ho : PE X o td) (hi : PE X i ty) (hs : NoSl i) : PE X (.Subscript o i pos) (tGetN X.K X.prog X.w td ty) := by
  refine ⟨fun pins s σ H Q I h => ?_⟩
  refine subD_of PySem.F.slot_dict_getitem.lookup hs (thn (ho.run pins s σ H _ I h) fun u s1 ⟨x, H1, I1, rx, q1⟩ => thn (hi.run pins s1 σ H1 _ I1 q1) fun iv s2 ⟨y, H2, I2, ry, b, d, sp, kvs, v, ex, ey, hb, hd, hk, hv, q2⟩ => ?_)
  subst ex ey
  cases rx
  cases ry
  obtain ⟨z1, z2, xs, r, dd⟩ := dn_of I2 hd hk
  obtain ⟨w', hw, rw'⟩ := RelO.some_of (v := v) (o := (atKey xs (skey sp)).map (·.2)) (by rw [← hv]; exact val_rel r)
  obtain ⟨p, hp, hp2⟩ := Option.map_eq_some_iff.mp hw
  refine ⟨dd.typeIs, wpAny_getItem_heap (knd := nestedKind X.prog X.w) (by show X.A.units + 1 + 8 < cLine; omega) (key_spot I2 hb) dd hp ?_⟩
  rw [hp2]
  exact ⟨v, H2, I2.tok _, rw', q2⟩
theorem paired_snocN {kvs : List (Spot × Addr × V)} {xs : List (NestedKey × Addr × Value)} {p : Spot × Addr × V} {q : NestedKey × Addr × Value} (r : Paired NP kvs xs) (h : NP p q) : Paired NP (kvs ++ [p]) (xs ++ [q]) := paired_snoc r h
/-- d[k] = v, k not there -/
def rSetN (K : PySem.W.Frag) (P : Program) (w : World) : TSet := fun x y v H Q => ∃ (b d : Addr) (s : Spot) (kvs : List (Spot × Addr × V)), x = .ref d ∧ y = .ref b ∧ SpotK K H b s ∧ H d = some (DNx P w d kvs) ∧ KeysAt K H kvs ∧ kvs.length < sizeLine ∧ valN kvs s = none ∧ Q (upd H d (DNx P w d (kvs ++ [(s, b, v)])))
theorem set_N (hu : X.A.units + 64 < cLine) : PSet X (rSetN X.K X.prog X.w) := by
  intro pins s σ H o i v ov iv u Q I ro ri rv h
  obtain ⟨b, d, sp, kvs, rfl, rfl, hb, hd, hk, hl, hv, q⟩ := h
  cases ro
  cases ri
  obtain ⟨z1, z2, xs, r, dd⟩ := dn_of I hd hk
  have hz : xs.length ≤ sizeLine := by rw [← Paired.length r]; exact z2
  refine wpAny_setItem_heap (knd := nestedKind X.prog X.w) (hsz := hz) (by show X.A.units + 1 + 8 < cLine; omega) (key_spot I hb) dd fun h' dd' hs => ⟨_, ?_, q⟩
  have hn : atKey xs (skey sp) = none := by
    have e := (val_rel (s := sp) r).isSome_eq
    rw [hv, Option.isSome_map] at e
    cases ha : atKey xs (skey sp) with
    | none => rfl
    | some z => rw [ha] at e; cases e
  rw [storedH_new hn] at dd'
  have he : ∃ q, h'.get? d = some q := let ⟨q, _, _, hq, _⟩ := dd'; ⟨q, hq⟩
  exact d_write I (by rw [hd]; exact True.intro) hs he (dn_new (by rw [List.length_append]; exact hl) z1 (paired_snocN r ⟨rfl, rfl, rv⟩) dd')
/-- {k: v} -/
def tDispN (K : PySem.W.Frag) (P : Program) (w : World) (tk tv : TE) : TE := fun σ H Q => ∀ p, H p = none → tk σ (upd H p (DNx P w p [])) fun x H1 => tv σ H1 fun v H2 => ∃ (b : Addr) (s : Spot), x = .ref b ∧ SpotK K H2 b s ∧ H2 p = some (DNx P w p []) ∧ Q (.ref p) (upd H2 p (DNx P w p [(s, b, v)]))
theorem pe_dispN {k v : Expr} {pos : Pos} {tk tv : TE} (hu : X.A.units + 64 < cLine) (hk : PE X k tk) (hv : PE X v tv) : PE X (.Dict [some k] [v] pos) (tDispN X.K X.prog X.w tk tv) := by
  refine ⟨fun pins s σ H Q I h => ?_⟩
  have hn := I.hok.fresh (Nat.le_refl s.heap.objs.size)
  have hne : (s.heap.objs.size == sysModules) = false := beq_eq_false_iff_ne.mpr (Ne.symm (Nat.ne_of_lt I.big))
  have I1 := I.laid (a := s.heap.objs.size) (o := DNx X.prog X.w s.heap.objs.size []) (h' := s.heap.push { cls := .type "dict", data := .dict #[] }) (t' := s.toks) (fun _ _ q => Heap.get?_push_of_some _ q) (Nat.le_refl _)
    (dn_new (Nat.zero_le _) hne .nil (Heap.DictOfH.new s.heap))
  rw [arm_eval_Dict, zip_pairTrees [some k] [v] X.env pos rfl rfl, dictDisplay_pairs (pairTrees [some k] [v] X.env pos) (by intro z; cases z) (show 1 < 17 by decide)]
  refine wpAny_bind (wpAny_standAt (wpAny_bind (wpAny_subDictH (knd := nestedKind X.prog X.w) (by show X.A.units + 8 < cLine; omega) (show 1 ≤ 15 by decide) ?_)))
  refine pairTrees_cons_walk (thn (hk.run pins _ σ _ _ I1 (h _ hn)) fun u s1 ⟨x, H1, I1', rx, q1⟩ => thn (hv.run pins s1 σ H1 _ I1' q1) fun w2 s2 ⟨y, H2, I2, ry, b, sp, ex, hb, hd, q2⟩ => pairTrees_nil_walk ?_)
  subst ex
  cases rx
  obtain ⟨z1, z2, xs, r, dd⟩ := dn_of I2 hd (fun _ z => nomatch z)
  cases r
  refine ⟨[(skey sp, b, w2)], ⟨rfl, rfl, key_spot I2 hb, True.intro⟩, dd, fun h' tk' dd' hs => wpAny_pure ⟨.ref s.heap.objs.size, _, ?_, rfl, q2⟩⟩
  have he : ∃ q, h'.get? s.heap.objs.size = some q := let ⟨q, _, _, hq, _⟩ := dd'; ⟨q, hq⟩
  exact d_write I2 (by rw [hd]; exact True.intro) hs he (dn_new (by show 1 ≤ sizeLine; decide) z1 (.cons ⟨rfl, rfl, ry⟩ .nil) dd')
end
end K2.KQ

set_option Elab.async false
set_option linter.all false
set_option maxRecDepth 100000
set_option maxHeartbeats 4000000
namespace K2.KQ
open PySem PySem.Spec PyProof.Rows L2 G1 G2 G3 G5 LamX K3 ClX K6
/-! ### lists of whole numbers as data -/
theorem and_read {ta tb : TT} {σ : L2.St} {H : Hp} {Q : Bool → Hp → Prop} (h : ta σ H fun c H1 => if c = true then tb σ H1 Q else Q false H1) : tAnd ta tb σ H Q := h
theorem test_read {te : TE} {σ : L2.St} {H : Hp} {Q : Bool → Hp → Prop} (h : te σ H fun x H1 => ∃ k, x = .bl k ∧ Q k H1) : tTest te σ H Q := h
theorem one_if {tt : TT} {t : TS} {D : Ends} {σ : L2.St} {H : Hp} (h : tt σ H fun c H1 => if c = true then t D σ H1 else D.nx σ H1) : tIfS tt t tNext D σ H := h
theorem ifx_read {tt : TT} {ta tb : TE} {σ : L2.St} {H : Hp} {Q : VK} (h : tt σ H fun c H1 => if c = true then ta σ H1 Q else tb σ H1 Q) : tIf tt ta tb σ H Q := h
theorem cho_take {t : Str} {bd : Int} {ls : List Int} {k : Nat} (hk : k ∈ someM bd ls) (h : ChoR t ls (plcs bd ls ls.length) k) : TakeS t (someM bd ls) ls k := by
  obtain ⟨h1, h2, h3, h4⟩ := h
  have hs : (someM bd ls).Pairwise (· < ·) := List.Pairwise.filter _ List.pairwise_lt_range
  refine ⟨hk, fun e j hj => ?_, fun e j hj => ?_, fun e j hj => ?_, fun e j hj => ?_⟩
  · have z : (someM bd ls)[0]? = some k := h1 e
    cases hq : someM bd ls with
    | nil => rw [hq] at z; cases z
    | cons a l =>
      rw [hq] at z hs hj
      have : a = k := Option.some.inj z
      subst this
      rcases List.mem_cons.mp hj with rfl | hj
      · exact Nat.le_refl _
      · exact Nat.le_of_lt ((List.pairwise_cons.mp hs).1 j hj)
  · have z : (someM bd ls).getLast? = some k := h2 e
    obtain ⟨l, e2⟩ := List.getLast?_eq_some_iff.mp z
    rw [e2] at hs hj
    rcases List.mem_append.mp hj with hj | hj
    · exact Nat.le_of_lt ((List.pairwise_append.mp hs).2.2 j hj k (List.mem_singleton.mpr rfl))
    · rw [List.mem_singleton.mp hj]
      exact Nat.le_refl _
  · obtain ⟨i, hb⟩ := h3 e
    obtain ⟨j', hj', ej⟩ := List.getElem_of_mem hj
    have q : ls.getD k 0 ≤ ls.getD j 0 := (hb.2 j' j (show (someM bd ls)[j']? = some j by rw [List.getElem?_eq_getElem hj', ej])).1
    exact q
  · obtain ⟨i, hb⟩ := h4 e
    obtain ⟨j', hj', ej⟩ := List.getElem_of_mem hj
    have q : ls.getD j 0 ≤ ls.getD k 0 := (hb.2 j' j (show (someM bd ls)[j']? = some j by rw [List.getElem?_eq_getElem hj', ej])).1
    exact q
/-- the play's pick is the rule's -/
theorem pick_rule : ∀ {rows : List RowD} {ls : List Int} {k : Nat}, PickR rows ls k → RuleR rows ls k
  | [], _, _, ⟨j, r, h, _⟩ => by simp at h
  | (bd, t) :: rs, ls, k, ⟨0, r, h, h2, h3, h4⟩ => by
    have e : (bd, t) = r := Option.some.inj h
    subst e
    unfold RuleR
    have hk : k ∈ someM bd ls := h3
    rw [if_neg (fun z => by rw [z] at hk; exact nomatch hk)]
    exact cho_take hk h4
  | (bd, t) :: rs, ls, k, ⟨j + 1, r, h, h2, h3, h4⟩ => by
    unfold RuleR
    have z : someM bd ls = [] := h2 0 (bd, t) (Nat.succ_pos j) rfl
    rw [if_pos z]
    exact pick_rule ⟨j, r, h, fun i r' hi hr => h2 (i + 1) r' (Nat.succ_lt_succ hi) hr, h3, h4⟩
end K2.KQ

set_option Elab.async false
set_option linter.all false
set_option maxRecDepth 100000
set_option maxHeartbeats 4000000
/-! the next stands, exactly -/
namespace K2.KQ
open PySem PySem.Spec PyProof.Rows L2 G1 G2 G3 G5 LamX K3 ClX K6
/-- cleaning: met, the closed blocks; what is left and the picked block's pages, none if it never ends -/
inductive ClnX (p : Nat) (rows : List RowD) : List (List Int) → List Int → Option (List Int × Int) → Prop
  | again {ms : List (List Int)} {c : List Int} : c ∈ ms → ClnX p rows ms c none
  | done {ms : List (List Int)} {c : List Int} {k : Nat} : c ∉ ms → PickR rows c k → c.getD k 0 ≠ (p : Int) → ClnX p rows ms c (some (c.eraseIdx k, c.getD k 0))
  | step {ms : List (List Int)} {c : List Int} {k : Nat} {r : Option (List Int × Int)} : c ∉ ms → PickR rows c k → c.getD k 0 = (p : Int) → ClnX p rows (ms ++ [c]) (rotM c k) r → ClnX p rows ms c r
theorem clnx_uniq {p : Nat} {rows : List RowD} (hw : ∀ r ∈ rows, r.2 ∈ wordsL) {ms : List (List Int)} {c : List Int} {r r' : Option (List Int × Int)} (h : ClnX p rows ms c r) : ClnX p rows ms c r' → r = r' := by
  induction h generalizing r' with
  | again hm =>
    intro h
    cases h with
    | again => rfl
    | done hn => exact absurd hm hn
    | step hn => exact absurd hm hn
  | done hn hk hp =>
    intro h
    cases h with
    | again hm => exact absurd hm hn
    | done hn2 hk2 hp2 => rw [pick_uniq hw hk hk2]
    | step hn2 hk2 hp2 => rw [pick_uniq hw hk hk2] at hp; exact absurd hp2 hp
  | step hn hk hp hr ih =>
    intro h
    cases h with
    | again hm => exact absurd hm hn
    | done hn2 hk2 hp2 => rw [pick_uniq hw hk hk2] at hp; exact absurd hp hp2
    | step hn2 hk2 hp2 hr2 =>
      rw [← pick_uniq hw hk hk2] at hr2
      exact ih hr2
/-- a page that comes -/
def PageX (b p : Nat) (rows : List RowD) (s : Spot) (r : Option Spot) : Prop :=
  (¬ Clean b s → r = some (addM p s)) ∧ (Clean b s → ∃ o, ClnX p rows [] s.1 o ∧ r = o.map fun q => addM p (q.1, [q.2, q.2]))
theorem pagex_uniq {b p : Nat} {rows : List RowD} (hw : ∀ r ∈ rows, r.2 ∈ wordsL) {s : Spot} {r r' : Option Spot} (h : PageX b p rows s r) (h' : PageX b p rows s r') : r = r' := by
  by_cases c : Clean b s
  · obtain ⟨o, h1, e1⟩ := h.2 c
    obtain ⟨o', h2, e2⟩ := h'.2 c
    rw [e1, e2, clnx_uniq hw h1 h2]
  · rw [h.1 c, h'.1 c]
/-- what one event leads to -/
def NextX (b p n : Nat) (rows : List RowD) (fl : Bool) (s : Spot) (r : Option Spot) : Prop :=
  (∃ d ∈ deadM s, PageX b p rows d r) ∨ (sumS s < (n : Int) ∧ PageX b p rows s r) ∨ (fl = true ∧ ∃ d ∈ deadM s, r = some d)
/-- the stands that can be reached -/
inductive Rch (b p n : Nat) (rows : List RowD) (fl : Bool) : Spot → Prop
  | start : Rch b p n rows fl ([], [])
  | next {s s' : Spot} : Rch b p n rows fl s → NextX b p n rows fl s (some s') → Rch b p n rows fl s'
/-- a set that has the first stand and what each of its stands leads to has all -/
theorem rch_in {b p n : Nat} {rows : List RowD} {fl : Bool} {S : Spot → Prop} (h0 : S ([], [])) (hs : ∀ s s', S s → NextX b p n rows fl s (some s') → S s') {s : Spot} (h : Rch b p n rows fl s) : S s := by
  induction h with
  | start => exact h0
  | next _ hn ih => exact hs _ _ ih hn
end K2.KQ

set_option Elab.async false
set_option linter.all false
set_option maxRecDepth 100000
set_option maxHeartbeats 4000000
namespace K2.KQ
open PySem PySem.Spec PyProof.Rows L2 G1 G2 K6
theorem bList : bootBuiltins "list" = some (.type "list") := by decide +kernel
theorem seq_while {c : TT} {tb t2 : TS} {D : Ends} {σ : L2.St} {H : Hp} (h : ∀ D' : Ends, D'.nx = t2 D → D'.rt = D.rt → ∃ W : Nat → L2.St → Hp → Prop, (∃ m, W m σ H) ∧ ∀ m σ H, W m σ H →
    c σ H fun b H1 => if b = true then ∃ N : L2.St → Hp → Prop, (∀ σ' H', N σ' H' → ∃ m', m' < m ∧ W m' σ' H') ∧ tb { D' with nx := N, ct := N, bk := D'.nx } σ H1 else D'.nx σ H1) : tSeq (tWhile c tb) t2 D σ H := h { D with nx := t2 D } rfl rfl
theorem sl_read {r : V → Option Int → Option Int → Hp → VK → Prop} {te : TE} {tl th : TO} {σ : L2.St} {H : Hp} {Q : VK} (h : te σ H fun x H1 => tl σ H1 fun l H2 => th σ H2 fun u H3 => r x l u H3 Q) : L2.tSl r te tl th σ H Q := h
/-! ### tuples of whole numbers: cut and joined -/
section
variable {K : PySem.W.Frag} {H : Hp} {Q : VK} {a b : Addr} {xs ys : List Int}
theorem cut_to (xs : List Int) (k : Nat) : cutV (xs.map V.int) none (some (k : Int)) = (xs.take k).map V.int := by
  unfold cutV
  rw [HT.sIx_none, HT.sIx_nat, List.drop_zero, Nat.sub_zero, List.length_map, ← List.map_take]
  congr 1
  rcases Nat.le_total k xs.length with h | h
  · rw [Nat.min_eq_left h]
  · rw [Nat.min_eq_right h, List.take_length, List.take_of_length_le h]
theorem cut_from (xs : List Int) (k : Nat) : cutV (xs.map V.int) (some (k : Int)) none = (xs.drop k).map V.int := by
  unfold cutV
  rw [HT.sIx_none, HT.sIx_nat, List.length_map, ← List.map_drop, ← List.map_take]
  congr 1
  rcases Nat.le_total k xs.length with h | h
  · rw [Nat.min_eq_left h, List.take_of_length_le (by rw [List.length_drop]; exact Nat.le_refl _)]
  · rw [Nat.min_eq_right h, Nat.sub_self, List.take_zero, List.drop_eq_nil_of_le h]
end
/-! ### tuples of whole numbers as data -/
theorem erase_cut (c : List Int) (k : Nat) : c.take k ++ c.drop (k + 1) = c.eraseIdx k := (List.eraseIdx_eq_take_drop_succ c k).symm
/-! ### the stages of a page's way -/
section
variable {b p n : Nat} {rows : List RowD} {s : Spot}
end
end K2.KQ

set_option Elab.async false
set_option linter.all false
set_option maxRecDepth 100000
set_option maxHeartbeats 4000000
namespace K2.KQ
open PySem PySem.Spec PyProof.Rows L2 G1 G2
theorem nopart_read {σ : L2.St} {H : Hp} {Q : Option Int → Hp → Prop} (h : Q none H) : tNoPart σ H Q := h
theorem part_read {te : TE} {σ : L2.St} {H : Hp} {Q : Option Int → Hp → Prop} (h : te σ H fun v H1 => ∃ i, v = .int i ∧ Q (some i) H1) : tPart te σ H Q := h
theorem eqI_read (i j : Int) : decide (V.int i = V.int j) = decide (i = j) := by
  by_cases e : i = j
  · rw [e, decide_eq_true rfl, decide_eq_true rfl]
  · rw [decide_eq_false e, decide_eq_false fun z => e (by injection z)]
section
variable {P : Program} {w : World} {K : PySem.W.Frag} {mg : Str → Option Value} {base : Heap}
end
end K2.KQ

set_option Elab.async false
set_option linter.all false
set_option maxRecDepth 100000
set_option maxHeartbeats 4000000
namespace K2.KQ
open PySem PySem.Spec PyProof.Rows L2 G1 G2
def diesT (c : List Int) (i : Nat) : List Nat := (List.range i).filter fun k => decide (c.getD k 0 > 0)
theorem diesT_succ (c : List Int) (i : Nat) : diesT c (i + 1) = diesT c i ++ (if c.getD i 0 > 0 then [i] else []) := by
  unfold diesT
  rw [List.range_succ, List.filter_append]
  congr 1
  by_cases h : c.getD i 0 > 0
  · rw [if_pos h, List.filter_cons_of_pos (by simpa using h)]; rfl
  · rw [if_neg h, List.filter_cons_of_neg (by simpa using h)]; rfl
theorem diesT_len (c : List Int) (i : Nat) : (diesT c i).length ≤ i := Nat.le_trans (List.length_filter_le _ _) (by rw [List.length_range]; exact Nat.le_refl _)
theorem set_cut {c : List Int} {k : Nat} {x : Int} (h : k < c.length) : (c.take k ++ [x]) ++ c.drop (k + 1) = c.set k x := by
  rw [List.append_assoc, List.set_eq_take_append_cons_drop, if_pos h]
  rfl
theorem cut2_read {t u : TS} {D : Ends} {σ : L2.St} {H : Hp} (Mid : L2.St → Hp → Prop) (h1 : t { D with nx := Mid } σ H) (h2 : ∀ σ' H', Mid σ' H' → u D σ' H') : C8.tCut t u D σ H := ⟨Mid, h1, h2⟩
section
variable {K : PySem.W.Frag}
end
end K2.KQ

set_option Elab.async false
set_option linter.all false
set_option maxRecDepth 100000
set_option maxHeartbeats 4000000
namespace K2.KQ
open PySem PySem.Spec PyProof.Rows L2 G1 G2
theorem dead_len {s : Spot} : (deadM s).length ≤ s.1.length + 1 := by
  unfold deadM diesM
  rw [List.length_append, List.length_map]
  have h1 : ((List.range s.1.length).filter fun k => decide (s.1.getD k 0 > 0)).length ≤ s.1.length := Nat.le_trans (List.length_filter_le _ _) (by rw [List.length_range]; exact Nat.le_refl _)
  split
  · exact Nat.add_le_add_right h1 1
  · exact Nat.le_succ_of_le h1
section
variable {P : Program} {w : World} {K : PySem.W.Frag} {mg : Str → Option Value} {base : Heap}
end
end K2.KQ

set_option Elab.async false
set_option linter.all false
set_option maxRecDepth 100000
set_option maxHeartbeats 4000000
namespace K2.KQ
open PySem PySem.Spec PyProof.Rows L2 G1 G2
/-! ### the walk's state -/
theorem val_not {s : Spot} : ∀ {kvs : List (Spot × Addr × V)}, s ∉ kvs.map (·.1) → valN kvs s = none
  | [], _ => rfl
  | e :: kvs, h => by
    rw [List.map_cons] at h
    unfold valN
    rw [List.find?_cons, decide_eq_false (fun z => h (by rw [← z]; exact List.mem_cons_self ..))]
    exact val_not (kvs := kvs) fun z => h (List.mem_cons_of_mem _ z)
section
variable {P : Program} {w : World} {H : Hp} {a d : Addr} {s : Spot} {o : HO} {kvs : List (Spot × Addr × V)}
end
section
variable {K : PySem.W.Frag} {P : Program} {w : World} {b p n : Nat} {H0 H H' : Hp} {Kd Qa : Addr} {rs : List Addr} {ks : List (Spot × Addr × Nat)}
end
end K2.KQ

set_option Elab.async false
set_option linter.all false
set_option maxRecDepth 100000
set_option maxHeartbeats 4000000
namespace K2.KQ
open PySem PySem.Spec PyProof.Rows L2 G1 G2
section
variable {P : Program} {w : World} {K : PySem.W.Frag} {mg : Str → Option Value} {base : Heap}
theorem disp_read {tk tv : TE} {σ : L2.St} {H : Hp} {Q : VK} (h : ∀ p, H p = none → tk σ (upd H p (DNx P w p [])) fun x H1 => tv σ H1 fun v H2 => ∃ (b : Addr) (s : Spot), x = .ref b ∧ SpotK K H2 b s ∧ H2 p = some (DNx P w p []) ∧ Q (.ref p) (upd H2 p (DNx P w p [(s, b, v)]))) : tDispN K P w tk tv σ H Q := h
theorem getN_read {td ty : TE} {σ : L2.St} {H : Hp} {Q : VK} (h : td σ H fun x H1 => ty σ H1 fun y H2 => ∃ (b d : Addr) (s : Spot) (kvs : List (Spot × Addr × V)) (v : V), x = .ref d ∧ y = .ref b ∧ SpotK K H2 b s ∧ H2 d = some (DNx P w d kvs) ∧ KeysAt K H2 kvs ∧ valN kvs s = some v ∧ Q v H2) : tGetN K P w td ty σ H Q := h
end
end K2.KQ

set_option Elab.async false
set_option linter.all false
set_option maxRecDepth 100000
set_option maxHeartbeats 4000000
/-! sorted of pairs of tuples of whole numbers, any number of them -/
namespace SrtS
open PySem PyProof.Rows SrtO HT
abbrev Sp2 := List Int × List Int
theorem lex_irr : ∀ a : List Int, lexLt a a = false
  | [] => rfl
  | x :: a => by rw [lexLt_cons, if_pos rfl, lex_irr a]
theorem lex_asym : ∀ a b : List Int, lexLt a b = true → lexLt b a = false
  | [], [], h => rfl
  | [], _ :: _, _ => rfl
  | _ :: _, [], h => by cases h
  | x :: a, y :: b, h => by
    rw [lexLt_cons] at h ⊢
    by_cases e : x = y
    · rw [if_pos e] at h
      rw [if_pos e.symm, lex_asym a b h]
    · rw [if_neg e] at h
      have := of_decide_eq_true h
      rw [if_neg (fun z => e z.symm)]
      exact decide_eq_false (by omega)
theorem lex_tot : ∀ a b : List Int, lexLt a b = false → lexLt b a = false → a = b
  | [], [], _, _ => rfl
  | [], _ :: _, h, _ => by cases h
  | _ :: _, [], _, h => by cases h
  | x :: a, y :: b, h, h2 => by
    rw [lexLt_cons] at h h2
    by_cases e : x = y
    · rw [if_pos e] at h
      rw [if_pos e.symm] at h2
      rw [e, lex_tot a b h h2]
    · rw [if_neg e] at h
      rw [if_neg (fun z => e z.symm)] at h2
      have := of_decide_eq_false h
      have := of_decide_eq_false h2
      omega
theorem lex_tr : ∀ a b c : List Int, lexLt b a = false → lexLt c b = false → lexLt c a = false
  | [], [], c, _, h => h
  | [], _ :: _, [], _, h => by cases h
  | [], _ :: _, _ :: _, _, _ => rfl
  | x :: a, [], c, h, _ => by cases h
  | x :: a, y :: b, [], h, h2 => by cases h2
  | x :: a, y :: b, z :: c, h, h2 => by
    rw [lexLt_cons] at h h2 ⊢
    by_cases e1 : y = x
    · rw [if_pos e1] at h
      by_cases e2 : z = y
      · rw [if_pos e2] at h2
        rw [if_pos (e2.trans e1)]
        exact lex_tr a b c h h2
      · rw [if_neg e2] at h2
        have := of_decide_eq_false h2
        rw [if_neg (by omega)]
        exact decide_eq_false (by omega)
    · rw [if_neg e1] at h
      have h' := of_decide_eq_false h
      by_cases e2 : z = y
      · rw [if_neg (by omega)]
        exact decide_eq_false (by omega)
      · rw [if_neg e2] at h2
        have h2' := of_decide_eq_false h2
        rw [if_neg (by omega)]
        exact decide_eq_false (by omega)
/-- a pair before another -/
def ltS (s t : Sp2) : Bool := if s.1 = t.1 then lexLt s.2 t.2 else lexLt s.1 t.1
theorem ltS_swo {α : Type} (k : α → Sp2) : Swo fun x y => ltS (k x) (k y) := by
  refine ⟨fun x y h => ?_, fun x y z h1 h2 => ?_⟩
  · unfold ltS at h ⊢
    by_cases e : (k x).1 = (k y).1
    · rw [if_pos e] at h
      rw [if_pos e.symm]
      exact lex_asym _ _ h
    · rw [if_neg e] at h
      rw [if_neg (fun z => e z.symm)]
      exact lex_asym _ _ h
  · unfold ltS at h1 h2 ⊢
    by_cases e1 : (k y).1 = (k x).1
    · rw [if_pos e1] at h1
      by_cases e2 : (k z).1 = (k y).1
      · rw [if_pos e2] at h2
        rw [if_pos (e2.trans e1)]
        exact lex_tr _ _ _ h1 h2
      · rw [if_neg e2] at h2
        rw [if_neg (fun q => e2 (q.trans e1.symm)), ← e1]
        exact h2
    · rw [if_neg e1] at h1
      by_cases e2 : (k z).1 = (k y).1
      · rw [if_neg (fun q => e1 (e2.symm.trans q)), e2]
        exact h1
      · rw [if_neg e2] at h2
        have h3 := lex_tr _ _ _ h1 h2
        by_cases e3 : (k z).1 = (k x).1
        · exfalso
          rw [e3] at h2
          exact e1 (lex_tot _ _ h1 h2)
        · rw [if_neg e3]
          exact h3
theorem ltS_tot {s t : Sp2} (h1 : ltS s t = false) (h2 : ltS t s = false) : s = t := by
  unfold ltS at h1 h2
  by_cases e : s.1 = t.1
  · rw [if_pos e] at h1
    rw [if_pos e.symm] at h2
    exact Prod.ext e (lex_tot _ _ h1 h2)
  · rw [if_neg e] at h1
    rw [if_neg (fun z => e z.symm)] at h2
    exact absurd (lex_tot _ _ h1 h2) e
/-- the pair of two tuples of whole numbers -/
def TI (h : Heap) (a : Addr) (l : List Int) : Prop := ∃ items, IsTup h a items ∧ IntsAre items.toList l
def IsSp (h : Heap) (v : Value) (s : Sp2) : Prop := ∃ a a1 a2 o n, v = .ref a ∧ h.get? a = some o ∧ o.cls = .type "tuple" ∧ o.data = .seq #[.ref a1, .ref a2] n ∧ TI h a1 s.1 ∧ TI h a2 s.2
theorem TI.keeps {h h' : Heap} {a : Addr} {l : List Int} (x : TI h a l) (k : ∀ b o, h.get? b = some o → o.cls = .type "tuple" → h'.get? b = some o) : TI h' a l := by
  obtain ⟨it, ⟨o, ho, hc, n, hd⟩, hi⟩ := x
  exact ⟨it, ⟨o, k _ _ ho hc, hc, n, hd⟩, hi⟩
theorem IsSp.keeps {h h' : Heap} {v : Value} {s : Sp2} (x : IsSp h v s) (k : ∀ b o, h.get? b = some o → o.cls = .type "tuple" → h'.get? b = some o) : IsSp h' v s := by
  obtain ⟨a, a1, a2, o, n, e, ho, hc, hd, t1, t2⟩ := x
  exact ⟨a, a1, a2, o, n, e, k _ _ ho hc, hc, hd, t1.keeps k, t2.keeps k⟩
section
variable {prog : Program} {w : World} {A : Around} {E : Value → Shared → Prop} {s : Shared}
theorem ints_eq : ∀ {vs : List Value} {l m : List Int}, IntsAre vs l → IntsAre vs m → l = m
  | _, _, _, .nil, .nil => rfl
  | _, _, _, .cons _ _ a, .cons _ _ b => by rw [ints_eq a b]
theorem ints_at : ∀ {vs : List Value} {l : List Int} {j : Nat} (h : IntsAre vs l) (hj : j < vs.length), ∃ t, vs[j] = .int (l.getD j 0) t
  | _, _, 0, .cons i t _, _ => ⟨t, rfl⟩
  | _, _, j + 1, .cons i t a, hj => by
    obtain ⟨t', e⟩ := ints_at (j := j) a (by simpa using hj)
    exact ⟨t', by simpa using e⟩
theorem all_range (l m : List Int) : ((List.range (min l.length m.length)).all (fun j => l.getD j 0 == m.getD j 0) && l.length == m.length) = decide (l = m) := by
  by_cases e : l = m
  · subst e
    rw [decide_eq_true rfl]
    simp
  · rw [decide_eq_false e]
    by_cases hl : l.length = m.length
    · rw [hl, Nat.min_self]
      have : ¬ ((List.range m.length).all (fun j => l.getD j 0 == m.getD j 0)) = true := fun z => e (List.ext_getElem hl fun i h1 h2 => by
        have q := List.all_eq_true.mp z i (List.mem_range.mpr h2)
        rw [List.getD_eq_getElem?_getD, List.getD_eq_getElem?_getD, List.getElem?_eq_getElem h1, List.getElem?_eq_getElem h2] at q
        simpa using q)
      rw [Bool.eq_false_iff.mpr this]
      rfl
    · have : (l.length == m.length) = false := by simpa using hl
      rw [this, Bool.and_false]
theorem eq_TI {a b : Addr} {l m : List Int} (hu : A.units < cLine) (x : TI s.heap a l) (y : TI s.heap b m) : PySem.SeqAt.EqAt A s (.ref a) (.ref b) (decide (l = m)) := by
  obtain ⟨i1, t1, r1⟩ := x
  obtain ⟨i2, t2, r2⟩ := y
  by_cases e : a = b
  · subst e
    have e2 : i1 = i2 := by
      obtain ⟨o, ho, hc, n, hd⟩ := t1
      obtain ⟨o', ho', hc', n', hd'⟩ := t2
      rw [ho] at ho'
      cases ho'
      rw [hd] at hd'
      injection hd'
    subst e2
    rw [ints_eq r1 r2, decide_eq_true rfl]
    exact PySem.SeqAt.EqAt.same _
  · have z1 : i1.size = l.length := by rw [← r1.length]; simp
    have z2 : i2.size = m.length := by rw [← r2.length]; simp
    have z := PySem.SeqAt.RcAt.tuples (A := A) (s := s) (l := a) (b := b) (e := fun j => l.getD j 0 == m.getD j 0) t1 t2 hu fun j h1 h2 => by
      obtain ⟨u1, e1⟩ := ints_at (j := j) r1 (by simpa using h1)
      obtain ⟨u2, e2⟩ := ints_at (j := j) r2 (by simpa using h2)
      rw [Array.getElem_toList] at e1 e2
      rw [e1, e2]
      exact PySem.SeqAt.EqAt.int_int _ _ _ _
    rw [z1, z2, all_range] at z
    exact PySem.SeqAt.EqAt.of_refs e z
theorem sp_cmp {vs : List Value} {k : Value → Sp2} (hu : A.units < cLine) (hp : ∀ v ∈ vs, IsSp s.heap v (k v)) : Cmp prog w A s (tuples' false) (fun p => p.1 ∈ vs) (lt2 fun v u => ltS (k v) (k u)) := by
  intro p q hm hm'
  have h1 := hp _ hm
  have h2 := hp _ hm'
  show wpAny (model prog w) A (keyLt' (tuples' false) p.1 q.1) (fun r s' => s' = s ∧ r = ltS (k p.1) (k q.1)) (fun _ _ => False) s
  unfold ltS
  obtain ⟨a, a1, a2, o, n, e, ho, hc, hd, t1, t2⟩ := h1
  obtain ⟨a', a1', a2', o', n', e', ho', hc', hd', t1', t2'⟩ := h2
  generalize (k p.1).1 = x at t1 ⊢
  generalize (k p.1).2 = y at t2 ⊢
  generalize (k q.1).1 = x' at t1' ⊢
  generalize (k q.1).2 = y' at t2' ⊢
  rw [e, e']
  refine PySem.W.kat_lt ho hd ho' hd' ?_
  show PySem.W.KatLex prog w A false (decide (2 < 2)) _ [(.ref a1, .ref a1'), (.ref a2, .ref a2')] 0 s
  have lt : ∀ {c c' : Addr} {l l' : List Int} {Q : Bool → Shared → Prop}, TI s.heap c l → TI s.heap c' l' → Q (lexLt l l') s → wpAny (model prog w) A (oneLt' (false && (0 == 0)) (.ref c) (.ref c')) Q (fun _ _ => False) s := fun x1 x2 hq => by
    obtain ⟨i1, u1, r1⟩ := x1
    obtain ⟨i2, u2, r2⟩ := x2
    exact PySem.W.kat_one _ _ (lt_tupInts u1 u2 r1 r2 hu hq)
  refine PySem.W.kat_cons (eq_TI hu t1 t1' prog w _ _ ?_)
  refine PySem.W.kat_go (fun e1 => ?_) (fun e1 => ?_)
  · have ex : x = x' := of_decide_eq_true e1
    refine PySem.W.kat_yes (PySem.W.kat_cons (eq_TI hu t2 t2' prog w _ _ ?_))
    refine PySem.W.kat_go (fun e2 => ?_) (fun e2 => ?_)
    · have ey : y = y' := of_decide_eq_true e2
      refine PySem.W.kat_yes (PySem.W.kat_nil ⟨rfl, ?_⟩)
      rw [if_pos ex, ey, lex_irr]
      rfl
    · refine PySem.W.kat_no ?_
      show wpAny _ _ (oneLt' false _ _) _ _ _
      exact lt t2 t2' ⟨rfl, by rw [if_pos ex]⟩
  · have ex : ¬ x = x' := of_decide_eq_false e1
    refine PySem.W.kat_no ?_
    show wpAny _ _ (oneLt' false _ _) _ _ _
    exact lt t1 t1' ⟨rfl, by rw [if_neg ex]⟩
theorem firsts_sp {h : Heap} : ∀ {vs : List Value} {k : Value → Sp2}, (∀ v ∈ vs, IsSp h v (k v)) → ∃ fs : List Value, PySem.W.KatTups h vs fs ∧ fs.length = vs.length ∧ ∀ f ∈ fs, ∃ (q : Addr) (o : Obj), f = Value.ref q ∧ h.get? q = some o ∧ o.cls = .type "tuple"
  | [], _, _ => ⟨[], PySem.W.KatTups.nil, rfl, fun _ hm => by simp at hm⟩
  | v :: vs, k, hp => by
    obtain ⟨fs, h1, h2, h3⟩ := firsts_sp (vs := vs) (k := k) fun v' hm => hp v' (List.mem_cons_of_mem _ hm)
    obtain ⟨a, a1, a2, o, n, e, ho, hc, hd, ⟨it, ⟨o1, ho1, hc1, _⟩, _⟩, _⟩ := hp v (List.mem_cons_self ..)
    subst e
    refine ⟨.ref a1 :: fs, PySem.W.KatTups.cons ho hc hd rfl h1, by rw [List.length_cons, List.length_cons, h2], fun f hm => ?_⟩
    rcases List.mem_cons.mp hm with rfl | hm
    · exact ⟨a1, o1, rfl, ho1, hc1⟩
    · exact h3 f hm
theorem sp_sortable {a : Addr} {vs : List Value} {k : Value → Sp2} (hu : A.units < cLine) (h0 : 0 < vs.length) (hp : ∀ v ∈ vs, IsSp s.heap v (k v)) (ha : ∀ o, s.heap.get? a = some o → o.cls ≠ .type "tuple") : SortableO prog w A s a vs fun v u => ltS (k v) (k u) := by
  intro h' keep
  have hp' : ∀ v ∈ vs, IsSp h' v (k v) := fun v hm => (hp v hm).keeps fun b o e c => keep b o (fun z => by subst z; exact ha o e c) e
  obtain ⟨fs, h1, h2, h3⟩ := firsts_sp hp'
  refine ⟨tuples' false, fun Q E hq => ?_, sp_cmp hu hp'⟩
  refine PySem.W.kat_kind (T := .type "tuple") h1 (by omega) (fun f hm => ?_) (by rfl) ?_
  · obtain ⟨q, o, rfl, ho, hc⟩ := h3 f hm
    have z : PySem.W.Looks (model prog w) h' (typeOf (.ref q)) o.cls := (PySem.W.Looks.ld ho).andThen .now
    rw [hc] at z
    exact z
  · have e : (Value.type "tuple" != Value.type "tuple") = false := by first | rfl | decide | simp
    rw [e]
    exact hq
/-- sorted(l) of such pairs -/
theorem sorted_sp {l : Addr} {vs : List Value} {k : Value → Sp2} {Q : Value → Shared → Prop} (hu : A.in1.in1.units < cLine) (hl : s.heap.IsList l vs.toArray) (hz : vs.length ≤ sizeLine) (hp : ∀ v ∈ vs, IsSp s.heap v (k v))
    (h : ∀ (h' : Heap) (d : Addr) (out : List Value), Srtd (fun v u => ltS (k v) (k u)) out → Stb (fun v u => ltS (k v) (k u)) out vs → (∀ b o, s.heap.get? b = some o → h'.get? b = some o) → s.heap.objs.size ≤ d → (∃ n, h'.get? d = some (seqObj "list" out.toArray n)) → Q (.ref d) { s with heap := h' }) :
    wpAny (model prog w) A (call (.builtin "sorted") [.ref l]) Q E s := by
  refine sorted_ord (ltS_swo k) hl hz (fun h2 h₁ a ha kk => ?_) fun out hs hb => ?_
  · refine sp_sortable (s := { s with heap := h₁ }) hu (by omega) (fun v hm => (hp v hm).keeps fun b o e _ => (kk b o e).2) fun o e => ?_
    have e' : some o = some (seqObj "list" vs.toArray 0) := e.symm.trans ha
    cases e'
    intro c
    exact absurd (Value.type.inj c) (by decide)
  · exact h _ _ out hs hb (fun b o e => sortedAll_old e) (Nat.le_succ _) (sortedAll_at s.heap vs out.toArray)
end
end SrtS
/-! ### as a rule of the layer -/
namespace L2
open PySem PySem.Spec PyProof.Rows
def SpA (K : PySem.W.Frag) (H : Hp) (x : V) (s : SrtS.Sp2) : Prop := ∃ t a1 a2, x = .ref t ∧ SqT K H t [.ref a1, .ref a2] ∧ SqT K H a1 (s.1.map V.int) ∧ SqT K H a2 (s.2.map V.int)
/-- sorted(xs), xs a list of stands (k says which) -/
def rSortedSp (K : PySem.W.Frag) : List V → Hp → VK → Prop := fun vs H Q => ∃ (a : Addr) (xs : List V) (k : V → SrtS.Sp2), vs = [V.ref a] ∧ SqL K H a xs ∧ (∀ x ∈ xs, SpA K H x (k x)) ∧
  ∀ ys p, SrtO.Srtd (fun x y => SrtS.ltS (k x) (k y)) ys → SrtO.Stb (fun x y => SrtS.ltS (k x) (k y)) ys xs → H p = none → Q (.ref p) (upd H p (.lst ys))
section
variable {X : Cx}
theorem spInts_vals : ∀ {l : List Int} {us : List Value}, Vals (l.map V.int) us → IntsAre us l
  | [], _, .nil => .nil
  | i :: l, _, .cons r t => by
    obtain ⟨u, e⟩ := (show ∃ t0, _ = Value.int i t0 from r)
    rw [e]
    exact .cons i u (spInts_vals t)
theorem cr_sortedSp (hu : X.A.units + 64 < cLine) : CallR X (.builtin "sorted") (rSortedSp X.K) := by
  intro pins s σ H vs us Q I r h
  obtain ⟨a, xs, k, rfl, hs, hx, q⟩ := h
  obtain ⟨its, rv, hl, hz⟩ := I.list hs
  obtain ⟨u, rfl, ru⟩ := vals1 r
  obtain rfl : u = Value.ref a := ru
  obtain ⟨e1, e2⟩ := refs_back rv fun x m => by
    obtain ⟨t, _, _, e, _⟩ := hx x m
    exact ⟨t, e⟩
  refine SrtS.sorted_sp (k := fun u => k (backV u)) (by show X.A.units + 1 + 1 < _; omega) hl.isList (by rw [← rv.length]; exact hz) (fun v hv => ?_) fun h' d out h1 h2 kp hd hn => ?_
  · obtain ⟨t, rfl⟩ := e2 v hv
    have hm : V.ref t ∈ xs := by rw [e1]; exact List.mem_map.mpr ⟨_, hv, rfl⟩
    obtain ⟨t', b1, b2, e, ht, hb1, hb2⟩ := hx _ hm
    cases e
    have ti : ∀ {b : Addr} {l : List Int}, SqT X.K H b (l.map V.int) → SrtS.TI s.heap b l := fun hb => by
      obtain ⟨its3, r3, h3, _⟩ := I.tuple hb
      exact ⟨its3.toArray, h3, by simpa using spInts_vals r3⟩
    obtain ⟨its2, r2, ⟨o, ho, hc, n, hd⟩, _⟩ := I.tuple ht
    obtain ⟨u1, u2, rfl, ri, rj⟩ := vals2 r2
    obtain rfl : u1 = Value.ref b1 := ri
    obtain rfl : u2 = Value.ref b2 := rj
    exact ⟨t, b1, b2, o, n, rfl, ho, hc, hd, ti hb1, ti hb2⟩
  · have h3 : ∀ u ∈ out, ∃ a, u = Value.ref a := fun u hu => e2 u (h2.perm.mem_iff.mp hu)
    obtain ⟨n, hn⟩ := hn
    have hb : SrtO.Stb (fun x y => SrtS.ltS (k x) (k y)) (out.map backV) xs := by
      rw [e1]
      exact SrtO.Stb.map (SrtS.ltS_swo k) backV h2
    refine ⟨.ref d, upd H d (.lst (out.map backV)), I.laid (t' := s.toks) kp hd ⟨?_, out, n, vals_back h3, hn⟩, rfl, q _ d (SrtO.srtd_map h1) hb (I.hok.fresh hd)⟩
    rw [hb.len]
    exact hz
end
end L2

set_option Elab.async false
set_option linter.all false
set_option maxRecDepth 100000
set_option maxHeartbeats 4000000
/-! list(d), list(d.keys()), {} of dicts whose keys are pairs of tuples -/
namespace K2.KQ
open PySem PySem.Spec PyProof.Rows L2 G1 G2
theorem keys_vals {P : Program} {w : World} : ∀ {kvs : List (Spot × Addr × V)} {xs : List (NestedKey × Addr × Value)}, Paired NP kvs xs → Vals (kvs.map fun e => V.ref e.2.1) (xs.map fun x => Value.ref x.2.1)
  | _, _, .nil => .nil
  | _, _, .cons r t => .cons (by show L2.RelV (V.ref _) (Value.ref _); rw [r.2.1]; rfl) (keys_vals (P := P) (w := w) t)
theorem items_keys {P : Program} {w : World} {es : Array DictEntry} {xs : List (NestedKey × Addr × Value)} {acc : Array Value} (he : es.toList = xs.map (entryOfKey (nestedKind P w)))
    (hs : acc.size = es.size) (hi : ∀ j v, acc[j]? = some v → ∃ hi : j < es.size, v = es[j].key) : acc.toList = xs.map fun x => Value.ref x.2.1 := by
  have l1 : es.size = xs.length := by rw [← Array.length_toList, he, List.length_map]
  apply List.ext_getElem?
  intro j
  rw [List.getElem?_map]
  cases hj : acc.toList[j]? with
  | none =>
    have h1 := List.getElem?_eq_none_iff.mp hj
    rw [Array.length_toList] at h1
    rw [List.getElem?_eq_none (by omega)]
    rfl
  | some v =>
    obtain ⟨hl, hv⟩ := hi j v (by rw [← Array.getElem?_toList]; exact hj)
    have e1 : es.toList[j]? = some es[j] := by rw [Array.getElem?_toList]; exact Array.getElem?_eq_getElem hl
    rw [he, List.getElem?_map] at e1
    cases hx : xs[j]? with
    | none => rw [hx] at e1; cases e1
    | some x =>
      rw [hx] at e1
      injection e1 with e1
      rw [hv, ← e1]
      rfl
section
variable {X : Cx}
def rLstN (P : Program) (w : World) : List V → Hp → VK → Prop := fun xs H Q => ∃ (d : Addr) (kvs : List (Spot × Addr × V)), xs = [.ref d] ∧ H d = some (DNx P w d kvs) ∧ ∀ p, H p = none → Q (.ref p) (upd H p (.lst (kvs.map fun e => V.ref e.2.1)))
/-- list(d) -/
theorem call_listN (hc : X.calm = true) : CallR X (.type "list") (rLstN X.prog X.w) := by
  intro pins s σ H xs us Q I r h
  obtain ⟨d, kvs, rfl, hd, q⟩ := h
  obtain ⟨u, rfl, rx⟩ := r.one
  cases rx
  obtain ⟨⟨hs, z, ys, pr, o, es, ep, ho, hx, hdt, he, hn⟩, _, _⟩ := (show ObjOk X.prog X.w H s.heap d (DNx X.prog X.w d kvs) from I.hok d _ hd)
  have l1 : es.size = ys.length := by rw [← Array.length_toList, he, List.length_map]
  have l2 : kvs.length = ys.length := Paired.length pr
  refine PySem.W.kdl_call (PySem.KdlSrc.rawDict hs) (I.ok.hd hc) ⟨o, ho, hx, hdt⟩ (by omega) fun h' tk acc' c' kp e it => ?_
  have ea := items_keys he it.1 it.2
  exact ⟨.ref s.heap.objs.size, upd H s.heap.objs.size (.lst (kvs.map fun e => V.ref e.2.1)), I.laid (t' := tk) kp (Nat.le_refl _)
    (show ObjOk X.prog X.w _ _ _ (.lst (kvs.map fun e => V.ref e.2.1)) from ⟨by rw [List.length_map]; exact z, acc'.toList, c', by rw [ea]; exact keys_vals (P := X.prog) (w := X.w) pr, by rw [Array.toArray_toList]; exact e⟩), rfl, q _ (I.hok.fresh (Nat.le_refl _))⟩
/-- {} -/
def tDNewN (P : Program) (w : World) : TE := fun _ H Q => ∀ p, H p = none → Q (.ref p) (upd H p (DNx P w p []))
theorem pe_dnewN {pos : Pos} : PE X (.Dict [] [] pos) (tDNewN X.prog X.w) := by
  refine ⟨fun pins s σ H Q I h => ?_⟩
  have hne : (s.heap.objs.size == sysModules) = false := beq_eq_false_iff_ne.mpr (Ne.symm (Nat.ne_of_lt I.big))
  refine wpAny_Dict_empty ?_
  exact ⟨.ref s.heap.objs.size, _, I.laid (t' := s.toks) (fun b o e => Heap.get?_push_of_some _ e) (Nat.le_refl _) (dn_new (Nat.zero_le _) hne .nil (Heap.DictOfH.new s.heap)), rfl, h _ (I.hok.fresh (Nat.le_refl _))⟩
end
end K2.KQ

set_option Elab.async false
set_option linter.all false
set_option maxRecDepth 100000
set_option maxHeartbeats 4000000
/-! not in a set of tuples; tuples cut and joined, also those of the top -/
namespace G5
open PySem PySem.Spec PyProof.Rows L2 Builtin
section
variable {P : Program} {w : World} {A : Around} {E : Value → Shared → Prop} {s : Shared}
variable {a : Addr} {Lz : List (Addr × List Int)} {es : Array (Int × Value)} {ep : Nat} {t : SetTable}
/-- x not in a set -/
theorem notIn_set (Rz : SetTR P w s.heap a Lz es ep t) {xz : Addr} {kz : List Int} (hxz : IsT P w s.heap kz xz) (hu : A.units + 64 < cLine) {Q : Value → Shared → Prop} (hQ : ∀ n c, (c = true ↔ kz ∈ Lz.map (·.2)) → Q (.bool (!c)) { s with toks := n }) :
    wpAny (model P w) A (compareOp .NotIn (.ref xz) (.ref a)) Q E s := by
  have hT : s.TypeIs (.ref a) "set" := by
    obtain ⟨o, ho, hex, hd⟩ := Rz.ob
    exact ⟨o, ho, hex.1⟩
  show wpAny _ _ (do return .bool (!(← contains (.ref a) (.ref xz)))) Q E s
  (refine wpAny_bind ?_; unfold contains; try with_reducible refine wpAny_holding ?_)
  refine wpAny_bind (wpAny_specialOf hT F.slot_set_contains.lookup ?_)
  show wpAny _ _ (if (some (Value.builtin "set.__contains__") == some Value.none) = true then _ else _) _ E s
  rw [if_neg (by rw [beq_builtin_none]; exact Bool.false_ne_true)]
  refine wpAny_bind (wpAny_callSpecialUnlessNone?_slot (name := Str.ofString "__contains__") hT F.slot_set_contains (wpAny_call_entry F.slot_set_contains hT entry_set_contains ?_ (F.args_set_contains_2 _ _)))
  (unfold Builtin.«frozenset.__contains__» Builtin.Frozenset.oneOther; simp only [List.isEmpty_nil, bind_assoc]; unfold Builtin.Frozenset.addrOf Builtin.Frozenset.withSetAsKey setContains)
  (refine wpAny_bind (wpAny_pure ?_); try dsimp only)
  (refine wpAny_bind (wpAny_pure ?_); try dsimp only)
  (refine wpAny_bind (wpAny_tryCatch ?_); refine wpAny_holding ?_)
  refine wpAny_bind ((TK P w).pyHash (k := kz) (by show _ < _; simp; omega) hxz ?_)
  refine wpAny_bind (look_at (s := { s with toks := s.toks + (TK P w).draws kz }) Rz hxz (by simp; omega) (fun i hm => ?_) (fun hn => ?_))
  · (refine wpAny_pure ?_; show wpAny _ _ (ret (Value.bool true)) _ _ _)
    exact wpAny_pure ⟨_, rfl, wpAny_truthy_bool (wpAny_pure (hQ _ true ⟨fun _ => hm, fun _ => rfl⟩))⟩
  · (refine wpAny_pure ?_; show wpAny _ _ (ret (Value.bool false)) _ _ _)
    exact wpAny_pure ⟨_, rfl, wpAny_truthy_bool (wpAny_pure (hQ _ false ⟨fun z => (Bool.noConfusion z), fun z => absurd z hn⟩))⟩
end
section
variable {X : Cx}
def rNotInTs (K : PySem.W.Frag) (P : Program) (w : World) : R2 := fun x y H Q => ∃ (b a : Addr) (k : List Int) (L : List (Addr × List Int)), x = .ref b ∧ y = .ref a ∧ SqT K H b (k.map V.int) ∧ H a = some (SetTO P w a L) ∧ TupsOf K H L ∧ ∀ c : Bool, (c = true ↔ k ∈ L.map (·.2)) → Q (.bl (!c)) H
theorem op_notInTs (hu : X.A.units + 64 < cLine) : OpR X (compareOp .NotIn) (rNotInTs X.K X.prog X.w) := by
  intro pins s σ H x y v u Q I rx ry h
  obtain ⟨b, a, k, L, rfl, rfl, hb, ha, hL, q⟩ := h
  cases rx
  cases ry
  obtain ⟨es, ep, t, R⟩ := set_full I ha hL
  exact notIn_set R (I.isT hb) hu fun n c hc => ⟨.bl (!c), H, I.tok n, rfl, q c hc⟩
end
end G5
namespace KZ
open PySem PySem.Spec PyProof.Rows L2 G1 G2 K2
open K2.KQ (sqt_same sqt_upd cut_to cut_from)
/-- a tuple of whole numbers, of the heap or of the top -/
abbrev TupK (K : PySem.W.Frag) (H : Hp) (a : Addr) (xs : List Int) : Prop := SqT K H a (xs.map V.int)
section
variable {K : PySem.W.Frag} {H : Hp} {Q : VK} {a b : Addr} {xs ys : List Int}
theorem catK (ha : TupK K H a xs) (hb : TupK K H b ys) (hl : xs.length + ys.length ≤ 1000) (k : ∀ (H' : Hp) (q : Addr), Same H H' → TupK K H' q (xs ++ ys) → Q (.ref q) H') : rCatA K (.ref a) (.ref b) H Q := by
  refine ⟨a, b, _, _, rfl, rfl, ha, hb, by rw [List.length_map, List.length_map, sizeLine_eq]; omega, fun e => ?_, fun _ e => ?_, fun _ _ p np => ?_⟩
  · have e' : xs = [] := List.map_eq_nil_iff.mp e
    subst e'
    exact k H b (Same.refl H) hb
  · have e' : ys = [] := List.map_eq_nil_iff.mp e
    subst e'
    exact k H a (Same.refl H) (by rw [List.append_nil]; exact ha)
  · exact k _ p (same_lay np) (SqT.of (by rw [upd_same, List.map_append]))
theorem slK_to {k : Nat} (ha : TupK K H a xs) (kq : ∀ (H' : Hp) (q : Addr), Same H H' → TupK K H' q (xs.take k) → Q (.ref q) H') : rSlA K (.ref a) none (some (k : Int)) H Q := by
  refine ⟨a, _, rfl, ha, fun e => ?_, fun _ p np => kq _ p (same_lay np) (SqT.of (by rw [upd_same, cut_to]))⟩
  refine kq H a (Same.refl H) ?_
  rw [HT.sIx_nat, List.length_map] at e
  rw [List.take_of_length_le (by omega)]
  exact ha
theorem slK_from {k : Nat} (ha : TupK K H a xs) (kq : ∀ (H' : Hp) (q : Addr), Same H H' → TupK K H' q (xs.drop k) → Q (.ref q) H') : rSlA K (.ref a) (some (k : Int)) none H Q := by
  refine ⟨a, _, rfl, ha, fun e => ?_, fun _ p np => kq _ p (same_lay np) (SqT.of (by rw [upd_same, cut_from]))⟩
  refine kq H a (Same.refl H) ?_
  rw [HT.sIx_nat, List.length_map] at e
  have : k = 0 ∨ xs.length = 0 := by omega
  rcases this with e' | e'
  · rw [e', List.drop_zero]
    exact ha
  · rw [List.drop_eq_nil_of_le (by omega)]
    rw [List.length_eq_zero_iff.mp e'] at ha
    exact ha
end
end KZ

set_option Elab.async false
set_option linter.all false
set_option maxRecDepth 100000
set_option maxHeartbeats 4000000
/-! clean -/
namespace KZ
open PySem PySem.Spec PyProof.Rows L2 G1 G2 K2 G5 LamX K3 K6
open K2.KQ (sqt_same sqt_upd ClnX rotM erase_cut sl_read nopart_read part_read)
abbrev sClr : Stmt := topS 66
abbrev NClr : List Str := ["drive", "closed", "seen", "copied", "picks", "place", "living", "rest"]
theorem scClr : FnScope NClr ["drive", "closed"] (defScope sClr) := ⟨rfl, rfl, rfl, by decide +kernel, rfl, by decide +kernel, by decide +kernel⟩
def spClr (K : PySem.W.Frag) (T : List (Addr × Str)) (CD : Addr) : Sp := fun vs H Q _ => ∃ (x a : Addr) (b p n : Nat) (ini : List RowD) (y : Str) (lv : List Nat), vs = [.ref x, .ref a] ∧ DrvAt K CD H x b p n ini y ∧ (∀ r ∈ ini ++ [((p : Int), y)], r.2 ∈ wordsL) ∧ TupK K H a (csI lv) ∧ (∀ v ∈ lv, v ≤ p) ∧ lv ≠ [] ∧ lv.length ≤ 5 ∧ Tabs T H ∧
  (∀ H' : Hp, ExtN H H' → Tabs T H' → ClnX p (ini ++ [((p : Int), y)]) [] (csI lv) none → Q .non H') ∧
  ∀ (H' : Hp) (q r h k : Addr) (lv' : List Nat) (l : Nat) (cp : Int), ExtN H H' → Tabs T H' → ClnX p (ini ++ [((p : Int), y)]) [] (csI lv) (some (csI lv', (l : Int))) → l < p → lv'.length + 1 = lv.length → (∀ v ∈ lv', v ≤ p) → H' q = some (.tup [.ref r, .ref h, .int cp, .ref k]) → TupK K H' r (csI lv') → TupK K H' h [(l : Int), (l : Int)] → Q (.ref q) H'
theorem csI_getD {lv : List Nat} {k : Nat} (h : k < lv.length) : (csI lv).getD k 0 = ((lv.getD k 0 : Nat) : Int) := by
  rw [List.getD_eq_getElem?_getD, List.getD_eq_getElem?_getD, List.getElem?_map, List.getElem?_eq_getElem h]
  rfl
theorem csI_erase (lv : List Nat) (k : Nat) : (csI lv).eraseIdx k = csI (lv.eraseIdx k) := by
  show (lv.map _).eraseIdx k = _
  rw [map_erase]
theorem pick_lt {rows : List RowD} {cs : List Int} {k : Nat} (h : PickR rows cs k) : k < cs.length := by
  obtain ⟨_, _, _, _, z, _⟩ := h
  exact plcs_lt z
theorem getD_le {lv : List Nat} {p k : Nat} (h : ∀ v ∈ lv, v ≤ p) (hk : k < lv.length) : lv.getD k 0 ≤ p := by
  rw [List.getD_eq_getElem?_getD, List.getElem?_eq_getElem hk]
  exact h _ (List.getElem_mem hk)
/-- how the loop stands -/
structure ClL (P : Program) (w : World) (K : PySem.W.Frag) (T : List (Addr × Str)) (CD : Addr) (b p n : Nat) (ini : List RowD) (y : Str) (rows : List RowD) (fl : List Nat) (x se pk : Addr) (lv0 : List Nat) (H : Hp) (lvs : List (List Nat)) (lv : List Nat) (a : Addr) (H' : Hp) : Prop where
  ext : ExtN H H'
  tab : Tabs T H'
  drv : DrvAt K CD H' x b p n ini y
  at_ : TupK K H' a (csI lv)
  nd : lvs.Nodup
  rt : ∀ l ∈ lvs, Rot p lv0.length fl l
  rt0 : Rot p lv0.length fl lv
  set : ∃ L, H' se = some (SetTO P w se L) ∧ TupsOf K H' L ∧ (∀ c, c ∈ L.map (·.2) ↔ c ∈ lvs.map csI) ∧ L.length = lvs.length
  pks : ∃ ws : List V, H' pk = some (.lst ws) ∧ ws.length = lvs.length
  fw : ∀ r, ClnX p rows (lvs.map csI) (csI lv) r → ClnX p rows [] (csI lv0) r
section
variable {P : Program} {w : World} {K : PySem.W.Frag} {mg : Str → Option Value} {base : Heap} {CD : Addr}
theorem ok_clr {f0 : Addr} {fd : FuncData} {T : List (Addr × Str)} (F : Fun K "clean" "clean" sClr f0 fd) (B : Bl mg) (hset : mg "set" = none) (M : DD P w K mg base CD) (GK : FAt P w K mg base 4 "pick" ["rows", "closed"] (spPck K T)) :
    FnOk P w K mg base CX0 5 f0 fd ["drive", "closed"] (spClr K T CD) := by
  refine F.ok scClr (fun vs H Q E h => ?_) (fun cdv A0 outer s0 H vs Q E hr h => ?_)
  · obtain ⟨x, a, b, p, n, ini, y, lv, rfl, _⟩ := h
    rfl
  obtain ⟨x, a0, b, p, n, ini, y, lv0, rfl, hd, hwd, ha0, hle0, hne0, hl5, hT, q0, q1⟩ := h
  obtain ⟨fK, dK, GK, kK, bK, gK⟩ := GK.ex
  obtain ⟨pp, gp, fp, P2, F2, B2⟩ := M.pr.ex
  obtain ⟨pp3, gp3, fp3, P3, F3, B3⟩ := M.pp.ex
  have hu := hr.units
  refine ⟨_, pss_cons (ps_set (i := 2) scClr.nd rfl (.inl rfl) (pe_callTy0 cr_set0T (by rfl) hset bSet9))
    (pss_cons (ps_set (i := 3) scClr.nd rfl (.inl rfl) pe_int)
    (pss_cons (ps_set (i := 4) scClr.nd rfl (.inl rfl) (pe_lst pa_nil))
    (pss_cons (ps_while PassesOwn.never (pt_cmpR (op_notInTs hu) (pv 1) (pv 2) (by rfl))
      (pss_cons (ps_expr (pe_addT hu (pv 2) (pa_cons (pv 1) pa_nil)))
      (pss_cons (ps_set (i := 5) scClr.nd rfl (.inl rfl) (pe_call GK hr (by rfl) gK kK bK .nil pass0 (pa_cons (pe_prop (pv 0) M.T.cl P2 F2 (hr.mono (by decide)) B2 .nil pass0 rfl) (pa_cons (pv 1) pa_nil))))
      (pss_cons (ps_set (i := 6) scClr.nd rfl (.inl rfl) (pe_ix ix_tup (pv 1) (pv 5) (fun _ _ => rfl)))
      (pss_cons (ps_set (i := 7) scClr.nd rfl (.inl rfl) (pe_op op_catA (pe_slice sl_tupA (pv 1) po_none (po_some (pv 5))) (pe_slice sl_tupA (pv 1) (po_some (pe_op op_add (pv 5) pe_int)) po_none)))
      (pss_cons (ps_aug (i := 3) scClr.nd rfl (.inl rfl) (pv 6) ip_add)
      (pss_cons (ps_expr (pe_bm PySem.F.plainAttrs_list PySem.F.slot_list_append PySem.F.type_list_append mt_append (pv 4) (pa_cons (pv 5) pa_nil)))
      (pss_cons (ps_if (pt_cmpR op_lt (pv 6) (pe_prop (pv 0) M.T.cl P3 F3 (hr.mono (by decide)) B3 .nil pass0 rfl) (nomark _))
        (pss_one (ps_ret (pe_tup (pa_cons (pv 7) (pa_cons (pe_tup (pa_cons (pv 6) (pa_cons (pv 6) pa_nil))) (pa_cons (pv 3) (pa_cons (pe_callTy call_tuple_of (by rfl) B.tup bTup (pa_cons (pv 4) pa_nil)) pa_nil))))))) pss_nil)
      (pss_one (ps_set (i := 1) scClr.nd rfl (.inl rfl) (pe_op op_catA (pv 7) (pe_tup (pa_cons (pv 6) pa_nil)))))))))))))
    (pss_one (ps_ret pe_non))))), ?_⟩
  generalize erows : ini ++ [((p : Int), y)] = rows at hwd q0 q1
  refine seq_asg (cb_read (nil_read ⟨rfl, fun se nse => ?_⟩))
  have s1 : Same H (L2.upd H se (SetTO P w se [])) := same_lay nse
  have hse : (L2.upd H se (SetTO P w se [])) se = some (SetTO P w se []) := upd_same
  show tSeq (tAsg _ _) _ _ [some (.ref x), some (.ref a0), some (.ref se), none, none, none, none, none] (L2.upd H se (SetTO P w se []))
  generalize L2.upd H se (SetTO P w se []) = H1 at s1 hse ⊢
  refine seq_asg (c_read ?_)
  refine seq_asg (lst_read (nil_read ⟨by show 0 ≤ sizeLine; decide, fun pk npk => ?_⟩))
  have s2 : Same H1 (L2.upd H1 pk (.lst [])) := same_lay npk
  have hpk : (L2.upd H1 pk (.lst [])) pk = some (.lst []) := upd_same
  show tSeq _ _ _ [some (.ref x), some (.ref a0), some (.ref se), some (.int 0), some (.ref pk), none, none, none] (L2.upd H1 pk (.lst []))
  have npk0 : H pk = none := s1.free npk
  have nps : pk ≠ se := fun z => by rw [z, hse] at npk; cases npk
  generalize L2.upd H1 pk (.lst []) = H2 at s2 hpk ⊢
  have s12 := s1.trans s2
  have hse2 := s2 _ _ hse
  have L0 : ClL P w K T CD b p n ini y rows (low p lv0) x se pk lv0 H [] lv0 a0 H2 := ⟨.of s12, hT.ext s12, hd.same s12, sqt_same ha0 s12, List.nodup_nil, fun _ z => (nomatch z), ⟨rfl, hle0, rfl⟩, ⟨[], hse2, fun _ z => (nomatch z), fun c => Iff.rfl, rfl⟩, ⟨[], hpk, rfl⟩, fun r z => z⟩
  refine seq_while9 ⟨fun m σ H' => ∃ (lvs : List (List Nat)) (lv : List Nat) (a : Addr) (cp : Int) (x5 x6 x7 : Option V), σ = [some (.ref x), some (.ref a), some (.ref se), some (.int cp), some (.ref pk), x5, x6, x7] ∧ ClL P w K T CD b p n ini y rows (low p lv0) x se pk lv0 H lvs lv a H' ∧ m + lvs.length = 40,
    ⟨40, [], lv0, a0, 0, _, _, _, rfl, L0, rfl⟩, ?_⟩
  rintro m σ H3 ⟨lvs, lv, a, cp, x5, x6, x7, rfl, W, hm⟩
  obtain ⟨L, hL1, hL2, hL3, hL4⟩ := W.set
  obtain ⟨ws, hws, hwl⟩ := W.pks
  refine test_read6 (op_read ⟨_, rfl, _, rfl, a, se, csI lv, L, rfl, rfl, W.at_, hL1, hL2, fun c hc => ⟨!c, rfl, ?_⟩⟩)
  have few := seen_few W.nd W.rt
  have h32 := pow_le hl5
  cases c with
  | true =>
    have hin : csI lv ∈ lvs.map csI := (hL3 _).mp (hc.mp rfl)
    refine iteF (ret_read (c_read ?_))
    exact q0 H3 W.ext W.tab (W.fw _ (.again hin))
  | false =>
  have hnin : csI lv ∉ lvs.map csI := fun z => by have := hc.mpr ((hL3 _).mpr z); cases this
  refine iteT ⟨fun σ' H' => ∃ m', m' < m ∧ ∃ (lvs : List (List Nat)) (lv : List Nat) (a : Addr) (cp : Int) (x5 x6 x7 : Option V), σ' = [some (.ref x), some (.ref a), some (.ref se), some (.int cp), some (.ref pk), x5, x6, x7] ∧ ClL P w K T CD b p n ini y rows (low p lv0) x se pk lv0 H lvs lv a H' ∧ m' + lvs.length = 40, fun _ _ z => z, ?_⟩
  refine ⟨_, rfl, ⟨se, L, rfl, hL1⟩, cons_read ⟨_, rfl, nil_read ⟨se, a, csI lv, L, rfl, rfl, W.at_, hL1, hL2, by omega, fun L' _ hL' => ?_⟩⟩⟩
  have hperm := hL' (fun z => hnin ((hL3 _).mp z))
  have k1 : ∀ xs : List V, SetTO P w se L ≠ .tup xs := by intro _ z; cases z
  have k2 : ∀ o v, SetTO P w se L ≠ .frz o v := by intro _ _ z; cases z
  have a4 : TupK K (L2.upd H3 se (SetTO P w se L')) a (csI lv) := sqt_upd W.at_ hL1 k1 k2
  have d4 : DrvAt K CD (L2.upd H3 se (SetTO P w se L')) x b p n ini y := drv_kind W.drv hL1 (by intro _ z; cases z) (by intro _ _ z; cases z) (by intro _ _ _ z; cases z) fun b o nb e => by rw [upd_ne nb]; exact e
  have t4 : Tabs T (L2.upd H3 se (SetTO P w se L')) := tabs_set W.tab hL1 fun b o nb e => by rw [upd_ne nb]; exact e
  have e4 : ExtN H (L2.upd H3 se (SetTO P w se L')) := fun b o e nt => by
    rw [upd_ne (ne_of_none e nse)]
    exact W.ext b o e nt
  have hws4 : (L2.upd H3 se (SetTO P w se L')) pk = some (.lst ws) := by rw [upd_ne nps]; exact hws
  have hse4 : (L2.upd H3 se (SetTO P w se L')) se = some (SetTO P w se L') := upd_same
  have tups4 : TupsOf K (L2.upd H3 se (SetTO P w se L')) L' := fun pr hpr => by
    rcases List.mem_cons.mp (hperm.mem_iff.mp hpr) with z | z
    · subst z
      exact a4
    · exact sqt_upd (hL2 pr z) hL1 k1 k2
  have hL5 : (∀ c, c ∈ L'.map (·.2) ↔ c ∈ (lvs ++ [lv]).map csI) ∧ L'.length = (lvs ++ [lv]).length := by
    refine ⟨fun c => ?_, by rw [hperm.length_eq, List.length_cons, List.length_append, hL4]; rfl⟩
    rw [(hperm.map (·.2)).mem_iff, List.map_cons, List.mem_cons, hL3, List.map_append, List.mem_append]
    constructor
    · rintro (z | z)
      · exact .inr (by rw [z]; exact List.mem_singleton.mpr rfl)
      · exact .inl z
    · rintro (z | z)
      · exact .inr z
      · exact .inl (List.mem_singleton.mp z)
  dsimp only
  show tSeq (tAsg _ _) _ _ [some (.ref x), some (.ref a), some (.ref se), some (.int cp), some (.ref pk), x5, x6, x7] (L2.upd H3 se (SetTO P w se L'))
  generalize L2.upd H3 se (SetTO P w se L') = H4 at a4 d4 t4 e4 hws4 hse4 tups4 ⊢
  obtain ⟨dd, td, hd5, hR5⟩ := id d4
  rw [erows] at hR5
  have hlen : lv.length = lv0.length := W.rt0.len
  refine seq_asg (call_read (cons_read ⟨_, rfl, x, dd, _, rfl, hd5, x, dd, _, .ref td, rfl, hd5, rfl, cons_read ⟨_, rfl, nil_read ?_⟩⟩))
  refine ⟨td, a, p, rows, ini, y, csI lv, rfl, hR5, hwd, erows.symm, a4, ?_, ?_, ?_, t4, fun H5 i e5 t5 hpk5 => ?_⟩
  · intro z
    have := List.map_eq_nil_iff.mp z
    rw [this] at hlen
    exact hne0 (List.length_eq_zero_iff.mp hlen.symm)
  · intro c hc
    obtain ⟨v, hv, rfl⟩ := List.mem_map.mp hc
    exact Int.ofNat_le.mpr (W.rt0.le v hv)
  · rw [List.length_map]
    omega
  have hil : i < lv.length := by
    have := pick_lt hpk5
    rwa [List.length_map] at this
  have kk : ∀ {b : Addr} {o : HO}, H4 b = some o → (∀ ps, o ≠ .tbl ps) → H5 b = some o := fun e n => e5 _ _ e n
  have a5 : TupK K H5 a (csI lv) := ext_tup e5 a4
  have d5 := DrvAt.extN d4 e5
  have hws5 := kk hws4 (by intro _ z; cases z)
  have hse5 := kk hse4 (by intro _ z; cases z)
  have tups5 : TupsOf K H5 L' := fun pr hpr => ext_tup e5 (tups4 pr hpr)
  have e05 := e4.trans e5
  show tSeq _ _ _ [some (.ref x), some (.ref a), some (.ref se), some (.int cp), some (.ref pk), some (nV i), x6, x7] H5
  refine seq_asg (op_read ⟨_, rfl, _, rfl, a, _, (i : Int), .int (csI lv |>.getD i 0), rfl, rfl, a5, atI_nat (by rw [List.getElem?_map, List.getElem?_eq_getElem (by rw [List.length_map]; exact hil), List.getD_eq_getElem?_getD, List.getElem?_eq_getElem (by rw [List.length_map]; exact hil)]; rfl), ?_⟩)
  refine seq_asg (op_read (sl_read ⟨_, rfl, nopart_read (part_read ⟨_, rfl, _, rfl, slK_to (k := i) a5 fun H6 q6 s6 h6 => ?_⟩)⟩))
  refine sl_read ⟨_, rfl, part_read (op_read ⟨_, rfl, _, _, rfl, rfl, ((i + 1 : Nat) : Int), rfl, nopart_read (slK_from (k := i + 1) (sqt_same a5 s6) fun H7 q7 s7 h7 => ?_)⟩)⟩
  refine catK (xs := (csI lv).take i) (ys := (csI lv).drop (i + 1)) (sqt_same h6 s7) h7 (by rw [List.length_take, List.length_drop, List.length_map]; omega) fun H8 q8 s8 h8 => ?_
  rw [erase_cut, csI_erase] at h8
  have s58 := s6.trans (s7.trans s8)
  have hws8 := s58 _ _ hws5
  refine seq_aug ⟨.int cp, rfl, _, rfl, _, _, rfl, rfl, ?_⟩
  refine ⟨_, rfl, .inl ⟨rfl, _, SqL.of hws8⟩, cons_read ⟨_, rfl, nil_read ⟨pk, ws, _, rfl, rfl, hws8, by rw [sizeLine_eq]; omega, ?_⟩⟩⟩
  have w1 : ∀ xs : List V, HO.lst ws ≠ .tup xs := by intro _ z; cases z
  have w2 : ∀ o v, HO.lst ws ≠ .frz o v := by intro _ _ z; cases z
  have d8 := d5.same s58
  have h9 : TupK K (L2.upd H8 pk (.lst (ws ++ [nV i]))) q8 (csI (lv.eraseIdx i)) := sqt_upd h8 hws8 w1 w2
  have d9 : DrvAt K CD (L2.upd H8 pk (.lst (ws ++ [nV i]))) x b p n ini y := drv_kind d8 hws8 (by intro _ z; cases z) (by intro _ _ z; cases z) (by intro _ _ _ z; cases z) fun b o nb e => by rw [upd_ne nb]; exact e
  have t9 : Tabs T (L2.upd H8 pk (.lst (ws ++ [nV i]))) := tabs_upd hws8 (t5.ext s58)
  have e9 : ExtN H (L2.upd H8 pk (.lst (ws ++ [nV i]))) := fun b o e nt => by
    rw [upd_ne (ne_of_none e npk0)]
    exact s58 _ _ (e05 b o e nt)
  have hws9 : (L2.upd H8 pk (.lst (ws ++ [nV i]))) pk = some (.lst (ws ++ [nV i])) := upd_same
  have hse9 : (L2.upd H8 pk (.lst (ws ++ [nV i]))) se = some (SetTO P w se L') := by rw [upd_ne (Ne.symm nps)]; exact s58 _ _ hse5
  have tups9 : TupsOf K (L2.upd H8 pk (.lst (ws ++ [nV i]))) L' := fun pr hpr => sqt_upd (sqt_same (tups5 pr hpr) s58) hws8 w1 w2
  dsimp only
  generalize L2.upd H8 pk (.lst (ws ++ [nV i])) = H9 at h9 d9 t9 e9 hws9 hse9 tups9 ⊢
  obtain ⟨d2, t2, hd9, _⟩ := id d9
  have hgi : (csI lv).getD i 0 = ((lv.getD i 0 : Nat) : Int) := csI_getD hil
  have hgl := getD_le W.rt0.le hil
  show tSeq (tIfS _ _ _) _ _ [some (.ref x), some (.ref a), some (.ref se), some (.int (cp + (csI lv).getD i 0)), some (.ref pk), some (nV i), some (.int ((csI lv).getD i 0)), some (.ref q8)] H9
  rw [hgi]
  refine seq_if6 (test_read6 (op_read ⟨_, rfl, _, rfl, x, d2, _, rfl, hd9, x, d2, _, .int (p : Int), rfl, hd9, rfl, _, _, rfl, rfl, _, rfl, ?_⟩))
  by_cases hp : lv.getD i 0 < p
  · rw [decide_eq_true (by omega)]
    refine iteT (ret_read (tup_read (cons_read ⟨_, rfl, cons_read (tup_read (cons_read ⟨_, rfl, cons_read ⟨_, rfl, nil_read ⟨by show 2 ≤ sizeLine; decide, fun q1' n1' => ?_⟩⟩⟩))⟩)))
    have sA : Same H9 (L2.upd H9 q1' (.tup [.int ((lv.getD i 0 : Nat) : Int), .int ((lv.getD i 0 : Nat) : Int)])) := same_lay n1'
    have hA : (L2.upd H9 q1' (.tup [.int ((lv.getD i 0 : Nat) : Int), .int ((lv.getD i 0 : Nat) : Int)])) q1' = some (.tup [.int ((lv.getD i 0 : Nat) : Int), .int ((lv.getD i 0 : Nat) : Int)]) := upd_same
    generalize L2.upd H9 q1' (.tup [.int ((lv.getD i 0 : Nat) : Int), .int ((lv.getD i 0 : Nat) : Int)]) = HA at sA hA ⊢
    refine cons_read ⟨_, rfl, cons_read (cb_read (cons_read ⟨_, rfl, nil_read ⟨pk, _, rfl, .inl ⟨SqL.of (sA _ _ hws9), fun q2 n2 => ?_⟩⟩⟩))⟩
    have sB : Same HA (L2.upd HA q2 (.tup (ws ++ [nV i]))) := same_lay n2
    generalize L2.upd HA q2 (.tup (ws ++ [nV i])) = HB at sB ⊢
    refine nil_read ⟨by show 4 ≤ sizeLine; decide, fun q3 n3 => ?_⟩
    have sC : Same HB (L2.upd HB q3 (.tup [.ref q8, .ref q1', .int (cp + ((lv.getD i 0 : Nat) : Int)), .ref q2])) := same_lay n3
    have s9C := sA.trans (sB.trans sC)
    refine q1 _ q3 q8 q1' q2 (lv.eraseIdx i) (lv.getD i 0) _ (e9.trans (.of s9C)) (t9.ext s9C) (W.fw _ ?_) hp ?_ (fun v hv => W.rt0.le v (List.mem_of_mem_eraseIdx hv)) upd_same (sqt_same h9 s9C) (SqT.of (sC _ _ (sB _ _ hA)))
    · rw [← hgi, ← csI_erase]
      exact .done hnin hpk5 (by rw [hgi]; omega)
    · rw [List.length_eraseIdx_of_lt hil]
      omega
  · rw [decide_eq_false (by omega)]
    refine iteF ?_
    have ep : lv.getD i 0 = p := by omega
    refine asg_read (op_read ⟨_, rfl, tup_read (cons_read ⟨_, rfl, nil_read ⟨by show 1 ≤ sizeLine; decide, fun q1' n1' => ?_⟩⟩)⟩)
    have sA : Same H9 (L2.upd H9 q1' (.tup [.int ((lv.getD i 0 : Nat) : Int)])) := same_lay n1'
    have hA : (L2.upd H9 q1' (.tup [.int ((lv.getD i 0 : Nat) : Int)])) q1' = some (.tup [.int ((lv.getD i 0 : Nat) : Int)]) := upd_same
    generalize L2.upd H9 q1' (.tup [.int ((lv.getD i 0 : Nat) : Int)]) = HA at sA hA ⊢
    refine catK (xs := csI (lv.eraseIdx i)) (ys := [((lv.getD i 0 : Nat) : Int)]) (sqt_same h9 sA) (SqT.of hA) (by rw [List.length_map, List.length_eraseIdx_of_lt hil]; show lv.length - 1 + 1 ≤ 1000; omega) fun HB qB sB hB => ?_
    have sAB := sA.trans sB
    have erot : csI (lv.eraseIdx i) ++ [((lv.getD i 0 : Nat) : Int)] = csI (lv.eraseIdx i ++ [p]) := by
      rw [ep]
      show _ = List.map _ _
      rw [List.map_append]
      rfl
    rw [erot] at hB
    have few2 := seen_few (p := p) (L := lv0.length) (fl := low p lv0) (lvs := lvs ++ [lv]) (by
      rw [List.nodup_append]
      refine ⟨W.nd, List.nodup_cons.mpr ⟨fun z => (nomatch z), List.nodup_nil⟩, fun u hu v hv e => ?_⟩
      rw [List.mem_singleton.mp hv] at e
      exact hnin (csI_mem.mpr (e ▸ hu))) (fun u hu => by
      rcases List.mem_append.mp hu with z | z
      · exact W.rt u z
      · rw [List.mem_singleton.mp z]
        exact W.rt0)
    rw [List.length_append] at few2
    have few3 : lvs.length + 1 ≤ 2 ^ lv0.length := few2
    refine ⟨m - 1, by omega, lvs ++ [lv], lv.eraseIdx i ++ [p], qB, cp + ((lv.getD i 0 : Nat) : Int), _, _, _, rfl, ⟨e9.trans (.of sAB), t9.ext sAB, d9.same sAB, hB, ?_, ?_, W.rt0.turn hil ep, ⟨L', sAB _ _ hse9, fun pr hpr => sqt_same (tups9 pr hpr) sAB, hL5.1, hL5.2⟩, ⟨ws ++ [nV i], sAB _ _ hws9, by rw [List.length_append, List.length_append, hwl]; rfl⟩, fun r hr => ?_⟩, by rw [List.length_append]; show m - 1 + (lvs.length + 1) = 40; omega⟩
    · rw [List.nodup_append]
      refine ⟨W.nd, List.nodup_cons.mpr ⟨fun z => (nomatch z), List.nodup_nil⟩, fun u hu v hv e => ?_⟩
      rw [List.mem_singleton.mp hv] at e
      exact hnin (csI_mem.mpr (e ▸ hu))
    · intro u hu
      rcases List.mem_append.mp hu with z | z
      · exact W.rt u z
      · rw [List.mem_singleton.mp z]
        exact W.rt0
    · refine W.fw r (.step hnin hpk5 (by rw [hgi, ep]) ?_)
      have e1 : rotM (csI lv) i = csI (lv.eraseIdx i ++ [p]) := by
        unfold rotM
        rw [csI_erase, hgi]
        exact erot
      have e2 : lvs.map csI ++ [csI lv] = (lvs ++ [lv]).map csI := by rw [List.map_append]; rfl
      rw [e1, e2]
      exact hr
end
end KZ

set_option Elab.async false
set_option linter.all false
set_option maxRecDepth 100000
set_option maxHeartbeats 4000000
/-! make_room, write_page -/
namespace KZ
open PySem PySem.Spec PyProof.Rows L2 G1 G2 K2 G5 LamX K3 K6
open K2.KQ (sqt_same sqt_upd ClnX rotM erase_cut sl_read nopart_read part_read Spot SpotAt SpotK sumS addM dieAt diesM deadM Clean Good PageX)
abbrev sMkr : Stmt := topS 67
abbrev sWrp : Stmt := topS 68
abbrev NWrp : List Str := ["drive", "stand", "room", "closed", "written", "living", "copied", "picks"]
theorem scMkr : FnScope ["drive", "stand", "closed", "filling"] ["drive", "stand"] (defScope sMkr) := ⟨rfl, rfl, rfl, by decide +kernel, rfl, by decide +kernel, by decide +kernel⟩
theorem scWrp : FnScope NWrp ["drive", "stand"] (defScope sWrp) := ⟨rfl, rfl, rfl, by decide +kernel, rfl, by decide +kernel, by decide +kernel⟩
/-- a drive, the lambdas' tables -/
structure Dv (K : PySem.W.Frag) (T : List (Addr × Str)) (CD : Addr) (H : Hp) (x b p n : Nat) (ini : List RowD) (y : Str) : Prop where
  drv : DrvAt K CD H x b p n ini y
  sz : Sz b p n
  wd : ∀ r ∈ ini ++ [((p : Int), y)], r.2 ∈ wordsL
  tb : Tabs T H
theorem Dv.same {K : PySem.W.Frag} {T : List (Addr × Str)} {CD : Addr} {H H' : Hp} {x b p n : Nat} {ini : List RowD} {y : Str} (h : Dv K T CD H x b p n ini y) (s : Same H H') : Dv K T CD H' x b p n ini y := ⟨h.drv.same s, h.sz, h.wd, h.tb.ext s⟩
theorem Dv.ext {K : PySem.W.Frag} {T : List (Addr × Str)} {CD : Addr} {H H' : Hp} {x b p n : Nat} {ini : List RowD} {y : Str} (h : Dv K T CD H x b p n ini y) (e : ExtN H H') (t : Tabs T H') : Dv K T CD H' x b p n ini y := ⟨DrvAt.extN h.drv e, h.sz, h.wd, t⟩
/-- the tuples of the top -/
structure Tops (K : PySem.W.Frag) (mg : Str → Option Value) : Prop where
  st : ∃ S a1 a2, mg "START" = some (.ref S) ∧ (∀ H, SqT K H S [.ref a1, .ref a2]) ∧ (∀ H, SqT K H a1 []) ∧ ∀ H, SqT K H a2 []
  nw : ∃ N, mg "NOTHING_WRITTEN" = some (.ref N) ∧ ∀ H, SqT K H N [.int 0, .int 0]
theorem spotk_ext {K : PySem.W.Frag} {H H' : Hp} {a : Addr} {s : Spot} (h : SpotK K H a s) (e : ExtN H H') : SpotK K H' a s := by
  obtain ⟨a1, a2, h0, h1, h2⟩ := h
  exact ⟨a1, a2, ext_tup e h0, ext_tup e h1, ext_tup e h2⟩
theorem csI_back : ∀ l : List Int, (∀ x ∈ l, 0 ≤ x) → l = csI (l.map Int.toNat)
  | [], _ => rfl
  | a :: l, h => by
    have e := csI_back l fun x hx => h x (List.mem_cons_of_mem _ hx)
    have h0 := h a (List.mem_cons_self ..)
    show a :: l = ((a.toNat : Nat) : Int) :: csI (l.map Int.toNat)
    rw [← e, Int.toNat_of_nonneg h0]
theorem good_lv {b p n : Nat} {s : Spot} (g : Good b p n s) : ∃ lv : List Nat, s.1 = csI lv ∧ (∀ v ∈ lv, v ≤ p) ∧ lv.length ≤ b - 1 := by
  refine ⟨s.1.map Int.toNat, csI_back _ fun x hx => (g.box x hx).1, fun v hv => ?_, by rw [List.length_map]; exact g.len⟩
  obtain ⟨x, hx, rfl⟩ := List.mem_map.mp hv
  have := g.box x hx
  omega
def spMkr (K : PySem.W.Frag) (T : List (Addr × Str)) (CD : Addr) : Sp := fun vs H Q _ => ∃ (x a : Addr) (b p n : Nat) (ini : List RowD) (y : Str) (s : Spot), vs = [.ref x, .ref a] ∧ Dv K T CD H x b p n ini y ∧ SpotK K H a s ∧ Good b p n s ∧
  (∀ H' : Hp, ExtN H H' → Tabs T H' → PageX b p (ini ++ [((p : Int), y)]) s none → Q .non H') ∧
  ∀ (H' : Hp) (q r h k : Addr) (c : List Int) (w l : Int) (cp : Int), ExtN H H' → Tabs T H' → PageX b p (ini ++ [((p : Int), y)]) s (some (addM p (c, [w, l]))) → c.length ≤ 5 → H' q = some (.tup [.ref r, .ref h, .int cp, .ref k]) → TupK K H' r c → TupK K H' h [w, l] → Q (.ref q) H'
section
variable {P : Program} {w : World} {K : PySem.W.Frag} {mg : Str → Option Value} {base : Heap} {CD : Addr}
theorem ok_mkr {f0 : Addr} {fd : FuncData} {T : List (Addr × Str)} (F : Fun K "make_room" "make_room" sMkr f0 fd) (B : Bl mg) (M : DD P w K mg base CD) (TP : Tops K mg) (GC : FAt P w K mg base 5 "clean" ["drive", "closed"] (spClr K T CD)) :
    FnOk P w K mg base CX0 6 f0 fd ["drive", "stand"] (spMkr K T CD) := by
  refine F.ok scMkr (fun vs H Q E h => ?_) (fun cdv A0 outer s0 H vs Q E hr h => ?_)
  · obtain ⟨x, a, b, p, n, ini, y, s, rfl, _⟩ := h
    rfl
  obtain ⟨x, a, b, p, n, ini, y, s, rfl, hD, ⟨a1, a2, h0, h1, h2⟩, hg, q0, q1⟩ := h
  obtain ⟨fC, dC, GC, kC, bC, gC⟩ := GC.ex
  obtain ⟨pp, gp, fp, P2, F2, B2⟩ := M.pb.ex
  obtain ⟨NW, gN, hN⟩ := TP.nw
  refine ⟨_, pss_cons (ps_asg (pv 1) (pg_tup rfl (pgs_cons (pg_name (i := 2) scMkr.nd rfl (.inl rfl)) (pgs_cons (pg_name (i := 3) scMkr.nd rfl (.inl rfl)) pgs_nil))))
    (pss_cons (ps_if (pt_truth (pv 3) (by intro _; rfl)) (pss_one (ps_ret (pe_tup (pa_cons (pv 2) (pa_cons (pv 3) (pa_cons pe_int (pa_cons (pe_tup pa_nil) pa_nil))))))) pss_nil)
    (pss_cons (ps_if (pt_cmpR op_gt (pe_op op_sub (pe_prop (pv 0) M.T.cl P2 F2 (hr.mono (by decide)) B2 .nil pass0 rfl) (pe_callB call_len_seq (by rfl) B.len PySem.boot_len (pa_cons (pv 2) pa_nil))) pe_int (nomark _))
      (pss_one (ps_ret (pe_tup (pa_cons (pv 2) (pa_cons (pe_glob (v := .ref NW) rfl gN rfl) (pa_cons pe_int (pa_cons (pe_tup pa_nil) pa_nil))))))) pss_nil)
    (pss_one (ps_ret (pe_call GC hr (by rfl) gC kC bC .nil pass0 (pa_cons (pv 0) (pa_cons (pv 2) pa_nil))))))), ?_⟩
  have hz := hD.sz
  have b0 := hz.b0
  have b1 := hz.b1
  have hl := hg.len
  refine ⟨_, rfl, a, _, rfl, h0, rfl, _, _, rfl, _, _, rfl, rfl, ?_⟩
  dsimp only
  show tSeq (tIfS _ _ _) _ _ [some (.ref x), some (.ref a), some (.ref a1), some (.ref a2)] H
  refine seq_if6 ⟨_, rfl, !(s.2.map V.int).isEmpty, .inr (.inl ⟨_, h2, rfl⟩), ?_⟩
  rcases hg.half with e | ⟨wl, l, e, l0, l1, l2, l3⟩
  · rw [e]
    refine iteF ?_
    refine seq_if6 (test_read6 (op_read (op_read ?_)))
    obtain ⟨dx, t, hx, hR⟩ := hD.drv
    refine ⟨_, rfl, x, dx, _, rfl, hx, x, dx, _, .int (b : Int), rfl, hx, rfl, cb_read (cons_read ⟨_, rfl, nil_read ⟨a1, _, rfl, .inr h1, _, _, rfl, rfl, c_read ⟨_, _, rfl, rfl, _, rfl, ?_⟩⟩⟩)⟩
    rw [List.length_map]
    by_cases c : s.1.length = b - 1
    · rw [decide_eq_false (by omega)]
      refine iteF (ret_read (call_read (cons_read ⟨_, rfl, cons_read ⟨_, rfl, nil_read ?_⟩⟩)))
      obtain ⟨lv, elv, hlv, hll⟩ := good_lv hg
      have hlen : lv.length = b - 1 := by rw [← c, elv, List.length_map]
      have hcl : Clean b s := ⟨e, c⟩
      refine ⟨x, a1, b, p, n, ini, y, lv, rfl, hD.drv, hD.wd, by rw [← elv]; exact h1, hlv, fun z => by rw [z] at hlen; simp at hlen; omega, by omega, hD.tb, fun H' e' t' hc => ?_, fun H' q r h k lv' l cp e' t' hc hlp hl' hle' hq hr' hh => ?_⟩
      · exact q0 H' e' t' ⟨fun z => absurd hcl z, fun _ => ⟨none, by rw [elv]; exact hc, rfl⟩⟩
      · exact q1 H' q r h k (csI lv') (l : Int) (l : Int) cp e' t' ⟨fun z => absurd hcl z, fun _ => ⟨_, by rw [elv]; exact hc, rfl⟩⟩ (by rw [List.length_map]; omega) hq hr' hh
    · rw [decide_eq_true (by omega)]
      refine iteT (ret_read (tup_read (cons_read ⟨_, rfl, cons_read (c_read (cons_read (c_read (cons_read (tup_read (nil_read ⟨by show 0 ≤ sizeLine; decide, fun q2 n2 => nil_read ⟨by show 4 ≤ sizeLine; decide, fun q3 n3 => ?_⟩⟩))))))⟩)))
      have sA : Same H (upd H q2 (.tup [])) := same_lay n2
      have sB : Same (upd H q2 (.tup [])) (upd (upd H q2 (.tup [])) q3 (.tup [.ref a1, .ref NW, .int 0, .ref q2])) := same_lay n3
      have s2 := sA.trans sB
      refine q1 _ q3 a1 NW q2 s.1 0 0 0 (.of s2) (hD.tb.ext s2) ⟨fun _ => ?_, fun z => absurd z.2 c⟩ (by omega) upd_same (sqt_same h1 s2) (hN _)
      have : s = (s.1, []) := Prod.ext rfl e
      unfold addM
      rw [e]
      rfl
  · rw [e]
    refine iteT (ret_read (tup_read (cons_read ⟨_, rfl, cons_read ⟨_, rfl, cons_read (c_read (cons_read (tup_read (nil_read ⟨by show 0 ≤ sizeLine; decide, fun q2 n2 => nil_read ⟨by show 4 ≤ sizeLine; decide, fun q3 n3 => ?_⟩⟩))))⟩⟩)))
    have sA : Same H (upd H q2 (.tup [])) := same_lay n2
    have sB : Same (upd H q2 (.tup [])) (upd (upd H q2 (.tup [])) q3 (.tup [.ref a1, .ref a2, .int 0, .ref q2])) := same_lay n3
    have s2 := sA.trans sB
    have hs : s = (s.1, [wl, l]) := Prod.ext rfl e
    refine q1 _ q3 a1 a2 q2 s.1 wl l 0 (.of s2) (hD.tb.ext s2) ⟨fun _ => by rw [← hs], fun z => absurd z.1 (by rw [e]; intro z; cases z)⟩ (by omega) upd_same (sqt_same h1 s2) (by rw [← e]; exact sqt_same h2 s2)
end
end KZ

set_option Elab.async false
set_option linter.all false
set_option maxRecDepth 100000
set_option maxHeartbeats 4000000
/-! write_page -/
namespace KZ
open PySem PySem.Spec PyProof.Rows L2 G1 G2 K2 G5 LamX K3 K6
open K2.KQ (sqt_same sqt_upd ClnX rotM erase_cut sl_read nopart_read part_read Spot SpotAt SpotK sumS addM dieAt diesM deadM Clean Good PageX add_good dead_good perm_sum erase_perm eqI_read)
theorem clnx_box {p : Nat} {rows : List RowD} {ms : List (List Int)} {c : List Int} {r : Option (List Int × Int)} (h : ClnX p rows ms c r) : (∀ x ∈ c, 0 ≤ x ∧ x ≤ (p : Int)) → ∀ c' l, r = some (c', l) → (∀ x ∈ c', 0 ≤ x ∧ x ≤ (p : Int)) ∧ 0 ≤ l ∧ l < (p : Int) ∧ c'.length + 1 = c.length ∧ c'.sum + l = c.sum := by
  induction h with
  | again => intro _ c' l e; cases e
  | @done ms c k hn hk hp =>
    intro hb c' l e
    injection e with e
    injection e with e1 e2
    subst e1 e2
    have hkl := pick_lt hk
    have hpm := erase_perm c k hkl
    have hbx := hb (c.getD k 0) (hpm.mem_iff.mp (List.mem_cons_self ..))
    have hs := perm_sum hpm
    rw [List.sum_cons] at hs
    refine ⟨fun x hx => hb x (hpm.mem_iff.mp (List.mem_cons_of_mem _ hx)), hbx.1, by omega, ?_, by omega⟩
    rw [List.length_eraseIdx_of_lt hkl]
    omega
  | @step ms c k r hn hk hp hr ih =>
    intro hb c' l e
    have hkl := pick_lt hk
    have hpm := erase_perm c k hkl
    have hs := perm_sum hpm
    rw [List.sum_cons] at hs
    have hin : ∀ x ∈ rotM c k, x ∈ c := fun x hx => by
      unfold rotM at hx
      rcases List.mem_append.mp hx with z | z
      · exact hpm.mem_iff.mp (List.mem_cons_of_mem _ z)
      · rw [List.mem_singleton.mp z]
        exact hpm.mem_iff.mp (List.mem_cons_self ..)
    obtain ⟨a1, a2, a3, a4, a5⟩ := ih (fun x hx => hb x (hin x hx)) c' l e
    have e1 : (rotM c k).length = c.length := by
      unfold rotM
      rw [List.length_append, List.length_eraseIdx_of_lt hkl]
      show c.length - 1 + 1 = _
      omega
    have e2 : (rotM c k).sum = c.sum := by
      unfold rotM
      rw [List.sum_append, List.sum_cons, List.sum_nil]
      omega
    exact ⟨a1, a2, a3, by omega, by omega⟩
theorem pagex_good {b p n : Nat} {rows : List RowD} {s s' : Spot} (hp : 2 ≤ p) (hb : 3 ≤ b) (g : Good b p n s) (hs : sumS s < (n : Int)) (h : PageX b p rows s (some s')) : Good b p n s' := by
  by_cases c : Clean b s
  · obtain ⟨o, hc, e⟩ := h.2 c
    cases o with
    | none => cases e
    | some q =>
      obtain ⟨c', l⟩ := q
      injection e with e
      rw [e]
      obtain ⟨a1, a2, a3, a4, a5⟩ := clnx_box hc g.box c' l rfl
      have hl := c.2
      refine add_good hp hb (by show c'.length ≤ b - 2; omega) a1 (.inr ⟨l, l, rfl, a2, Int.le_refl _, a3⟩) ?_
      have : sumS s = s.1.sum := by unfold sumS; rw [c.1]; simp
      unfold sumS at hs ⊢
      simp at hs ⊢
      rw [c.1] at hs
      simp at hs
      omega
  · have e := h.1 c
    injection e with e
    rw [e]
    obtain ⟨h1, h2⟩ := g.open_ hb c
    exact add_good hp hb h1 g.box h2 hs
def spWrp (K : PySem.W.Frag) (T : List (Addr × Str)) (CD : Addr) : Sp := fun vs H Q _ => ∃ (x a : Addr) (b p n : Nat) (ini : List RowD) (y : Str) (s : Spot), vs = [.ref x, .ref a] ∧ Dv K T CD H x b p n ini y ∧ SpotK K H a s ∧ Good b p n s ∧
  (∀ H' : Hp, ExtN H H' → Tabs T H' → PageX b p (ini ++ [((p : Int), y)]) s none → Q .non H') ∧
  ∀ (H' : Hp) (q r k : Addr) (s' : Spot) (cp : Int), ExtN H H' → Tabs T H' → PageX b p (ini ++ [((p : Int), y)]) s (some s') → H' q = some (.tup [.ref r, .int cp, .ref k]) → SpotK K H' r s' → Q (.ref q) H'
section
variable {P : Program} {w : World} {K : PySem.W.Frag} {mg : Str → Option Value} {base : Heap} {CD : Addr}
theorem ok_wrp {f0 : Addr} {fd : FuncData} {T : List (Addr × Str)} (F : Fun K "write_page" "write_page" sWrp f0 fd) (M : DD P w K mg base CD) (GM : FAt P w K mg base 6 "make_room" ["drive", "stand"] (spMkr K T CD)) :
    FnOk P w K mg base CX0 7 f0 fd ["drive", "stand"] (spWrp K T CD) := by
  refine F.ok scWrp (fun vs H Q E h => ?_) (fun cdv A0 outer s0 H vs Q E hr h => ?_)
  · obtain ⟨x, a, b, p, n, ini, y, s, rfl, _⟩ := h
    rfl
  obtain ⟨x, a, b, p, n, ini, y, s, rfl, hD, ha, hg, q0, q1⟩ := h
  obtain ⟨fM, dM, GM, kM, bM, gM⟩ := GM.ex
  obtain ⟨pp, gp, fp, P2, F2, B2⟩ := M.pp.ex
  refine ⟨_, pss_cons (ps_set (i := 2) scWrp.nd rfl (.inl rfl) (pe_call GM hr (by rfl) gM kM bM .nil pass0 (pa_cons (pv 0) (pa_cons (pv 1) pa_nil))))
    (pss_cons (ps_if (pt_cmpR op_isN (pv 2) pe_non (nomark _)) (pss_one (ps_ret pe_non)) pss_nil)
    (pss_cons (ps_asg (pv 2) (pg_tup rfl (pgs_cons (pg_name (i := 3) scWrp.nd rfl (.inl rfl)) (pgs_cons (pg_tup rfl (pgs_cons (pg_name (i := 4) scWrp.nd rfl (.inl rfl)) (pgs_cons (pg_name (i := 5) scWrp.nd rfl (.inl rfl)) pgs_nil))) (pgs_cons (pg_name (i := 6) scWrp.nd rfl (.inl rfl)) (pgs_cons (pg_name (i := 7) scWrp.nd rfl (.inl rfl)) pgs_nil))))))
    (pss_cons (ps_if (pt_cmpR op_eq (pe_op op_add (pv 4) pe_int) (pe_prop (pv 0) M.T.cl P2 F2 (hr.mono (by decide)) B2 .nil pass0 rfl) (nomark _))
      (pss_one (ps_ret (pe_tup (pa_cons (pe_tup (pa_cons (pe_op op_catA (pv 3) (pe_tup (pa_cons (pe_op op_add (pv 5) pe_int) pa_nil))) (pa_cons (pe_tup pa_nil) pa_nil))) (pa_cons (pv 6) (pa_cons (pv 7) pa_nil)))))) pss_nil)
    (pss_one (ps_ret (pe_tup (pa_cons (pe_tup (pa_cons (pv 3) (pa_cons (pe_tup (pa_cons (pe_op op_add (pv 4) pe_int) (pa_cons (pe_op op_add (pv 5) pe_int) pa_nil))) pa_nil))) (pa_cons (pv 6) (pa_cons (pv 7) pa_nil))))))))), ?_⟩
  refine seq_asg (call_read (cons_read ⟨_, rfl, cons_read ⟨_, rfl, nil_read ?_⟩⟩))
  refine ⟨x, a, b, p, n, ini, y, s, rfl, hD, ha, hg, fun H1 e1 t1 hP => ?_, fun H1 q r h k c wl l cp e1 t1 hP hcl hq hr1 hh => ?_⟩
  · refine seq_if6 (test_read6 (op_read ⟨_, rfl, c_read ⟨rfl, _, rfl, ?_⟩⟩))
    rw [decide_eq_true rfl]
    exact iteT (ret_read (c_read (q0 H1 e1 t1 hP)))
  · refine seq_if6 (test_read6 (op_read ⟨_, rfl, c_read ⟨rfl, _, rfl, ?_⟩⟩))
    rw [decide_eq_false (by intro z; cases z)]
    refine iteF ?_
    refine ⟨_, rfl, q, _, rfl, SqT.of hq, rfl, _, _, rfl, _, _, rfl, h, _, rfl, hh, rfl, _, _, rfl, _, _, rfl, rfl, _, _, rfl, _, _, rfl, rfl, ?_⟩
    have D1 := hD.ext e1 t1
    obtain ⟨dx, t, hx, hR⟩ := D1.drv
    dsimp only
    show tSeq (tIfS _ _ _) _ _ [some (.ref x), some (.ref a), some (.ref q), some (.ref r), some (.int wl), some (.int l), some (.int cp), some (.ref k)] H1
    refine seq_if6 (test_read6 (op_read (op_read ⟨_, rfl, c_read ⟨_, _, rfl, rfl, _, rfl, x, dx, _, rfl, hx, x, dx, _, .int (p : Int), rfl, hx, rfl, rfl, _, rfl, ?_⟩⟩)))
    rw [eqI_read]
    by_cases c2 : wl + 1 = (p : Int)
    · rw [decide_eq_true c2]
      refine iteT (ret_read (tup_read (cons_read (tup_read (cons_read (op_read ⟨_, rfl, tup_read (cons_read (op_read ⟨_, rfl, c_read ⟨_, _, rfl, rfl, nil_read ⟨by show 1 ≤ sizeLine; decide, fun q2 n2 => ?_⟩⟩⟩))⟩))))))
      have sA : Same H1 (upd H1 q2 (.tup [.int (l + 1)])) := same_lay n2
      have hA : (upd H1 q2 (.tup [.int (l + 1)])) q2 = some (.tup [.int (l + 1)]) := upd_same
      generalize upd H1 q2 (.tup [.int (l + 1)]) = HA at sA hA ⊢
      refine catK (xs := c) (ys := [l + 1]) (sqt_same hr1 sA) (SqT.of hA) (by show c.length + 1 ≤ 1000; omega) fun HB qB sB hB => ?_
      refine cons_read (tup_read (nil_read ⟨by show 0 ≤ sizeLine; decide, fun q3 n3 => ?_⟩))
      have sC : Same HB (upd HB q3 (.tup [])) := same_lay n3
      have hC : (upd HB q3 (.tup [])) q3 = some (.tup []) := upd_same
      generalize upd HB q3 (.tup []) = HC at sC hC ⊢
      refine nil_read ⟨by show 2 ≤ sizeLine; decide, fun q4 n4 => ?_⟩
      have sD : Same HC (upd HC q4 (.tup [.ref qB, .ref q3])) := same_lay n4
      have hDD : SpotK K (upd HC q4 (.tup [.ref qB, .ref q3])) q4 (addM p (c, [wl, l])) := by
        unfold addM
        rw [if_pos (show [wl, l].getD 0 0 + 1 = (p : Int) from c2)]
        exact ⟨qB, q3, SqT.of upd_same, sqt_same hB (sC.trans sD), sqt_same (SqT.of hC) sD⟩
      generalize upd HC q4 (.tup [.ref qB, .ref q3]) = HD at sD hDD ⊢
      refine cons_read ⟨_, rfl, cons_read ⟨_, rfl, nil_read ⟨by show 3 ≤ sizeLine; decide, fun q5 n5 => ?_⟩⟩⟩
      have sE : Same HD (upd HD q5 (.tup [.ref q4, .int cp, .ref k])) := same_lay n5
      have sAll := sA.trans (sB.trans (sC.trans (sD.trans sE)))
      exact q1 _ q5 q4 k _ cp (e1.trans (.of sAll)) (t1.ext sAll) hP upd_same (hDD.same sE)
    · rw [decide_eq_false c2]
      refine iteF (ret_read (tup_read (cons_read (tup_read (cons_read ⟨_, rfl, cons_read (tup_read (cons_read (op_read ⟨_, rfl, c_read ⟨_, _, rfl, rfl, cons_read (op_read ⟨_, rfl, c_read ⟨_, _, rfl, rfl, nil_read ⟨by show 2 ≤ sizeLine; decide, fun q2 n2 => ?_⟩⟩⟩)⟩⟩)))⟩)))))
      have sA : Same H1 (upd H1 q2 (.tup [.int (wl + 1), .int (l + 1)])) := same_lay n2
      have hA : (upd H1 q2 (.tup [.int (wl + 1), .int (l + 1)])) q2 = some (.tup [.int (wl + 1), .int (l + 1)]) := upd_same
      generalize upd H1 q2 (.tup [.int (wl + 1), .int (l + 1)]) = HA at sA hA ⊢
      refine nil_read ⟨by show 2 ≤ sizeLine; decide, fun q4 n4 => ?_⟩
      have sD : Same HA (upd HA q4 (.tup [.ref r, .ref q2])) := same_lay n4
      have hDD : SpotK K (upd HA q4 (.tup [.ref r, .ref q2])) q4 (addM p (c, [wl, l])) := by
        unfold addM
        rw [if_neg (show ¬ [wl, l].getD 0 0 + 1 = (p : Int) from c2)]
        exact ⟨r, q2, SqT.of upd_same, sqt_same hr1 (sA.trans sD), sqt_same (SqT.of hA) sD⟩
      generalize upd HA q4 (.tup [.ref r, .ref q2]) = HD at sD hDD ⊢
      refine cons_read ⟨_, rfl, cons_read ⟨_, rfl, nil_read ⟨by show 3 ≤ sizeLine; decide, fun q5 n5 => ?_⟩⟩⟩
      have sE : Same HD (upd HD q5 (.tup [.ref q4, .int cp, .ref k])) := same_lay n5
      have sAll := sA.trans (sD.trans sE)
      exact q1 _ q5 q4 k _ cp (e1.trans (.of sAll)) (t1.ext sAll) hP upd_same (hDD.same sE)
end
end KZ

set_option Elab.async false
set_option linter.all false
set_option maxRecDepth 100000
set_option maxHeartbeats 4000000
/-! let_die, count_living -/
namespace KZ
open PySem PySem.Spec PyProof.Rows L2 G1 G2 K2 G5 LamX K3 K6
open K2.KQ (sqt_same sqt_upd sl_read nopart_read part_read Spot SpotAt SpotK sumS addM dieAt diesM deadM Clean Good PageX diesT diesT_succ diesT_len set_cut cut2_read ifx_read and_read test_read)
abbrev sLtd : Stmt := topS 69
abbrev sCli : Stmt := topS 70
abbrev NLtd : List Str := ["stand", "closed", "filling", "stands", "place", "living"]
theorem scLtd : FnScope NLtd ["stand"] (defScope sLtd) := ⟨rfl, rfl, rfl, by decide +kernel, rfl, by decide +kernel, by decide +kernel⟩
theorem scCli : FnScope ["stand", "closed", "filling"] ["stand"] (defScope sCli) := ⟨rfl, rfl, rfl, by decide +kernel, rfl, by decide +kernel, by decide +kernel⟩
/-- a place and the stand behind a death there -/
def PlcAt (K : PySem.W.Frag) (H : Hp) (r : Addr) (d : Spot) : Prop := ∃ (i : Int) (t : Addr), H r = some (.tup [.int i, .ref t]) ∧ SpotK K H t d
theorem PlcAt.same {K : PySem.W.Frag} {H H' : Hp} {r : Addr} {d : Spot} (h : PlcAt K H r d) (s : Same H H') : PlcAt K H' r d := by
  obtain ⟨i, t, h1, h2⟩ := h
  exact ⟨i, t, s _ _ h1, h2.same s⟩
theorem PlcAt.grow {K : PySem.W.Frag} {H : Hp} {r D : Addr} {d : Spot} {xs : List V} {o : HO} (h : PlcAt K H r d) (hD : H D = some (.lst xs)) : PlcAt K (upd H D o) r d := by
  obtain ⟨i, t, h1, h2⟩ := h
  exact ⟨i, t, by rw [upd_ne (ne_of h1 hD (by intro z; cases z))]; exact h1, h2.upd hD (by intro _ z; cases z) (by intro _ _ z; cases z)⟩
abbrev PlcsAt (K : PySem.W.Frag) (H : Hp) (rs : List Addr) (ds : List Spot) : Prop := Paired (fun (r : Addr) (d : Spot) => PlcAt K H r d) rs ds
def spLtd (K : PySem.W.Frag) : Sp := fun vs H Q _ => ∃ (a : Addr) (b p n : Nat) (s : Spot), vs = [.ref a] ∧ SpotK K H a s ∧ Good b p n s ∧ b ≤ 6 ∧
  ∀ (H' : Hp) (l : Addr) (rs : List Addr), Same H H' → H l = none → H' l = some (.lst (rs.map V.ref)) → PlcsAt K H' rs (deadM s) → Q (.ref l) H'
def spCli (K : PySem.W.Frag) : Sp := fun vs H Q _ => ∃ (a : Addr) (b p n : Nat) (s : Spot), vs = [.ref a] ∧ SpotK K H a s ∧ Good b p n s ∧ Q (.int (sumS s)) H
section
variable {P : Program} {w : World} {K : PySem.W.Frag} {mg : Str → Option Value} {base : Heap} {CD : Addr}
theorem ok_cli {f0 : Addr} {fd : FuncData} (F : Fun K "count_living" "count_living" sCli f0 fd) (B : Bl mg) : FnOk P w K mg base CX0 1 f0 fd ["stand"] (spCli K) := by
  refine F.ok scCli (fun vs H Q E h => ?_) (fun cdv A0 outer s0 H vs Q E hr h => ?_)
  · obtain ⟨a, b, p, n, s, rfl, _⟩ := h
    rfl
  obtain ⟨a, b, p, n, s, rfl, ⟨a1, a2, h0, h1, h2⟩, hg, k⟩ := h
  refine ⟨_, pss_cons (ps_asg (pv 0) (pg_tup rfl (pgs_cons (pg_name (i := 1) scCli.nd rfl (.inl rfl)) (pgs_cons (pg_name (i := 2) scCli.nd rfl (.inl rfl)) pgs_nil))))
    (pss_one (ps_ret (pe_op op_add (pe_callB (cr_sumT rfl) (by rfl) B.sum bSum (pa_cons (pv 1) pa_nil)) (pe_ifExp (pt_truth (pv 2) (by intro _; rfl)) (pe_ix ix_tup (pv 2) pe_int (fun _ _ => rfl)) pe_int)))), ?_⟩
  refine ⟨_, rfl, a, _, rfl, h0, rfl, _, _, rfl, _, _, rfl, rfl, ?_⟩
  dsimp only
  refine ret_read (op_read (cb_read (cons_read ⟨_, rfl, nil_read ⟨a1, s.1, rfl, h1, ifx_read ⟨_, rfl, !(s.2.map V.int).isEmpty, .inr (.inl ⟨_, h2, rfl⟩), ?_⟩⟩⟩)))
  rcases hg.half with e | ⟨wl, l, e, l0, l1, l2, l3⟩
  · rw [e]
    refine iteF (c_read ⟨_, _, rfl, rfl, ?_⟩)
    have : sumS s = s.1.sum + 0 := by unfold sumS; rw [e]; rfl
    show Q (.int (s.1.sum + 0)) H
    rw [← this]
    exact k
  · rw [e]
    rw [e] at h2
    refine iteT (op_read ⟨_, rfl, c_read ⟨a2, _, (1 : Int), .int l, rfl, rfl, h2, rfl, _, _, rfl, rfl, ?_⟩⟩)
    have : sumS s = s.1.sum + l := by unfold sumS; rw [e]; simp
    show Q (.int (s.1.sum + l)) H
    rw [← this]
    exact k
theorem ok_ltd {f0 : Addr} {fd : FuncData} (F : Fun K "let_die" "let_die" sLtd f0 fd) (B : Bl mg) : FnOk P w K mg base CX0 1 f0 fd ["stand"] (spLtd K) := by
  refine F.ok scLtd (fun vs H Q E h => ?_) (fun cdv A0 outer s0 H vs Q E hr h => ?_)
  · obtain ⟨a, b, p, n, s, rfl, _⟩ := h
    rfl
  obtain ⟨a, b, p, n, s, rfl, ⟨a1, a2, h0, h1, h2⟩, hg, hb6, k⟩ := h
  refine ⟨_, pss_cons (ps_asg (pv 0) (pg_tup rfl (pgs_cons (pg_name (i := 1) scLtd.nd rfl (.inl rfl)) (pgs_cons (pg_name (i := 2) scLtd.nd rfl (.inl rfl)) pgs_nil))))
    (pss_cons (ps_set (i := 3) scLtd.nd rfl (.inl rfl) (pe_lst pa_nil))
    (pss_cons (ps_for PassesOwn.never rfl (pi_enumT (by rfl) B.enm (pa_cons (pv 1) pa_nil)) (pg_tup rfl (pgs_cons (pg_name (i := 4) scLtd.nd rfl (.inl rfl)) (pgs_cons (pg_name (i := 5) scLtd.nd rfl (.inl rfl)) pgs_nil)))
      (pss_one (ps_if (pt_cmpR op_gt (pv 5) pe_int (nomark _))
        (pss_one (ps_expr (pe_bm PySem.F.plainAttrs_list PySem.F.slot_list_append PySem.F.type_list_append mt_append (pv 3) (pa_cons (pe_tup (pa_cons (pv 4) (pa_cons (pe_tup (pa_cons (pe_op op_catA (pe_op op_catA (pe_slice sl_tupA (pv 1) po_none (po_some (pv 4))) (pe_tup (pa_cons (pe_op op_sub (pv 5) pe_int) pa_nil))) (pe_slice sl_tupA (pv 1) (po_some (pe_op op_add (pv 4) pe_int)) po_none)) (pa_cons (pv 2) pa_nil))) pa_nil))) pa_nil)))) pss_nil)))
    (pss_cons (ps_if (PW.pt (pw_and (pt_truth (pv 2) (by intro _; rfl)) (pw_and1 (pt_cmpR op_gt (pe_ix ix_tup (pv 2) pe_int (fun _ _ => rfl)) pe_int (nomark _)))))
      (pss_one (ps_expr (pe_bm PySem.F.plainAttrs_list PySem.F.slot_list_append PySem.F.type_list_append mt_append (pv 3) (pa_cons (pe_tup (pa_cons (pe_callB call_len_seq (by rfl) B.len PySem.boot_len (pa_cons (pv 1) pa_nil)) (pa_cons (pe_tup (pa_cons (pv 1) (pa_cons (pe_tup (pa_cons (pe_ix ix_tup (pv 2) pe_int (fun _ _ => rfl)) (pa_cons (pe_op op_sub (pe_ix ix_tup (pv 2) pe_int (fun _ _ => rfl)) pe_int) pa_nil))) pa_nil))) pa_nil))) pa_nil)))) pss_nil)
    (pss_one (ps_ret (pv 3)))))), ?_⟩
  have hl := hg.len
  refine ⟨_, rfl, a, _, rfl, h0, rfl, _, _, rfl, _, _, rfl, rfl, ?_⟩
  dsimp only
  refine seq_asg (lst_read (nil_read ⟨by show 0 ≤ sizeLine; decide, fun D nD => ?_⟩))
  have sD : Same H (upd H D (.lst [])) := same_lay nD
  have hD : (upd H D (.lst [])) D = some (.lst (([] : List Addr).map V.ref)) := upd_same
  show tSeq _ _ _ [some (.ref a), some (.ref a1), some (.ref a2), some (.ref D), none, none] (upd H D (.lst []))
  generalize upd H D (.lst []) = H1 at sD hD ⊢
  refine seq_for fun D' hD1 hD2 => ?_
  refine cons_read ⟨_, rfl, nil_read ⟨a1, _, rfl, sqt_same h1 sD, ?_⟩⟩
  refine for_enumT (K := K) (xs := s.1.map V.int) (fun i σ H' => ∃ x4 x5 rs, σ = [some (.ref a), some (.ref a1), some (.ref a2), some (.ref D), x4, x5] ∧ Same H H' ∧ H' D = some (.lst (rs.map V.ref)) ∧ PlcsAt K H' rs ((diesT s.1 i).map (dieAt s))) ⟨none, none, [], rfl, sD, hD, .nil⟩ (fun i σ H' z => ?_) ?_ ?_
  · obtain ⟨_, _, _, _, z, _⟩ := z
    exact sqt_same h1 z
  · rintro j v T1 σ H2 hj ⟨x4, x5, rs, rfl, s2, hD2', hP⟩ hT1
    have hj' : j < s.1.length := by
      have z := (List.getElem?_eq_some_iff.mp hj).1
      rwa [List.length_map] at z
    have ex : v = .int (s.1.getD j 0) := by
      rw [List.getElem?_map, List.getElem?_eq_getElem hj'] at hj
      rw [List.getD_eq_getElem?_getD, List.getElem?_eq_getElem hj']
      exact (Option.some.inj hj).symm
    subst ex
    have sT : Same H2 (upd H2 T1 (.tup [.int (j : Nat), .int (s.1.getD j 0)])) := same_lay hT1
    refine ⟨T1, _, rfl, SqT.of upd_same, rfl, _, _, rfl, _, _, rfl, rfl, ?_⟩
    generalize upd H2 T1 (.tup [.int (j : Nat), .int (s.1.getD j 0)]) = H3 at sT ⊢
    have s3 := s2.trans sT
    have hD3 := sT _ _ hD2'
    have P3 : PlcsAt K H3 rs ((diesT s.1 j).map (dieAt s)) := Paired.mapP hP fun _ _ z => z.same sT
    refine K2.KQ.one_if (test_read6 (op_read ⟨_, rfl, c_read ⟨_, _, rfl, rfl, _, rfl, ?_⟩⟩))
    by_cases c : 0 < s.1.getD j 0
    · rw [decide_eq_true c]
      have k1 := sqt_same h1 s3
      refine iteT ⟨_, rfl, .inl ⟨rfl, _, SqL.of hD3⟩, cons_read (tup_read (cons_read ⟨_, rfl, cons_read (tup_read (cons_read (op_read (op_read (sl_read ⟨_, rfl, nopart_read (part_read ⟨_, rfl, _, rfl, slK_to (k := j) k1 fun H4 q4 s4 h4 => ?_⟩)⟩)))))⟩))⟩
      refine tup_read (cons_read (op_read ⟨_, rfl, c_read ⟨_, _, rfl, rfl, nil_read ⟨by show 1 ≤ sizeLine; decide, fun q5 n5 => ?_⟩⟩⟩))
      have s5 : Same H4 (upd H4 q5 (.tup [.int (s.1.getD j 0 - 1)])) := same_lay n5
      have h5 : TupK K (upd H4 q5 (.tup [.int (s.1.getD j 0 - 1)])) q5 [s.1.getD j 0 - 1] := SqT.of upd_same
      generalize upd H4 q5 (.tup [.int (s.1.getD j 0 - 1)]) = H5 at s5 h5 ⊢
      refine catK (xs := s.1.take j) (ys := [s.1.getD j 0 - 1]) (sqt_same h4 s5) h5 (by rw [List.length_take]; simp; omega) fun H6 q6 s6 h6 => ?_
      refine sl_read ⟨_, rfl, part_read (op_read ⟨_, rfl, _, _, rfl, rfl, ((j + 1 : Nat) : Int), rfl, nopart_read (slK_from (k := j + 1) (sqt_same k1 (s4.trans (s5.trans s6))) fun H7 q7 s7 h7 => ?_)⟩)⟩
      refine catK (xs := s.1.take j ++ [s.1.getD j 0 - 1]) (ys := s.1.drop (j + 1)) (sqt_same h6 s7) h7 (by rw [List.length_append, List.length_take, List.length_drop]; simp; omega) fun H8 q8 s8 h8 => ?_
      rw [set_cut hj'] at h8
      have s38 := s4.trans (s5.trans (s6.trans (s7.trans s8)))
      refine cons_read ⟨_, rfl, nil_read ⟨by show 2 ≤ sizeLine; decide, fun q9 n9 => ?_⟩⟩
      have s9 : Same H8 (upd H8 q9 (.tup [.ref q8, .ref a2])) := same_lay n9
      have hsp : SpotK K (upd H8 q9 (.tup [.ref q8, .ref a2])) q9 (dieAt s j) := ⟨q8, a2, SqT.of upd_same, sqt_same h8 s9, sqt_same h2 (s3.trans (s38.trans s9))⟩
      generalize upd H8 q9 (.tup [.ref q8, .ref a2]) = H9 at s9 hsp ⊢
      refine nil_read ⟨by show 2 ≤ sizeLine; decide, fun qA nA => ?_⟩
      have sA : Same H9 (upd H9 qA (.tup [.int (j : Nat), .ref q9])) := same_lay nA
      have hA : PlcAt K (upd H9 qA (.tup [.int (j : Nat), .ref q9])) qA (dieAt s j) := ⟨_, q9, upd_same, hsp.same sA⟩
      generalize upd H9 qA (.tup [.int (j : Nat), .ref q9]) = HA at sA hA ⊢
      have s3A := s38.trans (s9.trans sA)
      have hDA := s3A _ _ hD3
      refine nil_read ⟨D, _, _, rfl, rfl, hDA, ?_, ?_⟩
      · have := Paired.length hP
        have := diesT_len s.1 j
        rw [List.length_map] at *
        rw [sizeLine_eq]
        omega
      refine ⟨_, _, rs ++ [qA], rfl, fun x o z => ?_, ?_, ?_⟩
      · rw [upd_ne (ne_of_none z nD)]
        exact s3A _ _ (s3 _ _ z)
      · rw [upd_same, List.map_append]
        rfl
      · rw [diesT_succ, if_pos c, List.map_append]
        exact paired_snoc (Paired.mapP P3 fun _ _ z => (z.same s3A).grow hDA) (hA.grow hDA)
    · rw [decide_eq_false c]
      refine iteF ⟨_, _, rs, rfl, s3, hD3, ?_⟩
      rw [diesT_succ, if_neg c, List.append_nil]
      exact P3
  · rintro σ H2 ⟨x4, x5, rs, rfl, s2, hD2', hP⟩
    rw [hD1]
    have elen : (s.1.map V.int).length = s.1.length := List.length_map ..
    rw [elen] at hP
    have hP : PlcsAt K H2 rs ((diesM s.1).map (dieAt s)) := hP
    have k2 := sqt_same h2 s2
    refine seq_if6 (and_read ⟨_, rfl, !(s.2.map V.int).isEmpty, .inr (.inl ⟨_, k2, rfl⟩), ?_⟩)
    rcases hg.half with e | ⟨wl, l, e, l0, l1, l2, l3⟩
    · rw [e]
      refine iteF (iteF (ret_read ⟨_, rfl, k H2 D rs s2 nD hD2' ?_⟩))
      unfold deadM
      rw [if_neg (fun z => z.1 e), List.append_nil]
      exact hP
    · rw [e]
      rw [e] at k2
      refine iteT (test_read6 (op_read (op_read ⟨_, rfl, c_read ⟨a2, _, (1 : Int), .int l, rfl, rfl, k2, rfl, c_read ⟨_, _, rfl, rfl, _, rfl, ?_⟩⟩⟩)))
      by_cases c : 0 < l
      · rw [decide_eq_true c]
        refine iteT ⟨_, rfl, .inl ⟨rfl, _, SqL.of hD2'⟩, cons_read (tup_read (cons_read (cb_read (cons_read ⟨_, rfl, nil_read ⟨a1, _, rfl, .inr (sqt_same h1 s2), cons_read (tup_read (cons_read ⟨_, rfl, cons_read (tup_read (cons_read (op_read ⟨_, rfl, c_read ⟨a2, _, (0 : Int), .int wl, rfl, rfl, k2, rfl, cons_read (op_read (op_read ⟨_, rfl, c_read ⟨a2, _, (1 : Int), .int l, rfl, rfl, k2, rfl, c_read ⟨_, _, rfl, rfl, nil_read ⟨by show 2 ≤ sizeLine; decide, fun q3 n3 => ?_⟩⟩⟩⟩))⟩⟩)))⟩))⟩⟩))))⟩
        have s3 : Same H2 (upd H2 q3 (.tup [.int wl, .int (l - 1)])) := same_lay n3
        have h3 : TupK K (upd H2 q3 (.tup [.int wl, .int (l - 1)])) q3 [wl, l - 1] := SqT.of upd_same
        generalize upd H2 q3 (.tup [.int wl, .int (l - 1)]) = H3 at s3 h3 ⊢
        refine nil_read ⟨by show 2 ≤ sizeLine; decide, fun q9 n9 => ?_⟩
        have s9 : Same H3 (upd H3 q9 (.tup [.ref a1, .ref q3])) := same_lay n9
        have hsp : SpotK K (upd H3 q9 (.tup [.ref a1, .ref q3])) q9 (s.1, [wl, l - 1]) := ⟨a1, q3, SqT.of upd_same, sqt_same h1 (s2.trans (s3.trans s9)), sqt_same h3 s9⟩
        generalize upd H3 q9 (.tup [.ref a1, .ref q3]) = H9 at s9 hsp ⊢
        refine nil_read ⟨by show 2 ≤ sizeLine; decide, fun qA nA => ?_⟩
        have hA : PlcAt K (upd H9 qA (.tup [.int ((s.1.map V.int).length : Nat), .ref q9])) qA (s.1, [wl, l - 1]) := ⟨_, q9, upd_same, hsp.same (same_lay nA)⟩
        have sA : Same H9 (upd H9 qA (.tup [.int ((s.1.map V.int).length : Nat), .ref q9])) := same_lay nA
        generalize upd H9 qA (.tup [.int ((s.1.map V.int).length : Nat), .ref q9]) = HA at sA hA ⊢
        have s2A := s3.trans (s9.trans sA)
        have hDA := s2A _ _ hD2'
        refine nil_read ⟨D, _, _, rfl, rfl, hDA, ?_, ?_⟩
        · have e1 := Paired.length hP
          have e2 := diesT_len s.1 s.1.length
          have e3 : diesM s.1 = diesT s.1 s.1.length := rfl
          rw [List.length_map, e3] at e1
          rw [List.length_map, sizeLine_eq]
          omega
        dsimp only
        refine ret_read ⟨_, rfl, k _ D (rs ++ [qA]) (fun x o z => ?_) nD ?_ ?_⟩
        · rw [upd_ne (ne_of_none z nD)]
          exact s2A _ _ (s2 _ _ z)
        · rw [upd_same, List.map_append]
          rfl
        · unfold deadM
          rw [if_pos ⟨(by rw [e]; intro z; cases z), (by rw [e]; exact c)⟩, e]
          exact paired_snoc (Paired.mapP hP fun _ _ z => (z.same s2A).grow hDA) (hA.grow hDA)
      · rw [decide_eq_false c]
        refine iteF (ret_read ⟨_, rfl, k H2 D rs s2 nD hD2' ?_⟩)
        unfold deadM
        rw [if_neg (fun z => c (by have := z.2; rw [e] at this; exact this)), List.append_nil]
        exact hP
end
end KZ

set_option Elab.async false
set_option linter.all false
set_option maxRecDepth 100000
set_option maxHeartbeats 4000000
/-! how find_stands stands -/
namespace KZ
open PySem PySem.Spec PyProof.Rows L2 G1 G2 K2 G5 LamX K3 K6
open K2.KQ (sqt_same sqt_upd Spot SpotAt SpotK sumS addM dieAt diesM deadM Clean Good PageX NextX Rch DNx KeysAt valN dead_good allM mem_all nodup_le val_not)
theorem dn_ne_code {P : Program} {w : World} {a : Addr} {kvs : List (Spot × Addr × V)} {q : Str} : DNx P w a kvs ≠ CodeO a q := fun e => by
  have e' := HO.ext.inj e
  let oc : Obj := { cls := .none, data := .fields #[Value.none, Value.str q default] }
  let h : Heap := { objs := Array.replicate (a + 1) oc }
  have hg : h.get? a = some oc := by
    unfold Heap.get?
    have z : h.objs[a]? = some oc := by
      show (Array.replicate (a + 1) oc)[a]? = some oc
      rw [Array.getElem?_replicate, if_pos (by omega)]
    rw [z]
  have hc : ∃ (oc : Obj) (vs : Array Value) (t : Tok), h.get? a = some oc ∧ oc.data = .fields vs ∧ vs[1]? = some (.str q t) := ⟨oc, _, default, hg, rfl, rfl⟩
  have z := congrFun e' h
  rw [← z] at hc
  obtain ⟨_, _, xs, _, o, es, ep, ho, _, hd, _⟩ := hc
  rw [hg] at ho
  cases ho
  cases hd
theorem tabs_dn {T : List (Addr × Str)} {P : Program} {w : World} {H H' : Hp} {a : Addr} {kvs : List (Spot × Addr × V)} (t : Tabs T H) (ha : H a = some (DNx P w a kvs)) (k : ∀ b u, b ≠ a → H b = some u → H' b = some u) : Tabs T H' := fun p hp => by
  obtain ⟨ps, e1, e2, e3⟩ := t p hp
  refine ⟨ps, k _ _ (ne_of e1 ha (by intro z; cases z)) e1, e2, fun pos cv hc => ?_⟩
  obtain ⟨c, f1, f2⟩ := e3 pos cv hc
  refine ⟨c, f1, k _ _ (fun z => ?_) f2⟩
  subst z
  rw [ha] at f2
  exact dn_ne_code (Option.some.inj f2)
theorem next_good {b p n : Nat} {rows : List RowD} {fl : Bool} {s s' : Spot} (hp : 2 ≤ p) (hb : 3 ≤ b) (g : Good b p n s) (h : NextX b p n rows fl s (some s')) : Good b p n s' := by
  rcases h with ⟨d, hd, h⟩ | ⟨hs, h⟩ | ⟨_, d, hd, e⟩
  · obtain ⟨a1, a2, _⟩ := dead_good g hd
    exact pagex_good hp hb a1 a2 h
  · exact pagex_good hp hb g hs h
  · injection e with e
    rw [e]
    exact (dead_good g hd).1
/-- the stands that were found -/
def kvF (fs : List (Spot × Addr)) : List (Spot × Addr × V) := fs.map fun e => (e.1, e.2, V.bl true)
theorem kvF_keys (fs : List (Spot × Addr)) : (kvF fs).map (·.1) = fs.map (·.1) := by
  unfold kvF
  rw [List.map_map]
  rfl
theorem kvF_refs (fs : List (Spot × Addr)) : (kvF fs).map (fun e => V.ref e.2.1) = fs.map fun e => V.ref e.2 := by
  unfold kvF
  rw [List.map_map]
  rfl
theorem kvF_snoc (fs : List (Spot × Addr)) (s : Spot) (a : Addr) : kvF fs ++ [(s, a, V.bl true)] = kvF (fs ++ [(s, a)]) := by
  unfold kvF
  rw [List.map_append]
  rfl
theorem val_isSome {s : Spot} : ∀ {kvs : List (Spot × Addr × V)}, (valN kvs s).isSome = decide (s ∈ kvs.map (·.1))
  | [] => rfl
  | e :: kvs => by
    have ih := val_isSome (s := s) (kvs := kvs)
    unfold valN at ih ⊢
    rw [List.find?_cons, List.map_cons]
    by_cases c : e.1 = s
    · rw [decide_eq_true c, decide_eq_true (by rw [c]; exact List.mem_cons_self ..)]
      rfl
    · rw [decide_eq_false c]
      have : (s ∈ e.1 :: kvs.map (·.1)) ↔ s ∈ kvs.map (·.1) := ⟨fun h => (List.mem_cons.mp h).elim (fun z => absurd z.symm c) id, List.mem_cons_of_mem _⟩
      rw [decide_eq_decide.mpr this]
      exact ih
theorem val_last {s : Spot} {a : Addr} {v : V} : ∀ {kvs : List (Spot × Addr × V)}, s ∉ kvs.map (·.1) → valN (kvs ++ [(s, a, v)]) s = some v
  | [], _ => by
    show valN [(s, a, v)] s = some v
    unfold valN
    rw [List.find?_cons, decide_eq_true rfl]
    rfl
  | e :: kvs, h => by
    have ih := val_last (s := s) (a := a) (v := v) (kvs := kvs) fun z => h (List.mem_cons_of_mem _ z)
    unfold valN at ih ⊢
    rw [List.cons_append, List.find?_cons, decide_eq_false (fun z => h (by rw [← z]; exact List.mem_cons_self ..))]
    exact ih
/-- a list of stands -/
structure LsAt (K : PySem.W.Frag) (H : Hp) (l : Addr) (es : List (Spot × Addr)) : Prop where
  l : H l = some (.lst (es.map fun e => V.ref e.2))
  sp : ∀ e ∈ es, SpotK K H e.2 e.1
theorem LsAt.ext {K : PySem.W.Frag} {H H' : Hp} {l : Addr} {es : List (Spot × Addr)} (h : LsAt K H l es) (e : ExtN H H') : LsAt K H' l es := ⟨e _ _ h.l (by intro _ z; cases z), fun x hx => spotk_ext (h.sp x hx) e⟩
section
variable {P : Program} {w : World} {K : PySem.W.Frag} {T : List (Addr × Str)} {CD : Addr} {b p n : Nat} {ini : List RowD} {y : Str} {rows : List RowD} {fl : Bool} {x D Kf Kg Wl : Addr} {H0 H H' : Hp} {u o : HO} {fs ws : List (Spot × Addr)} {gs : List (Spot × Addr × V)}
theorem LsAt.touch {l : Addr} {es : List (Spot × Addr)} (h : LsAt K H l es) (hD : H D = some u) (k1 : ∀ xs, u ≠ .tup xs) (k2 : ∀ o v, u ≠ .frz o v) (n : D ≠ l) : LsAt K (upd H D o) l es :=
  ⟨by rw [upd_ne (Ne.symm n)]; exact h.l, fun x hx => (h.sp x hx).upd hD k1 k2⟩
theorem LsAt.snoc {l : Addr} {es : List (Spot × Addr)} {s : Spot} {a : Addr} (h : LsAt K H l es) (ha : SpotK K H a s) : LsAt K (upd H l (.lst ((es.map fun e => V.ref e.2) ++ [.ref a]))) l (es ++ [(s, a)]) := by
  have k1 : ∀ xs, HO.lst (es.map fun e => V.ref e.2) ≠ .tup xs := by intro _ z; cases z
  have k2 : ∀ o v, HO.lst (es.map fun e => V.ref e.2) ≠ .frz o v := by intro _ _ z; cases z
  refine ⟨by rw [upd_same, List.map_append]; rfl, fun e he => ?_⟩
  rcases List.mem_append.mp he with z | z
  · exact (h.sp e z).upd h.l k1 k2
  · rw [List.mem_singleton.mp z]
    exact ha.upd h.l k1 k2
theorem keys_touch {kvs : List (Spot × Addr × V)} (h : KeysAt K H kvs) (hD : H D = some u) (k1 : ∀ xs, u ≠ .tup xs) (k2 : ∀ o v, u ≠ .frz o v) : KeysAt K (upd H D o) kvs := fun e he => (h e he).upd hD k1 k2
theorem Dv.touch (h : Dv K T CD H x b p n ini y) (hD : H D = some u) (k1 : ∀ xs, u ≠ .tup xs) (k2 : ∀ o v, u ≠ .frz o v) (k3 : ∀ C dx fs, u ≠ .ins C dx fs) (t : Tabs T (upd H D o)) : Dv K T CD (upd H D o) x b p n ini y :=
  ⟨drv_kind h.drv hD k1 k2 k3 fun c e nb z => by rw [upd_ne nb]; exact z, h.sz, h.wd, t⟩
theorem ext_touch (e : ExtN H0 H) (nw : NwN H0 D) : ExtN H0 (upd H D o) := fun c q h nt => by
  rw [upd_ne (fun z => by subst z; obtain ⟨ps, e⟩ := nw _ h; exact nt ps e)]
  exact e c q h nt
theorem nw_of (e : ExtN H0 H) (h : H D = none) : NwN H0 D := fun q hq => by
  refine Classical.byContradiction fun z => ?_
  have := e D q hq fun ps e => z ⟨ps, e⟩
  rw [h] at this
  cases this
/-- the three collections -/
structure FdS (P : Program) (w : World) (K : PySem.W.Frag) (T : List (Addr × Str)) (CD : Addr) (b p n : Nat) (ini : List RowD) (y : Str) (rows : List RowD) (fl : Bool) (x Kf Kg Wl : Addr) (H0 : Hp) (fs : List (Spot × Addr)) (gs : List (Spot × Addr × V)) (ws : List (Spot × Addr)) (H : Hp) : Prop where
  ext : ExtN H0 H
  dv : Dv K T CD H x b p n ini y
  kf : H Kf = some (DNx P w Kf (kvF fs))
  keyf : KeysAt K H (kvF fs)
  kg : H Kg = some (DNx P w Kg gs)
  keyg : KeysAt K H gs
  wl : LsAt K H Wl ws
  ndf : (fs.map (·.1)).Nodup
  ndg : (gs.map (·.1)).Nodup
  gdf : ∀ e ∈ fs, Good b p n e.1
  gdg : ∀ e ∈ gs, Good b p n e.1
  rch : ∀ e ∈ fs, Rch b p n rows fl e.1
  st : ([], []) ∈ fs.map (·.1)
  win : ∀ e ∈ ws, e.1 ∈ fs.map (·.1)
  nf : NwN H0 Kf
  ng : NwN H0 Kg
  nl : NwN H0 Wl
  fg : Kf ≠ Kg
theorem FdS.step (S : FdS P w K T CD b p n ini y rows fl x Kf Kg Wl H0 fs gs ws H) (e : ExtN H H') (t : Tabs T H') : FdS P w K T CD b p n ini y rows fl x Kf Kg Wl H0 fs gs ws H' :=
  ⟨S.ext.trans e, S.dv.ext e t, e _ _ S.kf (by intro _ z; cases z), fun q hq => spotk_ext (S.keyf q hq) e, e _ _ S.kg (by intro _ z; cases z), fun q hq => spotk_ext (S.keyg q hq) e, S.wl.ext e, S.ndf, S.ndg, S.gdf, S.gdg, S.rch, S.st, S.win, S.nf, S.ng, S.nl, S.fg⟩
theorem FdS.few (hb : 3 ≤ b) (hU : (allM b p).length ≤ 5000) (S : FdS P w K T CD b p n ini y rows fl x Kf Kg Wl H0 fs gs ws H) : fs.length ≤ 5000 ∧ gs.length ≤ 5000 := by
  have h1 := nodup_le _ _ S.ndf fun s hs => by
    obtain ⟨e, he, rfl⟩ := List.mem_map.mp hs
    exact mem_all hb (S.gdf e he)
  have h2 := nodup_le _ _ S.ndg fun s hs => by
    obtain ⟨e, he, rfl⟩ := List.mem_map.mp hs
    exact mem_all hb (S.gdg e he)
  rw [List.length_map] at h1 h2
  omega
theorem lst_dn {xs : List V} {kvs : List (Spot × Addr × V)} (h : H D = some (.lst xs)) (h' : H Kf = some (DNx P w Kf kvs)) : D ≠ Kf := ne_of h h' (by intro z; cases z)
/-- another list changes -/
theorem FdS.list (S : FdS P w K T CD b p n ini y rows fl x Kf Kg Wl H0 fs gs ws H) {xs : List V} {o : HO} (hD : H D = some (.lst xs)) (nw : NwN H0 D) (nW : D ≠ Wl) : FdS P w K T CD b p n ini y rows fl x Kf Kg Wl H0 fs gs ws (upd H D o) := by
  have k1 : ∀ ys, HO.lst xs ≠ .tup ys := by intro _ z; cases z
  have k2 : ∀ o v, HO.lst xs ≠ .frz o v := by intro _ _ z; cases z
  have t := tabs_upd (o := o) hD S.dv.tb
  exact ⟨ext_touch S.ext nw, S.dv.touch hD k1 k2 (by intro _ _ _ z; cases z) t, by rw [upd_ne (Ne.symm (lst_dn hD S.kf))]; exact S.kf, keys_touch S.keyf hD k1 k2, by rw [upd_ne (Ne.symm (lst_dn hD S.kg))]; exact S.kg, keys_touch S.keyg hD k1 k2, S.wl.touch hD k1 k2 nW, S.ndf, S.ndg, S.gdf, S.gdg, S.rch, S.st, S.win, S.nf, S.ng, S.nl, S.fg⟩
/-- the waiting ones change -/
theorem FdS.wait (S : FdS P w K T CD b p n ini y rows fl x Kf Kg Wl H0 fs gs ws H) {ws' : List (Spot × Addr)} (hw : ∀ e ∈ ws', SpotK K H e.2 e.1) (hin : ∀ e ∈ ws', e.1 ∈ fs.map (·.1)) : FdS P w K T CD b p n ini y rows fl x Kf Kg Wl H0 fs gs ws' (upd H Wl (.lst (ws'.map fun e => V.ref e.2))) := by
  have hD := S.wl.l
  have k1 : ∀ ys, HO.lst (ws.map fun e => V.ref e.2) ≠ .tup ys := by intro _ z; cases z
  have k2 : ∀ o v, HO.lst (ws.map fun e => V.ref e.2) ≠ .frz o v := by intro _ _ z; cases z
  have t := tabs_upd (o := .lst (ws'.map fun e => V.ref e.2)) hD S.dv.tb
  exact ⟨ext_touch S.ext S.nl, S.dv.touch hD k1 k2 (by intro _ _ _ z; cases z) t, by rw [upd_ne (Ne.symm (lst_dn hD S.kf))]; exact S.kf, keys_touch S.keyf hD k1 k2, by rw [upd_ne (Ne.symm (lst_dn hD S.kg))]; exact S.kg, keys_touch S.keyg hD k1 k2, ⟨upd_same, fun e he => (hw e he).upd hD k1 k2⟩, S.ndf, S.ndg, S.gdf, S.gdg, S.rch, S.st, hin, S.nf, S.ng, S.nl, S.fg⟩
/-- one more is found -/
theorem FdS.found (S : FdS P w K T CD b p n ini y rows fl x Kf Kg Wl H0 fs gs ws H) {s : Spot} {a : Addr} (ha : SpotK K H a s) (hn : s ∉ fs.map (·.1)) (hg : Good b p n s) (hr : Rch b p n rows fl s) : FdS P w K T CD b p n ini y rows fl x Kf Kg Wl H0 (fs ++ [(s, a)]) gs ws (upd H Kf (DNx P w Kf (kvF fs ++ [(s, a, V.bl true)]))) := by
  have hD := S.kf
  have k1 : ∀ ys, DNx P w Kf (kvF fs) ≠ .tup ys := by intro _ z; cases z
  have k2 : ∀ o v, DNx P w Kf (kvF fs) ≠ .frz o v := by intro _ _ z; cases z
  have t : Tabs T (upd H Kf (DNx P w Kf (kvF fs ++ [(s, a, V.bl true)]))) := tabs_dn S.dv.tb hD fun c q nb z => by rw [upd_ne nb]; exact z
  refine ⟨ext_touch S.ext S.nf, S.dv.touch hD k1 k2 (by intro _ _ _ z; cases z) t, by rw [upd_same, kvF_snoc], fun e he => ?_, by rw [upd_ne (Ne.symm S.fg)]; exact S.kg, keys_touch S.keyg hD k1 k2, S.wl.touch hD k1 k2 (Ne.symm (lst_dn S.wl.l S.kf)), ?_, S.ndg, fun e he => ?_, S.gdg, fun e he => ?_, ?_, fun e he => ?_, S.nf, S.ng, S.nl, S.fg⟩
  · rw [← kvF_snoc] at he
    rcases List.mem_append.mp he with z | z
    · exact (S.keyf e z).upd hD k1 k2
    · rw [List.mem_singleton.mp z]
      exact ha.upd hD k1 k2
  · rw [List.map_append, List.nodup_append]
    refine ⟨S.ndf, List.nodup_cons.mpr ⟨fun z => (nomatch z), List.nodup_nil⟩, fun c hc d hd e => ?_⟩
    rw [List.mem_singleton.mp hd] at e
    have e : c = s := e
    rw [e] at hc
    exact hn hc
  · rcases List.mem_append.mp he with z | z
    · exact S.gdf e z
    · rw [List.mem_singleton.mp z]
      exact hg
  · rcases List.mem_append.mp he with z | z
    · exact S.rch e z
    · rw [List.mem_singleton.mp z]
      exact hr
  · rw [List.map_append]
    exact List.mem_append_left _ S.st
  · rw [List.map_append]
    exact List.mem_append_left _ (S.win e he)
/-- one more is grown -/
theorem FdS.grown (S : FdS P w K T CD b p n ini y rows fl x Kf Kg Wl H0 fs gs ws H) {s : Spot} {a : Addr} {v : V} (ha : SpotK K H a s) (hn : s ∉ gs.map (·.1)) (hg : Good b p n s) : FdS P w K T CD b p n ini y rows fl x Kf Kg Wl H0 fs (gs ++ [(s, a, v)]) ws (upd H Kg (DNx P w Kg (gs ++ [(s, a, v)]))) := by
  have hD := S.kg
  have k1 : ∀ ys, DNx P w Kg gs ≠ .tup ys := by intro _ z; cases z
  have k2 : ∀ o v, DNx P w Kg gs ≠ .frz o v := by intro _ _ z; cases z
  have t : Tabs T (upd H Kg (DNx P w Kg (gs ++ [(s, a, v)]))) := tabs_dn S.dv.tb hD fun c q nb z => by rw [upd_ne nb]; exact z
  refine ⟨ext_touch S.ext S.ng, S.dv.touch hD k1 k2 (by intro _ _ _ z; cases z) t, by rw [upd_ne S.fg]; exact S.kf, keys_touch S.keyf hD k1 k2, upd_same, fun e he => ?_, S.wl.touch hD k1 k2 (Ne.symm (lst_dn S.wl.l S.kg)), S.ndf, ?_, S.gdf, fun e he => ?_, S.rch, S.st, S.win, S.nf, S.ng, S.nl, S.fg⟩
  · rcases List.mem_append.mp he with z | z
    · exact (S.keyg e z).upd hD k1 k2
    · rw [List.mem_singleton.mp z]
      exact ha.upd hD k1 k2
  · rw [List.map_append, List.nodup_append]
    refine ⟨S.ndg, List.nodup_cons.mpr ⟨fun z => (nomatch z), List.nodup_nil⟩, fun c hc d hd e => ?_⟩
    rw [List.mem_singleton.mp hd] at e
    have e : c = s := e
    rw [e] at hc
    exact hn hc
  · rcases List.mem_append.mp he with z | z
    · exact S.gdg e z
    · rw [List.mem_singleton.mp z]
      exact hg
end
end KZ

set_option Elab.async false
set_option linter.all false
set_option maxRecDepth 100000
set_option maxHeartbeats 8000000
/-! find_stands -/
namespace KZ
open PySem PySem.Spec PyProof.Rows L2 G1 G2 K2 G5 LamX K3 K6
open K2.KQ (sqt_same sqt_upd sl_read nopart_read part_read Spot SpotAt SpotK sumS addM dieAt diesM deadM Clean Good PageX NextX Rch cut2_read ifx_read and_read test_read seq_while DNx KeysAt valN pe_dispN pe_dnewN op_notInN pe_getN set_N call_listN tGetN dead_good val_not)
abbrev sFnd : Stmt := topS 71
abbrev NFnd : List Str := ["drive", "trims", "found", "grown", "waiting", "stand", "ground", "grounds", "nexts", "after", "place"]
theorem scFnd : FnScope NFnd ["drive", "trims"] (defScope sFnd) := ⟨rfl, rfl, rfl, by decide +kernel, rfl, by decide +kernel, by decide +kernel⟩
/-- what was found so far -/
structure FdD (b p n : Nat) (rows : List RowD) (fl : Bool) (fs : List (Spot × Addr)) (gs : List (Spot × Addr × V)) (ws : List (Spot × Addr)) : Prop where
  done : ∀ s ∈ fs.map (·.1), (∃ e ∈ ws, e.1 = s) ∨ ∀ s', NextX b p n rows fl s (some s') → s' ∈ fs.map (·.1)
  grw : ∀ e ∈ gs, ∀ s', PageX b p rows e.1 (some s') → s' ∈ fs.map (·.1)
  few : ws.length ≤ fs.length
def spFnd (K : PySem.W.Frag) (T : List (Addr × Str)) (CD : Addr) : Sp := fun vs H Q _ => ∃ (x : Addr) (fl : Bool) (b p n : Nat) (ini : List RowD) (y : Str), vs = [.ref x, .bl fl] ∧ Dv K T CD H x b p n ini y ∧ Shp b p n ∧
  ∀ (H' : Hp) (l : Addr) (fs : List (Spot × Addr)), ExtN H H' → Tabs T H' → H' l = some (.lst (fs.map fun e => V.ref e.2)) → (∀ e ∈ fs, SpotK K H' e.2 e.1) → (fs.map (·.1)).Nodup → (∀ s, s ∈ fs.map (·.1) ↔ Rch b p n (ini ++ [((p : Int), y)]) fl s) → fs.length ≤ 5000 → Q (.ref l) H'
theorem for_readZ {wi : TI} {g : TG} {tb : TS} {D : Ends} {σ : L2.St} {H : Hp} (h : ∀ D' : Ends, D'.nx = D.nx → D'.rt = D.rt → wi σ H fun J H1 => ∃ W : Nat → Nat → L2.St → Hp → Prop, (∃ m, W 0 m σ H1) ∧ ∀ i m σ H, W i m σ H →
      (J.stop i H ∧ D'.nx σ H) ∨ (J.go i H ∧ ∃ N : L2.St → Hp → Prop, (∀ σ' H', N σ' H' → ∃ m', m' < m ∧ W (i + 1) m' σ' H') ∧ ∀ x H', J.yld i H x H' → g x σ H' fun σ2 H2 => tb { D' with nx := N, ct := N, bk := D'.nx } σ2 H2)) : tFor wi g tb D σ H := h D rfl rfl
section
variable {P : Program} {w : World} {K : PySem.W.Frag} {mg : Str → Option Value} {base : Heap} {CD : Addr}
theorem ok_fnd {f0 : Addr} {fd : FuncData} {T : List (Addr × Str)} (F : Fun K "find_stands" "find_stands" sFnd f0 fd) (B : Bl mg) (bl : mg "list" = none) (M : DD P w K mg base CD) (TP : Tops K mg) (GL : FAt P w K mg base 1 "let_die" ["stand"] (spLtd K)) (GC : FAt P w K mg base 1 "count_living" ["stand"] (spCli K)) (GW : FAt P w K mg base 7 "write_page" ["drive", "stand"] (spWrp K T CD)) :
    FnOk P w K mg base CX0 8 f0 fd ["drive", "trims"] (spFnd K T CD) := by
  refine F.ok scFnd (fun vs H Q E h => ?_) (fun cdv A0 outer s0 H vs Q E hr h => ?_)
  · obtain ⟨x, fl, b, p, n, ini, y, rfl, _⟩ := h
    rfl
  obtain ⟨x, fl, b, p, n, ini, y, rfl, hD, hshp, k⟩ := h
  obtain ⟨fL, dL, GL, kL, bL, gL⟩ := GL.ex
  obtain ⟨fC, dC, GC, kC, bC, gC⟩ := GC.ex
  obtain ⟨fW, dW, GW, kW, bW, gW⟩ := GW.ex
  obtain ⟨pp, gp, fp, P2, F2, B2⟩ := M.pn.ex
  obtain ⟨ST, st1, st2, gS, hS0, hS1, hS2⟩ := TP.st
  have hu := hr.units
  refine ⟨_, pss_cons (ps_set (i := 2) scFnd.nd rfl (.inl rfl) (pe_dispN hu (pe_glob (v := .ref ST) rfl gS rfl) pe_bl))
    (pss_cons (ps_set (i := 3) scFnd.nd rfl (.inl rfl) pe_dnewN)
    (pss_cons (ps_set (i := 4) scFnd.nd rfl (.inl rfl) (pe_lst (pa_cons (pe_glob (v := .ref ST) rfl gS rfl) pa_nil)))
    (pss_cons (ps_while PassesOwn.never (pt_truth (pv 4) (by intro _; rfl))
      (pss_cons (ps_set (i := 5) scFnd.nd rfl (.inl rfl) (pe_bm0 PySem.F.plainAttrs_list PySem.F.slot_list_pop PySem.F.type_list_pop mt_pop (pv 4)))
      (pss_cons (ps_setLc (i := 7) (own := [("place", 10), ("ground", 6)]) (g := gTup K 2 (gCons (gName 10) (gCons (gName 6) gNil))) (tt := tYes) (te := tVar 6) rfl scFnd.nd rfl rfl (by rfl) (pi_list (pe_call GL (hr.mono (by decide)) (by rfl) gL kL bL .nil pass0 (pa_cons (pv 5) pa_nil))) (blkOk_by (own := [("place", 10), ("ground", 6)]) (N := NFnd) (sc := defScope sFnd) (by decide +kernel))
          (fun _ _ _ _ _ => pg_tup rfl (pgs_cons (pg_name (i := 10) scFnd.nd rfl (Or.inl rfl)) (pgs_cons (pg_name (i := 6) scFnd.nd rfl (Or.inl rfl)) pgs_nil))) (fun _ _ _ _ _ => pts_nil) (fun _ _ _ _ _ => pv 6))
      (C8.pss_cut (ps_set (i := 8) scFnd.nd rfl (.inl rfl) (pe_ifExp (pt_val (pv 1)) (pe_callTy call_list_of (by rfl) bl K2.KQ.bList (pa_cons (pv 7) pa_nil)) (pe_lst pa_nil)))
      (C8.pss_cut (ps_if (pt_cmpR op_lt (pe_call GC (hr.mono (by decide)) (by rfl) gC kC bC .nil pass0 (pa_cons (pv 5) pa_nil)) (pe_prop (pv 0) M.T.cl P2 F2 (hr.mono (by decide)) B2 .nil pass0 rfl) (nomark _))
          (pss_one (ps_expr (pe_bm PySem.F.plainAttrs_list PySem.F.slot_list_append PySem.F.type_list_append mt_append (pv 7) (pa_cons (pv 5) pa_nil)))) pss_nil)
      (pss_cons (ps_for PassesOwn.never rfl (pi_list (pv 7)) (pg_name (i := 6) scFnd.nd rfl (.inl rfl))
          (pss_one (ps_if (pt_cmpR (op_notInN hu) (pv 6) (pv 3) (by rfl))
            (pss_cons (ps_asg (pe_call GW hr (by rfl) gW kW bW .nil pass0 (pa_cons (pv 0) (pa_cons (pv 6) pa_nil))) (pg_sub (pv 3) (pv 6) (set_N hu)))
            (pss_one (ps_expr (pe_bm PySem.F.plainAttrs_list PySem.F.slot_list_extend PySem.F.type_list_extend mt_extend (pv 8) (pa_cons (pe_ifExp (pt_cmpR op_notN (pe_getN hu (pv 3) (pv 6) (fun _ _ => rfl)) pe_non (nomark _)) (pe_lst (pa_cons (pe_ix ix_tup (pe_getN hu (pv 3) (pv 6) (fun _ _ => rfl)) pe_int (fun _ _ => rfl)) pa_nil)) (pe_lst pa_nil)) pa_nil))))) pss_nil)))
      (pss_one (ps_for PassesOwn.never rfl (pi_list (pv 8)) (pg_name (i := 9) scFnd.nd rfl (.inl rfl))
          (pss_one (ps_if (pt_cmpR (op_notInN hu) (pv 9) (pv 2) (by rfl))
            (pss_cons (ps_asg pe_bl (pg_sub (pv 2) (pv 9) (set_N hu)))
            (pss_one (ps_expr (pe_bm PySem.F.plainAttrs_list PySem.F.slot_list_append PySem.F.type_list_append mt_append (pv 4) (pa_cons (pv 9) pa_nil))))) pss_nil))))))))))
    (pss_one (ps_ret (pe_callTy (call_listN rfl) (by rfl) bl K2.KQ.bList (pa_cons (pv 2) pa_nil))))))), ?_⟩
  generalize erows : ini ++ [((p : Int), y)] = rows at k
  have hz := hD.sz
  have b0 := hz.b0
  have b1 := hz.b1
  have p0 := hz.p0
  have hU := K2.KQ.all_few (b, p) hshp.1
  dsimp only at hU
  have hST : ∀ H : Hp, SpotK K H ST ([], []) := fun H => ⟨st1, st2, hS0 H, hS1 H, hS2 H⟩
  refine seq_asg (K2.KQ.disp_read (K := K) (P := P) (w := w) fun Kf nKf => c_read (c_read ⟨ST, ([], []), rfl, hST _, upd_same, ?_⟩))
  rw [upd_upd]
  have s1 : Same H (upd H Kf (DNx P w Kf [(([], []), ST, .bl true)])) := same_lay nKf
  have hKf : (upd H Kf (DNx P w Kf [(([], []), ST, .bl true)])) Kf = some (DNx P w Kf [(([], []), ST, .bl true)]) := upd_same
  show tSeq (tAsg _ _) _ _ [some (.ref x), some (.bl fl), some (.ref Kf), none, none, none, none, none, none, none, none] (upd H Kf (DNx P w Kf [(([], []), ST, .bl true)]))
  generalize upd H Kf (DNx P w Kf [(([], []), ST, .bl true)]) = H1 at s1 hKf ⊢
  refine seq_asg (fun Kg nKg => ?_)
  have s2 : Same H1 (upd H1 Kg (DNx P w Kg [])) := same_lay nKg
  have hKg : (upd H1 Kg (DNx P w Kg [])) Kg = some (DNx P w Kg []) := upd_same
  have nfg : Kf ≠ Kg := ne_of_none hKf nKg
  show tSeq (tAsg _ _) _ _ [some (.ref x), some (.bl fl), some (.ref Kf), some (.ref Kg), none, none, none, none, none, none, none] (upd H1 Kg (DNx P w Kg []))
  generalize upd H1 Kg (DNx P w Kg []) = H2 at s2 hKg ⊢
  refine seq_asg (lst_read (cons_read (c_read (nil_read ⟨by show 1 ≤ sizeLine; decide, fun Wl nW => ?_⟩))))
  have s3 : Same H2 (upd H2 Wl (.lst [.ref ST])) := same_lay nW
  have hWl : (upd H2 Wl (.lst [.ref ST])) Wl = some (.lst [.ref ST]) := upd_same
  show tSeq _ _ _ [some (.ref x), some (.bl fl), some (.ref Kf), some (.ref Kg), some (.ref Wl), none, none, none, none, none, none] (upd H2 Wl (.lst [.ref ST]))
  generalize upd H2 Wl (.lst [.ref ST]) = H3 at s3 hWl ⊢
  have s13 := s1.trans (s2.trans s3)
  have hg0 : Good b p n ([], []) := ⟨Nat.zero_le _, fun _ z => (nomatch z), .inl rfl, by unfold sumS; simp⟩
  have S0 : FdS P w K T CD b p n ini y rows fl x Kf Kg Wl H [(([], []), ST)] [] [(([], []), ST)] H3 := by
    refine ⟨.of s13, hD.same s13, s3 _ _ (s2 _ _ hKf), fun e he => ?_, s3 _ _ hKg, fun e he => (nomatch he), ⟨hWl, fun e he => ?_⟩, List.nodup_cons.mpr ⟨fun z => (nomatch z), List.nodup_nil⟩, List.nodup_nil, fun e he => ?_, fun e he => (nomatch he), fun e he => ?_, List.mem_singleton.mpr rfl, fun e he => ?_, .of nKf, .of (s1.free nKg), .of ((s1.trans s2).free nW), nfg⟩
    · rw [List.mem_singleton.mp he]; exact hST _
    · rw [List.mem_singleton.mp he]; exact hST _
    · rw [List.mem_singleton.mp he]; exact hg0
    · rw [List.mem_singleton.mp he]; exact .start
    · rw [List.mem_singleton.mp he]; exact List.mem_singleton.mpr rfl
  refine seq_while9 ⟨fun m σ H' => ∃ (fs : List (Spot × Addr)) (gs : List (Spot × Addr × V)) (ws : List (Spot × Addr)) (x5 x6 x7 x8 x9 x10 : Option V), σ = [some (.ref x), some (.bl fl), some (.ref Kf), some (.ref Kg), some (.ref Wl), x5, x6, x7, x8, x9, x10] ∧ FdS P w K T CD b p n ini y rows fl x Kf Kg Wl H fs gs ws H' ∧
      FdD b p n rows fl fs gs ws ∧ m = 2 * (5001 - fs.length) + ws.length,
    ⟨_, _, _, _, _, _, _, _, _, _, rfl, S0, ⟨fun s hs => .inl ⟨_, List.mem_singleton.mpr rfl, (List.mem_singleton.mp hs).symm⟩, fun e he => (nomatch he), Nat.le_refl _⟩, rfl⟩, ?_⟩
  rintro m σ H4 ⟨fs, gs, ws, x5, x6, x7, x8, x9, x10, rfl, S, Dn, rfl⟩
  obtain ⟨few1, few2⟩ := S.few b0 hU
  refine ⟨_, rfl, !(ws.map fun e => V.ref e.2).isEmpty, .inl ⟨_, SqL.of S.wl.l, rfl⟩, ?_⟩
  by_cases hw : ws = []
  · subst hw
    refine iteF (ret_read (cb_read (cons_read ⟨_, rfl, nil_read ⟨Kf, kvF fs, rfl, S.kf, fun l nl => ?_⟩⟩)))
    rw [kvF_refs]
    have sl : Same H4 (upd H4 l (.lst (fs.map fun e => V.ref e.2))) := same_lay nl
    refine k _ l fs (S.ext.trans (.of sl)) (S.dv.tb.ext sl) upd_same (fun e he => (S.keyf (e.1, e.2, V.bl true) (List.mem_map.mpr ⟨e, he, rfl⟩)).same sl) S.ndf (fun s => ⟨fun h => ?_, fun h => ?_⟩) few1
    · obtain ⟨e, he, rfl⟩ := List.mem_map.mp h
      exact S.rch e he
    · refine K2.KQ.rch_in (S := fun s => s ∈ fs.map (·.1)) S.st (fun s s' hs hn => ?_) h
      rcases Dn.done s hs with ⟨e, he, _⟩ | z
      · exact nomatch he
      · exact z s' hn
  obtain ⟨ws0, ⟨s, a⟩, rfl⟩ : ∃ l e, ws = l ++ [e] := ⟨_, _, (List.dropLast_concat_getLast hw).symm⟩
  have ene : (!((ws0 ++ [(s, a)]).map fun e => V.ref e.2).isEmpty) = true := by simp
  rw [ene]
  refine iteT ⟨_, fun _ _ z => z, ?_⟩
  have elen : (ws0 ++ [(s, a)]).length = ws0.length + 1 := by simp
  have fewW := Dn.few
  rw [elen] at fewW
  refine seq_asg ⟨_, rfl, .inl ⟨rfl, _, SqL.of S.wl.l⟩, Wl, _, .ref a, rfl, rfl, S.wl.l, by simp, ?_⟩
  have ed : ((ws0 ++ [(s, a)]).map fun e => V.ref e.2).dropLast = ws0.map fun e => V.ref e.2 := by simp
  rw [ed]
  have ha4 := S.wl.sp (s, a) (List.mem_append_right _ (List.mem_singleton.mpr rfl))
  have hsin : s ∈ fs.map (·.1) := S.win (s, a) (List.mem_append_right _ (List.mem_singleton.mpr rfl))
  have hgs : Good b p n s := by
    obtain ⟨e, he, ee⟩ := List.mem_map.mp hsin
    rw [← ee]
    exact S.gdf e he
  have hrs : Rch b p n rows fl s := by
    obtain ⟨e, he, ee⟩ := List.mem_map.mp hsin
    rw [← ee]
    exact S.rch e he
  have ha5 : SpotK K (upd H4 Wl (.lst (ws0.map fun e => V.ref e.2))) a s := ha4.upd S.wl.l (by intro _ z; cases z) (by intro _ _ z; cases z)
  have S5 := S.wait (ws' := ws0) (fun e he => S.wl.sp e (List.mem_append_left _ he)) (fun e he => S.win e (List.mem_append_left _ he))
  have hdone : ∀ s2 ∈ fs.map (·.1), s2 = s ∨ (∃ e ∈ ws0, e.1 = s2) ∨ ∀ s', NextX b p n rows fl s2 (some s') → s' ∈ fs.map (·.1) := fun s2 h2 => by
    rcases Dn.done s2 h2 with ⟨e, he, ee⟩ | z
    · rcases List.mem_append.mp he with q | q
      · exact .inr (.inl ⟨e, q, ee⟩)
      · rw [List.mem_singleton.mp q] at ee
        exact .inl ee.symm
    · exact .inr (.inr z)
  have hgrw := Dn.grw
  show tSeq (tAsg _ _) _ _ [some (.ref x), some (.bl fl), some (.ref Kf), some (.ref Kg), some (.ref Wl), some (.ref a), x6, x7, x8, x9, x10] (upd H4 Wl (.lst (ws0.map fun e => V.ref e.2)))
  generalize upd H4 Wl (.lst (ws0.map fun e => V.ref e.2)) = H5 at S5 ha5 ⊢
  clear S Dn ene ed ha4
  refine seq_asg (call_read (cons_read ⟨_, rfl, nil_read ?_⟩))
  refine ⟨a, b, p, n, s, rfl, ha5, hgs, b1, fun H6 l rs s6 nl hl hP => ⟨l, rfl, ⟨_, SqL.of hl⟩, fun D nD => ?_⟩⟩
  refine lc_list (K := K) (xs := rs.map V.ref) (fun i H' => Same H6 H' ∧ ∃ es : List (Spot × Addr), LsAt K H' D es ∧ es.map (·.1) = (deadM s).take i) ⟨same_lay nD, [], ⟨upd_same, fun e he => (nomatch he)⟩, rfl⟩ (fun i H' _ z => SqL.of (z.1 _ _ hl)) ?_ ?_
  · rintro i v H7 hi ⟨s7, es, hes, ees⟩
    rw [List.getElem?_map] at hi
    obtain ⟨r, hr', rfl⟩ : ∃ r, rs[i]? = some r ∧ V.ref r = v := by
      cases hq : rs[i]? with
      | none => rw [hq] at hi; cases hi
      | some r => rw [hq] at hi; exact ⟨r, rfl, Option.some.inj hi⟩
    obtain ⟨d, hd, ⟨j, t, hrt, htd⟩⟩ := K2.paired_get hP hr'
    refine ⟨r, _, rfl, SqT.of (s7 _ _ hrt), rfl, _, _, rfl, _, _, rfl, rfl, rfl, ?_⟩
    unfold tYes
    dsimp only
    rw [if_pos rfl]
    have hle : es.length ≤ 10 := by
      have e1 := congrArg List.length ees
      rw [List.length_map] at e1
      have e2 := List.length_take_le i (deadM s)
      have e3 := K2.KQ.dead_len (s := s)
      have e4 := hgs.len
      have e5 : ((deadM s).take i).length ≤ (deadM s).length := List.length_take_le' ..
      omega
    refine ⟨_, rfl, _, hes.l, by rw [List.length_map, sizeLine_eq]; omega, fun c u e => ?_, es ++ [(d, t)], hes.snoc (htd.same s7), ?_⟩
    · rw [upd_ne (ne_of_none e nD)]
      exact s7 _ _ e
    · rw [List.map_append, ees, List.take_add_one, hd]
      rfl
  rintro H7 ⟨s7, gs0, hG, eG⟩
  have elr : (rs.map V.ref).length = (deadM s).length := by rw [List.length_map]; exact Paired.length hP
  rw [elr, List.take_length] at eG
  have s57 := s6.trans s7
  have S7 := S5.step (.of s57) (S5.dv.tb.ext s57)
  have ha7 := ha5.same s57
  have nwD : NwN H D := nw_of (S5.ext.trans (.of s6)) nD
  have nDW : D ≠ Wl := Ne.symm (ne_of_none (s6 _ _ S5.wl.l) nD)
  have hlen0 : gs0.length ≤ 6 := by
    have e1 := congrArg List.length eG
    rw [List.length_map] at e1
    have e3 := K2.KQ.dead_len (s := s)
    have e4 := hgs.len
    omega
  clear S5 ha5 hP hl s57 s6 s7
  show C8.tCut _ _ _ [some (.ref x), some (.bl fl), some (.ref Kf), some (.ref Kg), some (.ref Wl), some (.ref a), x6, some (.ref D), x8, x9, x10] H7
  refine cut2_read (fun σ' H' => ∃ (Nl : Addr) (ns : List (Spot × Addr)), σ' = [some (.ref x), some (.bl fl), some (.ref Kf), some (.ref Kg), some (.ref Wl), some (.ref a), x6, some (.ref D), some (.ref Nl), x9, x10] ∧ FdS P w K T CD b p n ini y rows fl x Kf Kg Wl H fs gs ws0 H' ∧ SpotK K H' a s ∧ LsAt K H' D gs0 ∧ LsAt K H' Nl ns ∧ NwN H Nl ∧ Nl ≠ Wl ∧ Nl ≠ D ∧ (∀ e ∈ ns, NextX b p n rows fl s (some e.1)) ∧ (fl = true → ∀ d ∈ deadM s, d ∈ ns.map (·.1)) ∧ ns.length ≤ 6) ?_ ?_
  · have hgd : ∀ e ∈ gs0, e.1 ∈ deadM s := fun e he => by rw [← eG]; exact List.mem_map.mpr ⟨e, he, rfl⟩
    refine asg_read (ifx_read (test_read6 ⟨_, rfl, fl, rfl, ?_⟩))
    cases fl with
    | true =>
      refine iteT (cb_read (cons_read ⟨_, rfl, nil_read ⟨D, _, rfl, .inl (SqL.of hG.l), fun Nl nN => ?_⟩⟩))
      have sN : Same H7 (upd H7 Nl (.lst (gs0.map fun e => V.ref e.2))) := same_lay nN
      exact ⟨Nl, gs0, rfl, S7.step (.of sN) (S7.dv.tb.ext sN), ha7.same sN, hG.ext (.of sN), ⟨upd_same, fun e he => (hG.sp e he).same sN⟩, nw_of S7.ext nN, Ne.symm (ne_of_none S7.wl.l nN), Ne.symm (ne_of_none hG.l nN), fun e he => .inr (.inr ⟨rfl, _, hgd e he, rfl⟩), fun _ d hd => (by rw [eG]; exact hd), hlen0⟩
    | false =>
      refine iteF (lst_read (nil_read ⟨by show 0 ≤ sizeLine; decide, fun Nl nN => ?_⟩))
      have sN : Same H7 (upd H7 Nl (.lst [])) := same_lay nN
      exact ⟨Nl, [], rfl, S7.step (.of sN) (S7.dv.tb.ext sN), ha7.same sN, hG.ext (.of sN), ⟨upd_same, fun e he => (nomatch he)⟩, nw_of S7.ext nN, Ne.symm (ne_of_none S7.wl.l nN), Ne.symm (ne_of_none hG.l nN), fun e he => (nomatch he), fun z => (by cases z), Nat.zero_le _⟩
  rintro σ H8 ⟨Nl, ns, rfl, S8, ha8, hG8, hN8, nwN, nNW, nND, hns, hfl, hlenN⟩
  clear S7 ha7 hG
  refine cut2_read (fun σ' H' => ∃ gs1 : List (Spot × Addr), σ' = [some (.ref x), some (.bl fl), some (.ref Kf), some (.ref Kg), some (.ref Wl), some (.ref a), x6, some (.ref D), some (.ref Nl), x9, x10] ∧ FdS P w K T CD b p n ini y rows fl x Kf Kg Wl H fs gs ws0 H' ∧ LsAt K H' D gs1 ∧ LsAt K H' Nl ns ∧ (∀ e ∈ gs1, e.1 ∈ deadM s ∨ (sumS s < (n : Int) ∧ e.1 = s)) ∧ (∀ d ∈ deadM s, d ∈ gs1.map (·.1)) ∧ (sumS s < (n : Int) → s ∈ gs1.map (·.1)) ∧ gs1.length ≤ 7) ?_ ?_
  · obtain ⟨dx, t, hx, hR⟩ := S8.dv.drv
    refine K2.KQ.one_if (test_read6 (op_read (call_read (cons_read ⟨_, rfl, nil_read ⟨a, b, p, n, s, rfl, ha8, hgs, _, rfl, x, dx, _, rfl, hx, x, dx, _, .int (n : Int), rfl, hx, rfl, _, _, rfl, rfl, _, rfl, ?_⟩⟩))))
    have hgd : ∀ e ∈ gs0, e.1 ∈ deadM s := fun e he => by rw [← eG]; exact List.mem_map.mpr ⟨e, he, rfl⟩
    by_cases c : sumS s < (n : Int)
    · rw [decide_eq_true c]
      refine iteT ⟨_, rfl, .inl ⟨rfl, _, SqL.of hG8.l⟩, cons_read ⟨_, rfl, nil_read ⟨D, _, _, rfl, rfl, hG8.l, by rw [List.length_map, sizeLine_eq]; omega, ?_⟩⟩⟩
      refine ⟨gs0 ++ [(s, a)], rfl, S8.list hG8.l nwD nDW, hG8.snoc ha8, hN8.touch hG8.l (by intro _ z; cases z) (by intro _ _ z; cases z) (Ne.symm nND), fun e he => ?_, fun d hd => ?_, fun _ => ?_, by rw [List.length_append]; show gs0.length + 1 ≤ 7; omega⟩
      · rcases List.mem_append.mp he with z | z
        · exact .inl (hgd e z)
        · rw [List.mem_singleton.mp z]
          exact .inr ⟨c, rfl⟩
      · rw [List.map_append, eG]
        exact List.mem_append_left _ hd
      · rw [List.map_append]
        exact List.mem_append_right _ (List.mem_singleton.mpr rfl)
    · rw [decide_eq_false c]
      exact iteF ⟨gs0, rfl, S8, hG8, hN8, fun e he => .inl (hgd e he), fun d hd => by rw [eG]; exact hd, fun z => absurd z c, by omega⟩
  rintro σ H9 ⟨gs1, rfl, S9, hG9, hN9, hg1, hg2, hg3, hlen1⟩
  clear S8 ha8 hG8 hN8 eG
  obtain ⟨nsL, hnsL⟩ : ∃ L, L = ns.length := ⟨_, rfl⟩
  refine seq_for fun D2 e1 e2 => ?_
  refine ⟨_, rfl, D, rfl, ⟨_, SqL.of hG9.l⟩, ?_⟩
  refine for_list (K := K) (xs := gs1.map fun e => V.ref e.2) (fun i σ H' => ∃ (gs' : List (Spot × Addr × V)) (ns' : List (Spot × Addr)) (y6 : Option V), σ = [some (.ref x), some (.bl fl), some (.ref Kf), some (.ref Kg), some (.ref Wl), some (.ref a), y6, some (.ref D), some (.ref Nl), x9, x10] ∧ FdS P w K T CD b p n ini y rows fl x Kf Kg Wl H fs gs' ws0 H' ∧ LsAt K H' D gs1 ∧ LsAt K H' Nl ns' ∧ (∀ e ∈ ns', NextX b p n rows fl s (some e.1)) ∧ (∀ e ∈ ns, e ∈ ns') ∧
      (∀ e ∈ gs', ∀ s', PageX b p rows e.1 (some s') → s' ∈ fs.map (·.1) ∨ s' ∈ ns'.map (·.1)) ∧ (∀ j, j < i → ∀ e, gs1[j]? = some e → e.1 ∈ gs'.map (·.1)) ∧ ns'.length ≤ 6 + i)
    ⟨gs, ns, x6, rfl, S9, hG9, hN9, hns, fun _ z => z, fun e he s' hp => .inl (hgrw e he s' hp), fun j hj => absurd hj (Nat.not_lt_zero _), by omega⟩ (fun i σ H' _ z => ?_) ?_ ?_
  · obtain ⟨_, _, _, _, _, z, _⟩ := z
    exact SqL.of z.l
  · rintro i v σ H10 hi ⟨gs', ns', y6, rfl, S, hG, hN, hnx, hsub, hgr, hcov, hln⟩
    rw [List.getElem?_map] at hi
    obtain ⟨e, he, rfl⟩ : ∃ e, gs1[i]? = some e ∧ V.ref e.2 = v := by
      cases hq : gs1[i]? with
      | none => rw [hq] at hi; cases hi
      | some e => rw [hq] at hi; exact ⟨e, rfl, Option.some.inj hi⟩
    have hem := List.mem_of_getElem? he
    have hesp := hG.sp e hem
    have hil := (List.getElem?_eq_some_iff.mp he).1
    obtain ⟨_, fewG⟩ := S.few b0 hU
    have heg : Good b p n e.1 := by
      rcases hg1 e hem with z | ⟨_, z⟩
      · exact (dead_good hgs z).1
      · rw [z]; exact hgs
    have hnext : ∀ s', PageX b p rows e.1 (some s') → NextX b p n rows fl s (some s') := fun s' hp => by
      rcases hg1 e hem with z | ⟨z1, z2⟩
      · exact .inl ⟨e.1, z, hp⟩
      · exact .inr (.inl ⟨z1, by rw [← z2]; exact hp⟩)
    have cov : ∀ gs2 : List (Spot × Addr × V), (∀ q ∈ gs'.map (·.1), q ∈ gs2.map (·.1)) → e.1 ∈ gs2.map (·.1) → ∀ j, j < i + 1 → ∀ e', gs1[j]? = some e' → e'.1 ∈ gs2.map (·.1) := fun gs2 h1 h2 j hj e' hj' => by
      by_cases ej : j = i
      · subst ej
        rw [he] at hj'
        cases hj'
        exact h2
      · exact h1 _ (hcov j (by omega) e' hj')
    refine K2.KQ.one_if (test_read6 (op_read ⟨_, rfl, _, rfl, e.2, Kg, e.1, gs', rfl, rfl, hesp, S.kg, S.keyg, _, rfl, ?_⟩))
    rw [val_isSome]
    by_cases hin : e.1 ∈ gs'.map (·.1)
    · rw [decide_eq_true hin]
      exact iteF ⟨gs', ns', _, rfl, S, hG, hN, hnx, hsub, hgr, cov gs' (fun _ z => z) hin, by omega⟩
    rw [decide_eq_false hin]
    refine iteT (seq_asg (call_read (cons_read ⟨_, rfl, cons_read ⟨_, rfl, nil_read ?_⟩⟩)))
    -- the value v is put, the list grows by what it tells
    have put : ∀ (H11 : Hp) (v : V) (o : Option Spot), ExtN H10 H11 → Tabs T H11 → PageX b p rows e.1 o → (match o with | none => v = .non | some s' => ∃ q r z1 z2, v = .ref q ∧ H11 q = some (.tup [.ref r, z1, z2]) ∧ SpotK K H11 r s') →
        FdS P w K T CD b p n ini y rows fl x Kf Kg Wl H fs (gs' ++ [(e.1, e.2, v)]) ws0 (upd H11 Kg (DNx P w Kg (gs' ++ [(e.1, e.2, v)]))) ∧ H11 Kg = some (DNx P w Kg gs') ∧ KeysAt K H11 gs' ∧ SpotK K H11 e.2 e.1 ∧
        LsAt K (upd H11 Kg (DNx P w Kg (gs' ++ [(e.1, e.2, v)]))) D gs1 ∧ LsAt K (upd H11 Kg (DNx P w Kg (gs' ++ [(e.1, e.2, v)]))) Nl ns' := fun H11 v o e11 t11 hp hv => by
      have S11 := S.step e11 t11
      have k1 : ∀ ys, DNx P w Kg gs' ≠ .tup ys := by intro _ z; cases z
      have k2 : ∀ o v, DNx P w Kg gs' ≠ .frz o v := by intro _ _ z; cases z
      exact ⟨S11.grown (spotk_ext hesp e11) hin heg, S11.kg, S11.keyg, spotk_ext hesp e11, (hG.ext e11).touch S11.kg k1 k2 (Ne.symm (lst_dn hG.l S.kg)), (hN.ext e11).touch S11.kg k1 k2 (Ne.symm (lst_dn hN.l S.kg))⟩
    refine ⟨x, e.2, b, p, n, ini, y, e.1, rfl, S.dv, hesp, heg, fun H11 e11 t11 hp => ?_, fun H11 q r kk s' cp e11 t11 hp hq hr' => ?_⟩
    · rw [erows] at hp
      obtain ⟨S12, g1, g2, g3, hG12, hN12⟩ := put H11 .non none e11 t11 hp rfl
      refine ⟨_, rfl, _, rfl, e.2, Kg, e.1, gs', rfl, rfl, g3, g1, g2, by rw [sizeLine_eq]; omega, val_not hin, ?_⟩
      dsimp only
      show tDrop _ _ _ (upd H11 Kg (DNx P w Kg (gs' ++ [(e.1, e.2, V.non)])))
      generalize upd H11 Kg (DNx P w Kg (gs' ++ [(e.1, e.2, V.non)])) = H12 at S12 hG12 hN12 ⊢
      have hsp12 : SpotK K H12 e.2 e.1 := S12.keyg (e.1, e.2, V.non) (List.mem_append_right _ (List.mem_singleton.mpr rfl))
      refine ⟨_, rfl, .inl ⟨rfl, _, SqL.of hN12.l⟩, cons_read (ifx_read (test_read6 (op_read (K2.KQ.getN_read (K := K) (P := P) (w := w) ⟨_, rfl, _, rfl, e.2, Kg, e.1, _, .non, rfl, rfl, hsp12, S12.kg, S12.keyg, val_last hin, c_read ⟨rfl, _, rfl, ?_⟩⟩))))⟩
      rw [decide_eq_true rfl]
      refine iteF (lst_read (nil_read ⟨by show 0 ≤ sizeLine; decide, fun q nq => ?_⟩))
      have sq : Same H12 (upd H12 q (.lst [])) := same_lay nq
      have hq : (upd H12 q (.lst [])) q = some (.lst []) := upd_same
      have nqN : Nl ≠ q := ne_of_none hN12.l nq
      have S13 := S12.step (.of sq) (S12.dv.tb.ext sq)
      have hG13 := hG12.ext (.of sq)
      have hN13 := hN12.ext (.of sq)
      generalize upd H12 q (.lst []) = H13 at S13 hG13 hN13 hq ⊢
      refine nil_read ⟨Nl, q, _, [], rfl, rfl, hN13.l, hq, by rw [List.length_map, sizeLine_eq]; show ns'.length + 0 ≤ 16777216; omega, ?_⟩
      rw [List.append_nil]
      refine ⟨_, ns', _, rfl, S13.list hN13.l nwN nNW, hG13.touch hN13.l (by intro _ z; cases z) (by intro _ _ z; cases z) nND, ⟨upd_same, fun e' he' => (hN13.sp e' he').upd hN13.l (by intro _ z; cases z) (by intro _ _ z; cases z)⟩, hnx, hsub, fun e' he' s' hp' => ?_, cov _ (fun q hq => by rw [List.map_append]; exact List.mem_append_left _ hq) (by rw [List.map_append]; exact List.mem_append_right _ (List.mem_singleton.mpr rfl)), by omega⟩
      rcases List.mem_append.mp he' with z | z
      · exact hgr e' z s' hp'
      · rw [List.mem_singleton.mp z] at hp'
        have := K2.KQ.pagex_uniq (by rw [← erows]; exact hD.wd) hp hp'
        cases this
    · rw [erows] at hp
      obtain ⟨S12, g1, g2, g3, hG12, hN12⟩ := put H11 (.ref q) (some s') e11 t11 hp ⟨q, r, _, _, rfl, hq, hr'⟩
      refine ⟨_, rfl, _, rfl, e.2, Kg, e.1, gs', rfl, rfl, g3, g1, g2, by rw [sizeLine_eq]; omega, val_not hin, ?_⟩
      dsimp only
      have hq12 : (upd H11 Kg (DNx P w Kg (gs' ++ [(e.1, e.2, .ref q)]))) q = some (.tup [.ref r, .int cp, .ref kk]) := by rw [upd_ne (ne_of hq g1 (by intro z; cases z))]; exact hq
      have hr12 : SpotK K (upd H11 Kg (DNx P w Kg (gs' ++ [(e.1, e.2, .ref q)]))) r s' := hr'.upd g1 (by intro _ z; cases z) (by intro _ _ z; cases z)
      show tDrop _ _ _ (upd H11 Kg (DNx P w Kg (gs' ++ [(e.1, e.2, V.ref q)])))
      generalize upd H11 Kg (DNx P w Kg (gs' ++ [(e.1, e.2, V.ref q)])) = H12 at S12 hG12 hN12 hq12 hr12 ⊢
      have hsp12 : SpotK K H12 e.2 e.1 := S12.keyg (e.1, e.2, V.ref q) (List.mem_append_right _ (List.mem_singleton.mpr rfl))
      refine ⟨_, rfl, .inl ⟨rfl, _, SqL.of hN12.l⟩, cons_read (ifx_read (test_read6 (op_read (K2.KQ.getN_read (K := K) (P := P) (w := w) ⟨_, rfl, _, rfl, e.2, Kg, e.1, _, .ref q, rfl, rfl, hsp12, S12.kg, S12.keyg, val_last hin, c_read ⟨rfl, _, rfl, ?_⟩⟩))))⟩
      rw [decide_eq_false (by intro z; cases z)]
      refine iteT (lst_read (cons_read (op_read (K2.KQ.getN_read (K := K) (P := P) (w := w) ⟨_, rfl, _, rfl, e.2, Kg, e.1, _, .ref q, rfl, rfl, hsp12, S12.kg, S12.keyg, val_last hin, c_read ⟨q, _, (0 : Int), .ref r, rfl, rfl, SqT.of hq12, rfl, nil_read ⟨by show 1 ≤ sizeLine; decide, fun q2 nq => ?_⟩⟩⟩))))
      have sq : Same H12 (upd H12 q2 (.lst [.ref r])) := same_lay nq
      have hq2 : (upd H12 q2 (.lst [.ref r])) q2 = some (.lst [.ref r]) := upd_same
      have S13 := S12.step (.of sq) (S12.dv.tb.ext sq)
      have hG13 := hG12.ext (.of sq)
      have hN13 := hN12.ext (.of sq)
      have hr13 := hr12.same sq
      generalize upd H12 q2 (.lst [.ref r]) = H13 at S13 hG13 hN13 hq2 hr13 ⊢
      refine nil_read ⟨Nl, q2, _, [.ref r], rfl, rfl, hN13.l, hq2, by rw [List.length_map, sizeLine_eq]; show ns'.length + 1 ≤ 16777216; omega, ?_⟩
      refine ⟨_, ns' ++ [(s', r)], _, rfl, S13.list hN13.l nwN nNW, hG13.touch hN13.l (by intro _ z; cases z) (by intro _ _ z; cases z) nND, hN13.snoc hr13, fun e' he' => ?_, fun e' he' => List.mem_append_left _ (hsub e' he'), fun e' he' s2 hp' => ?_, cov _ (fun q hq => by rw [List.map_append]; exact List.mem_append_left _ hq) (by rw [List.map_append]; exact List.mem_append_right _ (List.mem_singleton.mpr rfl)), by rw [List.length_append]; show ns'.length + 1 ≤ 6 + (i + 1); omega⟩
      · rcases List.mem_append.mp he' with z | z
        · exact hnx e' z
        · rw [List.mem_singleton.mp z]
          exact hnext s' hp
      · rw [List.map_append]
        rcases List.mem_append.mp he' with z | z
        · exact (hgr e' z s2 hp').imp id fun z => List.mem_append_left _ z
        · rw [List.mem_singleton.mp z] at hp'
          have := K2.KQ.pagex_uniq (by rw [← erows]; exact hD.wd) hp hp'
          injection this with this
          exact .inr (List.mem_append_right _ (by rw [← this]; exact List.mem_singleton.mpr rfl))
  rintro σ H10 ⟨gs', ns', y6, rfl, S, hG, hN, hnx, hsub, hgr, hcov, hln⟩
  rw [e1]
  have elg : (gs1.map fun e => V.ref e.2).length = gs1.length := List.length_map ..
  rw [elg] at hcov hln
  have hin1 : ∀ q ∈ gs1.map (·.1), q ∈ gs'.map (·.1) := fun q hq => by
    obtain ⟨e, he, rfl⟩ := List.mem_map.mp hq
    obtain ⟨j, hj, ej⟩ := List.getElem_of_mem he
    exact hcov j hj e (by rw [List.getElem?_eq_getElem hj, ej])
  clear S9 hG9 hN9 hcov hG
  refine for_readZ fun D3 e3 _ => ?_
  refine ⟨_, rfl, Nl, rfl, ⟨_, SqL.of hN.l⟩, ?_⟩
  have hns' : ∀ e ∈ ns', Good b p n e.1 ∧ Rch b p n rows fl e.1 := fun e he => ⟨next_good p0 b0 hgs (hnx e he), .next hrs (hnx e he)⟩
  refine for_list (K := K) (xs := ns'.map fun e => V.ref e.2) (fun i σ H' => ∃ (fs' ws' : List (Spot × Addr)) (y9 : Option V), σ = [some (.ref x), some (.bl fl), some (.ref Kf), some (.ref Kg), some (.ref Wl), some (.ref a), y6, some (.ref D), some (.ref Nl), y9, x10] ∧ FdS P w K T CD b p n ini y rows fl x Kf Kg Wl H fs' gs' ws' H' ∧ LsAt K H' Nl ns' ∧ (∀ q ∈ fs.map (·.1), q ∈ fs'.map (·.1)) ∧
      (∀ s2 ∈ fs'.map (·.1), s2 = s ∨ (∃ e ∈ ws', e.1 = s2) ∨ ∀ s', NextX b p n rows fl s2 (some s') → s' ∈ fs'.map (·.1)) ∧ (∀ j, j < i → ∀ e, ns'[j]? = some e → e.1 ∈ fs'.map (·.1)) ∧ ws'.length + 1 ≤ fs'.length ∧ 2 * (5001 - fs'.length) + ws'.length ≤ 2 * (5001 - fs.length) + ws0.length)
    ⟨fs, ws0, x9, rfl, S, hN, fun _ z => z, hdone, fun j hj => absurd hj (Nat.not_lt_zero _), fewW, Nat.le_refl _⟩ (fun i σ H' _ z => ?_) ?_ ?_
  · obtain ⟨_, _, _, _, _, z, _⟩ := z
    exact SqL.of z.l
  · rintro i v σ H11 hi ⟨fs', ws', y9, rfl, S', hN', hup, hdn, hcov, hfew, hmeas⟩
    rw [List.getElem?_map] at hi
    obtain ⟨e, he, rfl⟩ : ∃ e, ns'[i]? = some e ∧ V.ref e.2 = v := by
      cases hq : ns'[i]? with
      | none => rw [hq] at hi; cases hi
      | some e => rw [hq] at hi; exact ⟨e, rfl, Option.some.inj hi⟩
    have hem := List.mem_of_getElem? he
    have hesp := hN'.sp e hem
    obtain ⟨fewF, _⟩ := S'.few b0 hU
    obtain ⟨hge, hre⟩ := hns' e hem
    have cov : ∀ fs2 : List (Spot × Addr), (∀ q ∈ fs'.map (·.1), q ∈ fs2.map (·.1)) → e.1 ∈ fs2.map (·.1) → ∀ j, j < i + 1 → ∀ e', ns'[j]? = some e' → e'.1 ∈ fs2.map (·.1) := fun fs2 h1 h2 j hj e' hj' => by
      by_cases ej : j = i
      · subst ej
        rw [he] at hj'
        cases hj'
        exact h2
      · exact h1 _ (hcov j (by omega) e' hj')
    refine K2.KQ.one_if (test_read6 (op_read ⟨_, rfl, _, rfl, e.2, Kf, e.1, kvF fs', rfl, rfl, hesp, S'.kf, S'.keyf, _, rfl, ?_⟩))
    rw [val_isSome, kvF_keys]
    by_cases hin : e.1 ∈ fs'.map (·.1)
    · rw [decide_eq_true hin]
      exact iteF ⟨fs', ws', _, rfl, S', hN', hup, hdn, cov fs' (fun _ z => z) hin, hfew, hmeas⟩
    rw [decide_eq_false hin]
    have S'' := S'.found hesp hin hge hre
    have hN'' : LsAt K (upd H11 Kf (DNx P w Kf (kvF fs' ++ [(e.1, e.2, V.bl true)]))) Nl ns' := hN'.touch S'.kf (by intro _ z; cases z) (by intro _ _ z; cases z) (Ne.symm (lst_dn hN'.l S'.kf))
    have hlk : (kvF fs').length = fs'.length := List.length_map ..
    refine iteT (seq_asg (c_read ⟨_, rfl, _, rfl, e.2, Kf, e.1, kvF fs', rfl, rfl, hesp, S'.kf, S'.keyf, by rw [hlk, sizeLine_eq]; omega, val_not (by rw [kvF_keys]; exact hin), ?_⟩))
    dsimp only
    show tDrop _ _ _ (upd H11 Kf (DNx P w Kf (kvF fs' ++ [(e.1, e.2, V.bl true)])))
    generalize upd H11 Kf (DNx P w Kf (kvF fs' ++ [(e.1, e.2, V.bl true)])) = H12 at S'' hN'' ⊢
    have hsp12 := hN''.sp e hem
    have hup2 : ∀ q ∈ fs'.map (·.1), q ∈ (fs' ++ [(e.1, e.2)]).map (·.1) := fun q hq => by rw [List.map_append]; exact List.mem_append_left _ hq
    have hnew : e.1 ∈ (fs' ++ [(e.1, e.2)]).map (·.1) := by rw [List.map_append]; exact List.mem_append_right _ (List.mem_singleton.mpr rfl)
    have S13 := S''.wait (ws' := ws' ++ [(e.1, e.2)]) (fun q hq => by
      rcases List.mem_append.mp hq with z | z
      · exact S''.wl.sp q z
      · rw [List.mem_singleton.mp z]; exact hsp12) (fun q hq => by
      rcases List.mem_append.mp hq with z | z
      · exact S''.win q z
      · rw [List.mem_singleton.mp z]; exact hnew)
    refine ⟨_, rfl, .inl ⟨rfl, _, SqL.of S''.wl.l⟩, cons_read ⟨_, rfl, nil_read ⟨Wl, _, _, rfl, rfl, S''.wl.l, by rw [List.length_map, sizeLine_eq]; omega, ?_⟩⟩⟩
    have ewl : (ws'.map fun e => V.ref e.2) ++ [V.ref e.2] = (ws' ++ [(e.1, e.2)]).map fun e => V.ref e.2 := by rw [List.map_append]; rfl
    rw [ewl]
    have el1 : (ws' ++ [(e.1, e.2)]).length = ws'.length + 1 := by simp
    have el2 : (fs' ++ [(e.1, e.2)]).length = fs'.length + 1 := by simp
    refine ⟨fs' ++ [(e.1, e.2)], ws' ++ [(e.1, e.2)], _, rfl, S13, hN''.touch S''.wl.l (by intro _ z; cases z) (by intro _ _ z; cases z) (Ne.symm nNW), fun q hq => hup2 q (hup q hq), fun s2 h2 => ?_, cov _ hup2 hnew, by omega, by omega⟩
    rw [List.map_append] at h2
    rcases List.mem_append.mp h2 with z | z
    · rcases hdn s2 z with z | ⟨q, hq, eq⟩ | z
      · exact .inl z
      · exact .inr (.inl ⟨q, List.mem_append_left _ hq, eq⟩)
      · exact .inr (.inr fun s' hs' => hup2 _ (z s' hs'))
    · rw [List.mem_singleton.mp z]
      exact .inr (.inl ⟨_, List.mem_append_right _ (List.mem_singleton.mpr rfl), rfl⟩)
  rintro σ H11 ⟨fs', ws', y9, rfl, S', hN', hup, hdn, hcov, hfew, hmeas⟩
  rw [e3]
  have eln : (ns'.map fun e => V.ref e.2).length = ns'.length := List.length_map ..
  rw [eln] at hcov
  have hin2 : ∀ q ∈ ns'.map (·.1), q ∈ fs'.map (·.1) := fun q hq => by
    obtain ⟨e, he, rfl⟩ := List.mem_map.mp hq
    obtain ⟨j, hj, ej⟩ := List.getElem_of_mem he
    exact hcov j hj e (by rw [List.getElem?_eq_getElem hj, ej])
  have hgr' : ∀ e ∈ gs', ∀ s', PageX b p rows e.1 (some s') → s' ∈ fs'.map (·.1) := fun e he s' hp => (hgr e he s' hp).elim (hup s') (hin2 s')
  have hpg : ∀ d, d ∈ gs1.map (·.1) → ∀ s', PageX b p rows d (some s') → s' ∈ fs'.map (·.1) := fun d hd s' hp => by
    obtain ⟨e, he, rfl⟩ := List.mem_map.mp (hin1 d hd)
    exact hgr' e he s' hp
  refine ⟨_, ?_, fs', gs', ws', _, _, _, _, _, _, rfl, S', ⟨fun s2 h2 => ?_, hgr', by omega⟩, rfl⟩
  · rw [elen]
    omega
  · rcases hdn s2 h2 with z | z | z
    · refine .inr fun s' hs' => ?_
      rw [z] at hs'
      rcases hs' with ⟨d, hd, hp⟩ | ⟨hlt, hp⟩ | ⟨hf, d, hd, ee⟩
      · exact hpg d (hg2 d hd) s' hp
      · exact hpg s (hg3 hlt) s' hp
      · injection ee with ee
        rw [ee]
        obtain ⟨q, hq, eq⟩ := List.mem_map.mp (hfl hf d hd)
        exact hin2 d (List.mem_map.mpr ⟨q, hsub q hq, eq⟩)
    · exact .inl z
    · exact .inr z
end
end KZ

set_option Elab.async false
set_option linter.all false
set_option maxRecDepth 100000
set_option maxHeartbeats 4000000
/-! sorted of stands; stands -/
namespace KZ
open PySem PySem.Spec PyProof.Rows L2 G1 G2 K2 G5 LamX K3 K6
open K2.KQ (sqt_same sqt_upd Spot SpotAt SpotK DNx KeysAt Rch spCkt kwT b_kw gApp)
/-- ascending -/
def Asc (es : List (Spot × Addr)) : Prop := SrtO.Srtd (fun x y => SrtS.ltS x.1 y.1) es
theorem Asc.keys {es : List (Spot × Addr)} (h : Asc es) : SrtO.Srtd SrtS.ltS (es.map (·.1)) := SrtO.srtd_map h
/-- two ascending lists of the same stands are one -/
theorem asc_uniq : ∀ {l m : List Spot}, SrtO.Srtd SrtS.ltS l → SrtO.Srtd SrtS.ltS m → l.Perm m → l = m := fun {l m} h1 h2 hp =>
  SrtO.stb_uniq (SrtS.ltS_swo id) h1 h2 ⟨hp, fun x => by
    have e : ∀ l : List Spot, l.filter (SrtO.eqv SrtS.ltS x) = List.replicate (l.filter (SrtO.eqv SrtS.ltS x)).length x := fun l => by
      refine List.eq_replicate_iff.mpr ⟨rfl, fun y hy => ?_⟩
      have z := (List.mem_filter.mp hy).2
      unfold SrtO.eqv at z
      simp only [Bool.and_eq_true, Bool.not_eq_true'] at z
      exact (SrtS.ltS_tot z.1 z.2).symm
    show l.filter (SrtO.eqv SrtS.ltS x) = m.filter (SrtO.eqv SrtS.ltS x)
    rw [e l, e m, (hp.filter _).length_eq]⟩
section
variable {X : Cx}
theorem spotk_inj {pins : List (Addr × Obj)} {σ : L2.St} {H : Hp} {s : Shared} {a : Addr} {u v : Spot} (I : Inv X pins σ H s) (h : SpotK X.K H a u) (h' : SpotK X.K H a v) : u = v := by
  obtain ⟨a1, a2, h0, h1, h2⟩ := h
  obtain ⟨b1, b2, g0, g1, g2⟩ := h'
  have e := I.tuple_inj h0 g0
  injection e with e1 e
  injection e with e2 _
  injection e1 with e1
  injection e2 with e2
  subst e1 e2
  have q1 := I.tuple_inj h1 g1
  have q2 := I.tuple_inj h2 g2
  have inj : ∀ {l m : List Int}, l.map V.int = m.map V.int → l = m := fun {l m} h => (List.map_inj_right (fun a c h => by injection h)).mp h
  exact Prod.ext (inj q1) (inj q2)
/-- sorted(l), l a list of stands -/
def rSortE (K : PySem.W.Frag) : List V → Hp → VK → Prop := fun vs H Q => ∃ (a : Addr) (es : List (Spot × Addr)), vs = [.ref a] ∧ H a = some (.lst (es.map fun e => V.ref e.2)) ∧ (∀ e ∈ es, SpotK K H e.2 e.1) ∧
  ∀ (ys : List (Spot × Addr)) (p : Addr), Asc ys → ys.Perm es → H p = none → Q (.ref p) (upd H p (.lst (ys.map fun e => V.ref e.2)))
theorem cr_sortE (hu : X.A.units + 64 < cLine) : CallR X (.builtin "sorted") (rSortE X.K) := by
  intro pins s σ H vs us Q I r h
  obtain ⟨a, es, rfl, ha, hs, q⟩ := h
  let k : V → SrtS.Sp2 := fun v => match v with
    | .ref b => ((es.find? fun e => decide (e.2 = b)).map (·.1)).getD ([], [])
    | _ => ([], [])
  have hk : ∀ e ∈ es, k (.ref e.2) = e.1 := fun e he => by
    show ((es.find? fun e' => decide (e'.2 = e.2)).map (·.1)).getD ([], []) = e.1
    cases hf : es.find? fun e' => decide (e'.2 = e.2) with
    | none =>
      have := List.find?_eq_none.mp hf e he
      simp at this
    | some e' =>
      have h1 := List.mem_of_find?_eq_some hf
      have h2 := of_decide_eq_true (List.find?_some (p := fun e' : Spot × Addr => decide (e'.2 = e.2)) hf)
      have h3 := hs e' h1
      rw [h2] at h3
      exact spotk_inj I h3 (hs e he)
  refine cr_sortedSp hu pins s σ H [.ref a] us Q I r ⟨a, es.map fun e => V.ref e.2, k, rfl, SqL.of ha, fun x hx => ?_, fun ys p h1 h2 hp => ?_⟩
  · obtain ⟨e, he, rfl⟩ := List.mem_map.mp hx
    obtain ⟨b1, b2, g0, g1, g2⟩ := hs e he
    rw [hk e he]
    exact ⟨e.2, b1, b2, rfl, g0, g1, g2⟩
  · obtain ⟨ys', hp', rfl⟩ := perm_lift (fun e : Spot × Addr => V.ref e.2) h2.perm es rfl
    refine q ys' p ?_ hp' hp
    have h3 : SrtO.Srtd (fun x y => SrtS.ltS (k x) (k y)) (ys'.map fun e => V.ref e.2) := h1
    have h4 := List.pairwise_map.mp h3
    refine List.Pairwise.imp_of_mem (fun {u v} hu hv z => ?_) h4
    have e1 := hk u (hp'.mem_iff.mp hu)
    have e2 := hk v (hp'.mem_iff.mp hv)
    have z : SrtS.ltS (k (.ref v.2)) (k (.ref u.2)) = false := z
    rw [e1, e2] at z
    exact z
end
abbrev sStd2 : Stmt := topS 75
theorem scStd2 : FnScope ["drive", "trims"] ["drive", "trims"] (defScope sStd2) := ⟨rfl, rfl, rfl, by decide +kernel, rfl, by decide +kernel, by decide +kernel⟩
/-- all the stands, ascending -/
structure AllS (K : PySem.W.Frag) (b p n : Nat) (rows : List RowD) (fl : Bool) (H : Hp) (es : List (Spot × Addr)) : Prop where
  sp : ∀ e ∈ es, SpotK K H e.2 e.1
  asc : Asc es
  nd : (es.map (·.1)).Nodup
  all : ∀ s, s ∈ es.map (·.1) ↔ Rch b p n rows fl s
  len : es.length ≤ 5000
theorem AllS.ext {K : PySem.W.Frag} {b p n : Nat} {rows : List RowD} {fl : Bool} {H H' : Hp} {es : List (Spot × Addr)} (h : AllS K b p n rows fl H es) (e : ExtN H H') : AllS K b p n rows fl H' es := ⟨fun x hx => spotk_ext (h.sp x hx) e, h.asc, h.nd, h.all, h.len⟩
def spStd2 (K : PySem.W.Frag) (T : List (Addr × Str)) (CD : Addr) : Sp := fun vs H Q _ => ∃ (x : Addr) (fl : Bool) (b p n : Nat) (ini : List RowD) (y : Str), vs = [.ref x, .bl fl] ∧ Dv K T CD H x b p n ini y ∧ Shp b p n ∧
  ∀ (H' : Hp) (q : Addr) (es : List (Spot × Addr)), ExtN H H' → Tabs T H' → H' q = some (.tup (es.map fun e => V.ref e.2)) → AllS K b p n (ini ++ [((p : Int), y)]) fl H' es → Q (.ref q) H'
section
variable {P : Program} {w : World} {K : PySem.W.Frag} {mg : Str → Option Value} {base : Heap} {CD : Addr}
theorem bSorted : bootBuiltins "sorted" = some (.builtin "sorted") := by decide +kernel
theorem ok_std2 {f : Addr} {fd : FuncData} {T : List (Addr × Str)} (F : FunD K "stands" "stands" (defArgs sStd2) (defBody sStd2) (defScope sStd2) [] kwT f fd) (B : Bl mg) (bs : mg "sorted" = none) (GD : FAt P w K mg base 1 "check_drive" ["drive"] (spCkd K CD)) (GT : FAt P w K mg base 1 "check_trims" ["trims"] spCkt) (GF : FAt P w K mg base 8 "find_stands" ["drive", "trims"] (spFnd K T CD)) :
    FnOk P w K mg base CX0 9 f fd ["drive", "trims"] (spStd2 K T CD) := by
  refine F.ok scStd2 (fun vs H Q E h => ?_) (fun cdv A0 outer s0 H vs Q E hr h => ?_)
  · obtain ⟨x, fl, b, p, n, ini, y, rfl, _⟩ := h
    rfl
  obtain ⟨x, fl, b, p, n, ini, y, rfl, hD, hsh, k⟩ := h
  obtain ⟨fD, dD, GD, kD, bD, gD⟩ := GD.ex
  obtain ⟨fT, dT, GT, kT, bT, gT⟩ := GT.ex
  obtain ⟨fF, dF, GF, kF, bF, gF⟩ := GF.ex
  refine ⟨_, pss_cons (ps_expr (pe_call GD (hr.mono (by decide)) (by rfl) gD kD bD .nil pass0 (pa_cons (pv 0) pa_nil)))
    (pss_cons (ps_expr (pe_call GT (hr.mono (by decide)) (by rfl) gT kT bT .nil pass0 (pa_cons (pv 1) pa_nil)))
    (pss_one (ps_ret (pe_callTy call_tuple_of (by rfl) B.tup bTup (pa_cons (pe_callB (cr_sortE hr.units) (by rfl) bs bSorted (pa_cons (pe_call GF hr (by rfl) gF kF bF .nil pass0 (pa_cons (pv 0) (pa_cons (pv 1) pa_nil))) pa_nil)) pa_nil))))), ?_⟩
  refine ⟨_, rfl, x, b, p, n, ini, y, rfl, hD.drv, ?_⟩
  refine ⟨_, rfl, fl, rfl, ?_⟩
  dsimp only
  refine ret_read (cb_read (cons_read (cb_read (cons_read (call_read (cons_read ⟨_, rfl, cons_read ⟨_, rfl, nil_read ?_⟩⟩))))))
  refine ⟨x, fl, b, p, n, ini, y, rfl, hD, hsh, fun H1 l fs e1 t1 hl hsp hnd hall hlen => nil_read ⟨l, fs, rfl, hl, hsp, fun ys q hasc hperm nq => nil_read ⟨q, _, rfl, .inl ⟨SqL.of upd_same, fun u nu => ?_⟩⟩⟩⟩
  have sA : Same H1 (upd H1 q (.lst (ys.map fun e => V.ref e.2))) := same_lay nq
  have sB : Same (upd H1 q (.lst (ys.map fun e => V.ref e.2))) (upd (upd H1 q (.lst (ys.map fun e => V.ref e.2))) u (.tup (ys.map fun e => V.ref e.2))) := same_lay nu
  have s := sA.trans sB
  refine k _ u ys (e1.trans (.of s)) (t1.ext s) upd_same ⟨fun e he => (hsp e (hperm.mem_iff.mp he)).same s, hasc, ?_, fun s' => ?_, by rw [hperm.length_eq]; exact hlen⟩
  · exact ((hperm.map (·.1)).nodup_iff).mpr hnd
  · rw [(hperm.map (·.1)).mem_iff]
    exact hall s'
theorem b_std2 {f : Addr} {fd : FuncData} (F : FunD K "stands" "stands" (defArgs sStd2) (defBody sStd2) (defScope sStd2) [] kwT f fd) : ∃ ds, Vals [V.bl true] ds ∧ Binds K fd ["drive", "trims"] ds := b_kw F fun D doc pm an cdv ct us ks l1 l2 => by
  match us, l1, ks, l2 with
  | [a], _, [z], _ => exact ⟨_, _, _, _, _, _, rfl, rfl, rfl⟩
theorem k_std2 {f : Addr} {fd : FuncData} (F : FunD K "stands" "stands" (defArgs sStd2) (defBody sStd2) (defScope sStd2) [] kwT f fd) : KBn K fd ["drive", "trims"] 1 ["trims"] gApp gApp := by
  obtain ⟨oc, od, dV, kV, doc, pm, an, cdv, ct, osl, rfl, lk, hcd, hD, hK⟩ := F.ex
  rcases hD with ⟨_, rfl⟩ | ⟨e, _⟩
  · refine ⟨fun s us ws X l1 l2 => BindsTo.of_eq ?_, fun r1 r2 => r1.append r2⟩
    match us, l1, ws, l2 with
    | [a], _, [b], _ => rfl
  · exact absurd rfl e
end
end KZ

set_option Elab.async false
set_option linter.all false
set_option maxRecDepth 100000
set_option maxHeartbeats 4000000
/-! the stand behind an event -/
namespace KZ
open PySem PySem.Spec PyProof.Rows L2 G1 G2 K2 G5 LamX K3 K6
open K2.KQ (Spot SpotAt SpotK sumS addM dieAt diesM deadM Clean Good PageX NextX Rch ClnX rotM)
def spotP (s : Pl) : Spot := (cntP s, opnL s)
section
variable {b p : Nat} {s : Pl} {al : List Str} {rows : List RowD} {x : Str}
theorem spot_sum (I : PInv b p s al) : sumS (spotP s) = (al.length : Int) := by
  have z := I.sum
  rw [List.map_append, List.map_append, List.sum_append, List.sum_append] at z
  have e0 : (s.free.map fun k => kln (s.cont.getD k [])).sum = 0 := by
    have : ∀ l : List Nat, (∀ k ∈ l, s.cont.getD k [] = []) → (l.map fun k => kln (s.cont.getD k [])).sum = 0 := fun l => by
      induction l with
      | nil => exact fun _ => rfl
      | cons a l ih =>
        intro h
        rw [List.map_cons, List.sum_cons, ih fun k hk => h k (List.mem_cons_of_mem _ hk), h a (List.mem_cons_self ..)]
        rfl
    exact this _ I.fr
  have ec : ∀ l : List Nat, (csI l).sum = ((l.sum : Nat) : Int) := fun l => by
    induction l with
    | nil => rfl
    | cons a l ih =>
      show ((a : Nat) : Int) + (csI l).sum = _
      rw [ih, List.sum_cons]
      omega
  show (cntP s).sum + ((opnL s).drop 1).sum = _
  rw [I.cnt, ec]
  have e1 : (lvC s).sum = (s.clo.map fun k => kln (s.cont.getD k [])).sum := rfl
  unfold opnL
  cases hf : s.fil with
  | none =>
    rw [hf] at z
    show ((lvC s).sum : Int) + 0 = _
    have : ((none : Option Nat).toList.map fun k => kln (s.cont.getD k [])).sum = 0 := rfl
    omega
  | some k =>
    rw [hf] at z
    have hk : k < b := I.mem (List.mem_append_right _ (by rw [hf]; exact List.mem_singleton.mpr rfl))
    have hl := I.lv k hk
    have e2 : livI (s.cont.getD k []) = ((kln (s.cont.getD k []) : Nat) : Int) := rfl
    have e3 : ((some k).toList.map fun k => kln (s.cont.getD k [])).sum = kln (s.cont.getD k []) := by show kln (s.cont.getD k []) + 0 = _; omega
    show ((lvC s).sum : Int) + (s.liv.getD k 0 + 0) = _
    omega
end
end KZ

set_option Elab.async false
set_option linter.all false
set_option maxRecDepth 100000
set_option maxHeartbeats 4000000
/-! rules that pick alike -/
namespace KX
open PySem PySem.Spec PyProof.Rows L2 G1 G2 G3 K2 G5 LamX K3 ClX K6 KZ
open K2.KQ (Spot SpotK Rch NextX stkM takM Rls ClnX PageX Good Clean Due leadM rotM StuckC stuck_on stuck_off stuck_stk due_split due_less pick_rule sumS deadM dead_good clean_due Way way_end addM)
theorem plcs_mem {L : Int} {cs : List Int} {n k : Nat} : k ∈ plcs L cs n ↔ k < n ∧ cs.getD k 0 ≤ L := by
  unfold plcs
  rw [List.mem_filter, List.mem_range, decide_eq_true_eq]
theorem plcs_nil {L : Int} {cs : List Int} {n : Nat} : plcs L cs n = [] ↔ ∀ k, k < n → ¬ cs.getD k 0 ≤ L := by
  constructor
  · intro h k hk z
    have := plcs_mem.mpr ⟨hk, z⟩
    rw [h] at this
    cases this
  · intro h
    cases e : plcs L cs n with
    | nil => rfl
    | cons a l =>
      have z : a ∈ plcs L cs n := by rw [e]; exact List.mem_cons_self ..
      obtain ⟨z1, z2⟩ := plcs_mem.mp z
      exact absurd z2 (h a z1)
theorem pick_cons {r : RowD} {rs : List RowD} {cs : List Int} {k : Nat} : PickR (r :: rs) cs k ↔ (plcs r.1 cs cs.length = [] ∧ PickR rs cs k) ∨ (plcs r.1 cs cs.length ≠ [] ∧ k ∈ plcs r.1 cs cs.length ∧ ChoR r.2 cs (plcs r.1 cs cs.length) k) := by
  constructor
  · rintro ⟨j, q, hj, hb, hm, hc⟩
    cases j with
    | zero =>
      have : r = q := Option.some.inj hj
      subst this
      exact .inr ⟨fun z => (by rw [z] at hm; cases hm), hm, hc⟩
    | succ j => exact .inl ⟨hb 0 r (Nat.succ_pos _) rfl, j, q, hj, fun i r' hi hr => hb (i + 1) r' (Nat.succ_lt_succ hi) hr, hm, hc⟩
  · rintro (⟨h1, j, q, hj, hb, hm, hc⟩ | ⟨_, hm, hc⟩)
    · refine ⟨j + 1, q, hj, fun i r' hi hr => ?_, hm, hc⟩
      cases i with
      | zero =>
        have : r = r' := Option.some.inj hr
        subst this
        exact h1
      | succ i => exact hb i r' (Nat.lt_of_succ_lt_succ hi) hr
    · exact ⟨0, r, rfl, fun i _ hi => absurd hi (Nat.not_lt_zero _), hm, hc⟩
/-- alike wherever a block may have to be cleaned -/
def Alk (p : Nat) (rows rows' : List RowD) : Prop := ∀ (cs : List Int) (k : Nat), (∀ c ∈ cs, 0 ≤ c ∧ c ≤ (p : Int)) → (∃ c ∈ cs, c < (p : Int)) → (PickR rows cs k ↔ PickR rows' cs k)
theorem Alk.symm {p : Nat} {rows rows' : List RowD} (h : Alk p rows rows') : Alk p rows' rows := fun cs k h1 h2 => (h cs k h1 h2).symm
theorem pick_app {A B B' : List RowD} {cs : List Int} {k : Nat} (h : PickR B cs k ↔ PickR B' cs k) : PickR (A ++ B) cs k ↔ PickR (A ++ B') cs k := by
  induction A with
  | nil => exact h
  | cons r A ih =>
    rw [List.cons_append, List.cons_append, pick_cons, pick_cons, ih]
/-- a row that takes no more than the row ahead of it -/
theorem pick_idle {r q : RowD} {C : List RowD} {cs : List Int} {k : Nat} (h : q.1 ≤ r.1) : PickR (r :: C) cs k ↔ PickR (r :: q :: C) cs k := by
  rw [pick_cons, pick_cons (r := r) (rs := q :: C)]
  constructor
  · rintro (⟨h1, h2⟩ | h1)
    · refine .inl ⟨h1, pick_cons.mpr (.inl ⟨plcs_nil.mpr fun i hi z => plcs_nil.mp h1 i hi (Int.le_trans z h), h2⟩)⟩
    · exact .inr h1
  · rintro (⟨h1, h2⟩ | h1)
    · have hq : plcs q.1 cs cs.length = [] := plcs_nil.mpr fun i hi z => plcs_nil.mp h1 i hi (Int.le_trans z h)
      rcases pick_cons.mp h2 with ⟨_, z⟩ | ⟨z, _⟩
      · exact .inl ⟨h1, z⟩
      · exact absurd hq z
    · exact .inr h1
theorem alk_idle {p : Nat} {A C : List RowD} {r q : RowD} (h : q.1 ≤ r.1) : Alk p (A ++ r :: C) (A ++ r :: q :: C) := fun cs k _ _ => pick_app (pick_idle h)
theorem mem_at {cs : List Int} {c : Int} (h : c ∈ cs) : ∃ i, i < cs.length ∧ cs.getD i 0 = c := by
  obtain ⟨i, hi⟩ := List.mem_iff_getElem?.mp h
  have hl := (List.getElem?_eq_some_iff.mp hi).1
  exact ⟨i, hl, by rw [List.getD_eq_getElem?_getD, hi]; rfl⟩
theorem at_mem {cs : List Int} {i : Nat} (h : i < cs.length) : cs.getD i 0 ∈ cs := by
  rw [List.getD_eq_getElem?_getD, List.getElem?_eq_getElem h]
  exact List.getElem_mem h
/-- a first row for all blocks with a dead page -/
theorem alk_after {p : Nat} {w : Str} {T T' : List RowD} : Alk p (((p : Int) - 1, w) :: T) (((p : Int) - 1, w) :: T') := fun cs k _ h2 => by
  obtain ⟨c, hc, hlt⟩ := h2
  obtain ⟨i, hi, e⟩ := mem_at hc
  have hne : plcs ((p : Int) - 1) cs cs.length ≠ [] := fun z => plcs_nil.mp z i hi (by rw [e]; omega)
  rw [pick_cons, pick_cons]
  constructor
  · rintro (⟨z, _⟩ | z)
    · exact absurd z hne
    · exact .inr z
  · rintro (⟨z, _⟩ | z)
    · exact absurd z hne
    · exact .inr z
def zeroW : List Str := ["oldest", "least", "most"]
theorem zero_word {w : Str} (h : w ∈ zeroW) : w ∈ wordsL := by
  have z : ∀ w ∈ zeroW, w ∈ wordsL := by decide +kernel
  exact z w h
/-- blocks without living pages: the first of them -/
theorem cho_flat {sg : Bool} {cs : List Int} {pl : List Nat} (h0 : ∀ k ∈ pl, cs.getD k 0 = 0) {k : Nat} : (∃ j, Best sg cs pl j k) ↔ pl[0]? = some k := by
  constructor
  · rintro ⟨j, h1, h2⟩
    cases j with
    | zero => exact h1
    | succ j =>
      cases e : pl[0]? with
      | none =>
        have := (List.getElem?_eq_some_iff.mp h1).1
        have := List.getElem?_eq_none_iff.mp e
        omega
      | some k0 =>
        have z := h2 0 k0 e
        have e1 := h0 k (List.mem_of_getElem? h1)
        have e2 := h0 k0 (List.mem_of_getElem? e)
        split at z <;> have := z.2 (Nat.succ_pos _) <;> omega
  · intro h
    refine ⟨0, h, fun j' k' hj => ?_⟩
    have e1 := h0 k (List.mem_of_getElem? h)
    have e2 := h0 k' (List.mem_of_getElem? hj)
    split <;> exact ⟨by omega, fun z => absurd z (Nat.not_lt_zero _)⟩
theorem cho_zero {cs : List Int} {pl : List Nat} {w : Str} (hw : w ∈ zeroW) (h0 : ∀ k ∈ pl, cs.getD k 0 = 0) {k : Nat} : ChoR w cs pl k ↔ pl[0]? = some k := by
  unfold ChoR
  rw [cho_flat h0, cho_flat h0]
  simp only [zeroW, List.mem_cons, List.not_mem_nil, or_false] at hw
  rcases hw with rfl | rfl | rfl
  · exact ⟨fun z => z.1 rfl, fun z => ⟨fun _ => z, fun e => absurd e (by decide), fun e => absurd e (by decide), fun e => absurd e (by decide)⟩⟩
  · exact ⟨fun z => z.2.2.1 rfl, fun z => ⟨fun e => absurd e (by decide), fun e => absurd e (by decide), fun _ => z, fun e => absurd e (by decide)⟩⟩
  · exact ⟨fun z => z.2.2.2 rfl, fun z => ⟨fun e => absurd e (by decide), fun e => absurd e (by decide), fun e => absurd e (by decide), fun _ => z⟩⟩
theorem zero_at {cs : List Int} (hpos : ∀ c ∈ cs, 0 ≤ c) : ∀ k ∈ plcs 0 cs cs.length, cs.getD k 0 = 0 := fun k hk => by
  obtain ⟨h1, h2⟩ := plcs_mem.mp hk
  have := hpos _ (at_mem h1)
  omega
theorem alk_zero {p : Nat} {A C : List RowD} {w w' : Str} (hw : w ∈ zeroW) (hw' : w' ∈ zeroW) : Alk p (A ++ ((0 : Int), w) :: C) (A ++ ((0 : Int), w') :: C) := fun cs k h1 _ => by
  refine pick_app ?_
  have h0 := zero_at fun c hc => (h1 c hc).1
  rw [pick_cons, pick_cons]
  dsimp only
  rw [cho_zero hw h0, cho_zero hw' h0]
/-- the first of the least -/
def Lst (cs : List Int) (S : Nat → Prop) (k : Nat) : Prop := S k ∧ ∀ k', S k' → cs.getD k 0 ≤ cs.getD k' 0 ∧ (k' < k → cs.getD k 0 < cs.getD k' 0)
theorem plcs_asc {L : Int} {cs : List Int} {n : Nat} : (plcs L cs n).Pairwise (· < ·) := List.Pairwise.filter _ List.pairwise_lt_range
theorem asc_lt {l : List Nat} (h : l.Pairwise (· < ·)) {i j a c : Nat} (hi : l[i]? = some a) (hj : l[j]? = some c) : i < j ↔ a < c := by
  obtain ⟨li, ei⟩ := List.getElem?_eq_some_iff.mp hi
  obtain ⟨lj, ej⟩ := List.getElem?_eq_some_iff.mp hj
  have key : ∀ {i j : Nat} (li : i < l.length) (lj : j < l.length), i < j → l[i] < l[j] := fun {i j} li lj hij => List.pairwise_iff_getElem.mp h i j li lj hij
  constructor
  · intro hij
    rw [← ei, ← ej]
    exact key li lj hij
  · intro hac
    rcases Nat.lt_trichotomy i j with z | z | z
    · exact z
    · subst z
      rw [hi] at hj
      have := Option.some.inj hj
      omega
    · have := key lj li z
      rw [ei, ej] at this
      omega
theorem best_lst {L : Int} {cs : List Int} {n k : Nat} : (∃ j, Best true cs (plcs L cs n) j k) ↔ Lst cs (fun k => k ∈ plcs L cs n) k := by
  constructor
  · rintro ⟨j, h1, h2⟩
    refine ⟨List.mem_of_getElem? h1, fun k' hk' => ?_⟩
    obtain ⟨j', hj'⟩ := List.mem_iff_getElem?.mp hk'
    obtain ⟨a, c⟩ := h2 j' k' hj'
    exact ⟨a, fun z => c ((asc_lt plcs_asc hj' h1).mpr z)⟩
  · rintro ⟨h1, h2⟩
    obtain ⟨j, hj⟩ := List.mem_iff_getElem?.mp h1
    refine ⟨j, hj, fun j' k' hj' => ?_⟩
    obtain ⟨a, c⟩ := h2 k' (List.mem_of_getElem? hj')
    rw [if_pos rfl]
    exact ⟨a, fun z => c ((asc_lt plcs_asc hj' hj).mp z)⟩
/-- the least of some of the least ones is the least of all -/
theorem lst_sub {cs : List Int} {n : Nat} {L M : Int} (hle : L ≤ M) (hne : plcs L cs n ≠ []) {k : Nat} : Lst cs (fun k => k ∈ plcs L cs n) k ↔ Lst cs (fun k => k ∈ plcs M cs n) k := by
  obtain ⟨k0, hk0⟩ := List.exists_mem_of_ne_nil _ hne
  obtain ⟨a0, b0⟩ := plcs_mem.mp hk0
  constructor
  · rintro ⟨h1, h2⟩
    obtain ⟨a1, b1⟩ := plcs_mem.mp h1
    refine ⟨plcs_mem.mpr ⟨a1, Int.le_trans b1 hle⟩, fun k' hk' => ?_⟩
    obtain ⟨a2, b2⟩ := plcs_mem.mp hk'
    by_cases c : cs.getD k' 0 ≤ L
    · exact h2 k' (plcs_mem.mpr ⟨a2, c⟩)
    · exact ⟨by omega, fun _ => by omega⟩
  · rintro ⟨h1, h2⟩
    obtain ⟨a1, b1⟩ := plcs_mem.mp h1
    have z := (h2 k0 (plcs_mem.mpr ⟨a0, Int.le_trans b0 hle⟩)).1
    refine ⟨plcs_mem.mpr ⟨a1, by omega⟩, fun k' hk' => ?_⟩
    obtain ⟨a2, b2⟩ := plcs_mem.mp hk'
    exact h2 k' (plcs_mem.mpr ⟨a2, Int.le_trans b2 hle⟩)
theorem cho_least {cs : List Int} {pl : List Nat} {k : Nat} : ChoR "least" cs pl k ↔ ∃ j, Best true cs pl j k := by
  unfold ChoR
  exact ⟨fun z => z.2.2.1 rfl, fun z => ⟨fun e => absurd e (by decide), fun e => absurd e (by decide), fun _ => z, fun e => absurd e (by decide)⟩⟩
theorem best_mem {sg : Bool} {cs : List Int} {pl : List Nat} {j k : Nat} (h : Best sg cs pl j k) : k ∈ pl := List.mem_of_getElem? h.1
/-- rows of least, or for blocks without living pages, ahead of least -/
theorem alk_least {p : Nat} : ∀ (A : List RowD), (∀ r ∈ A, r.1 ≤ (p : Int) ∧ (r.2 = "least" ∨ (r.1 = 0 ∧ r.2 ∈ zeroW))) → Alk p [((p : Int), ("least" : Str))] (A ++ [((p : Int), ("least" : Str))])
  | [], _ => fun _ _ _ _ => Iff.rfl
  | r :: A, h => fun cs k h1 h2 => by
    obtain ⟨hr, hw⟩ := h r (List.mem_cons_self ..)
    have ih := alk_least A (fun x hx => h x (List.mem_cons_of_mem _ hx)) cs k h1 h2
    rw [List.cons_append, pick_cons (r := r)]
    by_cases hne : plcs r.1 cs cs.length = []
    · rw [ih]
      constructor
      · intro z; exact .inl ⟨hne, z⟩
      · rintro (⟨_, z⟩ | ⟨z, _⟩)
        · exact z
        · exact absurd hne z
    · have hall : plcs (p : Int) cs cs.length ≠ [] := fun z => hne (plcs_nil.mpr fun i hi q => plcs_nil.mp z i hi (Int.le_trans q hr))
      have e1 : PickR [((p : Int), ("least" : Str))] cs k ↔ Lst cs (fun k => k ∈ plcs (p : Int) cs cs.length) k := by
        rw [pick_cons]
        dsimp only
        rw [cho_least, best_lst]
        constructor
        · rintro (⟨z, _⟩ | ⟨_, _, z⟩)
          · exact absurd z hall
          · exact z
        · intro z
          exact .inr ⟨hall, z.1, z⟩
      have e2 : (k ∈ plcs r.1 cs cs.length ∧ ChoR r.2 cs (plcs r.1 cs cs.length) k) ↔ Lst cs (fun k => k ∈ plcs r.1 cs cs.length) k := by
        rcases hw with w | ⟨z0, w⟩
        · rw [w, cho_least, best_lst]
          exact ⟨fun z => z.2, fun z => ⟨z.1, z⟩⟩
        · have h0 : ∀ k ∈ plcs r.1 cs cs.length, cs.getD k 0 = 0 := by
            rw [z0]
            exact zero_at fun c hc => (h1 c hc).1
          rw [cho_zero w h0, ← cho_flat (sg := true) h0, best_lst]
          exact ⟨fun z => z.2, fun z => ⟨z.1, z⟩⟩
      rw [e1, e2, ← lst_sub hr hne]
      constructor
      · intro z; exact .inr ⟨hne, z⟩
      · rintro (⟨z, _⟩ | ⟨_, z⟩)
        · exact absurd z hne
        · exact z
/-! ### a block is picked -/
theorem best_ex {sg : Bool} {cs : List Int} : ∀ (pl : List Nat), pl ≠ [] → ∃ j k, Best sg cs pl j k
  | [], h => absurd rfl h
  | [x], _ => ⟨0, x, rfl, fun j' k' hj => by
    cases j' with
    | zero =>
      have : x = k' := Option.some.inj hj
      subst this
      split <;> exact ⟨Int.le_refl _, fun z => absurd z (Nat.lt_irrefl _)⟩
    | succ j' => simp at hj⟩
  | x :: y :: l, _ => by
    obtain ⟨j, k, h1, h2⟩ := best_ex (sg := sg) (cs := cs) (y :: l) (by simp)
    by_cases c : if sg = true then cs.getD x 0 ≤ cs.getD k 0 else cs.getD k 0 ≤ cs.getD x 0
    · refine ⟨0, x, rfl, fun j' k' hj => ?_⟩
      cases j' with
      | zero =>
        have : x = k' := Option.some.inj hj
        subst this
        split <;> exact ⟨Int.le_refl _, fun z => absurd z (Nat.lt_irrefl _)⟩
      | succ j' =>
        have z := h2 j' k' hj
        split at z
        · rename_i e
          rw [if_pos e] at c ⊢
          exact ⟨Int.le_trans c z.1, fun z => absurd z (Nat.not_lt_zero _)⟩
        · rename_i e
          rw [if_neg e] at c ⊢
          exact ⟨Int.le_trans z.1 c, fun z => absurd z (Nat.not_lt_zero _)⟩
    · refine ⟨j + 1, k, h1, fun j' k' hj => ?_⟩
      cases j' with
      | zero =>
        have : x = k' := Option.some.inj hj
        subst this
        split
        · rename_i e
          rw [if_pos e] at c
          exact ⟨by omega, fun _ => by omega⟩
        · rename_i e
          rw [if_neg e] at c
          exact ⟨by omega, fun _ => by omega⟩
      | succ j' =>
        have z := h2 j' k' hj
        split at z
        · rename_i e
          rw [if_pos e]
          exact ⟨z.1, fun q => z.2 (by omega)⟩
        · rename_i e
          rw [if_neg e]
          exact ⟨z.1, fun q => z.2 (by omega)⟩
theorem cho_ex {w : Str} {cs : List Int} {pl : List Nat} (hw : w ∈ wordsL) (h : pl ≠ []) : ∃ k, k ∈ pl ∧ ChoR w cs pl k := by
  simp only [wordsL, List.mem_cons, List.not_mem_nil, or_false] at hw
  unfold ChoR
  rcases hw with rfl | rfl | rfl | rfl
  · cases pl with
    | nil => exact absurd rfl h
    | cons a l => exact ⟨a, List.mem_cons_self .., fun _ => rfl, fun e => absurd e (by decide), fun e => absurd e (by decide), fun e => absurd e (by decide)⟩
  · cases e : pl.getLast? with
    | none => exact absurd (List.getLast?_eq_none_iff.mp e) h
    | some k => exact ⟨k, List.mem_of_getLast? e, fun e => absurd e (by decide), fun _ => rfl, fun e => absurd e (by decide), fun e => absurd e (by decide)⟩
  · obtain ⟨j, k, z⟩ := best_ex (sg := true) (cs := cs) pl h
    exact ⟨k, best_mem z, fun e => absurd e (by decide), fun e => absurd e (by decide), fun _ => ⟨j, z⟩, fun e => absurd e (by decide)⟩
  · obtain ⟨j, k, z⟩ := best_ex (sg := false) (cs := cs) pl h
    exact ⟨k, best_mem z, fun e => absurd e (by decide), fun e => absurd e (by decide), fun e => absurd e (by decide), fun _ => ⟨j, z⟩⟩
theorem pick_ex {p : Nat} {y : Str} {cs : List Int} (hy : y ∈ wordsL) (hne : cs ≠ []) (hle : ∀ c ∈ cs, c ≤ (p : Int)) : ∀ (A : List RowD), (∀ r ∈ A, r.2 ∈ wordsL) → ∃ k, PickR (A ++ [((p : Int), y)]) cs k
  | [], _ => by
    have h : plcs (p : Int) cs cs.length ≠ [] := fun z => by
      cases cs with
      | nil => exact hne rfl
      | cons c l => exact plcs_nil.mp z 0 (by simp) (hle c (List.mem_cons_self ..))
    obtain ⟨k, h1, h2⟩ := cho_ex (cs := cs) hy h
    exact ⟨k, pick_cons.mpr (.inr ⟨h, h1, h2⟩)⟩
  | r :: A, hA => by
    by_cases c : plcs r.1 cs cs.length = []
    · obtain ⟨k, h⟩ := pick_ex hy hne hle A fun x hx => hA x (List.mem_cons_of_mem _ hx)
      exact ⟨k, pick_cons.mpr (.inl ⟨c, h⟩)⟩
    · obtain ⟨k, h1, h2⟩ := cho_ex (cs := cs) (hA r (List.mem_cons_self ..)) c
      exact ⟨k, pick_cons.mpr (.inr ⟨c, h1, h2⟩)⟩
end KX

set_option Elab.async false
set_option linter.all false
set_option maxRecDepth 100000
set_option maxHeartbeats 4000000
/-! what rules that pick alike have alike -/
namespace KX
open PySem PySem.Spec PyProof.Rows L2 G1 G2 G3 K2 G5 LamX K3 ClX K6 KZ
open K2.KQ (Spot SpotK Rch NextX stkM takM Rls ClnX PageX Good Clean Due leadM rotM StuckC stuck_on stuck_off stuck_stk due_split due_less pick_rule sumS deadM dead_good clean_due Way way_end addM tak_box)
/-- two rules of one shape -/
structure Al (b p n : Nat) (rows rows' : List RowD) : Prop where
  hb : 3 ≤ b
  hp : 2 ≤ p
  hn : n ≤ p * (b - 1)
  R : Rls p rows
  R' : Rls p rows'
  ex : ∀ cs : List Int, cs ≠ [] → (∀ c ∈ cs, c ≤ (p : Int)) → ∃ k, PickR rows cs k
  ex' : ∀ cs : List Int, cs ≠ [] → (∀ c ∈ cs, c ≤ (p : Int)) → ∃ k, PickR rows' cs k
  alk : Alk p rows rows'
variable {b p n : Nat} {rows rows' : List RowD}
theorem Al.symm (h : Al b p n rows rows') : Al b p n rows' rows := ⟨h.hb, h.hp, h.hn, h.R', h.R, h.ex', h.ex, h.alk.symm⟩
theorem Al.due (h : Al b p n rows rows') {c : List Int} (d : Due b p n c) {k : Nat} : PickR rows c k ↔ PickR rows' c k := by
  refine h.alk c k d.box ?_
  obtain ⟨x, hx, ne⟩ := due_less h.hb h.hn d
  exact ⟨x, hx, by have := (d.box x hx).2; omega⟩
theorem clnx_alk (h : Al b p n rows rows') {ms : List (List Int)} {c : List Int} {r : Option (List Int × Int)} (x : ClnX p rows ms c r) : Due b p n c → ClnX p rows' ms c r := by
  induction x with
  | again hm => intro _; exact .again hm
  | done hn hk hp => intro d; exact .done hn ((h.due d).mp hk) hp
  | step hn hk hp hr ih => intro d; exact .step hn ((h.due d).mp hk) hp (ih (d.rot (pick_lt hk)))
theorem pagex_alk (h : Al b p n rows rows') {s : Spot} {r : Option Spot} (g : Good b p n s) (hs : sumS s < (n : Int)) (x : PageX b p rows s r) : PageX b p rows' s r := by
  refine ⟨x.1, fun c => ?_⟩
  obtain ⟨o, h1, h2⟩ := x.2 c
  exact ⟨o, clnx_alk h h1 (clean_due g hs c), h2⟩
theorem next_alk (h : Al b p n rows rows') {fl : Bool} {s : Spot} {r : Option Spot} (g : Good b p n s) (x : NextX b p n rows fl s r) : NextX b p n rows' fl s r := by
  rcases x with ⟨d, hd, z⟩ | ⟨z1, z2⟩ | z
  · obtain ⟨g', hs, _⟩ := dead_good g hd
    exact .inl ⟨d, hd, pagex_alk h g' hs z⟩
  · exact .inr (.inl ⟨z1, pagex_alk h g z1 z2⟩)
  · exact .inr (.inr z)
theorem good_start : Good b p n ([], []) := ⟨Nat.zero_le _, fun x hx => (nomatch hx), .inl rfl, by show ((0 : Int) + 0) ≤ (n : Int); omega⟩
theorem rch_good (hp : 2 ≤ p) (hb : 3 ≤ b) {fl : Bool} {s : Spot} (x : Rch b p n rows fl s) : Good b p n s := by
  induction x with
  | start => exact good_start
  | next _ hn ih => exact next_good hp hb ih hn
theorem rch_alk (h : Al b p n rows rows') {fl : Bool} {s : Spot} (x : Rch b p n rows fl s) : Rch b p n rows' fl s := by
  induction x with
  | start => exact .start
  | next hr hn ih => exact .next ih (next_alk h (rch_good h.hp h.hb hr) hn)
theorem stkc_alk (h : Al b p n rows rows') : ∀ (m : Nat) (c : List Int), leadM (p : Int) c < m → Due b p n c → StuckC (takM p 0 rows).1 (takM p 0 rows).2 p c → ¬ StuckC (takM p 0 rows').1 (takM p 0 rows').2 p c → False
  | 0, _, hm, _, _, _ => absurd hm (Nat.not_lt_zero _)
  | m + 1, c, hm, d, hs, hns => by
    have hne : c ≠ [] := fun z => by
      have := d.len
      have := h.hb
      rw [z] at *
      simp at *
      omega
    obtain ⟨k, hk⟩ := h.ex c hne fun x hx => (d.box x hx).2
    have hR := pick_rule hk
    obtain ⟨e, s'⟩ := stuck_on h.hb d h.R hR hs
    obtain ⟨ns', lt⟩ := stuck_off h.hb h.hn d h.R' (pick_rule ((h.due d).mp hk)) hns e
    exact stkc_alk h m _ (by omega) (d.rot (pick_lt hk)) s' ns'
theorem stk_alk (h : Al b p n rows rows') (x : (stkM b p n rows).isSome = true) : (stkM b p n rows').isSome = true := by
  cases e : stkM b p n rows' with
  | some _ => rfl
  | none =>
    exfalso
    obtain ⟨h1, h2⟩ := tak_box p rows 0 (by omega) (by omega) h.R.ok
    refine way_end h.hb h.hp h.hn (Kn := fun s => Rch b p n rows' false s) ⟨fun s hs hlt hc => .next hs (.inr (.inl ⟨hlt, fun _ => rfl, fun z => absurd z hc⟩)), fun s hs d hd hc => .next hs (.inl ⟨d, hd, fun _ => rfl, fun z => absurd z hc⟩), fun s hs d hd hc hst => ?_⟩ .start h1 h2 x
    obtain ⟨g', hsum, _⟩ := dead_good (rch_good h.hp h.hb hs) hd
    have due := clean_due g' hsum hc
    by_cases c : StuckC (takM p 0 rows').1 (takM p 0 rows').2 p d.1
    · have z := stuck_stk h.hb due c
      rw [e] at z
      cases z
    · exact stkc_alk h _ d.1 (Nat.lt_succ_self _) due hst c
/-! ### plays -/
variable {s s' s2 : Pl} {al : List Str}
theorem due_play (D : Dims b p) (I : PInv b p s al) (hf : s.fil = none) {f : Nat} (hfe : s.free = [f]) (hlt : al.length < n) : Due b p n (cntP s) := by
  have hcl := I.clo_len hf hfe
  have hsum := spot_sum I
  refine ⟨?_, fun x hx => ?_, ?_⟩
  · unfold cntP
    rw [List.length_map]
    omega
  · unfold cntP at hx
    obtain ⟨j, hj, rfl⟩ := List.mem_map.mp hx
    have hjb : j < b := I.mem (List.mem_append_left _ (List.mem_append_right _ hj))
    have z := kept_len (s.cont.getD j [])
    rw [I.fc j hj] at z
    rw [I.lv j hjb]
    show (0 : Int) ≤ (((keptN (s.cont.getD j [])).length : Nat) : Int) ∧ (((keptN (s.cont.getD j [])).length : Nat) : Int) ≤ (p : Int)
    omega
  · have e2 : opnL s = [] := by
      unfold opnL
      rw [hf]
    unfold sumS spotP at hsum
    rw [e2] at hsum
    have e3 : (([] : List Int).drop 1).sum = 0 := rfl
    dsimp only at hsum
    rw [e3] at hsum
    omega
theorem cleans_alk (h : Al b p n rows rows') (D : Dims b p) {seen : List (List Int)} {s1 : Pl} {k : Nat} {cl : List Nat} {cp : Int} (x : Cleans p rows seen s s1 k cl cp) : PInv b p s al → al.length < n → Cleans p rows' seen s s1 k cl cp := by
  induction x with
  | stop hf => intro _ _; exact .stop hf
  | @step seen s s2 i j f k cl cp hf hfe hi hn hpk hrest ih =>
    intro I hlt
    obtain ⟨T, hfk, hfb, hkb⟩ := I.cln D.p0 ⟨_, hfe⟩ hf hfe hi
    have I' := I.clean D.p0 hf hfe hi hfk hfb hkb T
    exact .step hf hfe hi hn ((h.due (due_play D I hf hfe hlt)).mp hpk) (ih I' hlt)
theorem stuck_alk (h : Al b p n rows rows') (D : Dims b p) {seen : List (List Int)} (x : Stuck p rows seen s s2) : PInv b p s al → al.length < n → Stuck p rows' seen s s2 := by
  induction x with
  | here hf hfe hm => intro _ _; exact .here hf hfe hm
  | @step seen s s2 i j f hf hfe hi hn hpk hrest ih =>
    intro I hlt
    obtain ⟨T, hfk, hfb, hkb⟩ := I.cln D.p0 ⟨_, hfe⟩ hf hfe hi
    have I' := I.clean D.p0 hf hfe hi hfk hfb hkb T
    exact .step hf hfe hi hn ((h.due (due_play D I hf hfe hlt)).mp hpk) (ih I' hlt)
theorem wr_lt {e : Str × Str} (hal : al.length ≤ n) (L : LetE n al e) (hw : e.1 = "write") : (al.erase e.2).length < n := by
  rcases L.ok with ⟨_, z⟩ | ⟨w, _⟩
  · exact erase_len z hal
  · rw [w] at hw
    exact absurd hw (by decide)
theorem evt_alk (h : Al b p n rows rows') (D : Dims b p) {e : Str × Str} (I : PInv b p s al) (hal : al.length ≤ n) (L : LetE n al e) (x : EvtRG p rows s s' e.1 e.2) : EvtRG p rows' s s' e.1 e.2 := by
  obtain ⟨s0, hd, hw⟩ := x
  obtain ⟨I0, _⟩ := die_any I hd
  refine ⟨s0, hd, ?_⟩
  rcases hw with z | ⟨hw, s1, k, cl, cp, ho, e1⟩
  · exact .inl z
  · refine .inr ⟨hw, s1, k, cl, cp, ?_, e1⟩
    rcases ho with z | ⟨z1, z2⟩
    · exact .inl z
    · exact .inr ⟨z1, cleans_alk h D z2 I0 (wr_lt hal L hw)⟩
theorem evtstk_alk (h : Al b p n rows rows') (D : Dims b p) {e : Str × Str} (I : PInv b p s al) (hal : al.length ≤ n) (L : LetE n al e) (x : EvtStuck p rows s s2 e.1 e.2) : EvtStuck p rows' s s2 e.1 e.2 := by
  obtain ⟨s0, hd, hw, hf, hfr, hst⟩ := x
  obtain ⟨I0, _⟩ := die_any I hd
  exact ⟨s0, hd, hw, hf, hfr, stuck_alk h D hst I0 (wr_lt hal L hw)⟩
theorem plays_alk (h : Al b p n rows rows') (D : Dims b p) : ∀ (es : List (Str × Str)) (s s' : Pl) (al : List Str), PInv b p s al → al.length ≤ n → Lets n al es → PlaysToG p rows s es s' → PlaysToG p rows' s es s'
  | [], _, _, _, _, _, _, x => x
  | e :: es, s, s', al, I, hal, ⟨l1, l2⟩, ⟨s1, h1, h2⟩ => by
    obtain ⟨I', _⟩ := evt_to D.p0 I h1
    exact ⟨s1, evt_alk h D I hal l1 h1, plays_alk h D es s1 s' _ I' (aft_len l1 hal) l2 h2⟩
/-- as far as a load is played -/
def Far (p b : Nat) (rows : List RowD) (es : List (Str × Str)) (m : Nat) (s : Pl) : Prop :=
  m ≤ es.length ∧ PlaysToG p rows (newP b) (es.take m) s ∧ (m = es.length ∨ ∃ (e : Str × Str) (s2 : Pl), es[m]? = some e ∧ EvtStuck p rows s s2 e.1 e.2)
theorem lets_memX {n : Nat} : ∀ {es : List (Str × Str)} {al : List Str}, Lets n al es → ∀ {i : Nat} {e : Str × Str}, es[i]? = some e → LetE n ((es.take i).foldl aft al) e
  | [], _, _, i, _, h => by simp at h
  | x :: es, al, ⟨h1, _⟩, 0, e, h => by
    rw [← Option.some.inj h]
    exact h1
  | x :: es, al, ⟨_, h2⟩, i + 1, e, h => lets_memX (es := es) h2 h
section
variable {es : List (Str × Str)} {m m' : Nat}
theorem far_le (PU : PureS b p n rows es) (h : Far p b rows es m s) (h' : Far p b rows es m' s') : m' ≤ m := by
  obtain ⟨h1, h2, h3⟩ := h
  obtain ⟨h1', h2', _⟩ := h'
  rcases h3 with rfl | ⟨e, s2, he, hst⟩
  · exact h1'
  · by_cases c : m' ≤ m
    · exact c
    · have hl : (es.take m').take (m + 1) = es.take (m + 1) := by rw [List.take_take, Nat.min_eq_left (by omega)]
      obtain ⟨s3, h4, _⟩ := plays_take h2' (m + 1)
      rw [hl] at h4
      obtain ⟨s4, h5, hr⟩ := plays_one he h4
      have z := plays_uniq PU.wd h5 h2
      subst z
      exact (no_both PU.wd PU.D.p0 ((PU.take m).all.2 _ h5).1 hr hst).elim
theorem far_eq (PU : PureS b p n rows es) (h : Far p b rows es m s) (h' : Far p b rows es m' s') : m' = m ∧ s' = s := by
  have e := Nat.le_antisymm (far_le PU h h') (far_le PU h' h)
  subst e
  exact ⟨rfl, plays_uniq PU.wd h'.2.1 h.2.1⟩
theorem far_alk (h : Al b p n rows rows') (PU : PureS b p n rows es) (x : Far p b rows es m s) : Far p b rows' es m s := by
  obtain ⟨h1, h2, h3⟩ := x
  have PT := PU.take m
  have I := (PT.all.2 _ h2).1
  have hal := al_lenS (n := n) _ [] (Nat.zero_le _) PT.lets
  refine ⟨h1, plays_alk h PU.D _ _ _ [] (pinv_new (by have := PU.D.b2; omega) PU.D.p0) (Nat.zero_le _) PT.lets h2, ?_⟩
  rcases h3 with z | ⟨e, s2, he, hst⟩
  · exact .inl z
  · exact .inr ⟨e, s2, he, evtstk_alk h PU.D I hal (lets_memX PU.lets he) hst⟩
end
end KX

set_option Elab.async false
set_option linter.all false
set_option maxRecDepth 100000
set_option maxHeartbeats 8000000
/-! rules that pick alike, made -/
namespace KX
open PySem PySem.Spec PyProof.Rows L2 G1 G2 G3 K2 G5 LamX K3 ClX K6 KZ
open K2.KQ (sqt_upd)
theorem six_threeX (m : Nat) : HT.sIx m 0 (some (-3)) = m - 3 := by
  unfold HT.sIx
  dsimp only
  rw [if_pos (by decide)]
  omega
theorem six_oneX (m : Nat) : HT.sIx m m (some (-1)) = m - 1 := by
  unfold HT.sIx
  dsimp only
  rw [if_pos (by decide)]
  omega
theorem paired_dropX {α β : Type} {F : α → β → Prop} : ∀ {l : List α} {m : List β}, Paired F l m → ∀ i : Nat, Paired F (l.drop i) (m.drop i)
  | _, _, h, 0 => h
  | _, _, .nil, i + 1 => by simp; exact .nil
  | _, _, .cons r t, i + 1 => paired_dropX t i
theorem paired_app {α β : Type} {F : α → β → Prop} : ∀ {l l2 : List α} {m m2 : List β}, Paired F l m → Paired F l2 m2 → Paired F (l ++ l2) (m ++ m2)
  | _, _, _, _, .nil, h => h
  | _, _, _, _, .cons r t, h => .cons r (paired_app t h)
theorem cut_fromX {xs : List V} {d : Nat} : cutV xs (some (d : Int)) none = xs.drop d := by
  unfold cutV HT.sIx
  dsimp only
  rw [if_neg (by omega), Int.toNat_natCast]
  by_cases c : d ≤ xs.length
  · rw [Nat.min_eq_left c, List.take_of_length_le (by rw [List.length_drop]; omega)]
  · rw [Nat.min_eq_right (by omega), List.drop_eq_nil_of_le (Nat.le_refl _), List.drop_eq_nil_of_le (by omega), List.take_nil]
theorem atI_m1 {xs : List V} {k : Nat} {v : V} (hl : xs.length = k + 1) (h : xs[k]? = some v) : atI xs (-1) = some v := by
  unfold atI ixN
  rw [hl, if_neg (by decide), if_pos (by omega)]
  show xs[(-1 + ((k + 1 : Nat) : Int)).toNat]? = some v
  rw [show (-1 + ((k + 1 : Nat) : Int)).toNat = k by omega]
  exact h
/-- a list of rows -/
def RowsL (K : PySem.W.Frag) (H : Hp) (l : Addr) (rows : List RowD) : Prop := ∃ rs : List Addr, H l = some (.lst (rs.map V.ref)) ∧ Paired (fun (a : Addr) (r : RowD) => SqT K H a [.int r.1, .str r.2]) rs rows
section
variable {K : PySem.W.Frag} {H H' : Hp} {Q : VK} {l b pl : Addr} {A B : List RowD} {r : RowD}
theorem RowsL.same (h : RowsL K H l A) (s : Same H H') : RowsL K H' l A := by
  obtain ⟨rs, h1, h2⟩ := h
  exact ⟨rs, s _ _ h1, Paired.mapP h2 fun _ _ z => K2.Same.tup s z⟩
theorem RowsL.stp (h : RowsL K H l A) (n : l ≠ pl) (hp : PoolAt H pl) (s : Stp pl H H') : RowsL K H' l A := by
  obtain ⟨rs, h1, h2⟩ := h
  exact ⟨rs, s.2 _ _ n h1, Paired.mapP h2 fun _ _ z => s.tup hp z⟩
theorem slL_to {k : Nat} (h : RowsL K H l A) (kq : ∀ (H' : Hp) (q : Addr), Same H H' → RowsL K H' q (A.take k) → Q (.ref q) H') : rSlL K (.ref l) none (some (k : Int)) H Q := by
  obtain ⟨rs, h1, h2⟩ := h
  refine ⟨l, _, rfl, SqL.of h1, fun p np => ?_⟩
  have s := same_lay (o := .lst (cutV (rs.map V.ref) none (some (k : Int)))) np
  exact kq _ p s ⟨rs.take k, by rw [upd_same, cut_to, List.map_take], Paired.mapP (paired_take h2 k) fun _ _ z => K2.Same.tup s z⟩
theorem slL_from {k : Nat} (h : RowsL K H l A) (kq : ∀ (H' : Hp) (q : Addr), Same H H' → RowsL K H' q (A.drop k) → Q (.ref q) H') : rSlL K (.ref l) (some (k : Int)) none H Q := by
  obtain ⟨rs, h1, h2⟩ := h
  refine ⟨l, _, rfl, SqL.of h1, fun p np => ?_⟩
  have s := same_lay (o := .lst (cutV (rs.map V.ref) (some (k : Int)) none)) np
  exact kq _ p s ⟨rs.drop k, by rw [upd_same, cut_fromX, List.map_drop], Paired.mapP (paired_dropX h2 k) fun _ _ z => K2.Same.tup s z⟩
theorem slL_init (h : RowsL K H l (A ++ [r])) (kq : ∀ (H' : Hp) (q : Addr), Same H H' → RowsL K H' q A → Q (.ref q) H') : rSlL K (.ref l) none (some (-1)) H Q := by
  obtain ⟨rs, h1, h2⟩ := h
  have hl : rs.length = A.length + 1 := by rw [Paired.length h2, List.length_append]; rfl
  refine ⟨l, _, rfl, SqL.of h1, fun p np => ?_⟩
  have e1 : cutV (rs.map V.ref) none (some (-1)) = (rs.take A.length).map V.ref := by
    unfold cutV
    rw [HT.sIx_none, six_oneX, List.length_map, hl, List.drop_zero, List.map_take]
    congr 1
  rw [e1]
  have s := same_lay (o := .lst ((rs.take A.length).map V.ref)) np
  refine kq _ p s ⟨rs.take A.length, by rw [upd_same], ?_⟩
  have z := paired_take h2 A.length
  rw [List.take_left'] at z
  · exact Paired.mapP z fun _ _ z => K2.Same.tup s z
  · rfl
theorem catL (ha : RowsL K H l A) (hb : RowsL K H b B) (hl : A.length + B.length ≤ 1000) (kq : ∀ (H' : Hp) (q : Addr), Same H H' → RowsL K H' q (A ++ B) → Q (.ref q) H') : rCat (.ref l) (.ref b) H Q := by
  obtain ⟨rs, h1, h2⟩ := ha
  obtain ⟨rs2, h3, h4⟩ := hb
  have l1 := Paired.length h2
  have l2 := Paired.length h4
  refine ⟨l, b, _, _, rfl, rfl, h1, h3, by rw [List.length_map, List.length_map, sizeLine_eq]; omega, fun p np => ?_⟩
  have s := same_lay (o := .lst (rs.map V.ref ++ rs2.map V.ref)) np
  exact kq _ p s ⟨rs ++ rs2, by rw [upd_same, List.map_append], Paired.mapP (paired_app h2 h4) fun _ _ z => K2.Same.tup s z⟩
theorem tup_rows {rs : List Addr} {u : Addr} (nu : H u = none) (h2 : Paired (fun (a : Addr) (r : RowD) => SqT K H a [.int r.1, .str r.2]) rs A) : RowsAt K (upd H u (.tup (rs.map V.ref))) u A := ⟨rs, SqT.of upd_same, Paired.mapP h2 fun _ _ z => K2.Same.tup (same_lay nu) z⟩
theorem lst_rows {rs : List Addr} {u : Addr} (nu : H u = none) (h2 : Paired (fun (a : Addr) (r : RowD) => SqT K H a [.int r.1, .str r.2]) rs A) : RowsL K (upd H u (.lst (rs.map V.ref))) u A := ⟨rs, upd_same, Paired.mapP h2 fun _ _ z => K2.Same.tup (same_lay nu) z⟩
/-- the last three rows of a rule -/
theorem rest_threeX {a : Addr} {p : Nat} {ini : List RowD} {y : Str} (hR : RowsAt K H a (ini ++ [((p : Int), y)])) (k : ∀ (H' : Hp) (r : Addr) (ri : List RowD), Same H H' → RowsAt K H' r (ri ++ [((p : Int), y)]) → ri.length ≤ 2 → (∀ r ∈ ri, r ∈ ini) → Q (.ref r) H') : rSlA K (.ref a) (some (-3)) none H Q := by
  obtain ⟨rs, h1, h2⟩ := hR
  have hl : rs.length = ini.length + 1 := by rw [Paired.length h2, List.length_append]; rfl
  refine ⟨a, _, rfl, h1, fun hw => ?_, fun hw q nq => ?_⟩
  · rw [List.length_map, six_threeX, hl] at hw
    exact k H a ini (Same.refl H) ⟨rs, h1, h2⟩ (by have := hw.1; omega) fun r hr => hr
  · have h3 : 3 ≤ ini.length := by
      by_cases c : 3 ≤ ini.length
      · exact c
      · refine absurd ⟨?_, ?_⟩ hw
        · rw [List.length_map, six_threeX, hl]
          omega
        · rw [HT.sIx_none]
    have e1 : cutV (rs.map V.ref) (some (-3)) none = (rs.drop (ini.length - 2)).map V.ref := by
      unfold cutV
      rw [HT.sIx_none, six_threeX, List.length_map, hl, List.map_drop, List.take_of_length_le]
      · congr 1
      · rw [List.length_drop, List.length_map, hl]
        omega
    rw [e1]
    have sq : Same H (upd H q (.tup ((rs.drop (ini.length - 2)).map V.ref))) := same_lay nq
    refine k _ q (ini.drop (ini.length - 2)) sq ⟨rs.drop (ini.length - 2), SqT.of upd_same, ?_⟩ (by rw [List.length_drop]; omega) fun r hr => List.mem_of_mem_drop hr
    have z := paired_dropX h2 (ini.length - 2)
    rw [List.drop_append_of_le_length (by omega)] at z
    exact Paired.mapP z fun _ _ z => K2.Same.tup sq z
end
abbrev sTon : Stmt := topS 92
abbrev NTon : List Str := ["_law_pool_here"]
theorem scTon : FnScope NTon ["_law_pool_here"] (defScope sTon) := ⟨rfl, rfl, rfl, by decide +kernel, rfl, by decide +kernel, by decide +kernel⟩
def spTon : Sp := fun vs H Q _ => ∃ pl : Addr, vs = [.ref pl] ∧ PoolAt H pl ∧ ∀ (H' : Hp) (w : Str), Stp pl H H' → w ∈ wordsL → Q (.str w) H'
def spPair (K : PySem.W.Frag) : Sp := fun vs H Q _ => ∃ (pl p : Nat), vs = [.ref pl, .int (p : Int)] ∧ PoolAt H pl ∧ 2 ≤ p ∧ p ≤ 5 ∧ ∀ (H' : Hp) (q t1 t2 : Addr) (i1 i2 : List RowD) (y1 y2 : Str), Stp pl H H' → H' q = some (.lst [.ref t1, .ref t2]) → RowsAt K H' t1 (i1 ++ [((p : Int), y1)]) → RowsAt K H' t2 (i2 ++ [((p : Int), y2)]) → IniOk p i1 → IniOk p i2 → y1 ∈ wordsL → y2 ∈ wordsL →
  Alk p (i1 ++ [((p : Int), y1)]) (i2 ++ [((p : Int), y2)]) → Q (.ref q) H'
section
variable {P : Program} {w : World} {K : PySem.W.Frag} {mg : Str → Option Value} {base : Heap}
theorem ok_ton {f : Addr} {fd : FuncData} (F : Fun K "_law_tone" "_law_tone" sTon f fd) (GD : FAt P w K mg base 1 "_law_draw" ["_law_pool_here", "_law_many"] spDraw) : FnOk P w K mg base CX0 2 f fd ["_law_pool_here"] spTon := by
  refine F.ok scTon (fun vs H Q E h => ?_) (fun cdv A outer s H vs Q E hr h => ?_)
  · obtain ⟨pl, rfl, _⟩ := h
    rfl
  obtain ⟨pl, rfl, hp, k⟩ := h
  have hr1 : Room 1 _ := hr.mono (by decide)
  obtain ⟨fD, dD, GD, kD, bD, gD⟩ := GD.ex
  refine ⟨_, (pss_one (ps_ret (pe_ix ix_list (pe_lst (pa_cons pe_str (pa_cons pe_str (pa_cons pe_str (pa_cons pe_str pa_nil))))) (pe_call GD hr1 (by rfl) gD kD bD .nil pass0 (pa_cons (pv 0) (pa_cons pe_int pa_nil))) (fun _ _ => rfl)))), ?_⟩
  refine ret_read (op_read (lst_read (cons_read (c_read (cons_read (c_read (cons_read (c_read (cons_read (c_read (nil_read ⟨by show 4 ≤ sizeLine; decide, fun l nl => ?_⟩)))))))))))
  have s1 : Same H (L2.upd H l (.lst (wordsL.map V.str))) := same_lay nl
  have e1 : (L2.upd H l (.lst (wordsL.map V.str))) l = some (.lst (wordsL.map V.str)) := upd_same
  show tCall spDraw [] E0 (tCons (tVar 0) (tCons (tC (.int 4)) tNil)) _ (L2.upd H l (.lst (wordsL.map V.str))) _
  generalize L2.upd H l (.lst (wordsL.map V.str)) = H1 at s1 e1 ⊢
  have S1 : Stp pl H H1 := Stp.of hp s1
  refine draw_c (p := pl) rfl S1.1 (by decide) (by decide) fun H2 r S2 r0 r1 => ?_
  obtain ⟨x, hx, hat⟩ := tone_at r r0 r1
  exact ⟨l, _, r, .str x, rfl, rfl, SqL.of (S2.2 _ _ (pool_new hp nl) e1), hat, k H2 x (S1.trans S2) hx⟩
end
abbrev sIdl : Stmt := topS 93
abbrev NIdl : List Str := ["_law_pool_here", "_law_size", "_law_some", "_law_at", "_law_bound", "_law_spare"]
theorem scIdl : FnScope NIdl ["_law_pool_here", "_law_size"] (defScope sIdl) := ⟨rfl, rfl, rfl, by decide +kernel, rfl, by decide +kernel, by decide +kernel⟩
section
variable {P : Program} {w : World} {K : PySem.W.Frag} {mg : Str → Option Value} {base : Heap}
theorem ok_idl {f : Addr} {fd : FuncData} (F : Fun K "_law_idle" "_law_idle" sIdl f fd) (B : Bl mg) (hlist : mg "list" = none) (GD : FAt P w K mg base 1 "_law_draw" ["_law_pool_here", "_law_many"] spDraw) (GT : FAt P w K mg base 2 "_law_table" ["_law_pool_here", "_law_size"] (spTab K)) (GO : FAt P w K mg base 2 "_law_tone" ["_law_pool_here"] spTon) : FnOk P w K mg base CX0 3 f fd ["_law_pool_here", "_law_size"] (spPair K) := by
  refine F.ok scIdl (fun vs H Q E h => ?_) (fun cdv A outer s H vs Q E hr h => ?_)
  · obtain ⟨pl, p, rfl, _⟩ := h
    rfl
  obtain ⟨pl, p, rfl, hp, p2, p5, k⟩ := h
  have hr1 : Room 1 _ := hr.mono (by decide)
  have hr2 : Room 2 _ := hr.mono (by decide)
  obtain ⟨fD, dD, GD, kD, bD, gD⟩ := GD.ex
  obtain ⟨fT, dT, GT, kT, bT, gT⟩ := GT.ex
  obtain ⟨fO, dO, GO, kO, bO, gO⟩ := GO.ex
  refine ⟨_, (pss_cons (ps_set (i := 2) scIdl.nd rfl (.inl rfl) (pe_callTy call_list_of (by rfl) hlist bList6 (pa_cons (pe_slice sl_tupA (pe_call GT hr2 (by rfl) gT kT bT .nil pass0 (pa_cons (pv 0) (pa_cons (pv 1) pa_nil))) (po_some (pe_un un_neg pe_int)) po_none) pa_nil)))
    (pss_cons (ps_set (i := 3) scIdl.nd rfl (.inl rfl) (pe_call GD hr1 (by rfl) gD kD bD .nil pass0 (pa_cons (pv 0) (pa_cons (pe_callB call_len_seq (by rfl) B.len PySem.boot_len (pa_cons (pv 2) pa_nil)) pa_nil))))
    (pss_cons (ps_set (i := 4) scIdl.nd rfl (.inl rfl) (pe_ix ix_tup (pe_ix ix_list (pv 2) (pv 3) (fun _ _ => rfl)) pe_int (fun _ _ => rfl)))
    (pss_cons (ps_set (i := 5) scIdl.nd rfl (.inl rfl) (pe_tup (pa_cons (pe_call GD hr1 (by rfl) gD kD bD .nil pass0 (pa_cons (pv 0) (pa_cons (pe_op op_add (pv 4) pe_int) pa_nil))) (pa_cons (pe_call GO hr2 (by rfl) gO kO bO .nil pass0 (pa_cons (pv 0) pa_nil)) pa_nil))))
    (pss_cons (ps_if (pt_cmpR op_eq (pv 3) (pe_op op_sub (pe_callB call_len_seq (by rfl) B.len PySem.boot_len (pa_cons (pv 2) pa_nil)) pe_int) (nomark _)) (pss_one (ps_ret (pe_lst (pa_cons (pe_callTy call_tuple_of (by rfl) B.tup bTup (pa_cons (pv 2) pa_nil)) (pa_cons (pe_callTy call_tuple_of (by rfl) B.tup bTup (pa_cons (pe_op op_cat (pe_slice sl_list (pv 2) po_none (po_some (pe_un un_neg pe_int))) (pe_lst (pa_cons (pe_tup (pa_cons (pv 1) (pa_cons (pe_ix ix_tup (pe_ix ix_list (pv 2) (pe_un un_neg pe_int) (fun _ _ => rfl)) pe_int (fun _ _ => rfl)) pa_nil))) (pa_cons (pe_tup (pa_cons (pv 1) (pa_cons (pe_ix ix_tup (pv 5) pe_int (fun _ _ => rfl)) pa_nil))) pa_nil)))) pa_nil)) pa_nil))))) pss_nil)
    (pss_one (ps_ret (pe_lst (pa_cons (pe_callTy call_tuple_of (by rfl) B.tup bTup (pa_cons (pv 2) pa_nil)) (pa_cons (pe_callTy call_tuple_of (by rfl) B.tup bTup (pa_cons (pe_op op_cat (pe_op op_cat (pe_slice sl_list (pv 2) po_none (po_some (pe_op op_add (pv 3) pe_int))) (pe_lst (pa_cons (pv 5) pa_nil))) (pe_slice sl_list (pv 2) (po_some (pe_op op_add (pv 3) pe_int)) po_none)) pa_nil)) pa_nil)))))))))), ?_⟩
  refine seq_asg (cb_read (cons_read (sl_read6 (call_read (cons_read ⟨_, rfl, cons_read ⟨_, rfl, nil_read ⟨pl, p, rfl, hp, by omega, fun H1 tb ini y S1 hR hini hy => ?_⟩⟩⟩)))))
  refine ⟨3, rfl, _, rfl, ?_⟩
  dsimp only [tNoPart]
  refine rest_threeX hR fun H2 r ri s2 hR2 hri hrin => ?_
  obtain ⟨rs2, g1, g2⟩ := hR2
  refine nil_read ⟨r, _, rfl, .inr g1, fun l nl => ?_⟩
  have s3 := same_lay (o := .lst (rs2.map V.ref)) nl
  have hL := lst_rows nl g2
  generalize L2.upd H2 l (.lst (rs2.map V.ref)) = H3 at s3 hL ⊢
  have S13 := S1.trans (Stp.of S1.1 (s2.trans s3))
  have nlp : l ≠ pl := by
    have := pool_new (Stp.of S1.1 s2).1 nl
    exact this
  have hok : ∀ r ∈ ri, RowOk p r := fun x hx => hini.1 x (hrin x hx)
  show tSeq (tAsg _ _) _ _ [some (.ref pl), some (.int (p : Int)), some (.ref l), none, none, none] H3
  clear S1 s2 s3 hR g1 g2 nl
  -- where
  obtain ⟨rs, hl1, hl2⟩ := hL
  have hlen := Paired.length hl2
  rw [List.length_append] at hlen
  have hlen : rs.length = ri.length + 1 := hlen
  refine seq_asg (draw_t (p := pl) (m := ((rs.map V.ref).length : Nat)) rfl (fun R z => cb_read (cons_read ⟨_, rfl, nil_read ⟨l, _, rfl, .inl (SqL.of hl1), z⟩⟩)) S13.1 (by rw [List.length_map]; omega) (by rw [List.length_map]; omega) fun H4 a S4 a0 a1 => ?_)
  rw [List.length_map] at a1
  obtain ⟨a, rfl⟩ : ∃ a' : Nat, a = (a' : Int) := ⟨a.toNat, by omega⟩
  have S14 := S13.trans S4
  have hL4 : RowsL K H4 l (ri ++ [((p : Int), y)]) := RowsL.stp ⟨rs, hl1, hl2⟩ nlp S13.1 S4
  clear hl1 hl2 hlen
  have hL4' := hL4
  obtain ⟨rs, hl1, hl2⟩ := hL4'
  have hlen := Paired.length hl2
  rw [List.length_append] at hlen
  have hlen : rs.length = ri.length + 1 := hlen
  have har : a < rs.length := by omega
  obtain ⟨ra, hra⟩ : ∃ x, rs[a]? = some x := ⟨_, List.getElem?_eq_getElem har⟩
  obtain ⟨ro, hro, hrt⟩ := K2.paired_get hl2 hra
  have hrom : ro ∈ ri ++ [((p : Int), y)] := List.mem_of_getElem? hro
  have hrok : RowOk p ro := by
    rcases List.mem_append.mp hrom with z | z
    · exact hok ro z
    · rw [List.mem_singleton.mp z]
      exact ⟨by show (0 : Int) ≤ (p : Int); omega, Int.le_refl _, hy⟩
  refine seq_asg (op_read (op_read ⟨_, rfl, _, rfl, l, _, _, .ref ra, rfl, rfl, SqL.of hl1, atI_nat (by rw [List.getElem?_map, hra]; rfl), c_read ⟨ra, _, _, .int ro.1, rfl, rfl, hrt, rfl, ?_⟩⟩))
  -- a row that is spare
  refine seq_asg (tup_read (cons_read (draw_t (p := pl) (m := ro.1 + 1) rfl (fun R z => op_read ⟨_, rfl, c_read ⟨_, _, rfl, rfl, z⟩⟩) S14.1 (by have := hrok.1; omega) (by have := hrok.2.1; omega) fun H5 q S5 q0 q1 => ?_)))
  have S15 := S14.trans S5
  refine cons_read (call_read (cons_read ⟨_, rfl, nil_read ⟨pl, rfl, S15.1, fun H6 tn S6 htn => nil_read ⟨by show 2 ≤ sizeLine; decide, fun sp nsp => ?_⟩⟩⟩))
  have S16 := S15.trans S6
  have s7 := same_lay (o := .tup [.int q, .str tn]) nsp
  have esp : (L2.upd H6 sp (.tup [.int q, .str tn])) sp = some (.tup [.int q, .str tn]) := upd_same
  have S17 := S16.trans (Stp.of S16.1 s7)
  have hL7 := ((hL4.stp nlp S14.1 S5).stp nlp S15.1 S6).same s7
  show tSeq (tIfS _ _ _) _ _ [some (.ref pl), some (.int (p : Int)), some (.ref l), some (.int (a : Int)), some (.int ro.1), some (.ref sp)] _
  generalize L2.upd H6 sp (.tup [.int q, .str tn]) = H7 at s7 esp S17 hL7 ⊢
  clear S16 S15 S14 S13 S6 S5 S4 hl1 hl2 hrt nsp hL4
  obtain ⟨rs7, hl1, hl2⟩ := id hL7
  have hlen7 := Paired.length hl2
  rw [List.length_append] at hlen7
  have hlen7 : rs7.length = ri.length + 1 := hlen7
  refine seq_if6 (test_read6 (op_read ⟨_, rfl, op_read (cb_read (cons_read ⟨_, rfl, nil_read ⟨l, _, rfl, .inl (SqL.of hl1), c_read ⟨_, _, rfl, rfl, rfl, _, rfl, ?_⟩⟩⟩))⟩))
  rw [List.length_map, hlen7]
  by_cases c : a = ri.length
  · rw [decide_eq_true (by rw [c, Int.natCast_add]; congr 1; show _ = ((ri.length : Nat) : Int) + 1 - 1; omega : V.int (a : Int) = V.int (((ri.length + 1 : Nat) : Int) - 1))]
    refine iteT ?_
    -- the last row, and one behind it
    refine ret_read (lst_read (cons_read (cb_read (cons_read ⟨_, rfl, nil_read ⟨l, _, rfl, .inl ⟨SqL.of hl1, fun t1 nt1 => ?_⟩⟩⟩))))
    have s8 := same_lay (o := .tup (rs7.map V.ref)) nt1
    have hT1 := tup_rows nt1 hl2
    generalize L2.upd H7 t1 (.tup (rs7.map V.ref)) = H8 at s8 hT1 ⊢
    refine cons_read (cb_read (cons_read (op_read (sl_read6 ⟨_, rfl, ?_⟩))))
    dsimp only [tNoPart]
    refine ⟨(1 : Int), rfl, (-1 : Int), rfl, slL_init (hL7.same s8) fun H9 l9 s9 hL9 => ?_⟩
    have hla := hL7.same (s8.trans s9)
    obtain ⟨rs9, k1, k2⟩ := id hla
    have hlen9 := Paired.length k2
    rw [List.length_append] at hlen9
    have hlen9 : rs9.length = ri.length + 1 := hlen9
    obtain ⟨rz, hrz⟩ : ∃ x, rs9[ri.length]? = some x := ⟨_, List.getElem?_eq_getElem (by omega)⟩
    obtain ⟨zo, hzo, hzt⟩ := K2.paired_get k2 hrz
    have ezo : zo = ((p : Int), y) := by
      rw [List.getElem?_append_right (Nat.le_refl _), Nat.sub_self] at hzo
      exact (Option.some.inj hzo).symm
    subst ezo
    refine lst_read (cons_read (tup_read (cons_read ⟨_, rfl, cons_read (op_read (op_read ⟨_, rfl, ?_⟩))⟩)))
    refine ⟨(1 : Int), rfl, l, _, _, .ref rz, rfl, rfl, SqL.of k1, ?_, c_read ⟨rz, _, _, .str y, rfl, rfl, hzt, rfl, nil_read ⟨by show 2 ≤ sizeLine; decide, fun e1 ne1 => ?_⟩⟩⟩
    · have hn : (rs9.map V.ref).length = ri.length + 1 := by rw [List.length_map, hlen9]
      exact atI_m1 hn (by rw [List.getElem?_map, hrz]; rfl)
    have t10 := same_lay (o := .tup [.int (p : Int), .str y]) ne1
    have f10 : (L2.upd H9 e1 (.tup [.int (p : Int), .str y])) e1 = some (.tup [.int (p : Int), .str y]) := upd_same
    generalize L2.upd H9 e1 (.tup [.int (p : Int), .str y]) = H10 at t10 f10 ⊢
    refine cons_read (tup_read (cons_read ⟨_, rfl, cons_read (op_read ⟨_, rfl, c_read ⟨sp, _, _, .str tn, rfl, rfl, SqT.of (t10 _ _ (s9 _ _ (s8 _ _ esp))), rfl, nil_read ⟨by show 2 ≤ sizeLine; decide, fun e2 ne2 => nil_read ⟨by show 2 ≤ sizeLine; decide, fun e3 ne3 => ?_⟩⟩⟩⟩)⟩))
    have t11 := same_lay (o := .tup [.int (p : Int), .str tn]) ne2
    have f11 : (L2.upd H10 e2 (.tup [.int (p : Int), .str tn])) e2 = some (.tup [.int (p : Int), .str tn]) := upd_same
    generalize L2.upd H10 e2 (.tup [.int (p : Int), .str tn]) = H11 at t11 f11 ne3 ⊢
    have t12 := same_lay (o := .lst [.ref e1, .ref e2]) ne3
    have f12 : RowsL K (L2.upd H11 e3 (.lst [.ref e1, .ref e2])) e3 [((p : Int), y), ((p : Int), tn)] := ⟨[e1, e2], upd_same, .cons (SqT.of (t12 _ _ (t11 _ _ f10))) (.cons (SqT.of (t12 _ _ f11)) .nil)⟩
    generalize L2.upd H11 e3 (.lst [.ref e1, .ref e2]) = H12 at t12 f12 ⊢
    have s912 := t10.trans (t11.trans t12)
    refine catL (hL9.same s912) f12 (by show _ + 2 ≤ 1000; omega) fun H13 l13 s13 hL13 => ?_
    obtain ⟨rsD, m1, m2⟩ := hL13
    refine nil_read ⟨l13, _, rfl, .inl ⟨SqL.of m1, fun t2 nt2 => nil_read ⟨by show 2 ≤ sizeLine; decide, fun ql nql => ?_⟩⟩⟩
    have s14 := same_lay (o := .tup (rsD.map V.ref)) nt2
    have hT2 := tup_rows nt2 m2
    generalize L2.upd H13 t2 (.tup (rsD.map V.ref)) = H14 at s14 hT2 nql ⊢
    have s15 := same_lay (o := .lst [.ref t1, .ref t2]) nql
    have s815 := s9.trans (s912.trans (s13.trans (s14.trans s15)))
    have er : ri ++ [((p : Int), y), ((p : Int), tn)] = (ri ++ [((p : Int), y)]) ++ [((p : Int), tn)] := by rw [List.append_assoc]; rfl
    rw [er] at hT2
    refine k _ ql t1 t2 ri (ri ++ [((p : Int), y)]) y tn (S17.trans (Stp.of S17.1 (s8.trans s815))) upd_same (hT1.same s815) (hT2.same s15) ⟨hok, by omega⟩ ⟨fun x hx => ?_, by rw [List.length_append]; show _ + 1 ≤ 3; omega⟩ hy htn ?_
    · rcases List.mem_append.mp hx with z | z
      · exact hok x z
      · rw [List.mem_singleton.mp z]
        exact ⟨by show (0 : Int) ≤ (p : Int); omega, Int.le_refl _, hy⟩
    · have z := alk_idle (p := p) (A := ri) (C := []) (r := ((p : Int), y)) (q := ((p : Int), tn)) (Int.le_refl _)
      rw [← er]
      exact z
  · rw [decide_eq_false (fun z => c (by injection z with z; omega))]
    refine iteF ?_
    refine ret_read (lst_read (cons_read (cb_read (cons_read ⟨_, rfl, nil_read ⟨l, _, rfl, .inl ⟨SqL.of hl1, fun t1 nt1 => ?_⟩⟩⟩))))
    have s8 := same_lay (o := .tup (rs7.map V.ref)) nt1
    have hT1 := tup_rows nt1 hl2
    generalize L2.upd H7 t1 (.tup (rs7.map V.ref)) = H8 at s8 hT1 ⊢
    refine cons_read (cb_read (cons_read (op_read (op_read (sl_read6 ⟨_, rfl, ?_⟩)))))
    dsimp only [tNoPart]
    refine op_read ⟨_, rfl, c_read ⟨_, _, rfl, rfl, ((a + 1 : Nat) : Int), by rw [Int.natCast_add]; rfl, slL_to (hL7.same s8) fun H9 l9 s9 hL9 => ?_⟩⟩
    refine lst_read (cons_read ⟨_, rfl, nil_read ⟨by show 1 ≤ sizeLine; decide, fun e1 ne1 => ?_⟩⟩)
    have t10 := same_lay (o := .lst [.ref sp]) ne1
    have f10 : RowsL K (L2.upd H9 e1 (.lst [.ref sp])) e1 [(q, tn)] := ⟨[sp], upd_same, .cons (SqT.of (t10 _ _ (s9 _ _ (s8 _ _ esp)))) .nil⟩
    generalize L2.upd H9 e1 (.lst [.ref sp]) = H10 at t10 f10 ⊢
    refine catL (hL9.same t10) f10 (by rw [List.length_take]; show _ + 1 ≤ 1000; omega) fun H11 l11 s11 hL11 => ?_
    refine sl_read6 ⟨_, rfl, ?_⟩
    refine op_read ⟨_, rfl, c_read ⟨_, _, rfl, rfl, ((a + 1 : Nat) : Int), by rw [Int.natCast_add]; rfl, ?_⟩⟩
    have s811 := s9.trans (t10.trans s11)
    dsimp only [tNoPart]
    refine slL_from ((hL7.same s8).same s811) fun H12 l12 s12 hL12 => ?_
    refine catL (hL11.same s12) hL12 (by rw [List.length_append, List.length_take, List.length_drop, List.length_append]; show _ + 1 + _ ≤ 1000; show _ + 1 + ((ri.length + 1) - _) ≤ 1000; omega) fun H13 l13 s13 hL13 => ?_
    obtain ⟨rsD, m1, m2⟩ := hL13
    refine nil_read ⟨l13, _, rfl, .inl ⟨SqL.of m1, fun t2 nt2 => nil_read ⟨by show 2 ≤ sizeLine; decide, fun ql nql => ?_⟩⟩⟩
    have s14 := same_lay (o := .tup (rsD.map V.ref)) nt2
    have hT2 := tup_rows nt2 m2
    generalize L2.upd H13 t2 (.tup (rsD.map V.ref)) = H14 at s14 hT2 nql ⊢
    have s15 := same_lay (o := .lst [.ref t1, .ref t2]) nql
    have s815 := s811.trans (s12.trans (s13.trans (s14.trans s15)))
    have hlt : a < ri.length := by omega
    have e1 : (ri ++ [((p : Int), y)]).take (a + 1) = ri.take a ++ [ro] := by
      rw [List.take_append_of_le_length (by omega), List.take_add_one]
      rw [List.getElem?_append_left hlt] at hro
      rw [hro]
      rfl
    have e2 : (ri ++ [((p : Int), y)]).drop (a + 1) = ri.drop (a + 1) ++ [((p : Int), y)] := List.drop_append_of_le_length (by omega)
    have e3 : ri = ri.take a ++ ro :: ri.drop (a + 1) := by
      rw [List.getElem?_append_left hlt] at hro
      obtain ⟨h1, h2⟩ := List.getElem?_eq_some_iff.mp hro
      rw [← h2, List.getElem_cons_drop, List.take_append_drop]
    rw [e1, e2] at hT2
    have e4 : ri.take a ++ [ro] ++ [(q, tn)] ++ (ri.drop (a + 1) ++ [((p : Int), y)]) = (ri.take a ++ ro :: (q, tn) :: ri.drop (a + 1)) ++ [((p : Int), y)] := by
      simp only [List.append_assoc, List.cons_append, List.nil_append]
    rw [e4] at hT2
    refine k _ ql t1 t2 ri (ri.take a ++ ro :: (q, tn) :: ri.drop (a + 1)) y y (S17.trans (Stp.of S17.1 (s8.trans s815))) upd_same (hT1.same s815) (hT2.same s15) ⟨hok, by omega⟩ ⟨fun x hx => ?_, ?_⟩ hy hy ?_
    · rcases List.mem_append.mp hx with z | z
      · exact hok x (List.mem_of_mem_take z)
      · rcases List.mem_cons.mp z with z | z
        · rw [z]
          exact hrok
        · rcases List.mem_cons.mp z with z | z
          · rw [z]
            exact ⟨q0, by have := hrok.2.1; show q ≤ (p : Int); omega, htn⟩
          · exact hok x (List.mem_of_mem_drop z)
    · have := congrArg List.length e3
      rw [List.length_append, List.length_cons] at this
      rw [List.length_append, List.length_cons, List.length_cons]
      omega
    · have z := alk_idle (p := p) (A := ri.take a) (C := ri.drop (a + 1) ++ [((p : Int), y)]) (r := ro) (q := (q, tn)) (by show q ≤ ro.1; omega)
      have e5 : ri ++ [((p : Int), y)] = ri.take a ++ ro :: (ri.drop (a + 1) ++ [((p : Int), y)]) := by
        conv => lhs; rw [e3]
        simp only [List.append_assoc, List.cons_append]
      rw [e5]
      simp only [List.append_assoc, List.cons_append]
      exact z
end
section
variable {K : PySem.W.Frag} {H H' : Hp} {Q : VK} {a b : Addr} {A B : List RowD}
theorem cat_rowsX (ha : RowsAt K H a A) (hb : RowsAt K H b B) (hl : A.length + B.length ≤ 1000) (kq : ∀ (H' : Hp) (q : Addr), Same H H' → RowsAt K H' q (A ++ B) → Q (.ref q) H') : rCatA K (.ref a) (.ref b) H Q := by
  obtain ⟨rs, h1, h2⟩ := ha
  obtain ⟨rs2, h3, h4⟩ := hb
  have l1 := Paired.length h2
  have l2 := Paired.length h4
  refine ⟨a, b, _, _, rfl, rfl, h1, h3, by rw [List.length_map, List.length_map, sizeLine_eq]; omega, fun e => ?_, fun _ e => ?_, fun _ _ q nq => ?_⟩
  · have e' : rs = [] := List.map_eq_nil_iff.mp e
    subst e'
    cases h2
    exact kq H b (Same.refl H) ⟨rs2, h3, h4⟩
  · have e' : rs2 = [] := List.map_eq_nil_iff.mp e
    subst e'
    cases h4
    rw [List.append_nil] at kq
    exact kq H a (Same.refl H) ⟨rs, h1, h2⟩
  · have s := same_lay (o := .tup (rs.map V.ref ++ rs2.map V.ref)) nq
    exact kq _ q s ⟨rs ++ rs2, SqT.of (by rw [upd_same, List.map_append]), Paired.mapP (paired_app h2 h4) fun _ _ z => K2.Same.tup s z⟩
theorem zero_tone (r : Int) (h0 : 0 ≤ r) (h1 : r < 3) : ∃ w ∈ zeroW, atI (zeroW.map V.str) r = some (.str w) := by
  have c : r = 0 ∨ r = 1 ∨ r = 2 := by omega
  rcases c with rfl | rfl | rfl
  · exact ⟨"oldest", by decide, rfl⟩
  · exact ⟨"least", by decide, rfl⟩
  · exact ⟨"most", by decide, rfl⟩
end
abbrev sAft : Stmt := topS 94
abbrev NAft : List Str := ["_law_pool_here", "_law_size", "_law_first"]
theorem scAft : FnScope NAft ["_law_pool_here", "_law_size"] (defScope sAft) := ⟨rfl, rfl, rfl, by decide +kernel, rfl, by decide +kernel, by decide +kernel⟩
section
variable {P : Program} {w : World} {K : PySem.W.Frag} {mg : Str → Option Value} {base : Heap}
theorem ok_aft {f : Addr} {fd : FuncData} (F : Fun K "_law_after" "_law_after" sAft f fd) (GT : FAt P w K mg base 2 "_law_table" ["_law_pool_here", "_law_size"] (spTab K)) (GO : FAt P w K mg base 2 "_law_tone" ["_law_pool_here"] spTon) : FnOk P w K mg base CX0 3 f fd ["_law_pool_here", "_law_size"] (spPair K) := by
  refine F.ok scAft (fun vs H Q E h => ?_) (fun cdv A outer s H vs Q E hr h => ?_)
  · obtain ⟨pl, p, rfl, _⟩ := h
    rfl
  obtain ⟨pl, p, rfl, hp, p2, p5, k⟩ := h
  have hr2 : Room 2 _ := hr.mono (by decide)
  obtain ⟨fT, dT, GT, kT, bT, gT⟩ := GT.ex
  obtain ⟨fO, dO, GO, kO, bO, gO⟩ := GO.ex
  refine ⟨_, (pss_cons (ps_set (i := 2) scAft.nd rfl (.inl rfl) (pe_tup (pa_cons (pe_tup (pa_cons (pe_op op_sub (pv 1) pe_int) (pa_cons (pe_call GO hr2 (by rfl) gO kO bO .nil pass0 (pa_cons (pv 0) pa_nil)) pa_nil))) pa_nil)))
    (pss_one (ps_ret (pe_lst (pa_cons (pe_op op_catA (pv 2) (pe_slice sl_tupA (pe_call GT hr2 (by rfl) gT kT bT .nil pass0 (pa_cons (pv 0) (pa_cons (pv 1) pa_nil))) (po_some (pe_un un_neg pe_int)) po_none)) (pa_cons (pe_op op_catA (pv 2) (pe_slice sl_tupA (pe_call GT hr2 (by rfl) gT kT bT .nil pass0 (pa_cons (pv 0) (pa_cons (pv 1) pa_nil))) (po_some (pe_un un_neg pe_int)) po_none)) pa_nil)))))), ?_⟩
  refine seq_asg (tup_read (cons_read (tup_read (cons_read (op_read ⟨_, rfl, c_read ⟨_, _, rfl, rfl, cons_read (call_read (cons_read ⟨_, rfl, nil_read ⟨pl, rfl, hp, fun H1 wd S1 hwd => nil_read ⟨by show 2 ≤ sizeLine; decide, fun e1 ne1 => nil_read ⟨by show 1 ≤ sizeLine; decide, fun e2 ne2 => ?_⟩⟩⟩⟩))⟩⟩)))))
  have t1 := same_lay (o := .tup [.int ((p : Int) - 1), .str wd]) ne1
  have f1 : (L2.upd H1 e1 (.tup [.int ((p : Int) - 1), .str wd])) e1 = some (.tup [.int ((p : Int) - 1), .str wd]) := upd_same
  have t2 := same_lay (o := .tup [.ref e1]) ne2
  have hF : RowsAt K (L2.upd (L2.upd H1 e1 (.tup [.int ((p : Int) - 1), .str wd])) e2 (.tup [.ref e1])) e2 [((p : Int) - 1, wd)] := ⟨[e1], SqT.of upd_same, .cons (SqT.of (t2 _ _ f1)) .nil⟩
  have S2 := S1.trans (Stp.of S1.1 (t1.trans t2))
  show tRet _ _ [some (.ref pl), some (.int (p : Int)), some (.ref e2)] _
  generalize L2.upd (L2.upd H1 e1 (.tup [.int ((p : Int) - 1), .str wd])) e2 (.tup [.ref e1]) = H2 at hF S2 ⊢
  clear t1 t2 f1 ne1 ne2 S1
  refine ret_read (lst_read (cons_read (op_read ⟨_, rfl, sl_read6 (call_read (cons_read ⟨_, rfl, cons_read ⟨_, rfl, nil_read ⟨pl, p, rfl, S2.1, by omega, fun H3 tb ini y S3 hR hini hy => ?_⟩⟩⟩))⟩)))
  refine ⟨3, rfl, _, rfl, ?_⟩
  dsimp only [tNoPart]
  refine rest_threeX hR fun H4 r ri s4 hR4 hri hrin => ?_
  have hF4 := (S3.rows S2.1 hF).same s4
  refine cat_rowsX hF4 hR4 (by rw [List.length_append]; show 1 + (_ + 1) ≤ 1000; omega) fun H5 q1 s5 hq1 => ?_
  have S5 := S2.trans (S3.trans (Stp.of S3.1 (s4.trans s5)))
  have hF5 := hF4.same s5
  refine cons_read (op_read ⟨_, rfl, sl_read6 (call_read (cons_read ⟨_, rfl, cons_read ⟨_, rfl, nil_read ⟨pl, p, rfl, S5.1, by omega, fun H6 tb' ini' y' S6 hR' hini' hy' => ?_⟩⟩⟩))⟩)
  refine ⟨3, rfl, _, rfl, ?_⟩
  dsimp only [tNoPart]
  refine rest_threeX hR' fun H7 r' ri' s7 hR7 hri' hrin' => ?_
  refine cat_rowsX ((S6.rows S5.1 hF5).same s7) hR7 (by rw [List.length_append]; show 1 + (_ + 1) ≤ 1000; omega) fun H8 q2 s8 hq2 => nil_read ⟨by show 2 ≤ sizeLine; decide, fun ql nql => ?_⟩
  have s9 := same_lay (o := .lst [.ref q1, .ref q2]) nql
  have hq1' := ((S6.rows S5.1 hq1).same s7).same (s8.trans s9)
  have hro : RowOk p ((p : Int) - 1, wd) := ⟨by show (0 : Int) ≤ (p : Int) - 1; omega, by show (p : Int) - 1 ≤ (p : Int); omega, hwd⟩
  refine k _ ql q1 q2 (((p : Int) - 1, wd) :: ri) (((p : Int) - 1, wd) :: ri') y y' (S5.trans (S6.trans (Stp.of S6.1 (s7.trans (s8.trans s9))))) upd_same hq1' (hq2.same s9) ⟨fun x hx => ?_, by rw [List.length_cons]; omega⟩ ⟨fun x hx => ?_, by rw [List.length_cons]; omega⟩ hy hy' alk_after
  · rcases List.mem_cons.mp hx with z | z
    · rw [z]
      exact hro
    · exact hini.1 x (hrin x z)
  · rcases List.mem_cons.mp hx with z | z
    · rw [z]
      exact hro
    · exact hini'.1 x (hrin' x z)
end
abbrev sZer : Stmt := topS 95
abbrev NZer : List Str := ["_law_pool_here", "_law_size", "_law_some", "_law_at", "_law_tones", "_law_one", "_law_two"]
theorem scZer : FnScope NZer ["_law_pool_here", "_law_size"] (defScope sZer) := ⟨rfl, rfl, rfl, by decide +kernel, rfl, by decide +kernel, by decide +kernel⟩
section
variable {P : Program} {w : World} {K : PySem.W.Frag} {mg : Str → Option Value} {base : Heap}
theorem ok_zer {f : Addr} {fd : FuncData} (F : Fun K "_law_zero" "_law_zero" sZer f fd) (B : Bl mg) (hlist : mg "list" = none) (GD : FAt P w K mg base 1 "_law_draw" ["_law_pool_here", "_law_many"] spDraw) (GT : FAt P w K mg base 2 "_law_table" ["_law_pool_here", "_law_size"] (spTab K)) : FnOk P w K mg base CX0 3 f fd ["_law_pool_here", "_law_size"] (spPair K) := by
  refine F.ok scZer (fun vs H Q E h => ?_) (fun cdv A outer s H vs Q E hr h => ?_)
  · obtain ⟨pl, p, rfl, _⟩ := h
    rfl
  obtain ⟨pl, p, rfl, hp, p2, p5, k⟩ := h
  have hr1 : Room 1 _ := hr.mono (by decide)
  have hr2 : Room 2 _ := hr.mono (by decide)
  obtain ⟨fD, dD, GD, kD, bD, gD⟩ := GD.ex
  obtain ⟨fT, dT, GT, kT, bT, gT⟩ := GT.ex
  refine ⟨_, (pss_cons (ps_par (i := 2) (j := 3) (by rfl) scZer.nd rfl rfl (by decide) rfl rfl (pa_cons (pe_callTy call_list_of (by rfl) hlist bList6 (pa_cons (pe_slice sl_tupA (pe_call GT hr2 (by rfl) gT kT bT .nil pass0 (pa_cons (pv 0) (pa_cons (pv 1) pa_nil))) (po_some (pe_un un_neg pe_int)) po_none) pa_nil)) (pa_cons pe_int pa_nil)) (by rfl))
    (pss_cons (ps_set (i := 3) scZer.nd rfl (.inl rfl) (pe_call GD hr1 (by rfl) gD kD bD .nil pass0 (pa_cons (pv 0) (pa_cons (pe_callB call_len_seq (by rfl) B.len PySem.boot_len (pa_cons (pv 2) pa_nil)) pa_nil))))
    (pss_cons (ps_set (i := 4) scZer.nd rfl (.inl rfl) (pe_lst (pa_cons pe_str (pa_cons pe_str (pa_cons pe_str pa_nil)))))
    (pss_cons (ps_par (i := 5) (j := 6) (by rfl) scZer.nd rfl rfl (by decide) rfl rfl (pa_cons (pe_tup (pa_cons pe_int (pa_cons (pe_ix ix_list (pv 4) (pe_call GD hr1 (by rfl) gD kD bD .nil pass0 (pa_cons (pv 0) (pa_cons pe_int pa_nil))) (fun _ _ => rfl)) pa_nil))) (pa_cons (pe_tup (pa_cons pe_int (pa_cons (pe_ix ix_list (pv 4) (pe_call GD hr1 (by rfl) gD kD bD .nil pass0 (pa_cons (pv 0) (pa_cons pe_int pa_nil))) (fun _ _ => rfl)) pa_nil))) pa_nil)) (by rfl))
    (pss_one (ps_ret (pe_lst (pa_cons (pe_callTy call_tuple_of (by rfl) B.tup bTup (pa_cons (pe_op op_cat (pe_op op_cat (pe_slice sl_list (pv 2) po_none (po_some (pv 3))) (pe_lst (pa_cons (pv 5) pa_nil))) (pe_slice sl_list (pv 2) (po_some (pv 3)) po_none)) pa_nil)) (pa_cons (pe_callTy call_tuple_of (by rfl) B.tup bTup (pa_cons (pe_op op_cat (pe_op op_cat (pe_slice sl_list (pv 2) po_none (po_some (pv 3))) (pe_lst (pa_cons (pv 6) pa_nil))) (pe_slice sl_list (pv 2) (po_some (pv 3)) po_none)) pa_nil)) pa_nil))))))))), ?_⟩
  refine seq_par6 (cons_read (cb_read (cons_read (sl_read6 (call_read (cons_read ⟨_, rfl, cons_read ⟨_, rfl, nil_read ⟨pl, p, rfl, hp, by omega, fun H1 tb ini y S1 hR hini hy => ?_⟩⟩⟩))))))
  refine ⟨3, rfl, _, rfl, ?_⟩
  dsimp only [tNoPart]
  refine rest_threeX hR fun H2 r ri s2 hR2 hri hrin => ?_
  obtain ⟨rs2, g1, g2⟩ := hR2
  refine nil_read ⟨r, _, rfl, .inr g1, fun l nl => cons_read (c_read (nil_read ⟨_, _, rfl, ?_⟩))⟩
  have s3 := same_lay (o := .lst (rs2.map V.ref)) nl
  have hL := lst_rows nl g2
  show tSeq (tAsg _ _) _ _ [some (.ref pl), some (.int (p : Int)), some (.ref l), some (.int 0), none, none, none] _
  generalize L2.upd H2 l (.lst (rs2.map V.ref)) = H3 at s3 hL ⊢
  have S13 := S1.trans (Stp.of S1.1 (s2.trans s3))
  have nlp : l ≠ pl := pool_new (Stp.of S1.1 s2).1 nl
  have hok : ∀ r ∈ ri, RowOk p r := fun x hx => hini.1 x (hrin x hx)
  clear S1 s2 s3 hR g1 g2 nl
  obtain ⟨rs, hl1, hl2⟩ := id hL
  have hlen := Paired.length hl2
  rw [List.length_append] at hlen
  have hlen : rs.length = ri.length + 1 := hlen
  refine seq_asg (draw_t (p := pl) (m := ((rs.map V.ref).length : Nat)) rfl (fun R z => cb_read (cons_read ⟨_, rfl, nil_read ⟨l, _, rfl, .inl (SqL.of hl1), z⟩⟩)) S13.1 (by rw [List.length_map]; omega) (by rw [List.length_map]; omega) fun H4 a S4 a0 a1 => ?_)
  rw [List.length_map] at a1
  obtain ⟨a, rfl⟩ : ∃ a' : Nat, a = (a' : Int) := ⟨a.toNat, by omega⟩
  have S14 := S13.trans S4
  have hL4 := hL.stp nlp S13.1 S4
  refine seq_asg (lst_read (cons_read (c_read (cons_read (c_read (cons_read (c_read (nil_read ⟨by show 3 ≤ sizeLine; decide, fun tl ntl => ?_⟩))))))))
  have s5 : Same H4 (L2.upd H4 tl (.lst (zeroW.map V.str))) := same_lay ntl
  have etl : (L2.upd H4 tl (.lst (zeroW.map V.str))) tl = some (.lst (zeroW.map V.str)) := upd_same
  show tSeq (tPar _ _ _) _ _ [some (.ref pl), some (.int (p : Int)), some (.ref l), some (.int (a : Int)), some (.ref tl), none, none] (L2.upd H4 tl (.lst (zeroW.map V.str)))
  have ntp : tl ≠ pl := pool_new S14.1 ntl
  generalize L2.upd H4 tl (.lst (zeroW.map V.str)) = H5 at s5 etl ⊢
  have S15 := S14.trans (Stp.of S14.1 s5)
  have hL5 := hL4.same s5
  refine seq_par6 (cons_read (tup_read (cons_read (c_read (cons_read (op_read ⟨_, rfl, draw_c (p := pl) rfl S15.1 (by decide) (by decide) fun H6 r1 S6 r10 r11 => ?_⟩))))))
  obtain ⟨w1, hw1, at1⟩ := zero_tone r1 r10 r11
  have etl6 := S6.2 _ _ ntp etl
  refine ⟨tl, _, r1, .str w1, rfl, rfl, SqL.of etl6, at1, nil_read ⟨by show 2 ≤ sizeLine; decide, fun o1 no1 => ?_⟩⟩
  have t6 := same_lay (o := .tup [.int 0, .str w1]) no1
  have f6 : (L2.upd H6 o1 (.tup [.int 0, .str w1])) o1 = some (.tup [.int 0, .str w1]) := upd_same
  have n6 : o1 ≠ pl := pool_new (S15.trans S6).1 no1
  have S16 := (S15.trans S6).trans (Stp.of (S15.trans S6).1 t6)
  have hL6 := (hL5.stp nlp S15.1 S6).same t6
  have etl6 := t6 _ _ etl6
  generalize L2.upd H6 o1 (.tup [.int 0, .str w1]) = H7 at f6 S16 hL6 etl6 ⊢
  refine cons_read (tup_read (cons_read (c_read (cons_read (op_read ⟨_, rfl, draw_c (p := pl) rfl S16.1 (by decide) (by decide) fun H8 r2 S8 r20 r21 => ?_⟩)))))
  obtain ⟨w2, hw2, at2⟩ := zero_tone r2 r20 r21
  refine ⟨tl, _, r2, .str w2, rfl, rfl, SqL.of (S8.2 _ _ ntp etl6), at2, nil_read ⟨by show 2 ≤ sizeLine; decide, fun o2 no2 => nil_read ⟨_, _, rfl, ?_⟩⟩⟩
  have t8 := same_lay (o := .tup [.int 0, .str w2]) no2
  have f8 : (L2.upd H8 o2 (.tup [.int 0, .str w2])) o2 = some (.tup [.int 0, .str w2]) := upd_same
  have f6' := t8 _ _ (S8.2 _ _ n6 f6)
  have S18 := (S16.trans S8).trans (Stp.of (S16.trans S8).1 t8)
  have hL8 := (hL6.stp nlp S16.1 S8).same t8
  show tRet _ _ [some (.ref pl), some (.int (p : Int)), some (.ref l), some (.int (a : Int)), some (.ref tl), some (.ref o1), some (.ref o2)] _
  generalize L2.upd H8 o2 (.tup [.int 0, .str w2]) = H9 at f8 f6' S18 hL8 ⊢
  clear S8 S6 S15 S14 S13 S4 hL4 hL5 hL6 hl1 hl2 hL s5 t6 t8 f6 etl6 etl no1 no2 ntl
  have hal : a ≤ ri.length := by omega
  have etk : (ri ++ [((p : Int), y)]).take a = ri.take a := List.take_append_of_le_length hal
  have edr : (ri ++ [((p : Int), y)]).drop a = ri.drop a ++ [((p : Int), y)] := List.drop_append_of_le_length hal
  have eall : ∀ x : RowD, (ri ++ [((p : Int), y)]).take a ++ [x] ++ (ri ++ [((p : Int), y)]).drop a = (ri.take a ++ x :: ri.drop a) ++ [((p : Int), y)] := fun x => by
    rw [etk, edr]
    simp only [List.append_assoc, List.cons_append, List.nil_append]
  have hlt : (ri ++ [((p : Int), y)]).length ≤ 3 := by rw [List.length_append]; show ri.length + 1 ≤ 3; omega
  have ini0 : ∀ w ∈ zeroW, IniOk p (ri.take a ++ ((0 : Int), w) :: ri.drop a) := fun w hw => ⟨fun x hx => by
    rcases List.mem_append.mp hx with z | z
    · exact hok x (List.mem_of_mem_take z)
    · rcases List.mem_cons.mp z with z | z
      · rw [z]
        exact ⟨Int.le_refl _, by show (0 : Int) ≤ (p : Int); omega, zero_word hw⟩
      · exact hok x (List.mem_of_mem_drop z), by
    rw [List.length_append, List.length_cons, List.length_take, List.length_drop]
    omega⟩
  refine ret_read (lst_read (cons_read (cb_read (cons_read (op_read (op_read (sl_read6 ⟨_, rfl, ?_⟩)))))))
  dsimp only [tNoPart]
  refine ⟨_, rfl, (a : Int), rfl, slL_to hL8 fun H10 l1 s10 hl1 => ?_⟩
  refine lst_read (cons_read ⟨_, rfl, nil_read ⟨by show 1 ≤ sizeLine; decide, fun e1 ne1 => ?_⟩⟩)
  have t11 := same_lay (o := .lst [.ref o1]) ne1
  have f11 : RowsL K (L2.upd H10 e1 (.lst [.ref o1])) e1 [((0 : Int), w1)] := ⟨[o1], upd_same, .cons (SqT.of (t11 _ _ (s10 _ _ f6'))) .nil⟩
  generalize L2.upd H10 e1 (.lst [.ref o1]) = H11 at t11 f11 ⊢
  refine catL (hl1.same t11) f11 (by rw [List.length_take]; show _ + 1 ≤ 1000; omega) fun H12 l2 s12 hl2 => ?_
  have s912 := s10.trans (t11.trans s12)
  refine sl_read6 ⟨_, rfl, _, rfl, (a : Int), rfl, ?_⟩
  dsimp only [tNoPart]
  refine slL_from (hL8.same s912) fun H13 l3 s13 hl3 => catL (hl2.same s13) hl3 (by rw [List.length_append, List.length_take, List.length_drop]; show _ + 1 + _ ≤ 1000; omega) fun H14 l4 s14 hl4 => ?_
  obtain ⟨rsA, m1, m2⟩ := hl4
  refine nil_read ⟨l4, _, rfl, .inl ⟨SqL.of m1, fun u1 nu1 => ?_⟩⟩
  have s15 := same_lay (o := .tup (rsA.map V.ref)) nu1
  have hT1 := tup_rows nu1 m2
  generalize L2.upd H14 u1 (.tup (rsA.map V.ref)) = H15 at s15 hT1 ⊢
  have s915 := s912.trans (s13.trans (s14.trans s15))
  refine cons_read (cb_read (cons_read (op_read (op_read (sl_read6 ⟨_, rfl, ?_⟩)))))
  dsimp only [tNoPart]
  refine ⟨_, rfl, (a : Int), rfl, slL_to (hL8.same s915) fun H20 k1 s20 hk1 => ?_⟩
  refine lst_read (cons_read ⟨_, rfl, nil_read ⟨by show 1 ≤ sizeLine; decide, fun e2 ne2 => ?_⟩⟩)
  have t21 := same_lay (o := .lst [.ref o2]) ne2
  have f21 : RowsL K (L2.upd H20 e2 (.lst [.ref o2])) e2 [((0 : Int), w2)] := ⟨[o2], upd_same, .cons (SqT.of (t21 _ _ (s20 _ _ (s915 _ _ f8)))) .nil⟩
  generalize L2.upd H20 e2 (.lst [.ref o2]) = H21 at t21 f21 ⊢
  refine catL (hk1.same t21) f21 (by rw [List.length_take]; show _ + 1 ≤ 1000; omega) fun H22 k2 s22 hk2 => ?_
  have s1522 := s20.trans (t21.trans s22)
  refine sl_read6 ⟨_, rfl, _, rfl, (a : Int), rfl, ?_⟩
  dsimp only [tNoPart]
  refine slL_from ((hL8.same s915).same s1522) fun H23 k3 s23 hk3 => catL (hk2.same s23) hk3 (by rw [List.length_append, List.length_take, List.length_drop]; show _ + 1 + _ ≤ 1000; omega) fun H24 k4 s24 hk4 => ?_
  obtain ⟨rsB, m3, m4⟩ := hk4
  refine nil_read ⟨k4, _, rfl, .inl ⟨SqL.of m3, fun u2 nu2 => nil_read ⟨by show 2 ≤ sizeLine; decide, fun ql nql => ?_⟩⟩⟩
  have s25 := same_lay (o := .tup (rsB.map V.ref)) nu2
  have hT2 := tup_rows nu2 m4
  generalize L2.upd H24 u2 (.tup (rsB.map V.ref)) = H25 at s25 hT2 nql ⊢
  have s26 := same_lay (o := .lst [.ref u1, .ref u2]) nql
  have s1526 := s1522.trans (s23.trans (s24.trans (s25.trans s26)))
  rw [eall] at hT1 hT2
  refine k _ ql u1 u2 _ _ y y (S18.trans (Stp.of S18.1 (s915.trans s1526))) upd_same (hT1.same s1526) (hT2.same s26) (ini0 w1 hw1) (ini0 w2 hw2) hy hy ?_
  have z := alk_zero (p := p) (A := ri.take a) (C := ri.drop a ++ [((p : Int), y)]) hw1 hw2
  simp only [List.append_assoc, List.cons_append]
  exact z
end
abbrev sLea : Stmt := topS 96
abbrev NLea : List Str := ["_law_pool_here", "_law_size", "_law_found", "_law_turn", "_law_bound"]
theorem scLea : FnScope NLea ["_law_pool_here", "_law_size"] (defScope sLea) := ⟨rfl, rfl, rfl, by decide +kernel, rfl, by decide +kernel, by decide +kernel⟩
section
variable {P : Program} {w : World} {K : PySem.W.Frag} {mg : Str → Option Value} {base : Heap}
theorem ok_lea {f : Addr} {fd : FuncData} (F : Fun K "_law_least" "_law_least" sLea f fd) (B : Bl mg) (GD : FAt P w K mg base 1 "_law_draw" ["_law_pool_here", "_law_many"] spDraw) : FnOk P w K mg base CX0 3 f fd ["_law_pool_here", "_law_size"] (spPair K) := by
  refine F.ok scLea (fun vs H Q E h => ?_) (fun cdv A outer s H vs Q E hr h => ?_)
  · obtain ⟨pl, p, rfl, _⟩ := h
    rfl
  obtain ⟨pl, p, rfl, hp, p2, p5, k⟩ := h
  have hr1 : Room 1 _ := hr.mono (by decide)
  obtain ⟨fD, dD, GD, kD, bD, gD⟩ := GD.ex
  refine ⟨_, (pss_cons (ps_set (i := 2) scLea.nd rfl (.inl rfl) (pe_lst pa_nil))
    (pss_cons (ps_for PassesOwn.never rfl (pi_range1 (by rfl) B.range (pa_cons (pe_op op_add pe_int (pe_call GD hr1 (by rfl) gD kD bD .nil pass0 (pa_cons (pv 0) (pa_cons pe_int pa_nil)))) pa_nil)) (pg_name (i := 3) scLea.nd rfl (.inl rfl))
      (pss_cons (ps_set (i := 4) scLea.nd rfl (.inl rfl) (pe_call GD hr1 (by rfl) gD kD bD .nil pass0 (pa_cons (pv 0) (pa_cons (pe_op op_add (pv 1) pe_int) pa_nil))))
    (pss_one (ps_expr (pe_bm PySem.F.plainAttrs_list PySem.F.slot_list_append PySem.F.type_list_append mt_append (pv 2) (pa_cons (pe_tup (pa_cons (pv 4) (pa_cons (pe_ifExp (pt_cmpR op_gt (pv 4) pe_int (nomark _)) pe_str (pe_ix ix_list (pe_lst (pa_cons pe_str (pa_cons pe_str (pa_cons pe_str pa_nil)))) (pe_call GD hr1 (by rfl) gD kD bD .nil pass0 (pa_cons (pv 0) (pa_cons pe_int pa_nil))) (fun _ _ => rfl))) pa_nil))) pa_nil))))))
    (pss_one (ps_ret (pe_lst (pa_cons (pe_tup (pa_cons (pe_tup (pa_cons (pv 1) (pa_cons pe_str pa_nil))) pa_nil)) (pa_cons (pe_callTy call_tuple_of (by rfl) B.tup bTup (pa_cons (pe_op op_cat (pv 2) (pe_lst (pa_cons (pe_tup (pa_cons (pv 1) (pa_cons pe_str pa_nil))) pa_nil))) pa_nil)) pa_nil))))))), ?_⟩
  refine seq_asg (lst_read (nil_read ⟨by show 0 ≤ sizeLine; decide, fun fl nfl => ?_⟩))
  have s1 := same_lay (o := .lst []) nfl
  have e1 : (L2.upd H fl (.lst [])) fl = some (.lst (([] : List Addr).map V.ref)) := upd_same
  have nfp : fl ≠ pl := pool_new hp nfl
  dsimp only
  show tSeq (tFor _ _ _) _ _ [some (.ref pl), some (.int (p : Int)), some (.ref fl), none, none] (L2.upd H fl (.lst []))
  generalize L2.upd H fl (.lst []) = H1 at s1 e1 ⊢
  have S1 : Stp pl H H1 := Stp.of hp s1
  refine seq_for fun D' hD1 hD2 => ?_
  refine cons_read (op_read (c_read (draw_c (p := pl) rfl S1.1 (by decide) (by decide) fun H2 m S2 m0 m1 => ⟨_, _, rfl, rfl, nil_read ⟨_, rfl, by omega, by omega, ?_⟩⟩)))
  obtain ⟨m, rfl⟩ : ∃ m' : Nat, m = (m' : Int) := ⟨m.toNat, by omega⟩
  rw [show (1 + (m : Int)).toNat = 1 + m by omega]
  refine for_range (lo := 0) (n := 1 + m) (fun i σ H' => ∃ (x3 x4 : Option V) (rs : List Addr) (A : List RowD), σ = [some (.ref pl), some (.int (p : Int)), some (.ref fl), x3, x4] ∧ PoolAt H' pl ∧ (∀ c o, c ≠ pl → c ≠ fl → H2 c = some o → H' c = some o) ∧ H' fl = some (.lst (rs.map V.ref)) ∧ Paired (fun (a : Addr) (r : RowD) => SqT K H' a [.int r.1, .str r.2]) rs A ∧ A.length = i ∧ ∀ r ∈ A, RowOk p r ∧ (r.2 = "least" ∨ (r.1 = 0 ∧ r.2 ∈ zeroW))) ⟨none, none, [], [], rfl, S2.1, fun _ _ _ _ z => z, S2.2 _ _ nfp e1, .nil, rfl, fun r hr => (nomatch hr)⟩ ?_ ?_
  · rintro i σ H3 hi ⟨x3, x4, rs, A, rfl, hp3, k3, e3, hA, hAl, hAr⟩
    refine seq_asg (draw_t (p := pl) (m := (p : Int) + 1) rfl (fun R z => op_read ⟨_, rfl, c_read ⟨_, _, rfl, rfl, z⟩⟩) hp3 (by omega) (by omega) fun H4 q S4 q0 q1 => ?_)
    have e4 := S4.2 _ _ nfp e3
    have hA4 : Paired (fun (a : Addr) (r : RowD) => SqT K H4 a [.int r.1, .str r.2]) rs A := Paired.mapP hA fun _ _ z => S4.tup hp3 z
    refine ⟨_, rfl, .inl ⟨rfl, _, SqL.of e4⟩, cons_read (tup_read (cons_read ⟨_, rfl, cons_read ?_⟩))⟩
    refine test_read6 (op_read ⟨_, rfl, c_read ⟨_, _, rfl, rfl, _, rfl, ?_⟩⟩)
    by_cases c : q > 0
    · rw [decide_eq_true c]
      refine iteT (c_read ?_)
      have S5 : Stp pl H4 H4 := Stp.of S4.1 (Same.refl _)
      refine nil_read ⟨by show 2 ≤ sizeLine; decide, fun ea nea => ?_⟩
      have t6 := same_lay (o := .tup [.int q, .str "least"]) nea
      have f6 : (L2.upd H4 ea (.tup [.int q, .str "least"])) ea = some (.tup [.int q, .str "least"]) := upd_same
      have e6 := t6 _ _ (S5.2 _ _ nfp e4)
      have S46 := S5.trans (Stp.of S5.1 t6)
      generalize L2.upd H4 ea (.tup [.int q, .str "least"]) = H6 at t6 f6 e6 S46 ⊢
      have hp4 := S4.1
      have hA6 : Paired (fun (a : Addr) (r : RowD) => SqT K H6 a [.int r.1, .str r.2]) rs A := Paired.mapP hA4 fun _ _ z => S46.tup hp4 z
      have hlA := Paired.length hA
      refine nil_read ⟨fl, _, _, rfl, rfl, e6, by rw [List.length_map, sizeLine_eq]; omega, ?_⟩
      have keep : ∀ {c : Addr} {xs : List V}, SqT K H6 c xs → SqT K (L2.upd H6 fl (.lst (rs.map V.ref ++ [.ref ea]))) c xs := fun {c xs} z => sqt_upd z e6 (by intro _ z; cases z) (by intro _ _ z; cases z)
      refine ⟨_, _, rs ++ [ea], A ++ [((q, "least") : RowD)], rfl, ?_, fun c o n1 n2 z => ?_, ?_, ?_, by rw [List.length_append, hAl]; rfl, fun r hr => ?_⟩
      · obtain ⟨i0, j0, n0, hpl, h0, h1⟩ := S46.1
        exact ⟨i0, j0, n0, by rw [upd_ne (Ne.symm nfp)]; exact hpl, h0, h1⟩
      · rw [upd_ne n2]
        exact S46.2 _ _ n1 (S4.2 _ _ n1 (k3 c o n1 n2 z))
      · rw [upd_same, List.map_append]
        rfl
      · exact K2.paired_snoc (Paired.mapP hA6 fun _ _ z => keep z) (keep (SqT.of f6))
      · rcases List.mem_append.mp hr with z | z
        · exact hAr r z
        · rw [List.mem_singleton.mp z]
          exact ⟨⟨q0, by show q ≤ (p : Int); omega, (by decide +kernel : ("least" : Str) ∈ wordsL)⟩, .inl rfl⟩
    · rw [decide_eq_false c]
      refine iteF (op_read (lst_read (cons_read (c_read (cons_read (c_read (cons_read (c_read (nil_read ⟨by show 3 ≤ sizeLine; decide, fun tl ntl => ?_⟩)))))))))
      have s5 : Same H4 (L2.upd H4 tl (.lst (zeroW.map V.str))) := same_lay ntl
      have etl : (L2.upd H4 tl (.lst (zeroW.map V.str))) tl = some (.lst (zeroW.map V.str)) := upd_same
      have ntp : tl ≠ pl := pool_new S4.1 ntl
      show tCall spDraw [] E0 (tCons (tVar 0) (tCons (tC (.int 3)) tNil)) _ (L2.upd H4 tl (.lst (zeroW.map V.str))) _
      generalize L2.upd H4 tl (.lst (zeroW.map V.str)) = H5 at s5 etl ⊢
      have S45 : Stp pl H4 H5 := Stp.of S4.1 s5
      refine draw_c (p := pl) rfl S45.1 (by decide) (by decide) fun H7 r S7 r0 r1 => ?_
      obtain ⟨wd, hwd, hat⟩ := zero_tone r r0 r1
      refine ⟨tl, _, r, .str wd, rfl, rfl, SqL.of (S7.2 _ _ ntp etl), hat, ?_⟩
      have S5 := S45.trans S7
      refine nil_read ⟨by show 2 ≤ sizeLine; decide, fun ea nea => ?_⟩
      have t6 := same_lay (o := .tup [.int q, .str wd]) nea
      have f6 : (L2.upd H7 ea (.tup [.int q, .str wd])) ea = some (.tup [.int q, .str wd]) := upd_same
      have e6 := t6 _ _ (S5.2 _ _ nfp e4)
      have S46 := S5.trans (Stp.of S5.1 t6)
      generalize L2.upd H7 ea (.tup [.int q, .str wd]) = H6 at t6 f6 e6 S46 ⊢
      have hp4 := S4.1
      have hA6 : Paired (fun (a : Addr) (r : RowD) => SqT K H6 a [.int r.1, .str r.2]) rs A := Paired.mapP hA4 fun _ _ z => S46.tup hp4 z
      have hlA := Paired.length hA
      refine nil_read ⟨fl, _, _, rfl, rfl, e6, by rw [List.length_map, sizeLine_eq]; omega, ?_⟩
      have keep : ∀ {c : Addr} {xs : List V}, SqT K H6 c xs → SqT K (L2.upd H6 fl (.lst (rs.map V.ref ++ [.ref ea]))) c xs := fun {c xs} z => sqt_upd z e6 (by intro _ z; cases z) (by intro _ _ z; cases z)
      refine ⟨_, _, rs ++ [ea], A ++ [((q, wd) : RowD)], rfl, ?_, fun c o n1 n2 z => ?_, ?_, ?_, by rw [List.length_append, hAl]; rfl, fun r hr => ?_⟩
      · obtain ⟨i0, j0, n0, hpl, h0, h1⟩ := S46.1
        exact ⟨i0, j0, n0, by rw [upd_ne (Ne.symm nfp)]; exact hpl, h0, h1⟩
      · rw [upd_ne n2]
        exact S46.2 _ _ n1 (S4.2 _ _ n1 (k3 c o n1 n2 z))
      · rw [upd_same, List.map_append]
        rfl
      · exact K2.paired_snoc (Paired.mapP hA6 fun _ _ z => keep z) (keep (SqT.of f6))
      · rcases List.mem_append.mp hr with z | z
        · exact hAr r z
        · rw [List.mem_singleton.mp z]
          exact ⟨⟨q0, by show q ≤ (p : Int); omega, zero_word hwd⟩, .inr ⟨by show q = 0; omega, hwd⟩⟩
  · rintro σ H3 ⟨x3, x4, rs, A, rfl, hp3, k3, e3, hA, hAl, hAr⟩
    rw [hD1]
    -- the two rules
    have hlA := Paired.length hA
    refine ret_read (lst_read (cons_read (tup_read (cons_read (tup_read (cons_read ⟨_, rfl, cons_read (c_read (nil_read ⟨by show 2 ≤ sizeLine; decide, fun r1 nr1 => nil_read ⟨by show 1 ≤ sizeLine; decide, fun t1 nt1 => ?_⟩⟩))⟩))))))
    have t4 := same_lay (o := .tup [.int (p : Int), .str "least"]) nr1
    have f4 : (L2.upd H3 r1 (.tup [.int (p : Int), .str "least"])) r1 = some (.tup [.int (p : Int), .str "least"]) := upd_same
    have t5 := same_lay (o := .tup [.ref r1]) nt1
    have hT1 : RowsAt K (L2.upd (L2.upd H3 r1 (.tup [.int (p : Int), .str "least"])) t1 (.tup [.ref r1])) t1 ([] ++ [((p : Int), ("least" : Str))]) := ⟨[r1], SqT.of upd_same, .cons (SqT.of (t5 _ _ f4)) .nil⟩
    have s35 := t4.trans t5
    generalize L2.upd (L2.upd H3 r1 (.tup [.int (p : Int), .str "least"])) t1 (.tup [.ref r1]) = H5 at hT1 s35 ⊢
    have hL5 : RowsL K H5 fl A := ⟨rs, s35 _ _ e3, Paired.mapP hA fun _ _ z => K2.Same.tup s35 z⟩
    refine cons_read (cb_read (cons_read (op_read ⟨_, rfl, lst_read (cons_read (tup_read (cons_read ⟨_, rfl, cons_read (c_read (nil_read ⟨by show 2 ≤ sizeLine; decide, fun r2 nr2 => nil_read ⟨by show 1 ≤ sizeLine; decide, fun l2 nl2 => ?_⟩⟩))⟩)))⟩)))
    have t6 := same_lay (o := .tup [.int (p : Int), .str "least"]) nr2
    have f6 : (L2.upd H5 r2 (.tup [.int (p : Int), .str "least"])) r2 = some (.tup [.int (p : Int), .str "least"]) := upd_same
    have t7 := same_lay (o := .lst [.ref r2]) nl2
    have hL7 : RowsL K (L2.upd (L2.upd H5 r2 (.tup [.int (p : Int), .str "least"])) l2 (.lst [.ref r2])) l2 [((p : Int), ("least" : Str))] := ⟨[r2], upd_same, .cons (SqT.of (t7 _ _ f6)) .nil⟩
    have s57 := t6.trans t7
    generalize L2.upd (L2.upd H5 r2 (.tup [.int (p : Int), .str "least"])) l2 (.lst [.ref r2]) = H7 at hL7 s57 ⊢
    refine catL (hL5.same s57) hL7 (by show A.length + 1 ≤ 1000; omega) fun H8 l8 s8 hL8 => ?_
    obtain ⟨rsD, m1', m2⟩ := hL8
    refine nil_read ⟨l8, _, rfl, .inl ⟨SqL.of m1', fun t2 nt2 => nil_read ⟨by show 2 ≤ sizeLine; decide, fun ql nql => ?_⟩⟩⟩
    have s9 := same_lay (o := .tup (rsD.map V.ref)) nt2
    have hT2 := tup_rows nt2 m2
    generalize L2.upd H8 t2 (.tup (rsD.map V.ref)) = H9 at s9 hT2 nql ⊢
    have s10 := same_lay (o := .lst [.ref t1, .ref t2]) nql
    have s510 := s57.trans (s8.trans (s9.trans s10))
    have hS : Stp pl H (L2.upd H9 ql (.lst [.ref t1, .ref t2])) := by
      refine ⟨(Stp.of hp3 (s35.trans s510)).1, fun c o n z => ?_⟩
      have nc : c ≠ fl := ne_of_none z nfl
      exact (s35.trans s510) _ _ (k3 c o n nc (S2.2 _ _ n (s1 _ _ z)))
    refine k _ ql t1 t2 [] A "least" "least" hS upd_same (hT1.same s510) (hT2.same s10) ⟨fun x hx => (nomatch hx), by show 0 ≤ 3; decide⟩ ⟨fun x hx => (hAr x hx).1, by omega⟩ (by decide +kernel) (by decide +kernel) ?_
    exact alk_least A fun r hr => ⟨(hAr r hr).1.2.1, (hAr r hr).2⟩
end
end KX

set_option Elab.async false
set_option linter.all false
set_option maxRecDepth 100000
set_option maxHeartbeats 8000000
/-! _law_seen -/
namespace KX
open PySem PySem.Spec PyProof.Rows L2 G1 G2 G3 K2 G5 LamX K3 ClX K6 KZ
theorem tld_fitX {b : Nat} {t : Tld} (hb : b ≤ 10) (h : StepS b t) : DFit (tldD t) 2 99 := by
  have h1 := (opt_fit (o := t.1) fun j z => by have := h.k j z; omega).up (k' := 1) (m' := 32) (by decide) (by decide)
  have h2 := ints_fit (l := csI t.2.1) (n := 32) (fun i hi => by
    obtain ⟨j, hj, rfl⟩ := List.mem_map.mp hi
    have := h.cl j hj
    show ((j : Nat) : Int).natAbs < _
    omega) (by rw [List.length_map]; exact h.len)
  have h3 := (small_int (i := t.2.2) (by have := h.c0; have := h.c1; omega)).up (k' := 1) (m' := 32) (by decide) (by decide)
  have z := tup_fit (f := fun (x : PyData) => x) (l := [optD t.1, .tuple (iD (csI t.2.1)), .int t.2.2]) (k := 1) (m := 32) (n := 3) (fun x hx => by
    simp only [List.mem_cons, List.not_mem_nil, or_false] at hx
    rcases hx with rfl | rfl | rfl
    · exact h1
    · exact h2
    · exact h3) (Nat.le_refl _)
  rw [List.map_id'] at z
  exact z
theorem aft_namesX {e : Str × Str} {al : List Str} (h : ∀ y ∈ al, NameOk y) (he : NameOk e.2) : ∀ y ∈ aft al e, NameOk y := fun y hy => by
  unfold aft at hy
  split at hy
  · exact h y (List.mem_of_mem_erase hy)
  · rcases List.mem_append.mp hy with z | z
    · exact h y (List.mem_of_mem_erase z)
    · rw [List.mem_singleton.mp z]
      exact he
theorem fold_namesX {n : Nat} : ∀ {es : List (Str × Str)} {al : List Str}, (∀ y ∈ al, NameOk y) → Lets n al es → ∀ y ∈ es.foldl aft al, NameOk y
  | [], _, h, _ => h
  | e :: es, al, h, ⟨h1, h2⟩ => fold_namesX (es := es) (aft_namesX h h1.nm) h2
/-- what is told of a load -/
def toldD (L m : Nat) (s : Pl) : PyData := if m = L then .list [.str "told", .list (s.told.map tldD)] else .list [.str "load", .int (m : Int)]
def seenX (b L m : Nat) (s : Pl) : PyData := .list [toldD L m s, .tuple (((List.range b).map (bloM s)).map blkD)]
theorem seen_fitX {b p n m : Nat} {rows : List RowD} {es : List (Str × Str)} {s : Pl} (PU : PureS b p n rows es) (hm : m ≤ es.length) (pl : PlaysToG p rows (newP b) (es.take m) s) : DFit (seenX b es.length m s) 5 70000 := by
  have PT := PU.take m
  obtain ⟨I, hlen, hst⟩ := PT.all.2 s pl
  have hb := PU.D.b10
  have hf := PT.few
  have hfe := PU.few
  have hnm := fold_namesX (fun _ w => (List.not_mem_nil w).elim) PT.lets
  obtain ⟨_, hcont⟩ := PT.fit pl
  have f1 : DFit (toldD es.length m s) 4 30000 := by
    unfold toldD
    split
    · have a1 := (str_fit (x := "told") (n := 4) (by decide +kernel) (by decide +kernel)).up (k' := 3) (m' := 10000) (by decide) (by decide)
      have a2 : DFit (.list (s.told.map tldD)) 3 10000 := lst_fit (f := tldD) (l := s.told) (n := 100) (fun t ht => tld_fitX hb (hst t ht)) (by omega)
      have z := lst_fit (f := fun (x : PyData) => x) (l := [.str "told", .list (s.told.map tldD)]) (k := 3) (m := 10000) (n := 2) (fun x hx => by
        simp only [List.mem_cons, List.not_mem_nil, or_false] at hx
        rcases hx with rfl | rfl
        · exact a1
        · exact a2) (Nat.le_refl _)
      rw [List.map_id'] at z
      exact z.up (by decide) (by decide)
    · have a1 := (str_fit (x := "load") (n := 4) (by decide +kernel) (by decide +kernel)).up (k' := 3) (m' := 10000) (by decide) (by decide)
      have a2 := (small_int (i := (m : Int)) (by omega)).up (k' := 3) (m' := 10000) (by decide) (by decide)
      have z := lst_fit (f := fun (x : PyData) => x) (l := [.str "load", .int (m : Int)]) (k := 3) (m := 10000) (n := 2) (fun x hx => by
        simp only [List.mem_cons, List.not_mem_nil, or_false] at hx
        rcases hx with rfl | rfl
        · exact a1
        · exact a2) (Nat.le_refl _)
      rw [List.map_id'] at z
      exact z.up (by decide) (by decide)
  have f2 := (blks_fit (ts := (List.range b).map (bloM s)) (fun t ht => by
    obtain ⟨i, hi, rfl⟩ := List.mem_map.mp ht
    have hib := List.mem_range.mp hi
    have hm : s.cont.getD i [] ∈ s.cont := K6.getD_mem (by rw [I.cl]; exact hib)
    refine ⟨blo_state s i, fun x hx => hnm x (I.names.mem_iff.mp (List.mem_flatMap.mpr ⟨_, hm, hx⟩)), ?_⟩
    exact Nat.le_trans (kept_len _) (hcont _ hm)) (by rw [List.length_map, List.length_range]; exact hb)).up (k' := 4) (m' := 30000) (by decide) (by decide)
  have z := lst_fit (f := fun (x : PyData) => x) (l := [toldD es.length m s, .tuple (((List.range b).map (bloM s)).map blkD)]) (k := 4) (m := 30000) (n := 2) (fun x hx => by
    simp only [List.mem_cons, List.not_mem_nil, or_false] at hx
    rcases hx with rfl | rfl
    · exact f1
    · exact f2) (Nat.le_refl _)
  rw [List.map_id'] at z
  exact z.up (Nat.le_refl _) (by decide)
section
variable {K : PySem.W.Frag} {T : List (Addr × Str)} {CD C : Addr} {H : Hp} {mi ld : Addr} {b p n : Nat} {ini : List RowD} {y : Str} {es : List (Str × Str)} {s0 : Pl}
theorem blo_inX {Q : VK} {E : XK} (S : S8 K CD H mi ld b p n ini y es) (PU : PureS b p n (ini ++ [((p : Int), y)]) es) (pl : PlaysToG p (ini ++ [((p : Int), y)]) (newP b) es s0) (hT : Tabs T H) (k : ∀ (H' : Hp) (q : Addr) (rs : List Addr), H' q = some (.tup (rs.map V.ref)) → Paired (BlAt H') rs ((List.range b).map (bloM s0)) → ExtN H H' → Tabs T H' → Q (.ref q) H') : spBloG K T CD C [.ref mi, .ref ld] H Q E := by
  obtain ⟨eas, hld, hev⟩ := S.sc
  have hfew := PU.few
  refine ⟨mi, ld, eas, es, b, p, n, ini, y, rfl, hld, Paired.mapP hev str_row8, S.mi, PU.D.b10, PU.wd, PU.ok pl, by omega, hT, fun s' h' => PU.fit h', fun H' q rs s' h' hq hrs x t => ?_⟩
  have e := plays_uniq PU.wd h' pl
  subst e
  rw [(PU.all.2 _ pl).1.cl] at hrs
  exact k H' q rs hq hrs x t
end
theorem callN_readX {n m : Nat} {sp : Sp} {gV : List V → List V → List V} {E : XK} {t tk : TA} {σ : L2.St} {H : Hp} {Q : VK} (h : t σ H fun vs H1 => tk σ H1 fun zs H2 => vs.length = n ∧ zs.length = m ∧ sp (gV vs zs) H2 Q E) : tCallN n m sp gV E t tk σ H Q := h
abbrev qSee : Str := ("_law_seen" : Str) ++ ".<locals>." ++ "<lambda>"
abbrev sSee : Stmt := topS 97
abbrev NSee : List Str := ["_law_mine", "_law_script", "_law_told", "_law_part"]
theorem scSee : FnScope NSee ["_law_mine", "_law_script"] (defScope sSee) := ⟨rfl, rfl, rfl, by decide +kernel, rfl, by decide +kernel, by decide +kernel⟩
def spSee (K : PySem.W.Frag) (T : List (Addr × Str)) (CD : Addr) : Sp := fun vs H Q _ => ∃ (mi sc : Addr) (b p n : Nat) (ini : List RowD) (y : Str) (es : List (Str × Str)), vs = [.ref mi, .ref sc] ∧ S8 K CD H mi sc b p n ini y es ∧ PureS b p n (ini ++ [((p : Int), y)]) es ∧ Tabs T H ∧
  ∀ (H' : Hp) (m : Nat) (s' : Pl), Far p b (ini ++ [((p : Int), y)]) es m s' → ExtN H H' → Tabs T H' → Q (.str (seenX b es.length m s').shown) H'
section
variable {P : Program} {w : World} {K : PySem.W.Frag} {mg : Str → Option Value} {base : Heap} {CD C CL : Addr}
theorem ok_see {f c P0 : Addr} {fd : FuncData} {T : List (Addr × Str)} (F : FunC K "_law_seen" "_law_seen" sSee f c fd) (B : Bl mg) (hlist : mg "list" = none) (L : OutL P w K mg base CL) (TC : TabC base mg T c P0 qSee) (GS : GnAt P w K mg base 8 "steps" ["drive", "load"] (spStpX K T CD C CL)) (GB : FAt P w K mg base 8 "blocks_of" ["drive", "load"] (spBloG K T CD C)) : FnG P w K mg base 14 f fd ["_law_mine", "_law_script"] (spSee K T CD) := by
  refine okGC F scSee (fun vs H Q E h => ?_) (fun A outer s H vs Q E hgu hr h => ?_)
  · obtain ⟨mi, sc, b, p, n, ini, y, es, rfl, _⟩ := h
    rfl
  obtain ⟨mi, sc, b, p, n, ini, y, es, rfl, S, PU, hT, k⟩ := h
  have hr8 : Room 8 _ := hr.mono (by decide)
  have hr13 : Room 13 _ := hr.mono (by decide)
  obtain ⟨fS, dS, GS, kS, bS, gS⟩ := GS.ex
  obtain ⟨fB, dB, GB, kB, bB, gB⟩ := GB.ex
  refine ⟨_, (pss_cons (ps_set (i := 2) scSee.nd rfl (.inl rfl) (pe_out (t := fun E => tListG (tCallG (spStpX K T CD C CL) [] (ELe CL E) (tCons (tVar 0) (tCons (tVar 1) tNil)))) L hr13 TC rfl rfl (lamS_by (show lamSB (defScope sSee) _ = true from by decide +kernel)) rfl (fun _ _ _ _ _ => rfl) (fun A outer s H E f c' hr' => pe_listG (E := ELe CL E) (k := 8) (pgen_call GS (hr'.mono (by decide)) (by rfl) gS kS bS .nil (pa_cons (pv 0) (pa_cons (pv 1) pa_nil))) (passes_call (takes_of rfl rfl rfl rfl) (fun _ _ _ _ z => z.2)) (fun cls d H z => by rw [z.1]; exact L.ns) hr' (by rfl) hlist bList6)))
    (pss_cons (ps_set (i := 3) scSee.nd rfl (.inl rfl) (pe_ifExp (pt_cmpR op_eq (pe_ix ix_list (pv 2) pe_int (fun _ _ => rfl)) pe_str (nomark _)) (pe_slice sl_tupA (pv 1) po_none (po_some (pe_ix ix_list (pv 2) pe_int (fun _ _ => rfl)))) (pv 1)))
    (pss_one (ps_ret (pe_callB (call_repr hgu hr.units) (by rfl) B.repr bRepr6 (pa_cons (pe_lst (pa_cons (pv 2) (pa_cons (pe_call GB hr8 (by rfl) gB kB bB .nil pass0 (pa_cons (pv 0) (pa_cons (pv 3) pa_nil))) pa_nil))) pa_nil)))))), ?_⟩
  obtain ⟨eas, hsc, hev⟩ := S.sc
  have hel := Paired.length hev
  have hfew := PU.few
  have all := PU.all
  refine seq_asg ⟨hT, fun H2 x2 T2 => fun E' Q' hE hQ => ?_⟩
  have S2 := S.ext x2
  refine listG_read (callG_read (cons_read ⟨_, rfl, cons_read ⟨_, rfl, nil_read ⟨mi, sc, eas, es, b, p, n, ini, y, rfl, S2.mi, ⟨ext_tup x2 hsc, Paired.mapP hev fun _ _ z => str_row8 _ _ (x2 _ _ z (by intro _ q; cases q)), PU.D.b10, PU.wd, all.1, by omega, T2, fun H3 i e s1 s2 he hp hst x3 t3 d H4 s4 hd4 => ⟨rfl, hE _ _ _ ⟨d, (i : Int), rfl, rfl, hd4, fun q nq => ?_⟩⟩⟩, fun s' h' => by have := (all.2 s' h').2.1; omega, fun H3 rs s' hp hrs x3 t3 l nl => hQ _ _ fun q nq => ?_⟩⟩⟩))
  · -- it sticks
    have hi := (List.getElem?_eq_some_iff.mp he).1
    have X5 : ExtN H (L2.upd H4 q (.lst [.str "load", .int (i : Int)])) := x2.trans (x3.trans (.of (s4.trans (same_lay nq))))
    have T5 : Tabs T (L2.upd H4 q (.lst [.str "load", .int (i : Int)])) := (t3.ext s4).ext (same_lay nq)
    have e5 : (L2.upd H4 q (.lst [.str "load", .int (i : Int)])) q = some (.lst [.str "load", .int (i : Int)]) := upd_same
    have S5 := S.ext X5
    have far : Far p b (ini ++ [((p : Int), y)]) es i s1 := ⟨by omega, hp, .inr ⟨e, s2, he, hst⟩⟩
    show tSeq (tAsg _ _) _ _ [some (.ref mi), some (.ref sc), some (.ref q), none] (L2.upd H4 q (.lst [.str "load", .int (i : Int)]))
    generalize L2.upd H4 q (.lst [.str "load", .int (i : Int)]) = H5 at X5 T5 e5 S5 ⊢
    refine seq_asg ⟨_, rfl, q, _, _, .str "load", rfl, rfl, SqL.of e5, rfl, rfl, _, rfl, iteT ?_⟩
    refine sl_read6 ⟨_, rfl, ?_⟩
    dsimp only [tNoPart]
    refine ⟨_, rfl, q, _, _, .int (i : Int), rfl, rfl, SqL.of e5, rfl, (i : Int), rfl, slA8 (ext_tup X5 hsc) fun H6 u s6 h6 => ?_⟩
    rw [cut_to, ← List.map_take] at h6
    have S6 := S5.ext (.of s6)
    have SS : S8 K CD H6 mi u b p n ini y (es.take i) := ⟨S6.mi, eas.take i, h6, paired_take (Paired.mapP hev fun _ _ z => s6 _ _ (X5 _ _ z (by intro _ q; cases q))) i⟩
    have e6 := s6 _ _ e5
    have X6 := X5.trans (.of s6)
    have T6 := T5.ext s6
    show tRet _ _ [some (.ref mi), some (.ref sc), some (.ref q), some (.ref u)] H6
    refine ret_read (cb_read (cons_read (lst_read (cons_read ⟨_, rfl, cons_read (call_read (cons_read ⟨_, rfl, cons_read ⟨_, rfl, nil_read (blo_inX SS (PU.take i) hp T6 fun H7 q2 bs e2 p2 x7 t7 => ?_)⟩⟩))⟩))))
    refine nil_read ⟨by show 2 ≤ sizeLine; decide, fun r nr => ?_⟩
    have s8 := same_lay (o := .lst [.ref q, .ref q2]) nr
    have x68 := x7.trans (.of s8)
    have fit := seen_fitX PU far.1 hp
    refine nil_read ⟨_, _, rfl, fit.tg (by decide) ?_, fit.gd (by decide) (by decide), k _ i s1 far (X6.trans x68) (t7.ext s8)⟩
    refine .lst (SqL.of upd_same) (.cons ?_ (.cons (.tup (SqT.of (s8 _ _ e2)) (blks_dp (Paired.mapP p2 fun _ _ z => z.same s8))) .nil))
    unfold toldD
    rw [if_neg (by omega)]
    exact .lst (SqL.of (x68 _ _ e6 (by intro _ z; cases z))) (.cons (.str _) (.cons (.int _) .nil))
  · -- it is played
    have sq := (same_lay (o := .lst (rs.map V.ref)) nl).trans (same_lay (o := .lst [.str "told", .ref l]) nq)
    have X5 : ExtN H (L2.upd (L2.upd H3 l (.lst (rs.map V.ref))) q (.lst [.str "told", .ref l])) := x2.trans (x3.trans (.of sq))
    have T5 : Tabs T (L2.upd (L2.upd H3 l (.lst (rs.map V.ref))) q (.lst [.str "told", .ref l])) := (t3.ext (same_lay nl)).ext (same_lay nq)
    have e5 : (L2.upd (L2.upd H3 l (.lst (rs.map V.ref))) q (.lst [.str "told", .ref l])) q = some (.lst [.str "told", .ref l]) := upd_same
    have l5 : (L2.upd (L2.upd H3 l (.lst (rs.map V.ref))) q (.lst [.str "told", .ref l])) l = some (.lst (rs.map V.ref)) := (same_lay nq) _ _ upd_same
    have p5 : Paired (TldAt (L2.upd (L2.upd H3 l (.lst (rs.map V.ref))) q (.lst [.str "told", .ref l]))) rs s'.told := Paired.mapP hrs fun _ _ z => tld_ext z (.of sq)
    have S5 := S.ext X5
    have far : Far p b (ini ++ [((p : Int), y)]) es es.length s' := ⟨Nat.le_refl _, by rw [List.take_length]; exact hp, .inl rfl⟩
    show tSeq (tAsg _ _) _ _ [some (.ref mi), some (.ref sc), some (.ref q), none] (L2.upd (L2.upd H3 l (.lst (rs.map V.ref))) q (.lst [.str "told", .ref l]))
    generalize L2.upd (L2.upd H3 l (.lst (rs.map V.ref))) q (.lst [.str "told", .ref l]) = H5 at X5 T5 e5 l5 p5 S5 ⊢
    refine seq_asg ⟨_, rfl, q, _, _, .str "told", rfl, rfl, SqL.of e5, rfl, rfl, _, rfl, iteF ⟨_, rfl, ?_⟩⟩
    show tRet _ _ [some (.ref mi), some (.ref sc), some (.ref q), some (.ref sc)] H5
    refine ret_read (cb_read (cons_read (lst_read (cons_read ⟨_, rfl, cons_read (call_read (cons_read ⟨_, rfl, cons_read ⟨_, rfl, nil_read (blo_inX S5 PU hp T5 fun H7 q2 bs e2 p2 x7 t7 => ?_)⟩⟩))⟩))))
    refine nil_read ⟨by show 2 ≤ sizeLine; decide, fun r nr => ?_⟩
    have s8 := same_lay (o := .lst [.ref q, .ref q2]) nr
    have x68 := x7.trans (.of s8)
    have fit := seen_fitX PU far.1 far.2.1
    refine nil_read ⟨_, _, rfl, fit.tg (by decide) ?_, fit.gd (by decide) (by decide), k _ es.length s' far (X5.trans x68) (t7.ext s8)⟩
    refine .lst (SqL.of upd_same) (.cons ?_ (.cons (.tup (SqT.of (s8 _ _ e2)) (blks_dp (Paired.mapP p2 fun _ _ z => z.same s8))) .nil))
    unfold toldD
    rw [if_pos rfl]
    exact .lst (SqL.of (x68 _ _ e5 (by intro _ z; cases z))) (.cons (.str _) (.cons (.lst (SqL.of (x68 _ _ l5 (by intro _ z; cases z))) (tlds_dp (Paired.mapP p5 fun _ _ z => tld_ext z x68))) .nil))
end
end KX

set_option Elab.async false
set_option linter.all false
set_option maxRecDepth 100000
set_option maxHeartbeats 8000000
/-! _law_length, _law_all -/
namespace KX
open PySem PySem.Spec PyProof.Rows L2 G1 G2 G3 K2 G5 LamX K3 ClX K6 KZ
open K2.KQ (Spot SpotK Rch stkM Good WrL lodM lod_len stk_box wSc spStl spSti gApp)
/-! ### stands shown -/
def spD (s : Spot) : PyData := .tuple [.tuple (iD s.1), .tuple (iD s.2)]
theorem spot_dpX {K : PySem.W.Frag} {H : Hp} {a : Addr} {s : Spot} (h : SpotK K H a s) : Dp K H (.ref a) (spD s) := by
  obtain ⟨a1, a2, h0, h1, h2⟩ := h
  exact .tup h0 (.cons (.tup h1 (dp_ints _)) (.cons (.tup h2 (dp_ints _)) .nil))
theorem spots_dpX {K : PySem.W.Frag} {H : Hp} : ∀ {es : List (Spot × Addr)}, (∀ e ∈ es, SpotK K H e.2 e.1) → DpAll K H (es.map fun e => V.ref e.2) ((es.map (·.1)).map spD)
  | [], _ => .nil
  | e :: es, h => .cons (spot_dpX (h e (List.mem_cons_self ..))) (spots_dpX fun x hx => h x (List.mem_cons_of_mem _ hx))
theorem spot_fitX {b p n : Nat} {s : Spot} (hb : b ≤ 6) (hp : p ≤ 6) (g : Good b p n s) : DFit (spD s) 2 20 := by
  have h1 : DFit (.tuple (iD s.1)) 1 6 := ints_fit (fun i hi => by
    have := g.box i hi
    show i.natAbs < 10000000
    omega) (by have := g.len; omega)
  have h2 : DFit (.tuple (iD s.2)) 1 6 := by
    rcases g.half with e | ⟨w, l, e, a1, a2, a3, a4⟩
    · rw [e]
      exact ints_fit (fun i hi => by cases hi) (by simp)
    · rw [e]
      refine ints_fit (fun i hi => ?_) (by simp)
      simp only [List.mem_cons, List.not_mem_nil, or_false] at hi
      show i.natAbs < 10000000
      rcases hi with rfl | rfl <;> omega
  have z := tup_fit (f := fun (x : PyData) => x) (l := [.tuple (iD s.1), .tuple (iD s.2)]) (k := 1) (m := 6) (n := 2) (fun x hx => by
    simp only [List.mem_cons, List.not_mem_nil, or_false] at hx
    rcases hx with rfl | rfl
    · exact h1
    · exact h2) (Nat.le_refl _)
  rw [List.map_id'] at z
  exact z.up (Nat.le_refl _) (by decide)
theorem gd_bigX {d : PyData} {k m : Nat} (h : DFit d k m) (hk : k ≤ 60) (hm : m ≤ 1000000) : Gd d := by
  refine ⟨h.sho, ?_, Nat.le_trans h.dep hk⟩
  have z := PyData.shown_le_bulk 8 (Nat.le_refl _) d h.sht
  have := h.blk
  rw [sizeLine_eq]
  omega
def sdD (L : List Spot) : PyData := .tuple (L.map spD)
theorem sd_fitX {b p n : Nat} {L : List Spot} (hb : b ≤ 6) (hp : p ≤ 6) (hl : L.length ≤ 5000) (g : ∀ s ∈ L, Good b p n s) : DFit (sdD L) 3 105000 := tup_fit (fun s hs => spot_fitX hb hp (g s hs)) hl
theorem bool_fit (c : Bool) : DFit (.bool c) 0 0 := by
  cases c <;> exact ⟨rfl, rfl, by decide +kernel, by simp [PyData.depth], by simp [PyData.bulk]⟩
/-- the stands of a drive -/
structure Alls (b p n : Nat) (rows : List RowD) (fl : Bool) (L : List Spot) : Prop where
  asc : SrtO.Srtd SrtS.ltS L
  nd : L.Nodup
  all : ∀ s, s ∈ L ↔ Rch b p n rows fl s
  len : L.length ≤ 5000
theorem alls_of {K : PySem.W.Frag} {b p n : Nat} {rows : List RowD} {fl : Bool} {H : Hp} {es : List (Spot × Addr)} (h : AllS K b p n rows fl H es) : Alls b p n rows fl (es.map (·.1)) := ⟨h.asc.keys, h.nd, h.all, by rw [List.length_map]; exact h.len⟩
theorem alls_uniq {b p n : Nat} {rows rows' : List RowD} {fl : Bool} {L L' : List Spot} (a : Al b p n rows rows') (h : Alls b p n rows fl L) (h' : Alls b p n rows' fl L') : L = L' :=
  asc_uniq h.asc h'.asc ((List.perm_ext_iff_of_nodup h.nd h'.nd).mpr fun s => (h.all s).trans ⟨fun z => (h'.all s).mpr (rch_alk a z), fun z => rch_alk a.symm ((h'.all s).mp z)⟩)
/-! ### how long a load that sticks is -/
def LenV (K : PySem.W.Frag) (H : Hp) (v : V) : Option Nat → Prop
  | none => v = .non
  | some k => ∃ (q t : Addr) (w : Str) (xs : List V), v = .ref q ∧ SqT K H q [.ref t, .str w] ∧ SqT K H t xs ∧ xs.length = k
def lenO : Option Nat → V
  | none => .non
  | some k => .int (k : Int)
def lenD : Option Nat → PyData
  | none => .none
  | some k => .int (k : Int)
theorem len_dp {K : PySem.W.Frag} {H : Hp} : ∀ o : Option Nat, Dp K H (lenO o) (lenD o)
  | none => .non
  | some k => .int _
theorem len_fit {o : Option Nat} (h : ∀ k, o = some k → k ≤ 1000) : DFit (lenD o) 0 0 := by
  cases o with
  | none => exact non_fit
  | some k => exact small_int (by have := h k rfl; show ((k : Nat) : Int).natAbs < 10000000; omega)
def lnO (b p n : Nat) (rows : List RowD) : Option Nat := if (stkM b p n rows).isSome = true then some (p * (b - 1)) else none

theorem stl_len {K : PySem.W.Frag} {CD : Addr} {H : Hp} {x b p n : Nat} {ini : List RowD} {y : Str} {tr : Bool} {Q : VK} {E : XK} (hd : DrvAt K CD H x b p n ini y) (dp : DP b p n ini y)
    (k : ∀ (H' : Hp) (v : V), Same H H' → LenV K H' v (lnO b p n (ini ++ [((p : Int), y)])) → Q v H') : spStl K CD [.ref x, .bl tr] H Q E := by
  refine ⟨x, tr, b, p, n, ini, y, rfl, hd, dp, fun e H' s' => k H' _ s' ?_, fun st H' q t rs e s' hq ht hw => k H' _ s' ?_⟩
  · unfold lnO
    rw [e]
    exact rfl
  · unfold lnO
    rw [e]
    obtain ⟨h1, h2⟩ := stk_box dp e
    have z := Paired.length hw
    rw [lod_len h2 (b - 1) (by omega)] at z
    exact ⟨q, t, wSc, rs.map V.ref, rfl, SqT.of hq, SqT.of ht, by rw [List.length_map]; exact z⟩
abbrev sLen : Stmt := topS 98
abbrev NLen : List Str := ["_law_told"]
theorem scLen : FnScope NLen ["_law_told"] (defScope sLen) := ⟨rfl, rfl, rfl, by decide +kernel, rfl, by decide +kernel, by decide +kernel⟩
def spLen (K : PySem.W.Frag) : Sp := fun vs H Q _ => ∃ (v : V) (o : Option Nat), vs = [v] ∧ LenV K H v o ∧ Q (lenO o) H
section
variable {P : Program} {w : World} {K : PySem.W.Frag} {mg : Str → Option Value} {base : Heap} {CD C : Addr}
theorem ok_len {f : Addr} {fd : FuncData} (F : Fun K "_law_length" "_law_length" sLen f fd) (B : Bl mg) : FnOk P w K mg base CX0 1 f fd ["_law_told"] (spLen K) := by
  refine F.ok scLen (fun vs H Q E h => ?_) (fun cdv A outer s H vs Q E hr h => ?_)
  · obtain ⟨v, o, rfl, _⟩ := h
    rfl
  obtain ⟨v, o, rfl, hv, k⟩ := h
  refine ⟨_, (pss_one (ps_ret (pe_ifExp (pt_cmpR op_isN (pv 0) pe_non (nomark _)) pe_non (pe_callB call_len_seq (by rfl) B.len PySem.boot_len (pa_cons (pe_ix ix_tup (pv 0) pe_int (fun _ _ => rfl)) pa_nil))))), ?_⟩
  cases o with
  | none =>
    have hv : v = .non := hv
    subst hv
    exact ⟨_, rfl, rfl, _, rfl, iteT k⟩
  | some m =>
    obtain ⟨q, t, w, xs, rfl, hq, ht, hl⟩ := hv
    subst hl
    exact ⟨_, rfl, rfl, _, rfl, iteF ⟨_, rfl, q, _, _, .ref t, rfl, rfl, hq, rfl, t, _, rfl, .inr ht, k⟩⟩
end
/-- stands, sticks, stick_load: by their defaults and by their words -/
structure StsX (P : Program) (w : World) (K : PySem.W.Frag) (mg : Str → Option Value) (base : Heap) (T : List (Addr × Str)) (CD : Addr) : Prop where
  sts : ∃ (f : Addr) (fd : FuncData), FnOk P w K mg base CX0 9 f fd ["drive", "trims"] (spStd2 K T CD) ∧ PySem.W.keepIn K (.ref f) = true ∧ (∃ ds, Vals [V.bl true] ds ∧ Binds K fd ["drive", "trims"] ds) ∧ KBn K fd ["drive", "trims"] 1 ["trims"] gApp gApp ∧ mg "stands" = some (.ref f)
structure StiX (P : Program) (w : World) (K : PySem.W.Frag) (mg : Str → Option Value) (base : Heap) (CD : Addr) : Prop where
  sti : ∃ (f : Addr) (fd : FuncData), FnOk P w K mg base CX0 5 f fd ["drive", "trims"] (spSti K CD) ∧ PySem.W.keepIn K (.ref f) = true ∧ (∃ ds, Vals [V.bl true] ds ∧ Binds K fd ["drive", "trims"] ds) ∧ KBn K fd ["drive", "trims"] 1 ["trims"] gApp gApp ∧ mg "sticks" = some (.ref f)
structure StlX (P : Program) (w : World) (K : PySem.W.Frag) (mg : Str → Option Value) (base : Heap) (CD : Addr) : Prop where
  stl : ∃ (f : Addr) (fd : FuncData), FnOk P w K mg base CX0 5 f fd ["drive", "trims"] (spStl K CD) ∧ PySem.W.keepIn K (.ref f) = true ∧ (∃ ds, Vals [V.bl true] ds ∧ Binds K fd ["drive", "trims"] ds) ∧ KBn K fd ["drive", "trims"] 1 ["trims"] gApp gApp ∧ mg "stick_load" = some (.ref f)
/-- all that is asked of a drive -/
def allD (L1 L0 : List Spot) (st : Bool) (o : Option Nat) : PyData := .list [sdD L1, sdD L0, .bool st, .bool st, lenD o, lenD o]
theorem all_fit {b p n : Nat} {rows : List RowD} {L1 L0 : List Spot} {st : Bool} (hb : b ≤ 6) (hb3 : 3 ≤ b) (hp : p ≤ 6) (hp2 : 2 ≤ p) (a1 : Alls b p n rows true L1) (a0 : Alls b p n rows false L0) : DFit (allD L1 L0 st (lnO b p n rows)) 4 630006 := by
  have g1 := sd_fitX hb hp a1.len fun s hs => rch_good hp2 hb3 ((a1.all s).mp hs)
  have g0 := sd_fitX hb hp a0.len fun s hs => rch_good hp2 hb3 ((a0.all s).mp hs)
  have hl : DFit (lenD (lnO b p n rows)) 0 0 := len_fit fun k e => by
    unfold lnO at e
    split at e
    · have z : p * (b - 1) ≤ 6 * 5 := Nat.mul_le_mul hp (by omega)
      have := Option.some.inj e
      omega
    · cases e
  have z := lst_fit (f := fun (x : PyData) => x) (l := [sdD L1, sdD L0, .bool st, .bool st, lenD (lnO b p n rows), lenD (lnO b p n rows)]) (k := 3) (m := 105000) (n := 6) (fun x hx => by
    simp only [List.mem_cons, List.not_mem_nil, or_false] at hx
    rcases hx with rfl | rfl | rfl | rfl | rfl | rfl
    · exact g1
    · exact g0
    · exact (bool_fit _).up (by decide) (by decide)
    · exact (bool_fit _).up (by decide) (by decide)
    · exact hl.up (by decide) (by decide)
    · exact hl.up (by decide) (by decide)) (Nat.le_refl _)
  rw [List.map_id'] at z
  exact z
abbrev sAll : Stmt := topS 99
abbrev NAll : List Str := ["_law_mine", "_law_found"]
theorem scAll : FnScope NAll ["_law_mine"] (defScope sAll) := ⟨rfl, rfl, rfl, by decide +kernel, rfl, by decide +kernel, by decide +kernel⟩
def spAll (K : PySem.W.Frag) (T : List (Addr × Str)) (CD : Addr) : Sp := fun vs H Q _ => ∃ (x b p n : Nat) (ini : List RowD) (y : Str), vs = [.ref x] ∧ Dv K T CD H x b p n ini y ∧ DP b p n ini y ∧ Shp b p n ∧
  ∀ (H' : Hp) (L1 L0 : List Spot), ExtN H H' → Tabs T H' → Alls b p n (ini ++ [((p : Int), y)]) true L1 → Alls b p n (ini ++ [((p : Int), y)]) false L0 → Q (.str (allD L1 L0 (stkM b p n (ini ++ [((p : Int), y)])).isSome (lnO b p n (ini ++ [((p : Int), y)]))).shown) H'
section
variable {P : Program} {w : World} {K : PySem.W.Frag} {mg : Str → Option Value} {base : Heap} {CD C : Addr}
theorem ok_all {f : Addr} {fd : FuncData} {T : List (Addr × Str)} (F : Fun K "_law_all" "_law_all" sAll f fd) (B : Bl mg) (GL : StsX P w K mg base T CD) (GS : StiX P w K mg base CD) (GT : StlX P w K mg base CD) (GN : FAt P w K mg base 1 "_law_length" ["_law_told"] (spLen K)) : FnG P w K mg base 11 f fd ["_law_mine"] (spAll K T CD) := by
  refine okG F scAll (fun vs H Q E h => ?_) (fun cdv A outer s H vs Q E hgu hr h => ?_)
  · obtain ⟨x, b, p, n, ini, y, rfl, _⟩ := h
    rfl
  obtain ⟨x, b, p, n, ini, y, rfl, D, dp, hS, k⟩ := h
  have hr1 : Room 1 _ := hr.mono (by decide)
  have hr5 : Room 5 _ := hr.mono (by decide)
  have hr9 : Room 9 _ := hr.mono (by decide)
  obtain ⟨fL, dL, GL, kL, ⟨dsL, vL, bL⟩, nL, gL⟩ := GL.sts
  obtain ⟨fS, dS, GS, kS, ⟨dsS, vS, bS⟩, nS, gS⟩ := GS.sti
  obtain ⟨fT, dT, GT, kT, ⟨dsT, vT, bT⟩, nT, gT⟩ := GT.stl
  obtain ⟨fN, dN, GN, kN, bN, gN⟩ := GN.ex
  refine ⟨_, (pss_cons (ps_set (i := 1) scAll.nd rfl (.inl rfl) (pe_lst (pa_cons (pe_call GL hr9 (by rfl) gL kL bL vL pass0 (pa_cons (pv 0) pa_nil)) (pa_cons (pe_callN GL hr9 (by rfl) gL kL nL pass0 (pa_cons (pv 0) pa_nil) (pk_cons pe_bl pk_nil)) (pa_cons (pe_call GS hr5 (by rfl) gS kS bS vS pass0 (pa_cons (pv 0) pa_nil)) (pa_cons (pe_callN GS hr5 (by rfl) gS kS nS pass0 (pa_cons (pv 0) pa_nil) (pk_cons pe_bl pk_nil)) pa_nil))))))
    (pss_one (ps_ret (pe_callB (call_repr hgu hr.units) (by rfl) B.repr bRepr6 (pa_cons (pe_op op_cat (pv 1) (pe_lst (pa_cons (pe_call GN hr1 (by rfl) gN kN bN .nil pass0 (pa_cons (pe_call GT hr5 (by rfl) gT kT bT vT pass0 (pa_cons (pv 0) pa_nil)) pa_nil)) (pa_cons (pe_call GN hr1 (by rfl) gN kN bN .nil pass0 (pa_cons (pe_callN GT hr5 (by rfl) gT kT nT pass0 (pa_cons (pv 0) pa_nil) (pk_cons pe_bl pk_nil)) pa_nil)) pa_nil)))) pa_nil))))), ?_⟩
  have hz := hS.sz
  refine seq_asg (lst_read (cons_read (call_read (cons_read ⟨_, rfl, nil_read ⟨x, true, b, p, n, ini, y, rfl, D, hS, fun H1 q1 es1 x1 t1 hq1 A1 => ?_⟩⟩))))
  have D1 := D.ext x1 t1
  refine cons_read (callN_readX (cons_read ⟨_, rfl, nil_read (cons_read (c_read (nil_read ⟨rfl, rfl, x, false, b, p, n, ini, y, rfl, D1, hS, fun H2 q2 es2 x2 t2 hq2 A2 => ?_⟩)))⟩))
  have D2 := D1.ext x2 t2
  refine cons_read (call_read (cons_read ⟨_, rfl, nil_read ⟨x, true, b, p, n, ini, y, rfl, D2.drv, dp, fun H3 s3 => ?_⟩⟩))
  have D3 := D2.same s3
  refine cons_read (callN_readX (cons_read ⟨_, rfl, nil_read (cons_read (c_read (nil_read ⟨rfl, rfl, x, false, b, p, n, ini, y, rfl, D3.drv, dp, fun H4 s4 => ?_⟩)))⟩))
  have D4 := D3.same s4
  generalize hst : (stkM b p n (ini ++ [((p : Int), y)])).isSome = st at k ⊢
  refine nil_read ⟨by show 4 ≤ sizeLine; decide, fun fl nfl => ?_⟩
  have s5 := same_lay (o := .lst [.ref q1, .ref q2, .bl st, .bl st]) nfl
  have e5 : (L2.upd H4 fl (.lst [.ref q1, .ref q2, .bl st, .bl st])) fl = some (.lst [.ref q1, .ref q2, .bl st, .bl st]) := upd_same
  have s25 := s3.trans (s4.trans s5)
  have x15 := x2.trans (.of s25)
  have D5 := D4.same s5
  have hq1 := x15 _ _ hq1 (by intro _ z; cases z)
  have hq2 := s25 _ _ hq2
  have A1 := A1.ext x15
  have A2 := A2.ext (.of s25)
  have X5 := x1.trans x15
  show tRet _ _ [some (.ref x), some (.ref fl)] (L2.upd H4 fl (.lst [.ref q1, .ref q2, .bl st, .bl st]))
  generalize L2.upd H4 fl (.lst [.ref q1, .ref q2, .bl st, .bl st]) = H5 at e5 D5 hq1 hq2 A1 A2 X5 ⊢
  clear D4 D3 D2 D1 s3 s4 s5 s25 x15 x1 x2 t1 t2
  generalize hln : lnO b p n (ini ++ [((p : Int), y)]) = o at k ⊢
  refine ret_read (cb_read (cons_read (op_read ⟨_, rfl, lst_read (cons_read (call_read (cons_read (call_read (cons_read ⟨_, rfl, nil_read (stl_len D5.drv dp fun H6 v6 s6 l6 => ?_)⟩)))))⟩)))
  rw [hln] at l6
  refine nil_read ⟨_, o, rfl, l6, ?_⟩
  have D6 := D5.same s6
  refine cons_read (call_read (cons_read (callN_readX (cons_read ⟨_, rfl, nil_read (cons_read (c_read (nil_read ⟨rfl, rfl, stl_len D6.drv dp fun H7 v7 s7 l7 => ?_⟩)))⟩))))
  rw [hln] at l7
  refine nil_read ⟨_, o, rfl, l7, ?_⟩
  have D7 := D6.same s7
  refine nil_read ⟨by show 2 ≤ sizeLine; decide, fun l2 nl2 => ?_⟩
  have s8 := same_lay (o := .lst [lenO o, lenO o]) nl2
  have s58 := s6.trans (s7.trans s8)
  refine ⟨fl, l2, _, _, rfl, rfl, s58 _ _ e5, upd_same, by show 4 + 2 ≤ sizeLine; decide, fun L nL => ?_⟩
  have s9 := same_lay (o := .lst ([.ref q1, .ref q2, .bl st, .bl st] ++ [lenO o, lenO o])) nL
  have s59 := s58.trans s9
  have a1 := alls_of A1
  have a2 := alls_of A2
  have fit := all_fit (st := st) hz.b1 hz.b0 (by have := hz.p1; omega) hz.p0 a1 a2
  rw [hln] at fit
  refine nil_read ⟨_, _, rfl, fit.tg (by decide) ?_, gd_bigX fit (by decide) (by decide), k _ _ _ (X5.trans (.of s59)) (D5.tb.ext s59) a1 a2⟩
  have B1 := A1.ext (.of s59)
  have B2 := A2.ext (.of s59)
  exact .lst (SqL.of upd_same) (.cons (.tup (SqT.of (s59 _ _ hq1)) (spots_dpX B1.sp)) (.cons (.tup (SqT.of (s59 _ _ hq2)) (spots_dpX B2.sp)) (.cons (.bl _) (.cons (.bl _) (.cons (len_dp o) (.cons (len_dp o) .nil))))))
end
end KX

set_option Elab.async false
set_option linter.all false
set_option maxRecDepth 100000
set_option maxHeartbeats 8000000
/-! _law_right -/
namespace KX
open PySem PySem.Spec PyProof.Rows L2 G1 G2 G3 K2 G5 LamX K3 ClX K6 KZ
open K2.KQ (stkM Rls tak_word)
theorem seq_ifEW {tt : TT} {t u t2 : TS} {D : Ends} {σ : L2.St} {H : Hp} (Bk : L2.St → Hp → Prop) (h1 : ∀ N : L2.St → Hp → Prop, (∀ σ H, Bk σ H → N σ H) → tt σ H fun c H1 => if c = true then t { D with nx := N } σ H1 else u { D with nx := N } σ H1) (h2 : ∀ σ H, Bk σ H → t2 D σ H) : tSeq (tIfS tt t u) t2 D σ H := h1 (t2 D) h2
theorem for_readW {wi : TI} {g : TG} {tb : TS} {D : Ends} {σ : L2.St} {H : Hp} (h : ∀ D' : Ends, D'.nx = D.nx → D'.rt = D.rt → wi σ H fun J H1 => ∃ W : Nat → Nat → L2.St → Hp → Prop, (∃ m, W 0 m σ H1) ∧ ∀ i m σ H, W i m σ H →
      (J.stop i H ∧ D'.nx σ H) ∨ (J.go i H ∧ ∃ N : L2.St → Hp → Prop, (∀ σ' H', N σ' H' → ∃ m', m' < m ∧ W (i + 1) m' σ' H') ∧ ∀ x H', J.yld i H x H' → g x σ H' fun σ2 H2 => tb { D' with nx := N, ct := N, bk := D'.nx } σ2 H2)) : tFor wi g tb D σ H := h D rfl rfl
theorem if_readW {tt : TT} {t e : TS} {D : Ends} {σ : L2.St} {H : Hp} (h : tt σ H fun c H1 => if c = true then t D σ H1 else e D σ H1) : tIfS tt t e D σ H := h
def StpW (pl : Addr) (H H' : Hp) : Prop := PoolAt H' pl ∧ ∀ b o, b ≠ pl → H b = some o → (∀ ps, o ≠ .tbl ps) → H' b = some o
theorem StpW.of {pl : Addr} {H H' : Hp} (s : Stp pl H H') : StpW pl H H' := ⟨s.1, fun b o n e _ => s.2 b o n e⟩
theorem StpW.trans {pl : Addr} {H H1 H2 : Hp} (a : StpW pl H H1) (b : StpW pl H1 H2) : StpW pl H H2 := ⟨b.1, fun c o n e t => b.2 c o n (a.2 c o n e t) t⟩
theorem StpW.ext {pl : Addr} {H H' : Hp} (hp : PoolAt H pl) (e : ExtN H H') : StpW pl H H' := by
  obtain ⟨i, j, n, z, h0, h1⟩ := hp
  exact ⟨⟨i, j, n, e _ _ z (by intro _ q; cases q), h0, h1⟩, fun b o _ q t => e b o q t⟩
theorem tabs_stpW {T : List (Addr × Str)} {pl : Addr} {H H' : Hp} (hp : PoolAt H pl) (s : Stp pl H H') (t : Tabs T H) : Tabs T H' := fun p hpt => by
  obtain ⟨i, j, n, e, _⟩ := hp
  obtain ⟨ps, h1, h2, h3⟩ := t p hpt
  refine ⟨ps, s.2 _ _ (ne_of h1 e (by intro z; cases z)) h1, h2, fun pos cv hc => ?_⟩
  obtain ⟨c, e1, e2⟩ := h3 pos cv hc
  exact ⟨c, e1, s.2 _ _ (ne_of e2 e (by intro z; cases z)) e2⟩
theorem rows_wdW {p : Nat} {ini : List RowD} {y : Str} (h : IniOk p ini) (hy : y ∈ wordsL) : ∀ r ∈ ini ++ [((p : Int), y)], r.2 ∈ wordsL := fun r hr => by
  rcases List.mem_append.mp hr with z | z
  · exact (h.1 r z).2.2
  · rw [List.mem_singleton.mp z]
    exact hy
/-- two drives that pick alike -/
structure Duo (K : PySem.W.Frag) (T : List (Addr × Str)) (CD : Addr) (pl : Addr) (H0 H : Hp) (d1 d2 b p n : Nat) (i1 i2 : List RowD) (y1 y2 : Str) : Prop where
  st : StpW pl H0 H
  tb : Tabs T H
  d1 : DrvAt K CD H d1 b p n i1 y1
  d2 : DrvAt K CD H d2 b p n i2 y2
  sh : Shp b p n
  p1 : DP b p n i1 y1
  p2 : DP b p n i2 y2
  ak : Alk p (i1 ++ [((p : Int), y1)]) (i2 ++ [((p : Int), y2)])
section
variable {K : PySem.W.Frag} {T : List (Addr × Str)} {CD pl : Addr} {H0 H H' : Hp} {d1 d2 b p n : Nat} {i1 i2 : List RowD} {y1 y2 : Str}
theorem Duo.ext (h : Duo K T CD pl H0 H d1 d2 b p n i1 i2 y1 y2) (e : ExtN H H') (t : Tabs T H') : Duo K T CD pl H0 H' d1 d2 b p n i1 i2 y1 y2 := ⟨h.st.trans (.ext h.st.1 e), t, DrvAt.extN h.d1 e, DrvAt.extN h.d2 e, h.sh, h.p1, h.p2, h.ak⟩
theorem Duo.stp (h : Duo K T CD pl H0 H d1 d2 b p n i1 i2 y1 y2) (s : Stp pl H H') : Duo K T CD pl H0 H' d1 d2 b p n i1 i2 y1 y2 := ⟨h.st.trans (.of s), tabs_stpW h.st.1 s h.tb, drv_stp h.st.1 s h.d1, drv_stp h.st.1 s h.d2, h.sh, h.p1, h.p2, h.ak⟩
theorem dp_rls (h : DP b p n i1 y1) : Rls p (i1 ++ [((p : Int), y1)]) := ⟨(rows_ok h.ini h.y).1, ⟨_, List.mem_append_right _ (List.mem_singleton.mpr rfl), rfl⟩, tak_word p y1 h.y i1 0 h.ini.1⟩
theorem dp_ex (h : DP b p n i1 y1) (cs : List Int) (hne : cs ≠ []) (hle : ∀ c ∈ cs, c ≤ (p : Int)) : ∃ k, PickR (i1 ++ [((p : Int), y1)]) cs k := pick_ex h.y hne hle i1 fun r hr => (h.ini.1 r hr).2.2
theorem Duo.al (h : Duo K T CD pl H0 H d1 d2 b p n i1 i2 y1 y2) : Al b p n (i1 ++ [((p : Int), y1)]) (i2 ++ [((p : Int), y2)]) := ⟨h.sh.sz.b0, h.sh.sz.p0, h.sh.sz.n1, dp_rls h.p1, dp_rls h.p2, dp_ex h.p1, dp_ex h.p2, h.ak⟩
theorem Duo.v1 (h : Duo K T CD pl H0 H d1 d2 b p n i1 i2 y1 y2) : Dv K T CD H d1 b p n i1 y1 := ⟨h.d1, h.sh.sz, rows_wdW h.p1.ini h.p1.y, h.tb⟩
theorem Duo.v2 (h : Duo K T CD pl H0 H d1 d2 b p n i1 i2 y1 y2) : Dv K T CD H d2 b p n i2 y2 := ⟨h.d2, h.sh.sz, rows_wdW h.p2.ini h.p2.y, h.tb⟩
end
theorem stk_eqX {b p n : Nat} {rows rows' : List RowD} (h : Al b p n rows rows') : (stkM b p n rows).isSome = (stkM b p n rows').isSome := by
  cases e1 : (stkM b p n rows).isSome with
  | true => exact (stk_alk h e1).symm
  | false =>
    cases e2 : (stkM b p n rows').isSome with
    | false => rfl
    | true => rw [stk_alk h.symm e2] at e1; cases e1
abbrev sRgt : Stmt := topS 100
abbrev NRgt : List Str := ["_law_pool_here", "_law_turn", "_law_shape_here", "_law_way", "_law_pair", "_law_one", "_law_two", "_law_tags_here", "_law_side", "_law_script"]
theorem scRgt : FnScope NRgt ["_law_pool_here"] (defScope sRgt) := ⟨rfl, rfl, rfl, by decide +kernel, rfl, by decide +kernel, by decide +kernel⟩
def spOne (T : List (Addr × Str)) : Sp := fun vs H Q _ => ∃ pl : Addr, vs = [.ref pl] ∧ PoolAt H pl ∧ Tabs T H ∧ ∀ H', PoolAt H' pl → (∀ b o, b ≠ pl → H b = some o → (∀ ps, o ≠ .tbl ps) → H' b = some o) → Tabs T H' → Q (.bl true) H'
section
variable {P : Program} {w : World} {K : PySem.W.Frag} {mg : Str → Option Value} {base : Heap} {CD : Addr}
theorem ok_rgt {f : Addr} {fd : FuncData} {T : List (Addr × Str)} (F : Fun K "_law_right" "_law_right" sRgt f fd) (B : Bl mg)
    (GD : FAt P w K mg base 1 "_law_draw" ["_law_pool_here", "_law_many"] spDraw) (GH : FAt P w K mg base 2 "_law_shape" ["_law_pool_here"] (spShp K))
    (GM : FAt P w K mg base 7 "_law_made" ["_law_shape_here", "_law_table_here"] (spMad K CD)) (GG : FAt P w K mg base 3 "_law_tags" ["_law_pool_here", "_law_many"] spTgs) (GO : FAt P w K mg base 2 "_law_load" ["_law_pool_here", "_law_tags_here", "_law_room", "_law_many"] spLoa)
    (GA : GAt6 P w K mg base 11 "_law_all" ["_law_mine"] (spAll K T CD)) (GE : GAt6 P w K mg base 14 "_law_seen" ["_law_mine", "_law_script"] (spSee K T CD))
    (G1 : FAt P w K mg base 3 "_law_idle" ["_law_pool_here", "_law_size"] (spPair K)) (G2 : FAt P w K mg base 3 "_law_after" ["_law_pool_here", "_law_size"] (spPair K)) (G3 : FAt P w K mg base 3 "_law_zero" ["_law_pool_here", "_law_size"] (spPair K)) (G4 : FAt P w K mg base 3 "_law_least" ["_law_pool_here", "_law_size"] (spPair K)) : FnG P w K mg base 15 f fd ["_law_pool_here"] (spOne T) := by
  refine okG F scRgt (fun vs H Q E h => ?_) (fun cdv A outer s H vs Q E hgu hr h => ?_)
  · obtain ⟨pl, rfl, _⟩ := h
    rfl
  obtain ⟨pl, rfl, hp, hT, k⟩ := h
  have hr1 : Room 1 _ := hr.mono (by decide)
  have hr2 : Room 2 _ := hr.mono (by decide)
  have hr3 : Room 3 _ := hr.mono (by decide)
  have hr7 : Room 7 _ := hr.mono (by decide)
  have hr11 : Room 11 _ := hr.mono (by decide)
  have hr14 : Room 14 _ := hr.mono (by decide)
  obtain ⟨fD, dD, GD, kD, bD, gD⟩ := GD.ex
  obtain ⟨fH, dH, GH, kH, bH, gH⟩ := GH.ex
  obtain ⟨fM, dM, GM, kM, bM, gM⟩ := GM.ex
  obtain ⟨fG, dG, GG, kG, bG, gG⟩ := GG.ex
  obtain ⟨fO, dO, GO, kO, bO, gO⟩ := GO.ex
  obtain ⟨fA, dA, GA, kA, bA, gA⟩ := GA.ex
  obtain ⟨fE, dE, GE, kE, bE, gE⟩ := GE.ex
  obtain ⟨f1, e1, G1, k1, b1, g1⟩ := G1.ex
  obtain ⟨f2, e2, G2, k2, b2, g2⟩ := G2.ex
  obtain ⟨f3, e3, G3, k3, b3, g3⟩ := G3.ex
  obtain ⟨f4, e4, G4, k4, b4, g4⟩ := G4.ex
  refine ⟨_, (pss_cons (ps_for PassesOwn.never rfl (pi_range1 (by rfl) B.range (pa_cons pe_int pa_nil)) (pg_name (i := 1) scRgt.nd rfl (.inl rfl))
      (pss_cons (ps_par (i := 2) (j := 3) (by rfl) scRgt.nd rfl rfl (by decide) rfl rfl (pa_cons (pe_call GH hr2 (by rfl) gH kH bH .nil pass0 (pa_cons (pv 0) pa_nil)) (pa_cons (pe_call GD hr1 (by rfl) gD kD bD .nil pass0 (pa_cons (pv 0) (pa_cons pe_int pa_nil))) pa_nil)) (by rfl))
    (pss_cons (ps_if (pt_cmpR op_lt (pv 3) pe_int (nomark _)) (pss_one (ps_set (i := 4) scRgt.nd rfl (.inl rfl) (pe_call G1 hr3 (by rfl) g1 k1 b1 .nil pass0 (pa_cons (pv 0) (pa_cons (pe_ix ix_tup (pv 2) pe_int (fun _ _ => rfl)) pa_nil))))) (pss_one (ps_if (pt_cmpR op_eq (pv 3) pe_int (nomark _)) (pss_one (ps_set (i := 4) scRgt.nd rfl (.inl rfl) (pe_call G2 hr3 (by rfl) g2 k2 b2 .nil pass0 (pa_cons (pv 0) (pa_cons (pe_ix ix_tup (pv 2) pe_int (fun _ _ => rfl)) pa_nil))))) (pss_one (ps_set (i := 4) scRgt.nd rfl (.inl rfl) (pe_ifExp (pt_cmpR op_eq (pv 3) pe_int (nomark _)) (pe_call G3 hr3 (by rfl) g3 k3 b3 .nil pass0 (pa_cons (pv 0) (pa_cons (pe_ix ix_tup (pv 2) pe_int (fun _ _ => rfl)) pa_nil))) (pe_call G4 hr3 (by rfl) g4 k4 b4 .nil pass0 (pa_cons (pv 0) (pa_cons (pe_ix ix_tup (pv 2) pe_int (fun _ _ => rfl)) pa_nil)))))))))
    (pss_cons (ps_par (i := 5) (j := 6) (by rfl) scRgt.nd rfl rfl (by decide) rfl rfl (pa_cons (pe_call GM hr7 (by rfl) gM kM bM .nil pass0 (pa_cons (pv 2) (pa_cons (pe_ix ix_list (pv 4) pe_int (fun _ _ => rfl)) pa_nil))) (pa_cons (pe_call GM hr7 (by rfl) gM kM bM .nil pass0 (pa_cons (pv 2) (pa_cons (pe_ix ix_list (pv 4) pe_int (fun _ _ => rfl)) pa_nil))) pa_nil)) (by rfl))
    (pss_cons (ps_if (pt_cmpR op_ne (pe_callG GA hgu hr11 (by rfl) gA kA bA (pa_cons (pv 5) pa_nil)) (pe_callG GA hgu hr11 (by rfl) gA kA bA (pa_cons (pv 6) pa_nil)) (nomark _)) (pss_one (ps_ret pe_bl)) pss_nil)
    (pss_cons (ps_set (i := 7) scRgt.nd rfl (.inl rfl) (pe_call GG hr3 (by rfl) gG kG bG .nil pass0 (pa_cons (pv 0) (pa_cons (pe_op op_add (pe_ix ix_tup (pv 2) pe_int (fun _ _ => rfl)) pe_int) pa_nil))))
    (pss_one (ps_for PassesOwn.never rfl (pi_range1 (by rfl) B.range (pa_cons pe_int pa_nil)) (pg_name (i := 8) scRgt.nd rfl (.inl rfl))
      (pss_cons (ps_set (i := 9) scRgt.nd rfl (.inl rfl) (pe_call GO hr2 (by rfl) gO kO bO .nil pass0 (pa_cons (pv 0) (pa_cons (pv 7) (pa_cons (pe_ix ix_tup (pv 2) pe_int (fun _ _ => rfl)) (pa_cons (pe_call GD hr1 (by rfl) gD kD bD .nil pass0 (pa_cons (pv 0) (pa_cons pe_int pa_nil))) pa_nil))))))
    (pss_one (ps_if (pt_cmpR op_ne (pe_callG GE hgu hr14 (by rfl) gE kE bE (pa_cons (pv 5) (pa_cons (pv 9) pa_nil))) (pe_callG GE hgu hr14 (by rfl) gE kE bE (pa_cons (pv 6) (pa_cons (pv 9) pa_nil))) (nomark _)) (pss_one (ps_ret pe_bl)) pss_nil)))))))))))
    (pss_one (ps_ret pe_bl))), ?_⟩
  refine seq_for fun D' hD1 hD2 => ?_
  refine ⟨3, rfl, by decide, by decide, ?_⟩
  refine for_range (lo := 0) (n := 3) (fun i σ H' => ∃ (x1 x2 x3 x4 x5 x6 x7 x8 x9 : Option V), σ = [some (.ref pl), x1, x2, x3, x4, x5, x6, x7, x8, x9] ∧ StpW pl H H' ∧ Tabs T H') ⟨none, none, none, none, none, none, none, none, none, rfl, ⟨hp, fun _ _ _ z _ => z⟩, hT⟩ ?_ ?_
  · rintro i σ H1 hi ⟨x1, x2, x3, x4, x5, x6, x7, x8, x9, rfl, Y1, T1⟩
    refine seq_par6 (cons_read (call_read (cons_read ⟨_, rfl, nil_read ⟨pl, rfl, Y1.1, fun H2 sh b p n S2 hshp hsh => cons_read (draw_c (p := pl) rfl S2.1 (by decide) (by decide) fun H3 wy S3 w0 w1 => nil_read ⟨_, _, rfl, ?_⟩)⟩⟩)))
    have hz := hshp.sz
    have hb1 := hz.b1
    have hb0 := hz.b0
    have hp1 := hz.p1
    have hp0 := hz.p0
    have hn0 := hz.n0
    have hn1 := hz.n1
    have hn10 := shp_few hshp
    have hs3 : SqT K H3 sh [.int (b : Int), .int (p : Int), .int (n : Int)] := S3.tup S2.1 (SqT.of hsh)
    have S13 := S2.trans S3
    have Y3 := Y1.trans (.of S13)
    have T3 := tabs_stpW Y1.1 S13 T1
    clear S2 S3 S13 hsh Y1 T1
    generalize hxi : some (V.int (0 + (i : Int))) = xi
    show tSeq (tIfS _ _ _) _ _ [some (.ref pl), xi, some (.ref sh), some (.int wy), x4, x5, x6, x7, x8, x9] H3
    -- two rules
    refine seq_ifEW (fun σ H' => ∃ (q t1 t2 : Addr) (i1 i2 : List RowD) (y1 y2 : Str), σ = [some (.ref pl), xi, some (.ref sh), some (.int wy), some (.ref q), x5, x6, x7, x8, x9] ∧ StpW pl H H' ∧ Tabs T H' ∧ SqT K H' sh [.int (b : Int), .int (p : Int), .int (n : Int)] ∧ H' q = some (.lst [.ref t1, .ref t2]) ∧ RowsAt K H' t1 (i1 ++ [((p : Int), y1)]) ∧ RowsAt K H' t2 (i2 ++ [((p : Int), y2)]) ∧ IniOk p i1 ∧ IniOk p i2 ∧ y1 ∈ wordsL ∧ y2 ∈ wordsL ∧ Alk p (i1 ++ [((p : Int), y1)]) (i2 ++ [((p : Int), y2)])) (fun N hN => ?_) ?_
    · have pr : ∀ E', spPair K [.ref pl, .int (p : Int)] H3 (fun v H' => N [some (.ref pl), xi, some (.ref sh), some (.int wy), some v, x5, x6, x7, x8, x9] H') E' := fun E' => ⟨pl, p, rfl, Y3.1, hp0, hp1, fun H4 q t1 t2 i1 i2 y1 y2 S4 hq r1 r2 o1 o2 w1 w2 ak => hN _ _ ⟨q, t1, t2, i1, i2, y1, y2, rfl, Y3.trans (.of S4), tabs_stpW Y3.1 S4 T3, S4.tup Y3.1 hs3, hq, r1, r2, o1, o2, w1, w2, ak⟩⟩
      refine test_read6 (op_read ⟨_, rfl, c_read ⟨_, _, rfl, rfl, _, rfl, ?_⟩⟩)
      by_cases c : wy < 2
      · rw [decide_eq_true c]
        exact iteT (asg_read (call_read (cons_read ⟨_, rfl, cons_read (op_read ⟨_, rfl, c_read ⟨sh, _, _, .int (p : Int), rfl, rfl, hs3, rfl, nil_read (pr _)⟩⟩)⟩)))
      · rw [decide_eq_false c]
        refine iteF (if_readW (test_read6 (op_read ⟨_, rfl, c_read ⟨rfl, _, rfl, ?_⟩⟩)))
        by_cases c2 : wy = 2
        · rw [decide_eq_true (by rw [c2])]
          exact iteT (asg_read (call_read (cons_read ⟨_, rfl, cons_read (op_read ⟨_, rfl, c_read ⟨sh, _, _, .int (p : Int), rfl, rfl, hs3, rfl, nil_read (pr _)⟩⟩)⟩)))
        · rw [decide_eq_false (fun z => c2 (by injection z))]
          refine iteF (asg_read (test_read6 (op_read ⟨_, rfl, c_read ⟨rfl, _, rfl, ?_⟩⟩)))
          by_cases c3 : wy = 3
          · rw [decide_eq_true (by rw [c3])]
            exact iteT (call_read (cons_read ⟨_, rfl, cons_read (op_read ⟨_, rfl, c_read ⟨sh, _, _, .int (p : Int), rfl, rfl, hs3, rfl, nil_read (pr _)⟩⟩)⟩))
          · rw [decide_eq_false (fun z => c3 (by injection z))]
            exact iteF (call_read (cons_read ⟨_, rfl, cons_read (op_read ⟨_, rfl, c_read ⟨sh, _, _, .int (p : Int), rfl, rfl, hs3, rfl, nil_read (pr _)⟩⟩)⟩))
    rintro σ H4 ⟨q, t1, t2, i1, i2, y1, y2, rfl, Y4, T4, hs4, hq4, hR1, hR2, o1, o2, w1', w2', ak⟩
    clear Y3 T3 hs3
    have dp1 : DP b p n i1 y1 := ⟨hz, hshp.few, o1, w1'⟩
    have dp2 : DP b p n i2 y2 := ⟨hz, hshp.few, o2, w2'⟩
    show tSeq (tPar _ _ _) _ _ [some (.ref pl), xi, some (.ref sh), some (.int wy), some (.ref q), x5, x6, x7, x8, x9] H4
    -- two drives
    refine seq_par6 (cons_read (call_read (cons_read ⟨_, rfl, cons_read (op_read ⟨_, rfl, c_read ⟨q, _, _, .ref t1, rfl, rfl, SqL.of hq4, rfl, nil_read ⟨sh, t1, b, p, n, i1, y1, rfl, hs4, dp1, hR1, fun H5 d1 s5 nd1 hd1 => ?_⟩⟩⟩)⟩)))
    refine cons_read (call_read (cons_read ⟨_, rfl, cons_read (op_read ⟨_, rfl, c_read ⟨q, _, _, .ref t2, rfl, rfl, SqL.of (s5 _ _ hq4), rfl, nil_read ⟨sh, t2, b, p, n, i2, y2, rfl, K2.Same.tup s5 hs4, dp2, hR2.same s5, fun H6 d2 s6 nd2 hd2 => nil_read ⟨_, _, rfl, ?_⟩⟩⟩⟩)⟩))
    have s46 := s5.trans s6
    have D6 : Duo K T CD pl H H6 d1 d2 b p n i1 i2 y1 y2 := ⟨Y4.trans (.ext Y4.1 (.of s46)), T4.ext s46, hd1.same s6, hd2, hshp, dp1, dp2, ak⟩
    have hs6 := K2.Same.tup s46 hs4
    have al := D6.al
    clear Y4 T4 hs4 hq4 hR1 hR2 s5 s6 hd1 hd2 nd1 nd2 s46
    show tSeq (tIfS _ _ _) _ _ [some (.ref pl), xi, some (.ref sh), some (.int wy), some (.ref q), some (.ref d1), some (.ref d2), x7, x8, x9] H6
    -- all that is asked of the drives
    refine seq_if6 (test_read6 (op_read (call_read (cons_read ⟨_, rfl, nil_read ⟨d1, b, p, n, i1, y1, rfl, D6.v1, dp1, hshp, fun H7 L1 L0 x7' t7 A1 A0 => ?_⟩⟩))))
    have D7 := D6.ext x7' t7
    refine call_read (cons_read ⟨_, rfl, nil_read ⟨d2, b, p, n, i2, y2, rfl, D7.v2, dp2, hshp, fun H8 M1 M0 x8' t8 B1 B0 => ⟨rfl, _, rfl, ?_⟩⟩⟩)
    have D8 := D7.ext x8' t8
    have ea : L1 = M1 := alls_uniq al A1 B1
    have eb : L0 = M0 := alls_uniq al A0 B0
    have es : (stkM b p n (i1 ++ [((p : Int), y1)])).isSome = (stkM b p n (i2 ++ [((p : Int), y2)])).isSome := stk_eqX al
    have el : lnO b p n (i1 ++ [((p : Int), y1)]) = lnO b p n (i2 ++ [((p : Int), y2)]) := by
      unfold lnO
      rw [es]
    rw [neV_str, decide_eq_false (fun z => z (by rw [ea, eb, es, el]))]
    refine iteF ?_
    have x68 := x7'.trans x8'
    have hs8 := ext_tup x68 hs6
    clear D6 D7 x7' x8' t7 t8 hs6 x68 A1 A0 B1 B0 ea eb
    -- names
    refine seq_asg (call_read (cons_read ⟨_, rfl, cons_read (op_read (op_read ⟨_, rfl, c_read ⟨sh, _, _, .int (n : Int), rfl, rfl, hs8, rfl, c_read ⟨_, _, rfl, rfl, nil_read ⟨pl, n + 1, (by rw [Int.natCast_add]; rfl), D8.st.1, by omega, fun H9 tl tags S9 ntl htl hlt hnd hnm => ?_⟩⟩⟩⟩))⟩))
    have ntp : tl ≠ pl := fun z => by
      obtain ⟨i0, j0, m0, e0, _⟩ := D8.st.1
      rw [z, e0] at ntl
      cases ntl
    have D9 := D8.stp S9
    have hs9 := S9.tup D8.st.1 hs8
    clear D8 hs8 S9 ntl
    show tFor _ _ _ _ [some (.ref pl), xi, some (.ref sh), some (.int wy), some (.ref q), some (.ref d1), some (.ref d2), some (.ref tl), x8, x9] H9
    refine for_readW fun D2 hE1 hE2 => ?_
    refine ⟨3, rfl, by decide, by decide, ?_⟩
    refine for_range (lo := 0) (n := 3) (fun j σ H' => ∃ (z8 z9 : Option V), σ = [some (.ref pl), xi, some (.ref sh), some (.int wy), some (.ref q), some (.ref d1), some (.ref d2), some (.ref tl), z8, z9] ∧ Duo K T CD pl H H' d1 d2 b p n i1 i2 y1 y2 ∧ SqT K H' sh [.int (b : Int), .int (p : Int), .int (n : Int)] ∧ H' tl = some (.lst (tags.map V.str))) ⟨x8, x9, rfl, D9, hs9, htl⟩ ?_ ?_
    · rintro j σ H10 hj ⟨z8, z9, rfl, D10, hs10, htl10⟩
      refine seq_asg (call_read (cons_read ⟨_, rfl, cons_read ⟨_, rfl, cons_read (op_read ⟨_, rfl, c_read ⟨sh, _, _, .int (n : Int), rfl, rfl, hs10, rfl, ?_⟩⟩)⟩⟩))
      refine cons_read (draw_c (p := pl) rfl D10.st.1 (by decide) (by decide) fun H11 m S11 m0 m1 => ?_)
      obtain ⟨m, rfl⟩ : ∃ m' : Nat, m = (m' : Int) := ⟨m.toNat, by omega⟩
      refine nil_read ⟨pl, tl, n, m, tags, rfl, S11.1, ntp, S11.2 _ _ ntp htl10, (fun z => by rw [z] at hlt; cases hlt), by omega, hnm, hn0, by omega, by omega, fun H12 sc eas es2 S12 hsc hev hl hel hin => ?_⟩
      have S1012 := S11.trans S12
      have D12 := D10.stp S1012
      have hs12 := S1012.tup D10.st.1 hs10
      have htl12 := S1012.2 _ _ ntp htl10
      have PU1 : PureS b p n (i1 ++ [((p : Int), y1)]) es2 := ⟨shp_dims hshp, hb1, rows_wdW o1 w1', hn1, hl, by omega⟩
      have PU2 : PureS b p n (i2 ++ [((p : Int), y2)]) es2 := ⟨shp_dims hshp, hb1, rows_wdW o2 w2', hn1, hl, by omega⟩
      clear S11 S12 S1012 D10 hs10 htl10
      show tIfS _ _ _ _ [some (.ref pl), xi, some (.ref sh), some (.int wy), some (.ref q), some (.ref d1), some (.ref d2), some (.ref tl), _, some (.ref sc)] H12
      refine if_readW (test_read6 (op_read (call_read (cons_read ⟨_, rfl, cons_read ⟨_, rfl, nil_read ⟨d1, sc, b, p, n, i1, y1, es2, rfl, ⟨D12.d1, eas, SqT.of hsc, hev⟩, PU1, D12.tb, fun H13 m1 s1 far1 x13 t13 => ?_⟩⟩⟩))))
      have D13 := D12.ext x13 t13
      refine call_read (cons_read ⟨_, rfl, cons_read ⟨_, rfl, nil_read ⟨d2, sc, b, p, n, i2, y2, es2, rfl, ⟨D13.d2, eas, SqT.of (x13 _ _ hsc (by intro _ z; cases z)), Paired.mapP hev fun _ _ z => x13 _ _ z (by intro _ q; cases q)⟩, PU2, t13, fun H14 m2 s2 far2 x14 t14 => ⟨rfl, _, rfl, ?_⟩⟩⟩⟩)
      obtain ⟨em, es'⟩ := far_eq PU2 (far_alk al PU1 far1) far2
      rw [neV_str, decide_eq_false (fun z => z (by rw [em, es']))]
      refine iteF ⟨_, _, rfl, D13.ext x14 t14, ext_tup (x13.trans x14) hs12, (x13.trans x14) _ _ htl12 (by intro _ z; cases z)⟩
    · rintro σ H10 ⟨z8, z9, rfl, D10, _, _⟩
      rw [hE1]
      exact ⟨_, _, _, _, _, _, _, _, _, rfl, D10.st, D10.tb⟩
  · rintro σ H2 ⟨x1, x2, x3, x4, x5, x6, x7, x8, x9, rfl, Y2, T2⟩
    rw [hD1]
    exact ret_read (c_read (k _ Y2.1 Y2.2 T2))
end
end KX

set_option Elab.async false
set_option linter.all false
set_option maxRecDepth 100000
set_option maxHeartbeats 4000000
namespace KX
open PySem PySem.Spec PyProof.Rows L2 G1 G2 G3 K2 G5 LamX K3 ClX K6 KZ
abbrev sLaw : Stmt := topS 101
theorem scLaw : FnScope ["_law_cells", "_law_k"] ["_law_cells"] (defScope sLaw) := ⟨rfl, rfl, rfl, by decide +kernel, rfl, by decide +kernel, by decide +kernel⟩
theorem ExtN.lst6 {K : PySem.W.Frag} {H H' : Hp} {a : Addr} {xs : List V} (s : ExtN H H') (h : SqL K H a xs) : SqL K H' a xs := by
  rcases h with (h | ⟨o, h⟩) | h
  · exact .inl (.inl (s _ _ h (fun ps z => by cases z)))
  · exact .inl (.inr ⟨o, s _ _ h (fun ps z => by cases z)⟩)
  · exact .inr h
def spLaw (K : PySem.W.Frag) (T : List (Addr × Str)) : Sp := fun vs H Q _ => ∃ (l : Addr) (ns : List Int), vs = [.ref l] ∧ SqL K H l (ns.map V.int) ∧ ns.length ≤ 63 ∧ Tabs T H ∧ ∀ H' : Hp, Q (.bl true) H'
section
variable {P : Program} {w : World} {K : PySem.W.Frag} {mg : Str → Option Value} {base : Heap} {C CP : Addr}
theorem ok_law {f : Addr} {fd : FuncData} {T : List (Addr × Str)} (F : Fun K "law" "law" sLaw f fd) (B : Bl mg) (GC : FAt P w K mg base 1 "_law_cell" ["_law_cells", "_law_k"] (K2.spCell K)) (GP : FAt P w K mg base 1 "_law_pool" ["_law_cell_here"] spPool)
    (GR : GAt6 P w K mg base 15 "_law_right" ["_law_pool_here"] (spOne T)) : FnG P w K mg base 16 f fd ["_law_cells"] (spLaw K T) := by
  refine okG F scLaw (fun vs H Q E h => ?_) (fun cdv A outer s H vs Q E hgu hr h => ?_)
  · obtain ⟨l, ns, rfl, _⟩ := h
    rfl
  obtain ⟨l, ns, rfl, hS, hlen, hTb, k⟩ := h
  have hr1 : Room 1 _ := hr.mono (by decide)
  obtain ⟨fC, dC, GC, kC, bC, gC⟩ := GC.ex
  obtain ⟨fP, dP, GP, kP, bP, gP⟩ := GP.ex
  obtain ⟨fR, dR, GR, kR, bR, gR⟩ := GR.ex
  refine ⟨_, pss_one (ps_ret (pe_callB (cr_all rfl) (by rfl) B.all bAll6 (pa_cons (pe_lc (own := [("_law_k", 1)]) (g := gName 1) (tt := tYes)
      (te := tCall (spOne T) [] E0 (tCons (tCall spPool [] E0 (tCons (tCall (K2.spCell K) [] E0 (tCons (tVar 0) (tCons (tVar 1) tNil))) tNil)) tNil)) rfl scLaw.nd
      (pi_range1 (by rfl) B.range (pa_cons (pe_callB (call_max2 rfl) (by rfl) B.max bMax (pa_cons pe_int (pa_cons (pe_callB (call_min2 rfl) (by rfl) B.min bMin (pa_cons (pe_callB call_len_seq (by rfl) B.len PySem.boot_len (pa_cons (pv 0) pa_nil)) (pa_cons pe_int pa_nil))) pa_nil))) pa_nil))
      (blkOk_by (own := [("_law_k", 1)]) (N := ["_law_cells", "_law_k"]) (sc := defScope sLaw) (by decide +kernel))
      (fun _ _ _ _ _ => pg_name (i := 1) scLaw.nd rfl (Or.inl rfl)) (fun _ _ _ _ _ => pts_nil)
      (fun _ _ _ _ _ => pe_callG GR hgu hr (by rfl) gR kR bR (pa_cons (pe_call GP hr1 (by rfl) gP kP bP .nil pass0 (pa_cons (pe_call GC hr1 (by rfl) gC kC bC .nil pass0 (pa_cons (pv 0) (pa_cons (pv 1) pa_nil))) pa_nil)) pa_nil))) pa_nil))), ?_⟩
  refine ret_read (cb_read (cons_read ?_))
  refine ⟨_, rfl, l, _, rfl, .inl hS, _, _, rfl, _, _, rfl, _, rfl, ?_, ?_, fun D hD => ?_⟩
  · rw [List.length_map]
    split <;> (try split) <;> omega
  · rw [List.length_map]
    split <;> (try split) <;> omega
  generalize hm : (if (if (4 : Int) < ((ns.map V.int).length : Int) then 4 else ((ns.map V.int).length : Int)) > 2 then (if (4 : Int) < ((ns.map V.int).length : Int) then 4 else ((ns.map V.int).length : Int)) else 2) = m
  have m3 : m ≤ 4 := by
    rw [← hm]
    split <;> (try split) <;> omega
  refine lc_range (lo := 0) (n := m.toNat) (fun i H' => ExtN H H' ∧ Tabs T H' ∧ H' D = some (.lst (List.replicate i (V.bl true)))) ⟨.of (same_lay hD), hTb.ext (same_lay hD), upd_same⟩ ?_ ?_
  · rintro i H' hi ⟨s1, t1, hy⟩
    refine ⟨rfl, ?_⟩
    unfold tYes
    dsimp only
    rw [if_pos rfl]
    refine ⟨_, rfl, _, rfl, l, ns, i, by show [V.ref l, V.int (0 + (i : Int))] = _; rw [Int.zero_add], ExtN.lst6 s1 hS, hlen, by omega, fun H5 z s5 => ⟨z, rfl, fun p a b c np a0 a1 => ⟨p, rfl, ⟨a, b, c, upd_same, a0, a1⟩, (t1.ext s5).ext (same_lay np), fun H6 hp6 k6 t6 => ?_⟩⟩⟩
    have s6 : ExtN H5 H6 := fun x o e nt => by
      have ne : x ≠ p := ne_of_none e np
      exact k6 x o ne (by rw [upd_ne ne]; exact e) nt
    have hy6 := s6 _ _ (s5 _ _ hy) (by intro _ z; cases z)
    refine ⟨_, hy6, ?_, fun x o z nt => ?_, tabs_upd hy6 t6, ?_⟩
    · rw [List.length_replicate, sizeLine_eq]
      omega
    · rw [upd_ne (ne_of_none z hD)]
      exact s6 _ _ (s5 _ _ (s1 _ _ z nt)) nt
    · rw [upd_same, List.replicate_succ']
  · rintro H' ⟨s1, t1, hy⟩
    refine nil_read ⟨D, List.replicate m.toNat true, rfl, SqL.of (by rw [hy, List.map_replicate]), ?_⟩
    rw [all_true]
    exact k H'
end
end KX

set_option Elab.async false
set_option linter.all false
set_option maxRecDepth 100000
set_option maxHeartbeats 4000000
/-! the tuples of the top -/
namespace KZ
open PySem PySem.Spec PyProof.Rows L2 G1 G2 K2
structure TpF (K : PySem.W.Frag) (S a1 a2 N : Addr) : Prop where
  s : ∃ (od : Option Addr) (n : Nat) (sl : Array (Option Value)), K.lookup S = some ⟨.type "tuple", od, .seq #[.ref a1, .ref a2] n, sl⟩
  x : ∃ (od : Option Addr) (n : Nat) (sl : Array (Option Value)), K.lookup a1 = some ⟨.type "tuple", od, .seq #[] n, sl⟩
  y : ∃ (od : Option Addr) (n : Nat) (sl : Array (Option Value)), K.lookup a2 = some ⟨.type "tuple", od, .seq #[] n, sl⟩
  n : ∃ (od : Option Addr) (n : Nat) (t1 t2 : Tok) (sl : Array (Option Value)), K.lookup N = some ⟨.type "tuple", od, .seq #[.int 0 t1, .int 0 t2] n, sl⟩
theorem tpf_mk {K : PySem.W.Frag} {S a1 a2 N : Addr} {o1 o2 o3 o4 : Option Addr} {n1 n2 n3 n4 : Nat} {s1 s2 s3 s4 : Array (Option Value)} {t1 t2 : Tok}
    (l1 : K.lookup S = some ⟨.type "tuple", o1, .seq #[.ref a1, .ref a2] n1, s1⟩) (l2 : K.lookup a1 = some ⟨.type "tuple", o2, .seq #[] n2, s2⟩) (l3 : K.lookup a2 = some ⟨.type "tuple", o3, .seq #[] n3, s3⟩)
    (l4 : K.lookup N = some ⟨.type "tuple", o4, .seq #[.int 0 t1, .int 0 t2] n4, s4⟩) : TpF K S a1 a2 N := ⟨⟨o1, n1, s1, l1⟩, ⟨o2, n2, s2, l2⟩, ⟨o3, n3, s3, l3⟩, ⟨o4, n4, t1, t2, s4, l4⟩⟩
theorem TpF.tops {K : PySem.W.Frag} {S a1 a2 N : Addr} {mg : Str → Option Value} (h : TpF K S a1 a2 N) (g1 : mg "START" = some (.ref S)) (g2 : mg "NOTHING_WRITTEN" = some (.ref N)) : Tops K mg := by
  obtain ⟨⟨o1, n1, s1, l1⟩, ⟨o2, n2, s2, l2⟩, ⟨o3, n3, s3, l3⟩, ⟨o4, n4, t1, t2, s4, l4⟩⟩ := h
  refine ⟨⟨S, a1, a2, g1, fun H => .inr ⟨_, _, n1, l1, rfl, rfl, by show 2 ≤ sizeLine; decide, .cons rfl (.cons rfl .nil)⟩, fun H => .inr ⟨_, _, n2, l2, rfl, rfl, by decide, .nil⟩, fun H => .inr ⟨_, _, n3, l3, rfl, rfl, by decide, .nil⟩⟩, ⟨N, g2, fun H => .inr ⟨_, _, n4, l4, rfl, rfl, by show 2 ≤ sizeLine; decide, .cons ⟨t1, rfl⟩ (.cons ⟨t2, rfl⟩ .nil)⟩⟩⟩
end KZ

set_option Elab.async false
set_option linter.all false
set_option maxRecDepth 100000
set_option maxHeartbeats 8000000
namespace K2
open PySem PySem.Spec PyProof.Rows L2 G1 G2 ClX
abbrev sGb : Stmt := inClass sDrv 3
abbrev sGp : Stmt := inClass sDrv 4
abbrev sGn : Stmt := inClass sDrv 5
abbrev sGr : Stmt := inClass sDrv 6
theorem scGb : FnScope ["self"] ["self"] (defScope sGb) := ⟨rfl, rfl, rfl, by decide +kernel, rfl, by decide +kernel, by decide +kernel⟩
theorem scGp : FnScope ["self"] ["self"] (defScope sGp) := ⟨rfl, rfl, rfl, by decide +kernel, rfl, by decide +kernel, by decide +kernel⟩
theorem scGn : FnScope ["self"] ["self"] (defScope sGn) := ⟨rfl, rfl, rfl, by decide +kernel, rfl, by decide +kernel, by decide +kernel⟩
theorem scGr : FnScope ["self"] ["self"] (defScope sGr) := ⟨rfl, rfl, rfl, by decide +kernel, rfl, by decide +kernel, by decide +kernel⟩
section
variable {P : Program} {w : World} {K : PySem.W.Frag} {mg : Str → Option Value} {base : Heap} {C : Addr}
theorem ok_gb {f : Addr} {fd : FuncData} (F : Fun K "blocks" "Drive.blocks" sGb f fd) (T : DCls K C) : FnOk P w K mg base CX0 1 f fd ["self"] (getSp C "kept_blocks") := by
  refine F.ok scGb (fun vs H Q E h => ?_) (fun cdv A outer s H vs Q E hr h => ?_)
  · obtain ⟨a, dx, fs, v, rfl, _⟩ := h
    rfl
  obtain ⟨a, dx, fs, v, rfl, ha, h1, k⟩ := h
  exact ⟨_, pss_one (ps_ret (pe_fld (pv 0) rfl)), _, rfl, a, C, dx, fs, _, rfl, ha, T.cl, T.nb, h1, k⟩
theorem ok_gp {f : Addr} {fd : FuncData} (F : Fun K "pages" "Drive.pages" sGp f fd) (T : DCls K C) : FnOk P w K mg base CX0 1 f fd ["self"] (getSp C "kept_pages") := by
  refine F.ok scGp (fun vs H Q E h => ?_) (fun cdv A outer s H vs Q E hr h => ?_)
  · obtain ⟨a, dx, fs, v, rfl, _⟩ := h
    rfl
  obtain ⟨a, dx, fs, v, rfl, ha, h1, k⟩ := h
  exact ⟨_, pss_one (ps_ret (pe_fld (pv 0) rfl)), _, rfl, a, C, dx, fs, _, rfl, ha, T.cl, T.np, h1, k⟩
theorem ok_gn {f : Addr} {fd : FuncData} (F : Fun K "names" "Drive.names" sGn f fd) (T : DCls K C) : FnOk P w K mg base CX0 1 f fd ["self"] (getSp C "kept_names") := by
  refine F.ok scGn (fun vs H Q E h => ?_) (fun cdv A outer s H vs Q E hr h => ?_)
  · obtain ⟨a, dx, fs, v, rfl, _⟩ := h
    rfl
  obtain ⟨a, dx, fs, v, rfl, ha, h1, k⟩ := h
  exact ⟨_, pss_one (ps_ret (pe_fld (pv 0) rfl)), _, rfl, a, C, dx, fs, _, rfl, ha, T.cl, T.nn, h1, k⟩
theorem ok_gr {f : Addr} {fd : FuncData} (F : Fun K "rows" "Drive.rows" sGr f fd) (T : DCls K C) : FnOk P w K mg base CX0 1 f fd ["self"] (getSp C "kept_rows") := by
  refine F.ok scGr (fun vs H Q E h => ?_) (fun cdv A outer s H vs Q E hr h => ?_)
  · obtain ⟨a, dx, fs, v, rfl, _⟩ := h
    rfl
  obtain ⟨a, dx, fs, v, rfl, ha, h1, k⟩ := h
  exact ⟨_, pss_one (ps_ret (pe_fld (pv 0) rfl)), _, rfl, a, C, dx, fs, _, rfl, ha, T.cl, T.nr, h1, k⟩
/-- what the top has written of a def -/
structure DF (K : PySem.W.Frag) (x : Str) (st : Stmt) (f : Addr) : Prop where
  ns : PySem.W.nsIn K mainGlobals x = some (some (.ref f))
  lk : ∃ (oc : Value) (od : Option Addr) (kV dc pm : Value) (an : Option Addr) (cd ct : Value) (sl : Array (Option Value)),
    K.lookup f = some ⟨oc, od, .func (PySem.W.fnOf x x (defArgs st) (defBody st) (defScope st) .none kV dc pm an cd ct), sl⟩ ∧ PySem.W.codeIn K cd x = true
  kp : PySem.W.keepIn K (.ref f) = true
/-- .. of a def in the class -/
structure MF (K : PySem.W.Frag) (x q : Str) (st : Stmt) (f : Addr) : Prop where
  lk : ∃ (oc : Value) (od : Option Addr) (kV dc pm : Value) (an : Option Addr) (cd ct : Value) (sl : Array (Option Value)),
    K.lookup f = some ⟨oc, od, .func (PySem.W.fnOf x q (defArgs st) (defBody st) (defScope st) .none kV dc pm an cd ct), sl⟩ ∧ PySem.W.codeIn K cd q = true
  kp : PySem.W.keepIn K (.ref f) = true
theorem DF.fn {x : Str} {st : Stmt} {f : Addr} (D : DF K x st f) : ∃ fd, Fun K x x st f fd ∧ ∃ (kV dc pm : Value) (an : Option Addr) (cd ct : Value), fd = PySem.W.fnOf x x (defArgs st) (defBody st) (defScope st) .none kV dc pm an cd ct := by
  obtain ⟨oc, od, kV, dc, pm, an, cd, ct, sl, l, h⟩ := D.lk
  exact ⟨_, fun_mk l h D.kp, kV, dc, pm, an, cd, ct, rfl⟩
theorem MF.fn {x q : Str} {st : Stmt} {f : Addr} (D : MF K x q st f) : ∃ fd, Fun K x q st f fd := by
  obtain ⟨oc, od, kV, dc, pm, an, cd, ct, sl, l, h⟩ := D.lk
  exact ⟨_, fun_mk l h D.kp⟩
/-- .. of the words -/
structure WF (K : PySem.W.Frag) (a : Addr) : Prop where
  ex : ∃ (od : Option Addr) (n : Nat) (t1 t2 t3 t4 : Tok) (sl : Array (Option Value)),
    K.lookup a = some ⟨.type "tuple", od, .seq #[Value.str (Str.ofString "oldest") t1, Value.str (Str.ofString "youngest") t2, Value.str (Str.ofString "least") t3, Value.str (Str.ofString "most") t4] n, sl⟩
theorem WF.at_ {a : Addr} (W : WF K a) : WordsAt K a := by
  obtain ⟨od, n, t1, t2, t3, t4, sl, l⟩ := W.ex
  exact fun H => .inr ⟨_, _, n, l, rfl, rfl, by show 4 ≤ sizeLine; decide, .cons ⟨_, rfl⟩ (.cons ⟨_, rfl⟩ (.cons ⟨_, rfl⟩ (.cons ⟨_, rfl⟩ .nil)))⟩
end
end K2
namespace K6
open PySem PySem.Spec PyProof.Rows L2 G1 G2 G3 K2 G5 LamX ClX
open K2.KQ (kwT)
/-- a def with the word trims, by name alone -/
structure KF (K : PySem.W.Frag) (x : Str) (st : Stmt) (f : Addr) : Prop where
  ns : PySem.W.nsIn K mainGlobals x = some (some (.ref f))
  ex : ∃ (oc : Value) (od : Option Addr) (T : Addr) (dc pm : Value) (an : Option Addr) (cd ct : Value) (sl : Array (Option Value)),
    K.lookup f = some ⟨oc, od, .func (PySem.W.fnOf x x (defArgs st) (defBody st) (defScope st) .none (.ref T) dc pm an cd ct), sl⟩ ∧ PySem.W.codeIn K cd x = true ∧ PySem.W.nsIn K T "trims" = some (some (.bool true))
  kp : PySem.W.keepIn K (.ref f) = true
theorem KF.fn {K : PySem.W.Frag} {x : Str} {st : Stmt} {f : Addr} (D : KF K x st f) : ∃ fd, FunD K x x (defArgs st) (defBody st) (defScope st) [] kwT f fd := by
  obtain ⟨oc, od, T, dc, pm, an, cd, ct, sl, l, h, hT⟩ := D.ex
  exact ⟨_, ⟨oc, od, _, _, dc, pm, an, cd, ct, sl, rfl, l, h, .inl ⟨rfl, rfl⟩, .inr ⟨T, rfl, fun q hq => by rw [List.mem_singleton.mp hq]; exact ⟨_, hT, rfl⟩⟩⟩, D.kp⟩
end K6
namespace K6
open PySem PySem.Spec PyProof.Rows L2 G1 G2 G3 K2 G5 LamX ClX K3 KZ KX
/-- a def that makes lambdas -/
structure DC (K : PySem.W.Frag) (x : Str) (st : Stmt) (f c : Addr) : Prop where
  ns : PySem.W.nsIn K mainGlobals x = some (some (.ref f))
  lk : ∃ (oc : Value) (od : Option Addr) (kV dc pm : Value) (an : Option Addr) (ct : Value) (sl : Array (Option Value)),
    K.lookup f = some ⟨oc, od, .func (PySem.W.fnOf x x (defArgs st) (defBody st) (defScope st) .none kV dc pm an (.ref c) ct), sl⟩ ∧ PySem.W.codeIn K (.ref c) x = true
  kp : PySem.W.keepIn K (.ref f) = true
theorem DC.fn {K : PySem.W.Frag} {x : Str} {st : Stmt} {f c : Addr} (D : DC K x st f c) : ∃ fd, FunC K x x st f c fd ∧ ∃ (kV dc pm : Value) (an : Option Addr) (ct : Value), fd = PySem.W.fnOf x x (defArgs st) (defBody st) (defScope st) .none kV dc pm an (.ref c) ct := by
  obtain ⟨oc, od, kV, dc, pm, an, ct, sl, l, h⟩ := D.lk
  exact ⟨_, ⟨⟨oc, od, kV, dc, pm, an, ct, sl, rfl, l, h⟩, D.kp⟩, kV, dc, pm, an, ct, rfl⟩
theorem fun_of_c {K : PySem.W.Frag} {x q : Str} {st : Stmt} {f c : Addr} {fd : FuncData} (F : FunC K x q st f c fd) : Fun K x q st f fd := by
  obtain ⟨oc, od, kV, doc, pm, an, ct, osl, e, l, h⟩ := F.ex
  exact ⟨⟨oc, od, kV, doc, pm, an, .ref c, ct, osl, e, l, h⟩, F.kp⟩
/-- all that the top has written -/
structure All (K : PySem.W.Frag) (C aW I0 CP IP p0 p1 p2 p3 g0 g1 g2 g3 m0 m1 c0 c1 s0 s1 s2 x0 y0 tS tA tB tN P0 P1 : Addr) (dA : Nat → Addr) : Prop where
  nC : PySem.W.nsIn K mainGlobals "Drive" = some (some (.ref C))
  nW : PySem.W.nsIn K mainGlobals "WORDS" = some (some (.ref aW))
  W : WF K aW
  T : DCls K C
  D : DKit K C
  mk_ : Mk K C I0
  ini : MF K "__init__" "Drive.__init__" sIni I0
  nP : PySem.W.nsIn K mainGlobals "Play" = some (some (.ref CP))
  PC : PCls K CP
  mkp : Mk K CP IP
  inp : MF K "__init__" "Play.__init__" sPin IP
  x0_n : PySem.W.nsIn K mainGlobals "InvalidLoad" = some (some (.ref x0))
  x0_T : OexC K x0
  x0_f : XfC K x0
  x0_no : PySem.W.findIn K (.ref x0) "index" = some none
  x0_i : PySem.W.findIn K (.ref x0) "__init__" = some (some (.ref y0))
  x0_t : PySem.W.typeIn K (.ref y0) = some (.type "function")
  x0_m : MF K "__init__" "InvalidLoad.__init__" K3.sILd y0
  ex : Ex1 K x0
  ns0 : PySem.W.subIn K (.ref x0) (.type "StopIteration") = some false
  q0 : PropOf K C "blocks" p0 g0
  q0_m : MF K "blocks" "Drive.blocks" sGb g0
  q1 : PropOf K C "pages" p1 g1
  q1_m : MF K "pages" "Drive.pages" sGp g1
  q2 : PropOf K C "names" p2 g2
  q2_m : MF K "names" "Drive.names" sGn g2
  q3 : PropOf K C "rows" p3 g3
  q3_m : MF K "rows" "Drive.rows" sGr g3
  mk0 : DC K "choose" K6.sCho m0 c0
  hd0 : PySem.W.codeHdIn K c0 P0 = true
  nP0 : K.lookup P0 = none
  mk1 : DC K "_law_seen" KX.sSee m1 c1
  hd1 : PySem.W.codeHdIn K c1 P1 = true
  nP1 : K.lookup P1 = none
  s0_ : KF K "stands" KZ.sStd2 s0
  s1_ : KF K "sticks" K2.KQ.sSti s1
  s2_ : KF K "stick_load" K2.KQ.sStl s2
  n_tS : PySem.W.nsIn K mainGlobals "START" = some (some (.ref tS))
  n_tN : PySem.W.nsIn K mainGlobals "NOTHING_WRITTEN" = some (some (.ref tN))
  tpf : KZ.TpF K tS tA tB tN
  d0 : DF K "spread" K2.sSpr (dA 0)
  d1 : DF K "count_stands" K2.sCnt (dA 1)
  d2 : DF K "is_integer" K2.sIsI (dA 2)
  d3 : DF K "is_within" K2.sWit (dA 3)
  d4 : DF K "is_row" K2.sRow (dA 4)
  d5 : DF K "check_rows" K2.sChk (dA 5)
  d6 : DF K "check_sizes" K2.sSiz (dA 6)
  d7 : DF K "text_of" K2.sTxt (dA 7)
  d8 : DF K "pick" K6.sPck (dA 8)
  d9 : DF K "put_page" K6.sPut (dA 9)
  d10 : DF K "clean_place" K6.sCln (dA 10)
  d11 : DF K "let_name_die" K6.sDie (dA 11)
  d12 : DF K "bring_name" K6.sBrg (dA 12)
  d13 : DF K "play_event" K6.sEvt (dA 13)
  d14 : DF K "is_name" K6.sNam (dA 14)
  d15 : DF K "is_event" K6.sIev (dA 15)
  d16 : DF K "play_load" K6.sLod (dA 16)
  d17 : DF K "check_drive" K6.sCkd (dA 17)
  d18 : DF K "steps" K6.sStp (dA 18)
  d19 : DF K "blocks_of" K6.sBlo (dA 19)
  d20 : DF K "find_taker" K2.KQ.sTak (dA 20)
  d21 : DF K "find_stuck" K2.KQ.sStk (dA 21)
  d22 : DF K "fill_blocks" K2.KQ.sFil (dA 22)
  d23 : DF K "check_trims" K2.KQ.sCkt (dA 23)
  d24 : DF K "clean" KZ.sClr (dA 24)
  d25 : DF K "make_room" KZ.sMkr (dA 25)
  d26 : DF K "write_page" KZ.sWrp (dA 26)
  d27 : DF K "let_die" KZ.sLtd (dA 27)
  d28 : DF K "count_living" KZ.sCli (dA 28)
  d29 : DF K "find_stands" KZ.sFnd (dA 29)
  d30 : DF K "_law_cell" K2.sCell (dA 30)
  d31 : DF K "_law_pool" K2.sPool (dA 31)
  d32 : DF K "_law_draw" K2.sDraw (dA 32)
  d33 : DF K "_law_word" K6.sWrd (dA 33)
  d34 : DF K "_law_tags" K6.sTgs (dA 34)
  d35 : DF K "_law_shape" K2.sShp (dA 35)
  d36 : DF K "_law_table" K2.sTab (dA 36)
  d37 : DF K "_law_made" K2.sMad (dA 37)
  d38 : DF K "_law_load" K6.sLoa (dA 38)
  d39 : DF K "_law_outcome" K6.sOut (dA 39)
  d40 : DF K "_law_tone" KX.sTon (dA 40)
  d41 : DF K "_law_idle" KX.sIdl (dA 41)
  d42 : DF K "_law_after" KX.sAft (dA 42)
  d43 : DF K "_law_zero" KX.sZer (dA 43)
  d44 : DF K "_law_least" KX.sLea (dA 44)
  d45 : DF K "_law_length" KX.sLen (dA 45)
  d46 : DF K "_law_all" KX.sAll (dA 46)
  d47 : DF K "_law_right" KX.sRgt (dA 47)
  d48 : DF K "law" KX.sLaw (dA 48)
  k_lb : ∃ t, PySem.W.nsIn K mainGlobals "LEAST_BLOCKS" = some (some (.int 3 t))
  k_mb : ∃ t, PySem.W.nsIn K mainGlobals "MOST_BLOCKS" = some (some (.int 6 t))
  k_lp : ∃ t, PySem.W.nsIn K mainGlobals "LEAST_PAGES" = some (some (.int 2 t))
  k_mp : ∃ t, PySem.W.nsIn K mainGlobals "MOST_PAGES" = some (some (.int 5 t))
  k_mr : ∃ t, PySem.W.nsIn K mainGlobals "MOST_ROWS" = some (some (.int 4 t))
  k_ms : ∃ t, PySem.W.nsIn K mainGlobals "MOST_STANDS" = some (some (.int 2000 t))
  k_wh : ∃ t, PySem.W.nsIn K mainGlobals "WORDS_OF_HEAD" = some (some (.int 7 t))
  k_md : ∃ t, PySem.W.nsIn K mainGlobals "MOST_DIGITS" = some (some (.int 2 t))
  k_me : ∃ t, PySem.W.nsIn K mainGlobals "MOST_EVENTS" = some (some (.int 2000 t))
  k_mc : ∃ t, PySem.W.nsIn K mainGlobals "MOST_CHARACTERS" = some (some (.int 8 t))
  k_wr : ∃ t, PySem.W.nsIn K mainGlobals "WRITE" = some (some (.str (Str.ofString "write") t))
  k_tr : ∃ t, PySem.W.nsIn K mainGlobals "TRIM" = some (some (.str (Str.ofString "trim") t))
  k_le : ∃ t, PySem.W.nsIn K mainGlobals "LETTERS" = some (some (.str (Str.ofString "abcdefghijklmnopqrstuvwxyz") t))
  k_di : ∃ t, PySem.W.nsIn K mainGlobals "DIGITS" = some (some (.str (Str.ofString "0123456789") t))
  k_sc : ∃ t, PySem.W.nsIn K mainGlobals "SCRATCH" = some (some (.str (Str.ofString "s") t))
  z_len : PySem.W.nsIn K mainGlobals "len" = some none
  z_int : PySem.W.nsIn K mainGlobals "int" = some none
  z_abs : PySem.W.nsIn K mainGlobals "abs" = some none
  z_repr : PySem.W.nsIn K mainGlobals "repr" = some none
  z_isi : PySem.W.nsIn K mainGlobals "isinstance" = some none
  z_range : PySem.W.nsIn K mainGlobals "range" = some none
  z_max : PySem.W.nsIn K mainGlobals "max" = some none
  z_min : PySem.W.nsIn K mainGlobals "min" = some none
  z_all : PySem.W.nsIn K mainGlobals "all" = some none
  z_sum : PySem.W.nsIn K mainGlobals "sum" = some none
  z_enm : PySem.W.nsIn K mainGlobals "enumerate" = some none
  z_tup : PySem.W.nsIn K mainGlobals "tuple" = some none
  z_boo : PySem.W.nsIn K mainGlobals "bool" = some none
  z_str : PySem.W.nsIn K mainGlobals "str" = some none
  z_list : PySem.W.nsIn K mainGlobals "list" = some none
  z_set : PySem.W.nsIn K mainGlobals "set" = some none
  z_sorted : PySem.W.nsIn K mainGlobals "sorted" = some none
theorem All.law {l : PySem.W.OpenLaw} {w : World} {K : PySem.W.Frag} {mg : Str → Option Value} {h : Heap} {fa : Addr} {C aW I0 CP IP p0 p1 p2 p3 g0 g1 g2 g3 m0 m1 c0 c1 s0 s1 s2 x0 y0 tS tA tB tN P0 P1 : Addr} {dA : Nat → Addr} (A : All K C aW I0 CP IP p0 p1 p2 p3 g0 g1 g2 g3 m0 m1 c0 c1 s0 s1 s2 x0 y0 tS tA tB tN P0 P1 dA)
    (X : K.In h) (G : h.Ns mainGlobals mg) (hfa : mg "law" = some (.ref fa)) (t0 : h.get? P0 = some { cls := .none, data := .fields #[] }) (t1 : h.get? P1 = some { cls := .none, data := .fields #[] }) (n01 : P0 ≠ P1) :
    LawT l w K 16 63 "_law_cells" mg fa h := by
  have B : Bl mg := ⟨PySem.W.mg_none_of X G A.z_len, PySem.W.mg_none_of X G A.z_int, PySem.W.mg_none_of X G A.z_abs, PySem.W.mg_none_of X G A.z_repr, PySem.W.mg_none_of X G A.z_isi, PySem.W.mg_none_of X G A.z_range, PySem.W.mg_none_of X G A.z_max, PySem.W.mg_none_of X G A.z_min, PySem.W.mg_none_of X G A.z_all, PySem.W.mg_none_of X G A.z_sum, PySem.W.mg_none_of X G A.z_enm, PySem.W.mg_none_of X G A.z_tup, PySem.W.mg_none_of X G A.z_boo, PySem.W.mg_none_of X G A.z_str⟩
  have b_list := PySem.W.mg_none_of X G A.z_list
  have b_set := PySem.W.mg_none_of X G A.z_set
  have b_sorted := PySem.W.mg_none_of X G A.z_sorted
  have c_lb : ∃ t, mg "LEAST_BLOCKS" = some (.int 3 t) := (let ⟨t, e⟩ := A.k_lb; ⟨t, PySem.W.mg_of X G e⟩)
  have c_mb : ∃ t, mg "MOST_BLOCKS" = some (.int 6 t) := (let ⟨t, e⟩ := A.k_mb; ⟨t, PySem.W.mg_of X G e⟩)
  have c_lp : ∃ t, mg "LEAST_PAGES" = some (.int 2 t) := (let ⟨t, e⟩ := A.k_lp; ⟨t, PySem.W.mg_of X G e⟩)
  have c_mp : ∃ t, mg "MOST_PAGES" = some (.int 5 t) := (let ⟨t, e⟩ := A.k_mp; ⟨t, PySem.W.mg_of X G e⟩)
  have c_mr : ∃ t, mg "MOST_ROWS" = some (.int 4 t) := (let ⟨t, e⟩ := A.k_mr; ⟨t, PySem.W.mg_of X G e⟩)
  have c_ms : ∃ t, mg "MOST_STANDS" = some (.int 2000 t) := (let ⟨t, e⟩ := A.k_ms; ⟨t, PySem.W.mg_of X G e⟩)
  have c_wh : ∃ t, mg "WORDS_OF_HEAD" = some (.int 7 t) := (let ⟨t, e⟩ := A.k_wh; ⟨t, PySem.W.mg_of X G e⟩)
  have c_md : ∃ t, mg "MOST_DIGITS" = some (.int 2 t) := (let ⟨t, e⟩ := A.k_md; ⟨t, PySem.W.mg_of X G e⟩)
  have c_me : ∃ t, mg "MOST_EVENTS" = some (.int 2000 t) := (let ⟨t, e⟩ := A.k_me; ⟨t, PySem.W.mg_of X G e⟩)
  have c_mc : ∃ t, mg "MOST_CHARACTERS" = some (.int 8 t) := (let ⟨t, e⟩ := A.k_mc; ⟨t, PySem.W.mg_of X G e⟩)
  have c_wr : ∃ t, mg "WRITE" = some (.str (Str.ofString "write") t) := (let ⟨t, e⟩ := A.k_wr; ⟨t, PySem.W.mg_of X G e⟩)
  have c_tr : ∃ t, mg "TRIM" = some (.str (Str.ofString "trim") t) := (let ⟨t, e⟩ := A.k_tr; ⟨t, PySem.W.mg_of X G e⟩)
  have c_le : ∃ t, mg "LETTERS" = some (.str (Str.ofString "abcdefghijklmnopqrstuvwxyz") t) := (let ⟨t, e⟩ := A.k_le; ⟨t, PySem.W.mg_of X G e⟩)
  have c_di : ∃ t, mg "DIGITS" = some (.str (Str.ofString "0123456789") t) := (let ⟨t, e⟩ := A.k_di; ⟨t, PySem.W.mg_of X G e⟩)
  have c_sc : ∃ t, mg "SCRATCH" = some (.str (Str.ofString "s") t) := (let ⟨t, e⟩ := A.k_sc; ⟨t, PySem.W.mg_of X G e⟩)
  have Cm : Cn mg := ⟨c_lb, c_mb, c_lp, c_mp, c_mr, c_ms, c_wh, c_md⟩
  have gD := PySem.W.mg_of X G A.nC
  have gW := PySem.W.mg_of X G A.nW
  have gP := PySem.W.mg_of X G A.nP
  have T := A.T
  have PC := A.PC
  obtain ⟨fd0, F0, kV0, dc0, pm0, an0, cd0, ct0, e0⟩ := A.d0.fn
  have b0 := F0.binds (ps := ["before", "pages"]) fun _ _ _ _ _ _ us hl => match us, hl with | [_, _], _ => rfl
  have g_0 := PySem.W.mg_of X G A.d0.ns
  obtain ⟨fd1, F1, kV1, dc1, pm1, an1, cd1, ct1, e1⟩ := A.d1.fn
  have b1 := F1.binds (ps := ["blocks", "pages", "names"]) fun _ _ _ _ _ _ us hl => match us, hl with | [_, _, _], _ => rfl
  have g_1 := PySem.W.mg_of X G A.d1.ns
  obtain ⟨fd2, F2, kV2, dc2, pm2, an2, cd2, ct2, e2⟩ := A.d2.fn
  have b2 := F2.binds (ps := ["value"]) fun _ _ _ _ _ _ us hl => match us, hl with | [_], _ => rfl
  have g_2 := PySem.W.mg_of X G A.d2.ns
  obtain ⟨fd3, F3, kV3, dc3, pm3, an3, cd3, ct3, e3⟩ := A.d3.fn
  have b3 := F3.binds (ps := ["value", "least", "most"]) fun _ _ _ _ _ _ us hl => match us, hl with | [_, _, _], _ => rfl
  have g_3 := PySem.W.mg_of X G A.d3.ns
  obtain ⟨fd4, F4, kV4, dc4, pm4, an4, cd4, ct4, e4⟩ := A.d4.fn
  have b4 := F4.binds (ps := ["value", "pages"]) fun _ _ _ _ _ _ us hl => match us, hl with | [_, _], _ => rfl
  have g_4 := PySem.W.mg_of X G A.d4.ns
  obtain ⟨fd5, F5, kV5, dc5, pm5, an5, cd5, ct5, e5⟩ := A.d5.fn
  have b5 := F5.binds (ps := ["rows", "pages"]) fun _ _ _ _ _ _ us hl => match us, hl with | [_, _], _ => rfl
  have g_5 := PySem.W.mg_of X G A.d5.ns
  obtain ⟨fd6, F6, kV6, dc6, pm6, an6, cd6, ct6, e6⟩ := A.d6.fn
  have b6 := F6.binds (ps := ["blocks", "pages", "names"]) fun _ _ _ _ _ _ us hl => match us, hl with | [_, _, _], _ => rfl
  have g_6 := PySem.W.mg_of X G A.d6.ns
  obtain ⟨fd7, F7, kV7, dc7, pm7, an7, cd7, ct7, e7⟩ := A.d7.fn
  have b7 := F7.binds (ps := ["blocks", "pages", "names", "rows"]) fun _ _ _ _ _ _ us hl => match us, hl with | [_, _, _, _], _ => rfl
  have g_7 := PySem.W.mg_of X G A.d7.ns
  obtain ⟨fd8, F8, kV8, dc8, pm8, an8, cd8, ct8, e8⟩ := A.d8.fn
  have b8 := F8.binds (ps := ["rows", "closed"]) fun _ _ _ _ _ _ us hl => match us, hl with | [_, _], _ => rfl
  have g_8 := PySem.W.mg_of X G A.d8.ns
  obtain ⟨fd9, F9, kV9, dc9, pm9, an9, cd9, ct9, e9⟩ := A.d9.fn
  have b9 := F9.binds (ps := ["play", "name"]) fun _ _ _ _ _ _ us hl => match us, hl with | [_, _], _ => rfl
  have g_9 := PySem.W.mg_of X G A.d9.ns
  obtain ⟨fd10, F10, kV10, dc10, pm10, an10, cd10, ct10, e10⟩ := A.d10.fn
  have b10 := F10.binds (ps := ["play", "place"]) fun _ _ _ _ _ _ us hl => match us, hl with | [_, _], _ => rfl
  have g_10 := PySem.W.mg_of X G A.d10.ns
  obtain ⟨fd11, F11, kV11, dc11, pm11, an11, cd11, ct11, e11⟩ := A.d11.fn
  have b11 := F11.binds (ps := ["play", "name"]) fun _ _ _ _ _ _ us hl => match us, hl with | [_, _], _ => rfl
  have g_11 := PySem.W.mg_of X G A.d11.ns
  obtain ⟨fd12, F12, kV12, dc12, pm12, an12, cd12, ct12, e12⟩ := A.d12.fn
  have b12 := F12.binds (ps := ["play", "name"]) fun _ _ _ _ _ _ us hl => match us, hl with | [_, _], _ => rfl
  have g_12 := PySem.W.mg_of X G A.d12.ns
  obtain ⟨fd13, F13, kV13, dc13, pm13, an13, cd13, ct13, e13⟩ := A.d13.fn
  have b13 := F13.binds (ps := ["play", "event"]) fun _ _ _ _ _ _ us hl => match us, hl with | [_, _], _ => rfl
  have g_13 := PySem.W.mg_of X G A.d13.ns
  obtain ⟨fd14, F14, kV14, dc14, pm14, an14, cd14, ct14, e14⟩ := A.d14.fn
  have b14 := F14.binds (ps := ["value"]) fun _ _ _ _ _ _ us hl => match us, hl with | [_], _ => rfl
  have g_14 := PySem.W.mg_of X G A.d14.ns
  obtain ⟨fd15, F15, kV15, dc15, pm15, an15, cd15, ct15, e15⟩ := A.d15.fn
  have b15 := F15.binds (ps := ["value"]) fun _ _ _ _ _ _ us hl => match us, hl with | [_], _ => rfl
  have g_15 := PySem.W.mg_of X G A.d15.ns
  obtain ⟨fd16, F16, kV16, dc16, pm16, an16, cd16, ct16, e16⟩ := A.d16.fn
  have b16 := F16.binds (ps := ["drive", "load"]) fun _ _ _ _ _ _ us hl => match us, hl with | [_, _], _ => rfl
  have g_16 := PySem.W.mg_of X G A.d16.ns
  obtain ⟨fd17, F17, kV17, dc17, pm17, an17, cd17, ct17, e17⟩ := A.d17.fn
  have b17 := F17.binds (ps := ["drive"]) fun _ _ _ _ _ _ us hl => match us, hl with | [_], _ => rfl
  have g_17 := PySem.W.mg_of X G A.d17.ns
  obtain ⟨fd18, F18, kV18, dc18, pm18, an18, cd18, ct18, e18⟩ := A.d18.fn
  have b18 := F18.binds (ps := ["drive", "load"]) fun _ _ _ _ _ _ us hl => match us, hl with | [_, _], _ => rfl
  have g_18 := PySem.W.mg_of X G A.d18.ns
  obtain ⟨fd19, F19, kV19, dc19, pm19, an19, cd19, ct19, e19⟩ := A.d19.fn
  have b19 := F19.binds (ps := ["drive", "load"]) fun _ _ _ _ _ _ us hl => match us, hl with | [_, _], _ => rfl
  have g_19 := PySem.W.mg_of X G A.d19.ns
  obtain ⟨fd20, F20, kV20, dc20, pm20, an20, cd20, ct20, e20⟩ := A.d20.fn
  have b20 := F20.binds (ps := ["drive"]) fun _ _ _ _ _ _ us hl => match us, hl with | [_], _ => rfl
  have g_20 := PySem.W.mg_of X G A.d20.ns
  obtain ⟨fd21, F21, kV21, dc21, pm21, an21, cd21, ct21, e21⟩ := A.d21.fn
  have b21 := F21.binds (ps := ["drive"]) fun _ _ _ _ _ _ us hl => match us, hl with | [_], _ => rfl
  have g_21 := PySem.W.mg_of X G A.d21.ns
  obtain ⟨fd22, F22, kV22, dc22, pm22, an22, cd22, ct22, e22⟩ := A.d22.fn
  have b22 := F22.binds (ps := ["drive", "closed"]) fun _ _ _ _ _ _ us hl => match us, hl with | [_, _], _ => rfl
  have g_22 := PySem.W.mg_of X G A.d22.ns
  obtain ⟨fd23, F23, kV23, dc23, pm23, an23, cd23, ct23, e23⟩ := A.d23.fn
  have b23 := F23.binds (ps := ["trims"]) fun _ _ _ _ _ _ us hl => match us, hl with | [_], _ => rfl
  have g_23 := PySem.W.mg_of X G A.d23.ns
  obtain ⟨fd24, F24, kV24, dc24, pm24, an24, cd24, ct24, e24⟩ := A.d24.fn
  have b24 := F24.binds (ps := ["drive", "closed"]) fun _ _ _ _ _ _ us hl => match us, hl with | [_, _], _ => rfl
  have g_24 := PySem.W.mg_of X G A.d24.ns
  obtain ⟨fd25, F25, kV25, dc25, pm25, an25, cd25, ct25, e25⟩ := A.d25.fn
  have b25 := F25.binds (ps := ["drive", "stand"]) fun _ _ _ _ _ _ us hl => match us, hl with | [_, _], _ => rfl
  have g_25 := PySem.W.mg_of X G A.d25.ns
  obtain ⟨fd26, F26, kV26, dc26, pm26, an26, cd26, ct26, e26⟩ := A.d26.fn
  have b26 := F26.binds (ps := ["drive", "stand"]) fun _ _ _ _ _ _ us hl => match us, hl with | [_, _], _ => rfl
  have g_26 := PySem.W.mg_of X G A.d26.ns
  obtain ⟨fd27, F27, kV27, dc27, pm27, an27, cd27, ct27, e27⟩ := A.d27.fn
  have b27 := F27.binds (ps := ["stand"]) fun _ _ _ _ _ _ us hl => match us, hl with | [_], _ => rfl
  have g_27 := PySem.W.mg_of X G A.d27.ns
  obtain ⟨fd28, F28, kV28, dc28, pm28, an28, cd28, ct28, e28⟩ := A.d28.fn
  have b28 := F28.binds (ps := ["stand"]) fun _ _ _ _ _ _ us hl => match us, hl with | [_], _ => rfl
  have g_28 := PySem.W.mg_of X G A.d28.ns
  obtain ⟨fd29, F29, kV29, dc29, pm29, an29, cd29, ct29, e29⟩ := A.d29.fn
  have b29 := F29.binds (ps := ["drive", "trims"]) fun _ _ _ _ _ _ us hl => match us, hl with | [_, _], _ => rfl
  have g_29 := PySem.W.mg_of X G A.d29.ns
  obtain ⟨fd30, F30, kV30, dc30, pm30, an30, cd30, ct30, e30⟩ := A.d30.fn
  have b30 := F30.binds (ps := ["_law_cells", "_law_k"]) fun _ _ _ _ _ _ us hl => match us, hl with | [_, _], _ => rfl
  have g_30 := PySem.W.mg_of X G A.d30.ns
  obtain ⟨fd31, F31, kV31, dc31, pm31, an31, cd31, ct31, e31⟩ := A.d31.fn
  have b31 := F31.binds (ps := ["_law_cell_here"]) fun _ _ _ _ _ _ us hl => match us, hl with | [_], _ => rfl
  have g_31 := PySem.W.mg_of X G A.d31.ns
  obtain ⟨fd32, F32, kV32, dc32, pm32, an32, cd32, ct32, e32⟩ := A.d32.fn
  have b32 := F32.binds (ps := ["_law_pool_here", "_law_many"]) fun _ _ _ _ _ _ us hl => match us, hl with | [_, _], _ => rfl
  have g_32 := PySem.W.mg_of X G A.d32.ns
  obtain ⟨fd33, F33, kV33, dc33, pm33, an33, cd33, ct33, e33⟩ := A.d33.fn
  have b33 := F33.binds (ps := ["_law_pool_here"]) fun _ _ _ _ _ _ us hl => match us, hl with | [_], _ => rfl
  have g_33 := PySem.W.mg_of X G A.d33.ns
  obtain ⟨fd34, F34, kV34, dc34, pm34, an34, cd34, ct34, e34⟩ := A.d34.fn
  have b34 := F34.binds (ps := ["_law_pool_here", "_law_many"]) fun _ _ _ _ _ _ us hl => match us, hl with | [_, _], _ => rfl
  have g_34 := PySem.W.mg_of X G A.d34.ns
  obtain ⟨fd35, F35, kV35, dc35, pm35, an35, cd35, ct35, e35⟩ := A.d35.fn
  have b35 := F35.binds (ps := ["_law_pool_here"]) fun _ _ _ _ _ _ us hl => match us, hl with | [_], _ => rfl
  have g_35 := PySem.W.mg_of X G A.d35.ns
  obtain ⟨fd36, F36, kV36, dc36, pm36, an36, cd36, ct36, e36⟩ := A.d36.fn
  have b36 := F36.binds (ps := ["_law_pool_here", "_law_size"]) fun _ _ _ _ _ _ us hl => match us, hl with | [_, _], _ => rfl
  have g_36 := PySem.W.mg_of X G A.d36.ns
  obtain ⟨fd37, F37, kV37, dc37, pm37, an37, cd37, ct37, e37⟩ := A.d37.fn
  have b37 := F37.binds (ps := ["_law_shape_here", "_law_table_here"]) fun _ _ _ _ _ _ us hl => match us, hl with | [_, _], _ => rfl
  have g_37 := PySem.W.mg_of X G A.d37.ns
  obtain ⟨fd38, F38, kV38, dc38, pm38, an38, cd38, ct38, e38⟩ := A.d38.fn
  have b38 := F38.binds (ps := ["_law_pool_here", "_law_tags_here", "_law_room", "_law_many"]) fun _ _ _ _ _ _ us hl => match us, hl with | [_, _, _, _], _ => rfl
  have g_38 := PySem.W.mg_of X G A.d38.ns
  obtain ⟨fd39, F39, kV39, dc39, pm39, an39, cd39, ct39, e39⟩ := A.d39.fn
  have b39 := F39.binds (ps := ["_law_act"]) fun _ _ _ _ _ _ us hl => match us, hl with | [_], _ => rfl
  have g_39 := PySem.W.mg_of X G A.d39.ns
  obtain ⟨fd40, F40, kV40, dc40, pm40, an40, cd40, ct40, e40⟩ := A.d40.fn
  have b40 := F40.binds (ps := ["_law_pool_here"]) fun _ _ _ _ _ _ us hl => match us, hl with | [_], _ => rfl
  have g_40 := PySem.W.mg_of X G A.d40.ns
  obtain ⟨fd41, F41, kV41, dc41, pm41, an41, cd41, ct41, e41⟩ := A.d41.fn
  have b41 := F41.binds (ps := ["_law_pool_here", "_law_size"]) fun _ _ _ _ _ _ us hl => match us, hl with | [_, _], _ => rfl
  have g_41 := PySem.W.mg_of X G A.d41.ns
  obtain ⟨fd42, F42, kV42, dc42, pm42, an42, cd42, ct42, e42⟩ := A.d42.fn
  have b42 := F42.binds (ps := ["_law_pool_here", "_law_size"]) fun _ _ _ _ _ _ us hl => match us, hl with | [_, _], _ => rfl
  have g_42 := PySem.W.mg_of X G A.d42.ns
  obtain ⟨fd43, F43, kV43, dc43, pm43, an43, cd43, ct43, e43⟩ := A.d43.fn
  have b43 := F43.binds (ps := ["_law_pool_here", "_law_size"]) fun _ _ _ _ _ _ us hl => match us, hl with | [_, _], _ => rfl
  have g_43 := PySem.W.mg_of X G A.d43.ns
  obtain ⟨fd44, F44, kV44, dc44, pm44, an44, cd44, ct44, e44⟩ := A.d44.fn
  have b44 := F44.binds (ps := ["_law_pool_here", "_law_size"]) fun _ _ _ _ _ _ us hl => match us, hl with | [_, _], _ => rfl
  have g_44 := PySem.W.mg_of X G A.d44.ns
  obtain ⟨fd45, F45, kV45, dc45, pm45, an45, cd45, ct45, e45⟩ := A.d45.fn
  have b45 := F45.binds (ps := ["_law_told"]) fun _ _ _ _ _ _ us hl => match us, hl with | [_], _ => rfl
  have g_45 := PySem.W.mg_of X G A.d45.ns
  obtain ⟨fd46, F46, kV46, dc46, pm46, an46, cd46, ct46, e46⟩ := A.d46.fn
  have b46 := F46.binds (ps := ["_law_mine"]) fun _ _ _ _ _ _ us hl => match us, hl with | [_], _ => rfl
  have g_46 := PySem.W.mg_of X G A.d46.ns
  obtain ⟨fd47, F47, kV47, dc47, pm47, an47, cd47, ct47, e47⟩ := A.d47.fn
  have b47 := F47.binds (ps := ["_law_pool_here"]) fun _ _ _ _ _ _ us hl => match us, hl with | [_], _ => rfl
  have g_47 := PySem.W.mg_of X G A.d47.ns
  obtain ⟨fd48, F48, kV48, dc48, pm48, an48, cd48, ct48, e48⟩ := A.d48.fn
  have b48 := F48.binds (ps := ["_law_cells"]) fun _ _ _ _ _ _ us hl => match us, hl with | [_], _ => rfl
  have g_48 := PySem.W.mg_of X G A.d48.ns
  obtain ⟨fs0, FS0⟩ := A.s0_.fn
  have gS0 := PySem.W.mg_of X G A.s0_.ns
  obtain ⟨fs1, FS1⟩ := A.s1_.fn
  have gS1 := PySem.W.mg_of X G A.s1_.ns
  obtain ⟨fs2, FS2⟩ := A.s2_.fn
  have gS2 := PySem.W.mg_of X G A.s2_.ns
  obtain ⟨fd_ini, F_ini⟩ := A.ini.fn
  have b_ini := F_ini.binds (ps := ["self", "blocks", "pages", "names", "rows"]) fun _ _ _ _ _ _ us hl => match us, hl with | [_, _, _, _, _], _ => rfl
  obtain ⟨fd_inp, F_inp⟩ := A.inp.fn
  have b_inp := F_inp.binds (ps := ["self", "drive"]) fun _ _ _ _ _ _ us hl => match us, hl with | [_, _], _ => rfl
  obtain ⟨fd_q0, F_q0⟩ := A.q0_m.fn
  have b_q0 := F_q0.binds (ps := ["self"]) fun _ _ _ _ _ _ us hl => match us, hl with | [_], _ => rfl
  obtain ⟨fd_q1, F_q1⟩ := A.q1_m.fn
  have b_q1 := F_q1.binds (ps := ["self"]) fun _ _ _ _ _ _ us hl => match us, hl with | [_], _ => rfl
  obtain ⟨fd_q2, F_q2⟩ := A.q2_m.fn
  have b_q2 := F_q2.binds (ps := ["self"]) fun _ _ _ _ _ _ us hl => match us, hl with | [_], _ => rfl
  obtain ⟨fd_q3, F_q3⟩ := A.q3_m.fn
  have b_q3 := F_q3.binds (ps := ["self"]) fun _ _ _ _ _ _ us hl => match us, hl with | [_], _ => rfl
  obtain ⟨fd_x0, F_x0⟩ := A.x0_m.fn
  have b_x0 := F_x0.binds (ps := ["self", "index"]) fun _ _ _ _ _ _ us hl => match us, hl with | [_, _], _ => rfl
  obtain ⟨fm0, FM0, kVm0, dcm0, pmm0, anm0, ctm0, em0⟩ := A.mk0.fn
  have bm0 := (fun_of_c FM0).binds (ps := ["word", "closed", "places"]) fun _ _ _ _ _ _ us hl => match us, hl with | [_, _, _], _ => rfl
  have gm0 := PySem.W.mg_of X G A.mk0.ns
  obtain ⟨fm1, FM1, kVm1, dcm1, pmm1, anm1, ctm1, em1⟩ := A.mk1.fn
  have bm1 := (fun_of_c FM1).binds (ps := ["_law_mine", "_law_script"]) fun _ _ _ _ _ _ us hl => match us, hl with | [_, _], _ => rfl
  have gm1 := PySem.W.mg_of X G A.mk1.ns
  have e := hfa.symm.trans g_48
  cases e
  refine ⟨fd48, [(c0, P0), (c1, P1)], spLaw K [(P0, qCho), (P1, KX.qSee)], ?_, ?_, ?_, fun s u => ?_, fun H a ns hl hT hS => ?_, fun base _ _ TBs => ?_⟩
  · intro p hp
    simp only [List.mem_cons, List.mem_nil_iff, or_false] at hp
    rcases hp with rfl | rfl
    · exact t0
    · exact t1
  · intro p hp
    simp only [List.mem_cons, List.mem_nil_iff, or_false] at hp
    rcases hp with rfl | rfl
    · exact A.nP0
    · exact A.nP1
  · intro p hp
    simp only [List.mem_cons, List.mem_nil_iff, or_false] at hp
    rcases hp with rfl | rfl
    · exact PySem.W.codeHd_of_K X A.hd0
    · exact PySem.W.codeHd_of_K X A.hd1
  · rw [e48]
    exact .of_eq rfl
  · refine ⟨a, ns, rfl, hS, hl, fun hp hpm => ?_, fun _ => rfl⟩
    simp only [List.mem_cons, List.mem_nil_iff, or_false] at hpm
    rcases hpm with rfl | rfl
    · exact TabS.nil (hT (c0, P0) (by simp))
    · exact TabS.nil (hT (c1, P1) (by simp))
  have TC0 : TabC base mg [(P0, qCho), (P1, KX.qSee)] c0 P0 qCho := ⟨TBs (c0, P0) (by simp), by simp, fun z hz e => by
    simp only [List.mem_cons, List.mem_nil_iff, or_false] at hz
    rcases hz with rfl | rfl
    · rfl
    · exact absurd e (Ne.symm n01)⟩
  have TC1 : TabC base mg [(P0, qCho), (P1, KX.qSee)] c1 P1 KX.qSee := ⟨TBs (c1, P1) (by simp), by simp, fun z hz e => by
    simp only [List.mem_cons, List.mem_nil_iff, or_false] at hz
    rcases hz with rfl | rfl
    · exact absurd e n01
    · rfl⟩
  have X0 : XCls l.prog w K mg base "InvalidLoad" "index" x0 := ⟨A.x0_T, A.x0_f, A.x0_no, PySem.W.mg_of X G A.x0_n, y0, fd_x0, A.x0_i, A.x0_t, K3.ok_xLd F_x0 A.x0_T A.x0_no, b_x0⟩
  have o_is_integer : FnOk l.prog w K mg base CX0 1 (dA 2) fd2 ["value"] spIsI := ok_isI F2 B
  have o_is_within : FnOk l.prog w K mg base CX0 2 (dA 3) fd3 ["value", "least", "most"] spWit := ok_wit F3 o_is_integer F2.kp b2 g_2
  have o_is_row : FnOk l.prog w K mg base CX0 3 (dA 4) fd4 ["value", "pages"] (spRow K) := ok_row F4 B o_is_within F3.kp b3 g_3 gW A.W.at_
  have o_check_rows : FnOk l.prog w K mg base CX0 4 (dA 5) fd5 ["rows", "pages"] (spChk K) := ok_chk F5 B o_is_row F4.kp b4 g_4 Cm.mr
  have o_check_sizes : FnOk l.prog w K mg base CX0 3 (dA 6) fd6 ["blocks", "pages", "names"] spSiz := ok_siz F6 Cm o_is_within F3.kp b3 g_3
  have o_text_of : FnOk l.prog w K mg base CX0 1 (dA 7) fd7 ["blocks", "pages", "names", "rows"] (spTxt K) := ok_txt F7 B
  have o_spread : FnOk l.prog w K mg base CX0 1 (dA 0) fd0 ["before", "pages"] (spSpr K) := ok_spr F0 B
  have o_count_stands : FnOk l.prog w K mg base CX0 2 (dA 1) fd1 ["blocks", "pages", "names"] spCnt := ok_cnt F1 B o_spread F0.kp b0 g_0
  have o_ini : FnOk l.prog w K mg base CX0 5 I0 fd_ini ["self", "blocks", "pages", "names", "rows"] (spIni K C) := ok_ini F_ini T Cm ⟨o_check_sizes, F6.kp, b6, g_6, o_check_rows, F5.kp, b5, g_5, o_text_of, F7.kp, b7, g_7, o_count_stands, F1.kp, b1, g_1⟩
  have M : DD l.prog w K mg base C := ⟨T, A.D, ⟨_, _, _, A.q0, ok_gb F_q0 T, b_q0⟩, ⟨_, _, _, A.q1, ok_gp F_q1 T, b_q1⟩, ⟨_, _, _, A.q2, ok_gn F_q2 T, b_q2⟩, ⟨_, _, _, A.q3, ok_gr F_q3 T, b_q3⟩, gD⟩
  have o_choose : FnOk l.prog w K mg base CX0 3 m0 fm0 ["word", "closed", "places"] (spCho K [(P0, qCho), (P1, KX.qSee)]) := ok_cho FM0 B TC0
  have o_pick : FnOk l.prog w K mg base CX0 4 (dA 8) fd8 ["rows", "closed"] (spPck K [(P0, qCho), (P1, KX.qSee)]) := ok_pck F8 B ⟨⟨_, _, o_choose, FM0.kp, bm0, gm0⟩⟩
  have o_put_page : FnOk l.prog w K mg base CX0 3 (dA 9) fd9 ["play", "name"] (spPut K C CP) := ok_put F9 B M PC
  have o_clean_place : FnOk l.prog w K mg base CX0 4 (dA 10) fd10 ["play", "place"] (spCln K C CP) := ok_cln F10 B PC ⟨⟨_, _, o_put_page, F9.kp, b9, g_9⟩⟩
  have o_let_name_die : FnOk l.prog w K mg base CX0 1 (dA 11) fd11 ["play", "name"] (spDie CP) := ok_die F11 PC
  have o_bring_name_false : FnOk l.prog w K mg base CX0 5 (dA 12) fd12 ["play", "name"] (spBrgG K [(P0, qCho), (P1, KX.qSee)] false C CP) := ok_brgG F12 B b_set M PC ⟨⟨_, _, o_put_page, F9.kp, b9, g_9⟩⟩ ⟨⟨_, _, o_clean_place, F10.kp, b10, g_10⟩⟩ ⟨⟨_, _, o_pick, F8.kp, b8, g_8⟩⟩
  have o_play_event_false : FnOk l.prog w K mg base CX0 6 (dA 13) fd13 ["play", "event"] (spEvtG K [(P0, qCho), (P1, KX.qSee)] false C CP) := ok_evtG F13 B c_tr M PC ⟨⟨_, _, o_let_name_die, F11.kp, b11, g_11⟩⟩ ⟨⟨_, _, o_bring_name_false, F12.kp, b12, g_12⟩⟩
  have o_bring_name_true : FnOk l.prog w K mg base CX0 5 (dA 12) fd12 ["play", "name"] (spBrgG K [(P0, qCho), (P1, KX.qSee)] true C CP) := ok_brgG F12 B b_set M PC ⟨⟨_, _, o_put_page, F9.kp, b9, g_9⟩⟩ ⟨⟨_, _, o_clean_place, F10.kp, b10, g_10⟩⟩ ⟨⟨_, _, o_pick, F8.kp, b8, g_8⟩⟩
  have o_play_event_true : FnOk l.prog w K mg base CX0 6 (dA 13) fd13 ["play", "event"] (spEvtG K [(P0, qCho), (P1, KX.qSee)] true C CP) := ok_evtG F13 B c_tr M PC ⟨⟨_, _, o_let_name_die, F11.kp, b11, g_11⟩⟩ ⟨⟨_, _, o_bring_name_true, F12.kp, b12, g_12⟩⟩
  have o_is_name : FnOk l.prog w K mg base CX0 1 (dA 14) fd14 ["value"] spNam := ok_nam F14 B c_le c_di c_mc
  have o_is_event : FnOk l.prog w K mg base CX0 2 (dA 15) fd15 ["value"] (spIev K) := ok_iev F15 B c_wr c_tr ⟨⟨_, _, o_is_name, F14.kp, b14, g_14⟩⟩
  have o_ievB : FnOk l.prog w K mg base CX0 2 (dA 15) fd15 ["value"] (spIevB K) := or_ok o_is_event (ok_ievX F15 B c_wr c_tr ⟨⟨_, _, o_is_name, F14.kp, b14, g_14⟩⟩)
  have o_pin : FnOk l.prog w K mg base CX0 3 IP fd_inp ["self", "drive"] (spPin K C CP) := ok_pin F_inp B b_list M PC
  have o_play_load : FnOk l.prog w K mg base CX0 7 (dA 16) fd16 ["drive", "load"] (spLodG K [(P0, qCho), (P1, KX.qSee)] C CP) := ok_lodG F16 B c_me A.mkp o_pin b_inp gP ⟨⟨_, _, o_is_event, F15.kp, b15, g_15⟩⟩ ⟨⟨_, _, o_play_event_false, F13.kp, b13, g_13⟩⟩
  have o_check_drive : FnOk l.prog w K mg base CX0 1 (dA 17) fd17 ["drive"] (spCkd K C) := ok_ckd F17 B M
  have o_steps : GFn l.prog w K mg base 8 (dA 18) fd18 ["drive", "load"] (spStpG K [(P0, qCho), (P1, KX.qSee)] C CP) := ok_stpG F18 B PC ⟨⟨_, _, o_check_drive, F17.kp, b17, g_17⟩⟩ ⟨⟨_, _, o_play_load, F16.kp, b16, g_16⟩⟩
  have o_ievB : FnOk l.prog w K mg base CX0 2 (dA 15) fd15 ["value"] (spIevB K) := or_ok o_is_event (ok_ievX F15 B c_wr c_tr ⟨⟨_, _, o_is_name, F14.kp, b14, g_14⟩⟩)
  have o_lodX : FnOk l.prog w K mg base (L2.CX l.prog w) 7 (dA 16) fd16 ["drive", "load"] (spLodX K [(P0, qCho), (P1, KX.qSee)] true C CP x0) := ok_lodX F16 B c_me A.mkp o_pin b_inp gP X0 ⟨⟨_, _, o_ievB, F15.kp, b15, g_15⟩⟩ ⟨⟨_, _, o_play_event_true, F13.kp, b13, g_13⟩⟩
  have o__law_cell : FnOk l.prog w K mg base CX0 1 (dA 30) fd30 ["_law_cells", "_law_k"] (K2.spCell K) := ok_cell F30 B
  have o__law_pool : FnOk l.prog w K mg base CX0 1 (dA 31) fd31 ["_law_cell_here"] spPool := ok_pool F31 B
  have o__law_draw : FnOk l.prog w K mg base CX0 1 (dA 32) fd32 ["_law_pool_here", "_law_many"] spDraw := ok_draw F32 B
  have o__law_shape : FnOk l.prog w K mg base CX0 2 (dA 35) fd35 ["_law_pool_here"] (spShp K) := ok_shp F35 o__law_draw F32.kp b32 g_32
  have o__law_table : FnOk l.prog w K mg base CX0 2 (dA 36) fd36 ["_law_pool_here", "_law_size"] (spTab K) := ok_tab F36 B o__law_draw F32.kp b32 g_32
  have o__law_made : FnOk l.prog w K mg base CX0 7 (dA 37) fd37 ["_law_shape_here", "_law_table_here"] (spMad K C) := ok_mad F37 A.mk_ o_ini b_ini gD
  have o__law_word : FnOk l.prog w K mg base CX0 2 (dA 33) fd33 ["_law_pool_here"] spWrd := ok_wrd F33 B ⟨⟨_, _, o__law_draw, F32.kp, b32, g_32⟩⟩
  have o__law_tags : FnOk l.prog w K mg base CX0 3 (dA 34) fd34 ["_law_pool_here", "_law_many"] spTgs := ok_tgs F34 B ⟨⟨_, _, o__law_word, F33.kp, b33, g_33⟩⟩
  have o__law_load : FnOk l.prog w K mg base CX0 2 (dA 38) fd38 ["_law_pool_here", "_law_tags_here", "_law_room", "_law_many"] spLoa := ok_loa F38 B ⟨⟨_, _, o__law_draw, F32.kp, b32, g_32⟩⟩
  have o_blocks_of : FnOk l.prog w K mg base CX0 8 (dA 19) fd19 ["drive", "load"] (spBloG K [(P0, qCho), (P1, KX.qSee)] C CP) := ok_bloG F19 B PC ⟨⟨_, _, o_check_drive, F17.kp, b17, g_17⟩⟩ ⟨⟨_, _, o_play_load, F16.kp, b16, g_16⟩⟩
  have OL : OutL l.prog w K mg base x0 := ⟨⟨_, _, F39, b39, g_39⟩, X0, A.ex, A.ns0⟩
  have o_stpX : GFn l.prog w K mg base 8 (dA 18) fd18 ["drive", "load"] (spStpX K [(P0, qCho), (P1, KX.qSee)] C CP x0) := ok_stpX F18 B PC ⟨⟨_, _, o_check_drive, F17.kp, b17, g_17⟩⟩ o_lodX F16.kp b16 g_16
  have MQ : K2.KQ.DD l.prog w K mg base C := ⟨M.T, M.D, ⟨M.pb.ex⟩, ⟨M.pp.ex⟩, ⟨M.pn.ex⟩, ⟨M.pr.ex⟩, M.gD⟩
  have o_find_taker : FnOk l.prog w K mg base CX0 3 (dA 20) fd20 ["drive"] (K2.KQ.spTak K C) := K2.KQ.ok_tak F20 B MQ
  have o_find_stuck : FnOk l.prog w K mg base CX0 4 (dA 21) fd21 ["drive"] (K2.KQ.spStk K C) := K2.KQ.ok_stk F21 B MQ ⟨⟨_, _, o_find_taker, F20.kp, b20, g_20⟩⟩
  have o_check_trims : FnOk l.prog w K mg base CX0 1 (dA 23) fd23 ["trims"] K2.KQ.spCkt := K2.KQ.ok_ckt F23
  have o_ckQ : FnOk l.prog w K mg base CX0 1 (dA 17) fd17 ["drive"] (K2.KQ.spCkd K C) := K2.KQ.ok_ckd F17 B MQ
  have WQ : K2.KQ.Gw mg := ⟨c_wr, c_sc⟩
  have o_fill_blocks : FnOk l.prog w K mg base CX0 3 (dA 22) fd22 ["drive", "closed"] (K2.KQ.spFil K C) := K2.KQ.ok_fil F22 B MQ WQ
  have SL : KX.StlX l.prog w K mg base C := ⟨⟨_, _, K2.KQ.ok_stl FS2 WQ ⟨⟨_, _, o_ckQ, F17.kp, b17, g_17⟩⟩ ⟨⟨_, _, o_check_trims, F23.kp, b23, g_23⟩⟩ ⟨⟨_, _, o_find_stuck, F21.kp, b21, g_21⟩⟩ ⟨⟨_, _, o_fill_blocks, F22.kp, b22, g_22⟩⟩, FS2.kp, K2.KQ.b_stl FS2, K2.KQ.k_stl FS2, gS2⟩⟩
  have SI : KX.StiX l.prog w K mg base C := ⟨⟨_, _, K2.KQ.ok_sti FS1 ⟨⟨_, _, o_ckQ, F17.kp, b17, g_17⟩⟩ ⟨⟨_, _, o_check_trims, F23.kp, b23, g_23⟩⟩ ⟨⟨_, _, o_find_stuck, F21.kp, b21, g_21⟩⟩, FS1.kp, K2.KQ.b_sti FS1, K2.KQ.k_sti FS1, gS1⟩⟩
  have TP : Tops K mg := A.tpf.tops (PySem.W.mg_of X G A.n_tS) (PySem.W.mg_of X G A.n_tN)
  have o_clean : FnOk l.prog w K mg base CX0 5 (dA 24) fd24 ["drive", "closed"] (spClr K [(P0, qCho), (P1, KX.qSee)] C) := ok_clr F24 B b_set M ⟨⟨_, _, o_pick, F8.kp, b8, g_8⟩⟩
  have o_make_room : FnOk l.prog w K mg base CX0 6 (dA 25) fd25 ["drive", "stand"] (spMkr K [(P0, qCho), (P1, KX.qSee)] C) := ok_mkr F25 B M TP ⟨⟨_, _, o_clean, F24.kp, b24, g_24⟩⟩
  have o_write_page : FnOk l.prog w K mg base CX0 7 (dA 26) fd26 ["drive", "stand"] (spWrp K [(P0, qCho), (P1, KX.qSee)] C) := ok_wrp F26 M ⟨⟨_, _, o_make_room, F25.kp, b25, g_25⟩⟩
  have o_count_living : FnOk l.prog w K mg base CX0 1 (dA 28) fd28 ["stand"] (spCli K) := ok_cli F28 B
  have o_let_die : FnOk l.prog w K mg base CX0 1 (dA 27) fd27 ["stand"] (spLtd K) := ok_ltd F27 B
  have o_find_stands : FnOk l.prog w K mg base CX0 8 (dA 29) fd29 ["drive", "trims"] (spFnd K [(P0, qCho), (P1, KX.qSee)] C) := ok_fnd F29 B b_list M TP ⟨⟨_, _, o_let_die, F27.kp, b27, g_27⟩⟩ ⟨⟨_, _, o_count_living, F28.kp, b28, g_28⟩⟩ ⟨⟨_, _, o_write_page, F26.kp, b26, g_26⟩⟩
  have SS : KX.StsX l.prog w K mg base [(P0, qCho), (P1, KX.qSee)] C := ⟨⟨_, _, ok_std2 FS0 B b_sorted ⟨⟨_, _, o_check_drive, F17.kp, b17, g_17⟩⟩ ⟨⟨_, _, o_check_trims, F23.kp, b23, g_23⟩⟩ ⟨⟨_, _, o_find_stands, F29.kp, b29, g_29⟩⟩, FS0.kp, b_std2 FS0, k_std2 FS0, gS0⟩⟩
  have o__law_tone : FnOk l.prog w K mg base CX0 2 (dA 40) fd40 ["_law_pool_here"] KX.spTon := KX.ok_ton F40 ⟨⟨_, _, o__law_draw, F32.kp, b32, g_32⟩⟩
  have o__law_idle : FnOk l.prog w K mg base CX0 3 (dA 41) fd41 ["_law_pool_here", "_law_size"] (KX.spPair K) := KX.ok_idl F41 B b_list ⟨⟨_, _, o__law_draw, F32.kp, b32, g_32⟩⟩ ⟨⟨_, _, o__law_table, F36.kp, b36, g_36⟩⟩ ⟨⟨_, _, o__law_tone, F40.kp, b40, g_40⟩⟩
  have o__law_after : FnOk l.prog w K mg base CX0 3 (dA 42) fd42 ["_law_pool_here", "_law_size"] (KX.spPair K) := KX.ok_aft F42 ⟨⟨_, _, o__law_table, F36.kp, b36, g_36⟩⟩ ⟨⟨_, _, o__law_tone, F40.kp, b40, g_40⟩⟩
  have o__law_zero : FnOk l.prog w K mg base CX0 3 (dA 43) fd43 ["_law_pool_here", "_law_size"] (KX.spPair K) := KX.ok_zer F43 B b_list ⟨⟨_, _, o__law_draw, F32.kp, b32, g_32⟩⟩ ⟨⟨_, _, o__law_table, F36.kp, b36, g_36⟩⟩
  have o__law_least : FnOk l.prog w K mg base CX0 3 (dA 44) fd44 ["_law_pool_here", "_law_size"] (KX.spPair K) := KX.ok_lea F44 B ⟨⟨_, _, o__law_draw, F32.kp, b32, g_32⟩⟩
  have o_m1 : FnG l.prog w K mg base 14 m1 fm1 ["_law_mine", "_law_script"] (KX.spSee K [(P0, qCho), (P1, KX.qSee)] C) := KX.ok_see FM1 B b_list OL TC1 ⟨⟨_, _, o_stpX, F18.kp, b18, g_18⟩⟩ ⟨⟨_, _, o_blocks_of, F19.kp, b19, g_19⟩⟩
  have o__law_length : FnOk l.prog w K mg base CX0 1 (dA 45) fd45 ["_law_told"] (KX.spLen K) := KX.ok_len F45 B
  have o__law_all : FnG l.prog w K mg base 11 (dA 46) fd46 ["_law_mine"] (KX.spAll K [(P0, qCho), (P1, KX.qSee)] C) := KX.ok_all F46 B SS SI SL ⟨⟨_, _, o__law_length, F45.kp, b45, g_45⟩⟩
  have o__law_right : FnG l.prog w K mg base 15 (dA 47) fd47 ["_law_pool_here"] (KX.spOne [(P0, qCho), (P1, KX.qSee)]) := KX.ok_rgt F47 B ⟨⟨_, _, o__law_draw, F32.kp, b32, g_32⟩⟩ ⟨⟨_, _, o__law_shape, F35.kp, b35, g_35⟩⟩ ⟨⟨_, _, o__law_made, F37.kp, b37, g_37⟩⟩ ⟨⟨_, _, o__law_tags, F34.kp, b34, g_34⟩⟩ ⟨⟨_, _, o__law_load, F38.kp, b38, g_38⟩⟩ ⟨⟨_, _, o__law_all, F46.kp, b46, g_46⟩⟩ ⟨⟨_, _, o_m1, FM1.kp, bm1, gm1⟩⟩ ⟨⟨_, _, o__law_idle, F41.kp, b41, g_41⟩⟩ ⟨⟨_, _, o__law_after, F42.kp, b42, g_42⟩⟩ ⟨⟨_, _, o__law_zero, F43.kp, b43, g_43⟩⟩ ⟨⟨_, _, o__law_least, F44.kp, b44, g_44⟩⟩
  exact KX.ok_law F48 B ⟨⟨_, _, o__law_cell, F30.kp, b30, g_30⟩⟩ ⟨⟨_, _, o__law_pool, F31.kp, b31, g_31⟩⟩ ⟨⟨_, _, o__law_right, F47.kp, b47, g_47⟩⟩
end K6

set_option maxHeartbeats 8000000
namespace K6
open PySem PySem.Spec PyProof.Rows L2 G1 G2 G3 K2 LamX ClX K3 KZ KX
def dA : Nat → Addr
  | 0 => 26
  | 1 => 31
  | 2 => 235
  | 3 => 242
  | 4 => 255
  | 5 => 262
  | 6 => 307
  | 7 => 281
  | 8 => 267
  | 9 => 494
  | 10 => 487
  | 11 => 477
  | 12 => 482
  | 13 => 470
  | 14 => 247
  | 15 => 456
  | 16 => 463
  | 17 => 423
  | 18 => 559
  | 19 => 564
  | 20 => 501
  | 21 => 508
  | 22 => 593
  | 23 => 430
  | 24 => 519
  | 25 => 526
  | 26 => 533
  | 27 => 540
  | 28 => 547
  | 29 => 552
  | 30 => 600
  | 31 => 607
  | 32 => 614
  | 33 => 621
  | 34 => 626
  | 35 => 633
  | 36 => 640
  | 37 => 647
  | 38 => 652
  | 39 => 659
  | 40 => 666
  | 41 => 673
  | 42 => 680
  | 43 => 687
  | 44 => 694
  | 45 => 708
  | 46 => 715
  | 47 => 722
  | 48 => 727
  | _ => 0
section
variable {K : PySem.W.Frag} {C f : Addr}
theorem dcls_mk (pg : PySem.W.plainGet K C "" = true) (hd : PySem.W.hasDictIn K C = true) (po : PySem.W.plainOver K C = true) (sa : PySem.W.findIn K (.ref C) "__setattr__" = some (some (.builtin "object.__setattr__")))
    (nb : PySem.W.findIn K (.ref C) "kept_blocks" = some none) (np : PySem.W.findIn K (.ref C) "kept_pages" = some none) (nn : PySem.W.findIn K (.ref C) "kept_names" = some none) (nr : PySem.W.findIn K (.ref C) "kept_rows" = some none) (nt : PySem.W.findIn K (.ref C) "kept_text" = some none) : DCls K C := ⟨⟨pg, hd, po, sa⟩, nb, np, nn, nr, nt⟩
theorem pcls_mk (pg : PySem.W.plainGet K C "" = true) (hd : PySem.W.hasDictIn K C = true) (po : PySem.W.plainOver K C = true) (sa : PySem.W.findIn K (.ref C) "__setattr__" = some (some (.builtin "object.__setattr__")))
    (n1 : PySem.W.findIn K (.ref C) "drive" = some none) (n2 : PySem.W.findIn K (.ref C) "content" = some none) (n3 : PySem.W.findIn K (.ref C) "living" = some none) (n4 : PySem.W.findIn K (.ref C) "free" = some none) (n5 : PySem.W.findIn K (.ref C) "closed" = some none)
    (n6 : PySem.W.findIn K (.ref C) "filling" = some none) (n7 : PySem.W.findIn K (.ref C) "homes" = some none) (n8 : PySem.W.findIn K (.ref C) "told" = some none) : PCls K C := ⟨⟨pg, hd, po, sa⟩, n1, n2, n3, n4, n5, n6, n7, n8⟩
theorem prop_mk {x : Str} {p g : Addr} {rest : List Value} (h1 : PySem.W.findIn K (.ref C) x = some (some (.ref p))) (h2 : PySem.W.specialIn K (.ref p) "__get__" = some (some (.builtin "property.__get__"))) (h3 : PySem.W.takesIn K (.ref p) = some true) (h4 : PySem.W.recIn K p "property" = some (.ref g :: rest)) : PropOf K C x p g := ⟨h1, h2, h3, rest, h4⟩
theorem mf_mk {x q : Str} {st : Stmt} {oc : Value} {od : Option Addr} {kV dc pm : Value} {an : Option Addr} {cd ct : Value} {sl : Array (Option Value)}
    (l : K.lookup f = some ⟨oc, od, .func (PySem.W.fnOf x q (defArgs st) (defBody st) (defScope st) .none kV dc pm an cd ct), sl⟩) (h : PySem.W.codeIn K cd q = true) (kp : PySem.W.keepIn K (.ref f) = true) : MF K x q st f := ⟨⟨oc, od, kV, dc, pm, an, cd, ct, sl, l, h⟩, kp⟩
theorem df_mk {x : Str} {st : Stmt} {oc : Value} {od : Option Addr} {kV dc pm : Value} {an : Option Addr} {cd ct : Value} {sl : Array (Option Value)} (n : PySem.W.nsIn K mainGlobals x = some (some (.ref f)))
    (l : K.lookup f = some ⟨oc, od, .func (PySem.W.fnOf x x (defArgs st) (defBody st) (defScope st) .none kV dc pm an cd ct), sl⟩) (h : PySem.W.codeIn K cd x = true) (kp : PySem.W.keepIn K (.ref f) = true) : DF K x st f := ⟨n, ⟨oc, od, kV, dc, pm, an, cd, ct, sl, l, h⟩, kp⟩
theorem dc_mk {x : Str} {st : Stmt} {c : Addr} {oc : Value} {od : Option Addr} {kV dc pm : Value} {an : Option Addr} {ct : Value} {sl : Array (Option Value)} (n : PySem.W.nsIn K mainGlobals x = some (some (.ref f)))
    (l : K.lookup f = some ⟨oc, od, .func (PySem.W.fnOf x x (defArgs st) (defBody st) (defScope st) .none kV dc pm an (.ref c) ct), sl⟩) (h : PySem.W.codeIn K (.ref c) x = true) (kp : PySem.W.keepIn K (.ref f) = true) : DC K x st f c := ⟨n, ⟨oc, od, kV, dc, pm, an, ct, sl, l, h⟩, kp⟩
theorem kf_mk {x : Str} {st : Stmt} {oc : Value} {od : Option Addr} {T : Addr} {dc pm : Value} {an : Option Addr} {cd ct : Value} {sl : Array (Option Value)} (n : PySem.W.nsIn K mainGlobals x = some (some (.ref f)))
    (l : K.lookup f = some ⟨oc, od, .func (PySem.W.fnOf x x (defArgs st) (defBody st) (defScope st) .none (.ref T) dc pm an cd ct), sl⟩) (h : PySem.W.codeIn K cd x = true) (hT : PySem.W.nsIn K T "trims" = some (some (.bool true))) (kp : PySem.W.keepIn K (.ref f) = true) : KF K x st f := ⟨n, ⟨oc, od, T, dc, pm, an, cd, ct, sl, l, h, hT⟩, kp⟩
theorem wf_mk {od : Option Addr} {n : Nat} {t1 t2 t3 t4 : Tok} {sl : Array (Option Value)}
    (l : K.lookup f = some ⟨.type "tuple", od, .seq #[Value.str (Str.ofString "oldest") t1, Value.str (Str.ofString "youngest") t2, Value.str (Str.ofString "least") t3, Value.str (Str.ofString "most") t4] n, sl⟩) : WF K f := ⟨⟨od, n, t1, t2, t3, t4, sl, l⟩⟩
theorem oex_mk {B : Addr} {a1 a2 : Str} {a3 : Addr} {a4 : List Value} {a5 : List Str} {a6 : List Value} {a7 : Bool} {a8 : Option Bool} {a9 : Option Addr} {v0 v1 v2 v3 v5 : Option Value}
    (l : K.lookup C = some (excClassObj a1 a2 C a3 a4 [.ref B, .type "ValueError", .type "Exception", .type "BaseException", .type "object"] true a5 a6 a7 a8 a9 v0 v1 v2 v3 v5 "ValueError.__new__"))
    (sa : PySem.W.findIn K (.ref C) "__setattr__" = some (some (.builtin "object.__setattr__"))) (ex : PySem.W.subIn K (.ref C) (.type "BaseException") = some true) (ty : PySem.W.typeIn K (.ref C) = some (.type "type")) (kc : PySem.W.keepIn K (.ref C) = true) : OexC K C :=
  ⟨⟨a1, a2, a3, a4, _, a5, a6, a7, a8, a9, v0, v1, v2, v3, v5, l, rfl⟩, sa, ex, ty, kc⟩
theorem exm_mk {U : Addr} {b : Bool} (h1 : PySem.W.subIn K (.ref U) (.type "BaseException") = some true) (h2 : PySem.W.isClsIn K U = true) (h3 : PySem.W.typeIn K (.ref U) = some (.type "type")) (h4 : PySem.W.subIn K (.ref C) (.ref U) = some b) : PySem.W.exmOne K (.ref C) (.ref U) = some b := by
  have z2 : (PySem.W.clsIn K U).isSome = true := h2
  have z : PySem.W.kitCls K (.ref C) (.ref U) = some b := by
    show (if ((PySem.W.clsIn K U).isSome && PySem.W.typeIn K (.ref U) == some (.type "type")) = true then PySem.W.subIn K (.ref C) (.ref U) else none) = some b
    rw [z2, h3, h4]
    rfl
  unfold PySem.W.exmOne
  rw [h1, z]
  rfl
theorem ct_mk {x : Str} {i : Int} {t : Tok} (n : PySem.W.nsIn K mainGlobals x = some (some (.int i t))) : ∃ t, PySem.W.nsIn K mainGlobals x = some (some (.int i t)) := ⟨t, n⟩
theorem cs_mk {x y : Str} {t : Tok} (n : PySem.W.nsIn K mainGlobals x = some (some (.str y t))) : ∃ t, PySem.W.nsIn K mainGlobals x = some (some (.str y t)) := ⟨t, n⟩
end
end K6
open PySem PySem.W PyProof.Rows
set_option maxRecDepth 100000 in
set_option maxHeartbeats 0 in
theorem PySem.Challenge.cw_spareblocks_k23_whole_rules_written_othe_holds : PySem.Challenge.rw_spareblocks_k23_whole_rules_written_othe.Holds := by
  w_on; o_law; k_head; (case hw => w_witness2)
  k_fill
  refine G3.walkT (l := PySem.Challenge.rw_spareblocks_k23_whole_rules_written_othe) (n := 63) (k := 16) (x := "_law_cells") rfl (by decide) rfl ⟨rfl, by decide, by decide⟩ (fun w h Y => PySem.W.km_in_of Y) ?F
  case F =>
    intro w mg fa h Y KX G hmg
    have hT8 := PySem.W.km_tabs_of Y
    have A : K6.All (L2.KOf KX) 412 248 321 445 442 350 358 366 374 349 357 365 373 274 701 273 700 572 580 588 194 191 511 509 510 512 269 696 K6.dA := by
      clear hT8 hmg G Y
      have nC : PySem.W.nsIn (L2.KOf KX) mainGlobals "Drive" = some (some (.ref 412)) := by unfold L2.KOf; k_is
      have nW : PySem.W.nsIn (L2.KOf KX) mainGlobals "WORDS" = some (some (.ref 248)) := by unfold L2.KOf; k_is
      have hW : K2.WF (L2.KOf KX) 248 := by unfold L2.KOf; refine' K6.wf_mk ?l; (case l => k_is)
      have hT : K2.DCls (L2.KOf KX) 412 := by unfold L2.KOf; refine' K6.dcls_mk ?pg ?hd ?po ?sa ?nb ?np ?nn ?nr ?nt; (case pg => k_is); (case hd => k_is); (case po => k_is); (case sa => k_is); (case nb => k_is); (case np => k_is); (case nn => k_is); (case nr => k_is); (case nt => k_is)
      have hD : K2.DKit (L2.KOf KX) 412 := by unfold L2.KOf; refine' K2.DKit.mk ?a1 ?a2 ?a3 ?a4 ?a5 ?a6 ?a7 ?a8 ?a9 ?b1 ?b2; (case a1 => kit_is); (case a2 => kit_is); (case a3 => kit_is); (case a4 => kit_is); (case a5 => kit_is); (case a6 => kit_is); (case a7 => kit_is); (case a8 => k_is); (case a9 => k_is); (case b1 => k_is); (case b2 => k_is)
      have hM : L2.Mk (L2.KOf KX) 412 321 := by unfold L2.KOf; refine' L2.Mk.mk ?a1 ?a2 ?a3 ?a4; (case a1 => k_is); (case a2 => k_is); (case a3 => k_is); (case a4 => k_is)
      have hI : K2.MF (L2.KOf KX) "__init__" "Drive.__init__" K2.sIni 321 := by unfold L2.KOf; refine' K6.mf_mk ?l ?h ?kp; (case l => k_is); (case h => k_is); (case kp => k_is)
      have nP : PySem.W.nsIn (L2.KOf KX) mainGlobals "Play" = some (some (.ref 445)) := by unfold L2.KOf; k_is
      have hPC : K6.PCls (L2.KOf KX) 445 := by unfold L2.KOf; refine' K6.pcls_mk ?pg ?hd ?po ?sa ?n1 ?n2 ?n3 ?n4 ?n5 ?n6 ?n7 ?n8; (case pg => k_is); (case hd => k_is); (case po => k_is); (case sa => k_is); (case n1 => k_is); (case n2 => k_is); (case n3 => k_is); (case n4 => k_is); (case n5 => k_is); (case n6 => k_is); (case n7 => k_is); (case n8 => k_is)
      have hMP : L2.Mk (L2.KOf KX) 445 442 := by unfold L2.KOf; refine' L2.Mk.mk ?a1 ?a2 ?a3 ?a4; (case a1 => k_is); (case a2 => k_is); (case a3 => k_is); (case a4 => k_is)
      have hIP : K2.MF (L2.KOf KX) "__init__" "Play.__init__" K6.sPin 442 := by unfold L2.KOf; refine' K6.mf_mk ?l ?h ?kp; (case l => k_is); (case h => k_is); (case kp => k_is)
      have x0_n : PySem.W.nsIn (L2.KOf KX) mainGlobals "InvalidLoad" = some (some (.ref 194)) := by unfold L2.KOf; k_is
      have x0_T : L2.OexC (L2.KOf KX) 194 := by unfold L2.KOf; refine' K6.oex_mk ?l ?a1 ?a2 ?a3 ?a4; (case l => k_is); (case a1 => k_is); (case a2 => k_is); (case a3 => k_is); (case a4 => k_is)
      have x0_f : L2.XfC (L2.KOf KX) 194 := by unfold L2.KOf; refine' L2.XfC.mk ?a1 ?a2 ?a3 ?a4; (case a1 => k_is); (case a2 => k_is); (case a3 => k_is); (case a4 => k_is)
      have x0_no : PySem.W.findIn (L2.KOf KX) (.ref 194) "index" = some none := by unfold L2.KOf; k_is
      have x0_i : PySem.W.findIn (L2.KOf KX) (.ref 194) "__init__" = some (some (.ref 191)) := by unfold L2.KOf; k_is
      have x0_t : PySem.W.typeIn (L2.KOf KX) (.ref 191) = some (.type "function") := by unfold L2.KOf; k_is
      have x0_m : K2.MF (L2.KOf KX) "__init__" "InvalidLoad.__init__" K3.sILd 191 := by unfold L2.KOf; refine' K6.mf_mk ?l ?h ?kp; (case l => k_is); (case h => k_is); (case kp => k_is)
      have em0 : PySem.W.exmOne (L2.KOf KX) (.ref 194) (.ref 194) = some true := by unfold L2.KOf; refine' K6.exm_mk ?a1 ?a2 ?a3 ?a4; (case a1 => k_is); (case a2 => k_is); (case a3 => k_is); (case a4 => first | rfl | k_is)
      have ns0 : PySem.W.subIn (L2.KOf KX) (.ref 194) (.type "StopIteration") = some false := by unfold L2.KOf; first | rfl | k_is
      have q0 : L2.PropOf (L2.KOf KX) 412 "blocks" 350 349 := by unfold L2.KOf; refine' K6.prop_mk ?a1 ?a2 ?a3 ?a4; (case a1 => k_is); (case a2 => k_is); (case a3 => k_is); (case a4 => k_is)
      have q0_m : K2.MF (L2.KOf KX) "blocks" "Drive.blocks" K2.sGb 349 := by unfold L2.KOf; refine' K6.mf_mk ?l ?h ?kp; (case l => k_is); (case h => k_is); (case kp => k_is)
      have q1 : L2.PropOf (L2.KOf KX) 412 "pages" 358 357 := by unfold L2.KOf; refine' K6.prop_mk ?a1 ?a2 ?a3 ?a4; (case a1 => k_is); (case a2 => k_is); (case a3 => k_is); (case a4 => k_is)
      have q1_m : K2.MF (L2.KOf KX) "pages" "Drive.pages" K2.sGp 357 := by unfold L2.KOf; refine' K6.mf_mk ?l ?h ?kp; (case l => k_is); (case h => k_is); (case kp => k_is)
      have q2 : L2.PropOf (L2.KOf KX) 412 "names" 366 365 := by unfold L2.KOf; refine' K6.prop_mk ?a1 ?a2 ?a3 ?a4; (case a1 => k_is); (case a2 => k_is); (case a3 => k_is); (case a4 => k_is)
      have q2_m : K2.MF (L2.KOf KX) "names" "Drive.names" K2.sGn 365 := by unfold L2.KOf; refine' K6.mf_mk ?l ?h ?kp; (case l => k_is); (case h => k_is); (case kp => k_is)
      have q3 : L2.PropOf (L2.KOf KX) 412 "rows" 374 373 := by unfold L2.KOf; refine' K6.prop_mk ?a1 ?a2 ?a3 ?a4; (case a1 => k_is); (case a2 => k_is); (case a3 => k_is); (case a4 => k_is)
      have q3_m : K2.MF (L2.KOf KX) "rows" "Drive.rows" K2.sGr 373 := by unfold L2.KOf; refine' K6.mf_mk ?l ?h ?kp; (case l => k_is); (case h => k_is); (case kp => k_is)
      have mk0 : K6.DC (L2.KOf KX) "choose" K6.sCho 274 273 := by unfold L2.KOf; refine' K6.dc_mk ?n ?l ?h ?kp; (case n => k_is); (case l => k_is); (case h => k_is); (case kp => k_is)
      have hd0 : PySem.W.codeHdIn (L2.KOf KX) 273 269 = true := by unfold L2.KOf; first | k_is | kernel_rfl
      have nP0 : (L2.KOf KX).lookup 269 = none := by unfold L2.KOf; first | k_is | kernel_rfl
      have mk1 : K6.DC (L2.KOf KX) "_law_seen" _root_.KX.sSee 701 700 := by unfold L2.KOf; refine' K6.dc_mk ?n ?l ?h ?kp; (case n => k_is); (case l => k_is); (case h => k_is); (case kp => k_is)
      have hd1 : PySem.W.codeHdIn (L2.KOf KX) 700 696 = true := by unfold L2.KOf; first | k_is | kernel_rfl
      have nP1 : (L2.KOf KX).lookup 696 = none := by unfold L2.KOf; first | k_is | kernel_rfl
      have s0_ : K6.KF (L2.KOf KX) "stands" KZ.sStd2 572 := by unfold L2.KOf; refine' K6.kf_mk ?n ?l ?h ?hT ?kp; (case n => k_is); (case l => k_is); (case h => k_is); (case hT => k_is); (case kp => k_is)
      have s1_ : K6.KF (L2.KOf KX) "sticks" K2.KQ.sSti 580 := by unfold L2.KOf; refine' K6.kf_mk ?n ?l ?h ?hT ?kp; (case n => k_is); (case l => k_is); (case h => k_is); (case hT => k_is); (case kp => k_is)
      have s2_ : K6.KF (L2.KOf KX) "stick_load" K2.KQ.sStl 588 := by unfold L2.KOf; refine' K6.kf_mk ?n ?l ?h ?hT ?kp; (case n => k_is); (case l => k_is); (case h => k_is); (case hT => k_is); (case kp => k_is)
      have n_tS : PySem.W.nsIn (L2.KOf KX) mainGlobals "START" = some (some (.ref 511)) := by unfold L2.KOf; k_is
      have n_tN : PySem.W.nsIn (L2.KOf KX) mainGlobals "NOTHING_WRITTEN" = some (some (.ref 512)) := by unfold L2.KOf; k_is
      have tpf : KZ.TpF (L2.KOf KX) 511 509 510 512 := by unfold L2.KOf; refine' KZ.tpf_mk ?l1 ?l2 ?l3 ?l4; (case l1 => k_is); (case l2 => k_is); (case l3 => k_is); (case l4 => k_is)
      have d0 : K2.DF (L2.KOf KX) "spread" K2.sSpr 26 := by unfold L2.KOf; refine' K6.df_mk ?n ?l ?h ?kp; (case n => k_is); (case l => k_is); (case h => k_is); (case kp => k_is)
      have d1 : K2.DF (L2.KOf KX) "count_stands" K2.sCnt 31 := by unfold L2.KOf; refine' K6.df_mk ?n ?l ?h ?kp; (case n => k_is); (case l => k_is); (case h => k_is); (case kp => k_is)
      have d2 : K2.DF (L2.KOf KX) "is_integer" K2.sIsI 235 := by unfold L2.KOf; refine' K6.df_mk ?n ?l ?h ?kp; (case n => k_is); (case l => k_is); (case h => k_is); (case kp => k_is)
      have d3 : K2.DF (L2.KOf KX) "is_within" K2.sWit 242 := by unfold L2.KOf; refine' K6.df_mk ?n ?l ?h ?kp; (case n => k_is); (case l => k_is); (case h => k_is); (case kp => k_is)
      have d4 : K2.DF (L2.KOf KX) "is_row" K2.sRow 255 := by unfold L2.KOf; refine' K6.df_mk ?n ?l ?h ?kp; (case n => k_is); (case l => k_is); (case h => k_is); (case kp => k_is)
      have d5 : K2.DF (L2.KOf KX) "check_rows" K2.sChk 262 := by unfold L2.KOf; refine' K6.df_mk ?n ?l ?h ?kp; (case n => k_is); (case l => k_is); (case h => k_is); (case kp => k_is)
      have d6 : K2.DF (L2.KOf KX) "check_sizes" K2.sSiz 307 := by unfold L2.KOf; refine' K6.df_mk ?n ?l ?h ?kp; (case n => k_is); (case l => k_is); (case h => k_is); (case kp => k_is)
      have d7 : K2.DF (L2.KOf KX) "text_of" K2.sTxt 281 := by unfold L2.KOf; refine' K6.df_mk ?n ?l ?h ?kp; (case n => k_is); (case l => k_is); (case h => k_is); (case kp => k_is)
      have d8 : K2.DF (L2.KOf KX) "pick" K6.sPck 267 := by unfold L2.KOf; refine' K6.df_mk ?n ?l ?h ?kp; (case n => k_is); (case l => k_is); (case h => k_is); (case kp => k_is)
      have d9 : K2.DF (L2.KOf KX) "put_page" K6.sPut 494 := by unfold L2.KOf; refine' K6.df_mk ?n ?l ?h ?kp; (case n => k_is); (case l => k_is); (case h => k_is); (case kp => k_is)
      have d10 : K2.DF (L2.KOf KX) "clean_place" K6.sCln 487 := by unfold L2.KOf; refine' K6.df_mk ?n ?l ?h ?kp; (case n => k_is); (case l => k_is); (case h => k_is); (case kp => k_is)
      have d11 : K2.DF (L2.KOf KX) "let_name_die" K6.sDie 477 := by unfold L2.KOf; refine' K6.df_mk ?n ?l ?h ?kp; (case n => k_is); (case l => k_is); (case h => k_is); (case kp => k_is)
      have d12 : K2.DF (L2.KOf KX) "bring_name" K6.sBrg 482 := by unfold L2.KOf; refine' K6.df_mk ?n ?l ?h ?kp; (case n => k_is); (case l => k_is); (case h => k_is); (case kp => k_is)
      have d13 : K2.DF (L2.KOf KX) "play_event" K6.sEvt 470 := by unfold L2.KOf; refine' K6.df_mk ?n ?l ?h ?kp; (case n => k_is); (case l => k_is); (case h => k_is); (case kp => k_is)
      have d14 : K2.DF (L2.KOf KX) "is_name" K6.sNam 247 := by unfold L2.KOf; refine' K6.df_mk ?n ?l ?h ?kp; (case n => k_is); (case l => k_is); (case h => k_is); (case kp => k_is)
      have d15 : K2.DF (L2.KOf KX) "is_event" K6.sIev 456 := by unfold L2.KOf; refine' K6.df_mk ?n ?l ?h ?kp; (case n => k_is); (case l => k_is); (case h => k_is); (case kp => k_is)
      have d16 : K2.DF (L2.KOf KX) "play_load" K6.sLod 463 := by unfold L2.KOf; refine' K6.df_mk ?n ?l ?h ?kp; (case n => k_is); (case l => k_is); (case h => k_is); (case kp => k_is)
      have d17 : K2.DF (L2.KOf KX) "check_drive" K6.sCkd 423 := by unfold L2.KOf; refine' K6.df_mk ?n ?l ?h ?kp; (case n => k_is); (case l => k_is); (case h => k_is); (case kp => k_is)
      have d18 : K2.DF (L2.KOf KX) "steps" K6.sStp 559 := by unfold L2.KOf; refine' K6.df_mk ?n ?l ?h ?kp; (case n => k_is); (case l => k_is); (case h => k_is); (case kp => k_is)
      have d19 : K2.DF (L2.KOf KX) "blocks_of" K6.sBlo 564 := by unfold L2.KOf; refine' K6.df_mk ?n ?l ?h ?kp; (case n => k_is); (case l => k_is); (case h => k_is); (case kp => k_is)
      have d20 : K2.DF (L2.KOf KX) "find_taker" K2.KQ.sTak 501 := by unfold L2.KOf; refine' K6.df_mk ?n ?l ?h ?kp; (case n => k_is); (case l => k_is); (case h => k_is); (case kp => k_is)
      have d21 : K2.DF (L2.KOf KX) "find_stuck" K2.KQ.sStk 508 := by unfold L2.KOf; refine' K6.df_mk ?n ?l ?h ?kp; (case n => k_is); (case l => k_is); (case h => k_is); (case kp => k_is)
      have d22 : K2.DF (L2.KOf KX) "fill_blocks" K2.KQ.sFil 593 := by unfold L2.KOf; refine' K6.df_mk ?n ?l ?h ?kp; (case n => k_is); (case l => k_is); (case h => k_is); (case kp => k_is)
      have d23 : K2.DF (L2.KOf KX) "check_trims" K2.KQ.sCkt 430 := by unfold L2.KOf; refine' K6.df_mk ?n ?l ?h ?kp; (case n => k_is); (case l => k_is); (case h => k_is); (case kp => k_is)
      have d24 : K2.DF (L2.KOf KX) "clean" KZ.sClr 519 := by unfold L2.KOf; refine' K6.df_mk ?n ?l ?h ?kp; (case n => k_is); (case l => k_is); (case h => k_is); (case kp => k_is)
      have d25 : K2.DF (L2.KOf KX) "make_room" KZ.sMkr 526 := by unfold L2.KOf; refine' K6.df_mk ?n ?l ?h ?kp; (case n => k_is); (case l => k_is); (case h => k_is); (case kp => k_is)
      have d26 : K2.DF (L2.KOf KX) "write_page" KZ.sWrp 533 := by unfold L2.KOf; refine' K6.df_mk ?n ?l ?h ?kp; (case n => k_is); (case l => k_is); (case h => k_is); (case kp => k_is)
      have d27 : K2.DF (L2.KOf KX) "let_die" KZ.sLtd 540 := by unfold L2.KOf; refine' K6.df_mk ?n ?l ?h ?kp; (case n => k_is); (case l => k_is); (case h => k_is); (case kp => k_is)
      have d28 : K2.DF (L2.KOf KX) "count_living" KZ.sCli 547 := by unfold L2.KOf; refine' K6.df_mk ?n ?l ?h ?kp; (case n => k_is); (case l => k_is); (case h => k_is); (case kp => k_is)
      have d29 : K2.DF (L2.KOf KX) "find_stands" KZ.sFnd 552 := by unfold L2.KOf; refine' K6.df_mk ?n ?l ?h ?kp; (case n => k_is); (case l => k_is); (case h => k_is); (case kp => k_is)
      have d30 : K2.DF (L2.KOf KX) "_law_cell" K2.sCell 600 := by unfold L2.KOf; refine' K6.df_mk ?n ?l ?h ?kp; (case n => k_is); (case l => k_is); (case h => k_is); (case kp => k_is)
      have d31 : K2.DF (L2.KOf KX) "_law_pool" K2.sPool 607 := by unfold L2.KOf; refine' K6.df_mk ?n ?l ?h ?kp; (case n => k_is); (case l => k_is); (case h => k_is); (case kp => k_is)
      have d32 : K2.DF (L2.KOf KX) "_law_draw" K2.sDraw 614 := by unfold L2.KOf; refine' K6.df_mk ?n ?l ?h ?kp; (case n => k_is); (case l => k_is); (case h => k_is); (case kp => k_is)
      have d33 : K2.DF (L2.KOf KX) "_law_word" K6.sWrd 621 := by unfold L2.KOf; refine' K6.df_mk ?n ?l ?h ?kp; (case n => k_is); (case l => k_is); (case h => k_is); (case kp => k_is)
      have d34 : K2.DF (L2.KOf KX) "_law_tags" K6.sTgs 626 := by unfold L2.KOf; refine' K6.df_mk ?n ?l ?h ?kp; (case n => k_is); (case l => k_is); (case h => k_is); (case kp => k_is)
      have d35 : K2.DF (L2.KOf KX) "_law_shape" K2.sShp 633 := by unfold L2.KOf; refine' K6.df_mk ?n ?l ?h ?kp; (case n => k_is); (case l => k_is); (case h => k_is); (case kp => k_is)
      have d36 : K2.DF (L2.KOf KX) "_law_table" K2.sTab 640 := by unfold L2.KOf; refine' K6.df_mk ?n ?l ?h ?kp; (case n => k_is); (case l => k_is); (case h => k_is); (case kp => k_is)
      have d37 : K2.DF (L2.KOf KX) "_law_made" K2.sMad 647 := by unfold L2.KOf; refine' K6.df_mk ?n ?l ?h ?kp; (case n => k_is); (case l => k_is); (case h => k_is); (case kp => k_is)
      have d38 : K2.DF (L2.KOf KX) "_law_load" K6.sLoa 652 := by unfold L2.KOf; refine' K6.df_mk ?n ?l ?h ?kp; (case n => k_is); (case l => k_is); (case h => k_is); (case kp => k_is)
      have d39 : K2.DF (L2.KOf KX) "_law_outcome" K6.sOut 659 := by unfold L2.KOf; refine' K6.df_mk ?n ?l ?h ?kp; (case n => k_is); (case l => k_is); (case h => k_is); (case kp => k_is)
      have d40 : K2.DF (L2.KOf KX) "_law_tone" _root_.KX.sTon 666 := by unfold L2.KOf; refine' K6.df_mk ?n ?l ?h ?kp; (case n => k_is); (case l => k_is); (case h => k_is); (case kp => k_is)
      have d41 : K2.DF (L2.KOf KX) "_law_idle" _root_.KX.sIdl 673 := by unfold L2.KOf; refine' K6.df_mk ?n ?l ?h ?kp; (case n => k_is); (case l => k_is); (case h => k_is); (case kp => k_is)
      have d42 : K2.DF (L2.KOf KX) "_law_after" _root_.KX.sAft 680 := by unfold L2.KOf; refine' K6.df_mk ?n ?l ?h ?kp; (case n => k_is); (case l => k_is); (case h => k_is); (case kp => k_is)
      have d43 : K2.DF (L2.KOf KX) "_law_zero" _root_.KX.sZer 687 := by unfold L2.KOf; refine' K6.df_mk ?n ?l ?h ?kp; (case n => k_is); (case l => k_is); (case h => k_is); (case kp => k_is)
      have d44 : K2.DF (L2.KOf KX) "_law_least" _root_.KX.sLea 694 := by unfold L2.KOf; refine' K6.df_mk ?n ?l ?h ?kp; (case n => k_is); (case l => k_is); (case h => k_is); (case kp => k_is)
      have d45 : K2.DF (L2.KOf KX) "_law_length" _root_.KX.sLen 708 := by unfold L2.KOf; refine' K6.df_mk ?n ?l ?h ?kp; (case n => k_is); (case l => k_is); (case h => k_is); (case kp => k_is)
      have d46 : K2.DF (L2.KOf KX) "_law_all" _root_.KX.sAll 715 := by unfold L2.KOf; refine' K6.df_mk ?n ?l ?h ?kp; (case n => k_is); (case l => k_is); (case h => k_is); (case kp => k_is)
      have d47 : K2.DF (L2.KOf KX) "_law_right" _root_.KX.sRgt 722 := by unfold L2.KOf; refine' K6.df_mk ?n ?l ?h ?kp; (case n => k_is); (case l => k_is); (case h => k_is); (case kp => k_is)
      have d48 : K2.DF (L2.KOf KX) "law" _root_.KX.sLaw 727 := by unfold L2.KOf; refine' K6.df_mk ?n ?l ?h ?kp; (case n => k_is); (case l => k_is); (case h => k_is); (case kp => k_is)
      have k_lb : ∃ t, PySem.W.nsIn (L2.KOf KX) mainGlobals "LEAST_BLOCKS" = some (some (.int 3 t)) := by unfold L2.KOf; refine' K6.ct_mk ?n; (case n => k_is)
      have k_mb : ∃ t, PySem.W.nsIn (L2.KOf KX) mainGlobals "MOST_BLOCKS" = some (some (.int 6 t)) := by unfold L2.KOf; refine' K6.ct_mk ?n; (case n => k_is)
      have k_lp : ∃ t, PySem.W.nsIn (L2.KOf KX) mainGlobals "LEAST_PAGES" = some (some (.int 2 t)) := by unfold L2.KOf; refine' K6.ct_mk ?n; (case n => k_is)
      have k_mp : ∃ t, PySem.W.nsIn (L2.KOf KX) mainGlobals "MOST_PAGES" = some (some (.int 5 t)) := by unfold L2.KOf; refine' K6.ct_mk ?n; (case n => k_is)
      have k_mr : ∃ t, PySem.W.nsIn (L2.KOf KX) mainGlobals "MOST_ROWS" = some (some (.int 4 t)) := by unfold L2.KOf; refine' K6.ct_mk ?n; (case n => k_is)
      have k_ms : ∃ t, PySem.W.nsIn (L2.KOf KX) mainGlobals "MOST_STANDS" = some (some (.int 2000 t)) := by unfold L2.KOf; refine' K6.ct_mk ?n; (case n => k_is)
      have k_wh : ∃ t, PySem.W.nsIn (L2.KOf KX) mainGlobals "WORDS_OF_HEAD" = some (some (.int 7 t)) := by unfold L2.KOf; refine' K6.ct_mk ?n; (case n => k_is)
      have k_md : ∃ t, PySem.W.nsIn (L2.KOf KX) mainGlobals "MOST_DIGITS" = some (some (.int 2 t)) := by unfold L2.KOf; refine' K6.ct_mk ?n; (case n => k_is)
      have k_me : ∃ t, PySem.W.nsIn (L2.KOf KX) mainGlobals "MOST_EVENTS" = some (some (.int 2000 t)) := by unfold L2.KOf; refine' K6.ct_mk ?n; (case n => k_is)
      have k_mc : ∃ t, PySem.W.nsIn (L2.KOf KX) mainGlobals "MOST_CHARACTERS" = some (some (.int 8 t)) := by unfold L2.KOf; refine' K6.ct_mk ?n; (case n => k_is)
      have k_wr : ∃ t, PySem.W.nsIn (L2.KOf KX) mainGlobals "WRITE" = some (some (.str (Str.ofString "write") t)) := by unfold L2.KOf; refine' K6.cs_mk ?n; (case n => k_is)
      have k_tr : ∃ t, PySem.W.nsIn (L2.KOf KX) mainGlobals "TRIM" = some (some (.str (Str.ofString "trim") t)) := by unfold L2.KOf; refine' K6.cs_mk ?n; (case n => k_is)
      have k_le : ∃ t, PySem.W.nsIn (L2.KOf KX) mainGlobals "LETTERS" = some (some (.str (Str.ofString "abcdefghijklmnopqrstuvwxyz") t)) := by unfold L2.KOf; refine' K6.cs_mk ?n; (case n => k_is)
      have k_di : ∃ t, PySem.W.nsIn (L2.KOf KX) mainGlobals "DIGITS" = some (some (.str (Str.ofString "0123456789") t)) := by unfold L2.KOf; refine' K6.cs_mk ?n; (case n => k_is)
      have k_sc : ∃ t, PySem.W.nsIn (L2.KOf KX) mainGlobals "SCRATCH" = some (some (.str (Str.ofString "s") t)) := by unfold L2.KOf; refine' K6.cs_mk ?n; (case n => k_is)
      have z_len : PySem.W.nsIn (L2.KOf KX) mainGlobals "len" = some none := by unfold L2.KOf; k_is
      have z_int : PySem.W.nsIn (L2.KOf KX) mainGlobals "int" = some none := by unfold L2.KOf; k_is
      have z_abs : PySem.W.nsIn (L2.KOf KX) mainGlobals "abs" = some none := by unfold L2.KOf; k_is
      have z_repr : PySem.W.nsIn (L2.KOf KX) mainGlobals "repr" = some none := by unfold L2.KOf; k_is
      have z_isi : PySem.W.nsIn (L2.KOf KX) mainGlobals "isinstance" = some none := by unfold L2.KOf; k_is
      have z_range : PySem.W.nsIn (L2.KOf KX) mainGlobals "range" = some none := by unfold L2.KOf; k_is
      have z_max : PySem.W.nsIn (L2.KOf KX) mainGlobals "max" = some none := by unfold L2.KOf; k_is
      have z_min : PySem.W.nsIn (L2.KOf KX) mainGlobals "min" = some none := by unfold L2.KOf; k_is
      have z_all : PySem.W.nsIn (L2.KOf KX) mainGlobals "all" = some none := by unfold L2.KOf; k_is
      have z_sum : PySem.W.nsIn (L2.KOf KX) mainGlobals "sum" = some none := by unfold L2.KOf; k_is
      have z_enm : PySem.W.nsIn (L2.KOf KX) mainGlobals "enumerate" = some none := by unfold L2.KOf; k_is
      have z_tup : PySem.W.nsIn (L2.KOf KX) mainGlobals "tuple" = some none := by unfold L2.KOf; k_is
      have z_boo : PySem.W.nsIn (L2.KOf KX) mainGlobals "bool" = some none := by unfold L2.KOf; k_is
      have z_str : PySem.W.nsIn (L2.KOf KX) mainGlobals "str" = some none := by unfold L2.KOf; k_is
      have z_list : PySem.W.nsIn (L2.KOf KX) mainGlobals "list" = some none := by unfold L2.KOf; k_is
      have z_set : PySem.W.nsIn (L2.KOf KX) mainGlobals "set" = some none := by unfold L2.KOf; k_is
      have z_sorted : PySem.W.nsIn (L2.KOf KX) mainGlobals "sorted" = some none := by unfold L2.KOf; k_is
      exact ⟨nC, nW, hW, hT, hD, hM, hI, nP, hPC, hMP, hIP, x0_n, x0_T, x0_f, x0_no, x0_i, x0_t, x0_m, ⟨em0⟩, ns0, q0, q0_m, q1, q1_m, q2, q2_m, q3, q3_m, mk0, hd0, nP0, mk1, hd1, nP1, s0_, s1_, s2_, n_tS, n_tN, tpf, d0, d1, d2, d3, d4, d5, d6, d7, d8, d9, d10, d11, d12, d13, d14, d15, d16, d17, d18, d19, d20, d21, d22, d23, d24, d25, d26, d27, d28, d29, d30, d31, d32, d33, d34, d35, d36, d37, d38, d39, d40, d41, d42, d43, d44, d45, d46, d47, d48, k_lb, k_mb, k_lp, k_mp, k_mr, k_ms, k_wh, k_md, k_me, k_mc, k_wr, k_tr, k_le, k_di, k_sc, z_len, z_int, z_abs, z_repr, z_isi, z_range, z_max, z_min, z_all, z_sum, z_enm, z_tup, z_boo, z_str, z_list, z_set, z_sorted⟩
    exact A.law KX G hmg (hT8 _ (by decide)) (hT8 _ (by decide)) (by decide)
