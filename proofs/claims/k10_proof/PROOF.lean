import PyProof.Rows.All
import Wide.All
import OpenK.AllK
import Wide.FinOn
import HandS.Base
import HandS.Call
import HandS.List
import HandS.Comp
import HandS.Iter
import HandS.Text
import HandS.Ends
import HandS.Words
import HandS.WordsExc
import HandS.Wide
import HandS.FStr
import HandS.IsInst
import HandS.Defaults
import HandS.MakeKwOnly
import HandS.OwnEq
import HandS.TupAny
import HandS.Style
import HandS.Conv
import HandS.Star
import HandS.Dict
import HandS.More
import HandS.Exc
import HandS.ExcInit
import HandS.ExcIs
import HandS.ExcField
import HandS.DeepEq
import HandS.Deep
import HandS.Lambda
import HandS.EndTab
import PyProof.EqAt
import PyProof.EqKinds
import PyProof.TupleCall
import PyProof.ReprRoads
import PyProof.LongRange
import PyProof.ListRange
import PyProof.NeKinds
import KE.DataMinMax
import HandS.StrMore
import HandS.Codes
import KE.IntTextLaws
import HandS.ClsMeth
import PyProof.P3In
import KE.KDictPairs
import PyProof.EnumMake
import PyProof.TupleIter
import KE.GoesMore
import HandS.Walk
import HandS.ExcOwn
import HandS.TryOnly
import HandS.TryMany
import HandS.ExcCtx
import HandS.Hot
import HandS.HotCalls
import HandS.SuiteRaise
import HandS.RaiseFrom
import HandS.ExcInitHot
import KE.KTryMore
import HandS.MakeKw
import HandS.ReplaceLit
import HandS.ReplaceDef
import HandS.ReplaceList
import PySem.Challenge.RW_turnedtunes_k10_the_first_wrong_line_of
set_option Elab.async false
set_option linter.all false
set_option maxRecDepth 100000
set_option maxHeartbeats 4000000
/-! Rules of our own over the hand layer: powers of great ints, repr of data, own unary operators, promises that know that no repr is under way. -/
namespace TT
open PySem PySem.Spec PyProof.Rows L2
section
variable {X : Cx}
/-- a ** b of any size that fits -/
theorem op_powW : OpR X (binaryOp .Pow) (rI (fun i j => 0 ≤ j ∧ (Builtin.Int.intBits i : Int) * j ≤ 2 ^ 27) fun i j => .int (i ^ j.toNat)) :=
  opI fun _ _ _ _ _ _ _ hc q => pow_int hc.1 hc.2 q

/-- repr(x), x data without dicts -/
def rRepr (K : PySem.W.Frag) : List V → Hp → VK → Prop := fun xs H Q => ∃ (x : V) (d : PyData), xs = [x] ∧ Dp K H x d ∧ d.showable = true ∧ d.hasDict = false ∧ d.depth ≤ 60 ∧ d.shown.length ≤ sizeLine ∧ Q (.str d.shown) H
theorem call_repr (hg : X.A.guards = some []) (hu : X.A.units + 64 < cLine) : CallR X (.builtin "repr") (rRepr X.K) := by
  intro pins s σ H xs us Q I r h
  obtain ⟨x, d, rfl, hd, hs, hn, hdep, hz, q⟩ := h
  obtain ⟨u, rfl, rx⟩ : ∃ u, us = [u] ∧ RelV x u := by
    cases r with
    | cons a b => cases b; exact ⟨_, rfl, a⟩
  obtain ⟨as, rd⟩ := Dp.reads I d x u hd rx
  have fin : ∀ h' tk u', (∀ b o, s.heap.get? b = some o → h'.get? b = some o) → EP X pins σ Q (.str d.shown u') { s with heap := h', toks := tk } :=
    fun h' tk u' hk => ⟨.str d.shown, H, I.kept hk, ⟨_, rfl⟩, q⟩
  cases hd with
  | non => obtain rfl := rx; exact PySem.P.repr_of_none (fin s.heap _ _ fun _ _ e => e)
  | bl b => obtain rfl := rx; exact PySem.P.repr_of_bool (fin s.heap _ _ fun _ _ e => e)
  | int i => obtain ⟨t, rfl⟩ := rx; exact PySem.P.repr_of_int (by simpa [PyData.showable] using hs) (fin s.heap _ _ fun _ _ e => e)
  | str y => obtain ⟨t, rfl⟩ := rx; exact PySem.P.repr_of_str (fin s.heap _ _ fun _ _ e => e) hz
  | lst h1 h2 =>
    obtain rfl := rx
    exact repr_of_reads' rd hs (PyData.noDict_hsm hn) hg (by omega) (fun _ _ e => e) (fun h' u tk hk => fin h' tk u hk) hz
  | tup h1 h2 =>
    obtain rfl := rx
    exact repr_of_reads' rd hs (PyData.noDict_hsm hn) hg (by omega) (fun _ _ e => e) (fun h' u tk hk => fin h' tk u hk) hz
end

/-! ### promises that know that no repr is under way -/
/-- the def at f keeps sp wherever it is called while no repr runs -/
structure GOk (P : Program) (w : World) (K : PySem.W.Frag) (mg : Str → Option Value) (base : Heap) (CX : CXT) (k : Nat) (f : Addr) (fd : FuncData) (ps : List Str) (sp : Sp) : Prop where
  size : ∀ vs H Q E, sp vs H Q E → vs.length = ps.length
  go : ∀ (A : Around) (outer : List Env) (s : Shared) (H : Hp) (args : Args) (us : List Value) (vs : List V) (Q : VK) (E : XK), A.guards = some [] → Room k A →
    Env0 P w K mg base A outer s H → BindsTo s fd args (ps.zip us) → Vals vs us → sp vs H Q E → codeAny (model P w) A (.call (.ref f) args) (CR CX outer P w H s Q E) s

section
variable {P : Program} {w : World} {K : PySem.W.Frag} {mg : Str → Option Value} {base : Heap} {CX : CXT} {k : Nat} {f : Addr} {ps : List Str} {sp : Sp}
theorem GOk.mono {j : Nat} {fd : FuncData} (F : GOk P w K mg base CX j f fd ps sp) (h : j ≤ k) : GOk P w K mg base CX k f fd ps sp :=
  { size := F.size, go := fun A outer s H args us vs Q E g r => F.go A outer s H args us vs Q E g (r.mono h) }
theorem GOk.weak {sp' : Sp} {fd : FuncData} (F : GOk P w K mg base CX k f fd ps sp) (h : ∀ vs H Q E, sp' vs H Q E → sp vs H Q E) : GOk P w K mg base CX k f fd ps sp' :=
  { size := fun vs H Q E q => F.size vs H Q E (h vs H Q E q), go := fun A outer s H args us vs Q E g r e b v q => F.go A outer s H args us vs Q E g r e b v (h vs H Q E q) }
/-- any promise of the layer is one -/
theorem GOk.of {fd : FuncData} (F : FnOk P w K mg base CX k f fd ps sp) : GOk P w K mg base CX k f fd ps sp :=
  { size := F.len, go := fun A outer s H args us vs Q E _ => F.run A outer s H args us vs Q E }
/-- such a def by its body -/
theorem g_of {name qual : Str} {params : Arguments} {body : List Stmt} {scope : Scope} {dV kV doc pm cdv ct oc : Value} {an od : Option Addr} {osl : Array (Option Value)} {N : List Str}
    (lk : K.lookup f = some ⟨oc, od, .func (PySem.W.fnOf name qual params body scope dV kV doc pm an cdv ct), osl⟩) (hcd : PySem.W.codeIn K cdv qual = true) (S : FnScope N ps scope)
    (size : ∀ vs H Q E, sp vs H Q E → vs.length = ps.length)
    (hb : ∀ (A : Around) (outer : List Env) (s : Shared) (H : Hp) (vs : List V) (Q : VK) (E : XK), A.guards = some [] → Room k (A.deeper (envOfC qual scope s.heap.objs.size f cdv)) → sp vs H Q E →
      ∃ t, PSs (cxOf CX P w K mg base N qual scope f cdv A outer s H E) body t ∧ t { nx := fun _ H1 => Q .non H1, rt := Q } (start N vs) H) :
    GOk P w K mg base CX (k + 1) f (PySem.W.fnOf name qual params body scope dV kV doc pm an cdv ct) ps sp := by
  refine { size := size, go := fun A outer s H args us vs Q E g hr e0 bnd rv hsp => ?_ }
  have old : ∀ b o, base.get? b = some o → s.heap.get? b = some o := fun b o e => (e0.bs b o e).1
  have kinds : ∀ y ∈ ps.zip us, scope.names.lookup y.1 = some .local ∨ (scope.names.lookup y.1 = some .cell ∧ ((cellsFrom (s.heap.objs.size + 1) scope.names []).lookup y.1).isSome = true) := by
    intro y hy
    obtain ⟨n, v⟩ := y
    refine (S.par n (List.of_mem_zip hy).1).imp id fun q => ⟨q, ?_⟩
    exact PySem.W.cellsFrom_some _ _ _ (.inl q)
  refine codeAny_call_function hr.depth (e0.mod.kin.keeps old _ _ lk) rfl S.co S.gen rfl (PySem.W.codeRec_of (e0.mod.kin.keeps old) hcd) (bnd _ _ _ _ (wpAny_newFunctionEnv_cells S.kind kinds fun env he s1 x => ?_))
  subst he
  refine ⟨(e0.mod.nolimit.keeps old).keeps x.toInCall.keep, codeAny_func ?_⟩
  obtain ⟨t, ht, hq⟩ := hb A outer s H vs Q E g (hr.deeper _) hsp
  have J : Inv (cxOf CX P w K mg base N qual scope f cdv A outer s H E) [] (start N vs) H s1 := inv_start S hr.hd e0 (size _ _ _ _ hsp) rv x
  refine wpAny_mono (ht.run [] s1 (start N vs) H _ J hq) (fun fl s2 hs => ?_) fun _ _ z => z
  cases fl with
  | ret u => obtain ⟨v, σ1, H1, I1, r1, q1⟩ := hs; exact ⟨v, H1, I1.os, I1.bare, I1.base, I1.hok, r1, q1⟩
  | next => obtain ⟨σ1, H1, I1, q1⟩ := hs; exact ⟨V.non, H1, I1.os, I1.bare, I1.base, I1.hok, rfl, q1⟩
  | brk => obtain ⟨_, _, _, z⟩ := hs; exact z.elim
  | cont => obtain ⟨_, _, _, z⟩ := hs; exact z.elim
end

/-- a def of the text that nothing leaves but by return -/
theorem okG {P : Program} {w : World} {K : PySem.W.Frag} {mg : Str → Option Value} {base : Heap} {x qual : Str} {st : Stmt} {f : Addr} {fd : FuncData} {N ps : List Str} {k : Nat} {sp : Sp} (F : Fun K x qual st f fd) (S : FnScope N ps (defScope st))
    (size : ∀ vs H Q E, sp vs H Q E → vs.length = ps.length)
    (hb : ∀ (cdv : Value) (A : Around) (outer : List Env) (s : Shared) (H : Hp) (vs : List V) (Q : VK) (E : XK), A.guards = some [] → Room k (A.deeper (envOfC qual (defScope st) s.heap.objs.size f cdv)) → sp vs H Q E →
      ∃ t, PSs (cxOf CX0 P w K mg base N qual (defScope st) f cdv A outer s H E).nox (defBody st) t ∧ t { nx := fun _ H1 => Q .non H1, rt := Q } (start N vs) H) : GOk P w K mg base CX0 (k + 1) f fd ps sp := by
  obtain ⟨oc, od, kV, doc, pm, an, cdv, ct, osl, rfl, lk, hcd⟩ := F.ex
  refine g_of lk hcd S size fun A outer s H vs Q E g hr hsp => ?_
  obtain ⟨t, h, q⟩ := hb cdv A outer s H vs Q E g hr hsp
  exact ⟨t, h.nox, q⟩
section
variable {X : Cx} {CX : CXT} {k : Nat} {f : Addr} {fd : FuncData} {ps : List Str} {sp : Sp} {dvs : List V} {ds : List Value} {E : XK} {x : Str} {p pos : Pos} {e : Expr} {es : List Expr} {t : TA}
theorem run_g {pins : List (Addr × Obj)} {σ : L2.St} {H : Hp} {s : Shared} {Q : VK} {us : List Value} {vs : List V} (F : GOk X.prog X.w X.K X.mg X.base CX k f fd ps sp) (g : X.A.guards = some []) (hr : Room k X.A)
    (hb : Binds X.K fd ps ds) (hd : Vals dvs ds) (hx : Passes CX X E) (I : Inv X pins σ H s) (r : Vals vs us) (h : sp (vs ++ dvs) H Q E) : wpAny (model X.prog X.w) X.A (call (.ref f) us) (EP X pins σ Q) X.xe s := by
  have r2 := r.append hd
  have n : (us ++ ds).length = ps.length := r2.length ▸ F.size _ _ _ _ h
  refine wpAny_call (codeAny_mono (F.go X.A X.stack s H ⟨us, []⟩ _ _ Q E g hr I.env0 (hb s us I.kIn n) r2 h) fun res s1 z => ?_)
  match res, z with
  | .error e, z => exact hx pins σ H s e s1 I z
  | .ok (.ret u), z => exact I.after z
  | .ok .next, z => exact z.elim
  | .ok .brk, z => exact z.elim
  | .ok .cont, z => exact z.elim
/-- f(e, ..) of such a def -/
theorem pe_callG (F : GOk X.prog X.w X.K X.mg X.base CX k f fd ps sp) (g : X.A.guards = some []) (hr : Room k X.A) (hg : Gl X x) (hm : X.mg x = some (.ref f)) (hk : PySem.W.keepIn X.K (.ref f) = true)
    (hb : Binds X.K fd ps ds) (hd : Vals dvs ds) (hx : Passes CX X E) (ha : PA X (e :: es) t) (hdb : (x == ("__debug__" : Str)) = false := by decide)
    (he : starEach (e :: es) X.env = (false, eval e X.env) :: starEach es X.env := by rfl) (hpl : (backTo pos (starEach es X.env)).any (·.1) = false := by rfl) : PE X (.Call (.Name x p) (e :: es) [] pos) (tCall sp dvs E t) := by
  constructor
  intro pins s σ H Q I h
  exact wpAny_Call_Name_kw (ld_glob I hg hm (PySem.W.callWith_K (h₀ := X.base) I.ok.mod.kin hk (thn (ha.run pos pins s σ H _ I h) fun us s1 ⟨vs, H1, I1, r, q⟩ => ⟨I1.kIn, run_g F g hr hb hd hx I1 r q⟩) he hpl) hdb)

/-- ~x of an instance of an own class -/
theorem un_own {C : Addr} (F : FnOk X.prog X.w X.K X.mg X.base CX k f fd ps sp) (hr : Room k X.A) (hb : Binds X.K fd ps []) (hx : Passes CX X E)
    (hs : PySem.W.findIn X.K (.ref C) "__invert__" = some (some (.ref f))) (hf : PySem.W.isFn X.K (.ref f) = true) :
    UnR X (unaryOp .Invert) (fun x H Q => ∃ a dx fs, x = .ref a ∧ H a = some (.ins C dx fs) ∧ sp [.ref a] H Q E) := by
  intro pins s σ H x v Q I rx h
  obtain ⟨a, dx, fs, rfl, ha, hq⟩ := h
  obtain rfl : v = Value.ref a := rx
  obtain ⟨mA, O, _⟩ := ins_get I.hok ha
  obtain ⟨od, J, _⟩ := O.look
  obtain ⟨m, hF⟩ := I.fr
  exact PySem.W.ksp_inv hF I.ok.mod.kin J hs hf (run_fn (us := [.ref a]) (vs := [.ref a]) (dvs := []) (ds := []) F hr hb .nil hx I (.cons rfl .nil) hq)
end

/-! ### the end of a law's row for such a promise -/
/-- the script alone is tracked: as a known list, or not at all where it is an object of the module -/
def seen (a : Addr) (ob : Obj) (ns : List Int) (own : Bool) : Hp := fun b => if own = false ∧ b = a then some (.frz ob (.lst (ns.map V.int))) else none
theorem seen_own {a : Addr} {ob : Obj} {ns : List Int} (b : Addr) : seen a ob ns true b = none := if_neg fun z => nomatch z.1
theorem seen_at {a : Addr} {ob : Obj} {ns : List Int} : seen a ob ns false a = some (.frz ob (.lst (ns.map V.int))) := if_pos ⟨rfl, rfl⟩
theorem seen_ne {a b : Addr} {ob : Obj} {ns : List Int} {o : Bool} (h : b ≠ a) : seen a ob ns o b = none := if_neg fun z => h z.2
theorem run_law {P : Program} {w : World} {K : PySem.W.Frag} {mg mb : Str → Option Value} {CX : CXT} {k : Nat} {fa a : Addr} {fd : FuncData} {x : Str} {sp : Sp} {s : Shared} {vs : List Value} {ns : List Int}
    (KX : K.In s.heap) (hns : s.heap.Ns mainGlobals mg) (hb : s.heap.Ns builtinsNs mb) (hbb : ∀ x : Str, x ≠ "__name__" → mb x = bootBuiltins x) (lim : s.heap.NoLimit) (hg : s.gens = #[])
    (ha : s.heap.get? a = some { cls := .type "list", data := .seq vs.toArray }) (hi : IntsAre vs ns) (hl : ns.length ≤ sizeLine) (hr : Room k callerA)
    (F : ∀ base : Heap, K.In base → base.Ns mainGlobals mg → GOk P w K mg base CX k fa fd [x] sp) (bnd : ∀ (s : Shared) (u : Value), BindsTo s fd ⟨[u], []⟩ [(x, u)])
    (hsp : ∀ H : Hp, SqL K H a (ns.map V.int) → sp [.ref a] H (fun v _ => v = .bl true) fun _ _ _ => False) (noX : ∀ H e s1, CX [] H s (fun _ _ _ => False) e s1 → False) :
    codeAny (model P w) callerA (.call (.ref fa) ⟨[.ref a], []⟩) (fun r s1 => r = .ok (.ret (.bool true)) ∧ OldK s.heap s1.heap ∧ s1.os = s.os ∧ AllBare s1.gens) s := by
  have rv := vals_ints hi
  obtain ⟨own, hS, hT, hK⟩ : ∃ own, SqL K (seen a { cls := .type "list", data := .seq vs.toArray } ns own) a (ns.map V.int) ∧ HOk P w (seen a { cls := .type "list", data := .seq vs.toArray } ns own) s.heap ∧
      (∀ b o, K.lookup b = some o → seen a { cls := .type "list", data := .seq vs.toArray } ns own b = none) := by
    cases hk : K.lookup a with
    | some o =>
      have e := (KX a o hk).symm.trans ha
      cases e
      refine ⟨true, .inr ⟨_, vs.toArray, _, hk, rfl, rfl, rfl, ?_, by simpa using rv⟩, fun b u z => ?_, fun b _ _ => seen_own b⟩
      · rw [List.size_toArray, hi.length]; exact hl
      · rw [seen_own] at z; cases z
    | none =>
      refine ⟨false, .inl (.inr ⟨_, seen_at⟩), fun b u z => ?_, fun b o hb => seen_ne fun e => ?_⟩
      · by_cases h : b = a
        · subst h
          rw [seen_at] at z; cases z
          exact ⟨ha, by rw [List.length_map]; exact hl, vs, _, rv, ha⟩
        · rw [seen_ne h] at z; cases z
      · subst e; rw [hk] at hb; cases hb
  generalize hH : seen a { cls := .type "list", data := .seq vs.toArray } ns own = H at hS hT hK
  have only : ∀ b u, H b = some u → b = a ∧ u = .frz { cls := .type "list", data := .seq vs.toArray } (.lst (ns.map V.int)) := fun b u z => by
    subst hH
    by_cases h : b = a
    · subst h
      cases own with
      | true => rw [seen_own] at z; cases z
      | false => rw [seen_at] at z; exact ⟨rfl, (Option.some.inj z).symm⟩
    · rw [seen_ne h] at z; cases z
  have free : ∀ {b : Addr} {o : Obj} {es : Array DictEntry} {ep : Nat}, s.heap.get? b = some o → o.data = .dict es ep → H b = none := fun {b o es ep} e d => by
    cases q : H b with
    | none => rfl
    | some u =>
      obtain ⟨rfl, _⟩ := only b u q
      have e' := e.symm.trans ha
      cases e'
      have d' : Data.seq vs.toArray _ = Data.dict es ep := d
      cases d'
  have ns' : ∀ {b : Addr} {m : Str → Option Value}, s.heap.Ns b m → (hidT s.heap H).Ns b m := fun {b m} n => by
    obtain ⟨o, es, ep, e, d, r⟩ := n
    exact ⟨o, es, ep, hidT_get e (free e d), d, r⟩
  have inK : K.In (hidT s.heap H) := fun b o e => hidT_get (KX b o e) (hK b o e)
  obtain ⟨mc, l1, l2⟩ := lim
  have e0 : Env0 P w K mg (hidT s.heap H) callerA [] s H :=
    { frames := rfl, mod := ⟨inK, ns' hns, ⟨mb, ns' hb, hbb⟩, ⟨mc, ns' l1, l2⟩⟩, bs := fun b o e => of_hidT e, bsz := Nat.le_of_eq (hidT_size _ _), funs := trivial, frf := fun b z => absurd (show b ∈ ([] : List Addr) from z) List.not_mem_nil, hok := hT, bare := .of_eq hg }
  refine codeAny_mono ((F _ inK (ns' hns)).go callerA [] s H ⟨[.ref a], []⟩ [.ref a] [.ref a] _ _ rfl hr e0 (bnd s (.ref a)) (.cons rfl .nil) (hsp H hS)) fun r s1 z => ?_
  match r, z with
  | .error e, z => exact (noX H e s1 z).elim
  | .ok .next, z => exact z.elim
  | .ok .brk, z => exact z.elim
  | .ok .cont, z => exact z.elim
  | .ok (.ret u), z =>
    obtain ⟨v, H1, os, bare, un, hok, r1, q⟩ := z
    subst q
    obtain rfl : u = Value.bool true := r1
    refine ⟨rfl, OldK.of_keep fun b o e => ?_, os, bare⟩
    cases q : H b with
    | none => exact un.keep b o e q (fun z => absurd (show b ∈ ([] : List Addr) from z) List.not_mem_nil) List.not_mem_nil
    | some u =>
      obtain ⟨rfl, rfl⟩ := only b u q
      obtain ⟨e1, _⟩ := hT _ _ q
      obtain ⟨e2, _⟩ := hok _ _ (un.frzs _ _ _ q)
      rw [e] at e1; cases e1
      exact e2
theorem walk_g {l : PySem.W.OpenLaw} {n k : Nat} {q : Program} {loose : List Str} {XP : (Str → Option Value) → Heap → Prop} {YP : World → Heap → Prop} {d : DefRec} {K : Params → PySem.W.Frag} {CX : CXT} {sp : PySem.W.Frag → Sp} {x : Str}
    (hn : l.most = some n) (hn2 : n ≤ sizeLine) (hdf : d.params.defaults = []) (hr : Room k callerA) (hY : ∀ (w : World) (h : Heap), YP w h → (K w.params).In h)
    (F : ∀ (w : World) (mg : Str → Option Value) (fa : Addr) (h : Heap), (K w.params).In h → h.Ns mainGlobals mg → mg d.name = some (.ref fa) → ∃ fd : FuncData, (∀ (s : Shared) (u : Value), BindsTo s fd ⟨[u], []⟩ [(x, u)]) ∧
        ∀ base : Heap, (K w.params).In base → base.Ns mainGlobals mg → GOk l.prog w (K w.params) mg base CX k fa fd [x] (sp (K w.params)))
    (hsp : ∀ (K : PySem.W.Frag) (H : Hp) (a : Addr) (ns : List Int), ns.length ≤ n → SqL K H a (ns.map V.int) → sp K [.ref a] H (fun v _ => v = .bl true) fun _ _ _ => False)
    (noX : ∀ (H : Hp) (s : Shared) (e : Value) (s1 : Shared), CX [] H s (fun _ _ _ => False) e s1 → False) : PySem.W.WalkO q loose XP YP l.row.toRowW d [] (fun f vs => PySem.call f vs) :=
  Att.attach_call hn hdf fun w s₀ s₁ mg mb fa o pm cd doc a vs ns G Y ho hd hcd hmg hobj hints hlen hg => by
    obtain ⟨fd, hb, hF⟩ := F w mg fa _ (hY w _ Y) G.T.g hmg
    exact run_law (hY w _ Y) G.T.g G.T.b G.T.builtins G.T.nolimit hg hobj hints (Nat.le_trans hlen hn2) hr hF hb (fun H hS => hsp _ H a ns hlen hS) fun H e s1 => noX H s₁ e s1
end TT

set_option Elab.async false
set_option linter.all false
set_option maxRecDepth 100000
set_option maxHeartbeats 4000000
/-! Errors of own classes as values: made, kept, asked (isinstance, their fields). -/
namespace TT
open PySem PySem.Spec PyProof.Rows L2
/-- at a stands an error of the class at C whose own dict holds fs -/
def Err (H : Hp) (a C : Addr) (fs : List (Str × V)) : Prop := ∃ d, H a = some (exo a C (some d)) ∧ H d = some (exd d fs)
section
variable {X : Cx}
/-- C(e, ..): the error stays with us -/
def tMkX (C : Addr) (sp : Sp) (dvs : List V) (ta : TA) : TE := fun σ H Q => ta σ H fun vs H1 => vs.length ≤ 1000 ∧ ∀ a, H1 a = none → sp (.ref a :: (vs ++ dvs)) (upd H1 a (exo a C none)) (fun v H2 => v = .non ∧ Q (.ref a) H2) fun _ _ _ => False
theorem pe_mkX {CX : CXT} {x : Str} {C fI : Addr} {k : Nat} {fd : FuncData} {ps : List Str} {sp : Sp} {ds : List Value} {dvs : List V} {e : Expr} {es : List Expr} {ta : TA} {p pos : Pos}
    (T : OexC X.K C) (iC : PySem.W.findIn X.K (.ref C) "__init__" = some (some (.ref fI))) (tI : PySem.W.typeIn X.K (.ref fI) = some (.type "function")) (F1 : FnOk X.prog X.w X.K X.mg X.base CX k fI fd ps sp) (hr : Room (k + 1) X.A)
    (hb : Binds X.K fd ps ds) (hd : Vals dvs ds) (hx : Passes CX X fun _ _ _ => False) (hg : Gl X x) (hm : X.mg x = some (.ref C)) (ha : PA X (e :: es) ta) (hdb : (x == ("__debug__" : Str)) = false := by decide)
    (he : starEach (e :: es) X.env = (false, eval e X.env) :: starEach es X.env := by rfl) (hpl : (backTo pos (starEach es X.env)).any (·.1) = false := by rfl) : PE X (.Call (.Name x p) (e :: es) [] pos) (tMkX C sp dvs ta) := by
  constructor
  intro pins s σ H Q I h
  obtain ⟨_, _, _, _, bm, _, _, _, _, _, _, _, _, _, _, hC, hbm⟩ := T.cls
  refine wpAny_Call_Name_kw (ld_glob I hg hm (PySem.W.callWith_K (h₀ := X.base) I.ok.mod.kin T.kC (thn (ha.run pos pins s σ H _ I h) fun us s1 w => ?_) he hpl) hdb)
  obtain ⟨vs, H1, I1, r1, hz, q1⟩ := w
  refine ⟨I1.kIn, ?_⟩
  obtain ⟨hp, g, dr, tk, os⟩ := s1
  have nn : hp.objs.size ≤ hp.objs.size + 1 := Nat.le_succ _
  have fr : H1 (hp.objs.size + 1) = none := I1.hok.fresh nn
  have q2 := q1 _ fr
  have keep : ∀ b o, hp.get? b = some o → ((hp.push (PySem.W.kdv_tup us)).push (PySem.HandSPX.excO C hp.objs.size)).get? b = some o := fun b o z => Heap.get?_push_of_some _ (Heap.get?_push_of_some _ z)
  have here : ((hp.push (PySem.W.kdv_tup us)).push (PySem.HandSPX.excO C hp.objs.size)).get? (hp.objs.size + 1) = some (PySem.HandSPX.excO C hp.objs.size) := by heap_get
  have I2 := I1.laid (t' := tk) (a := hp.objs.size + 1) (o := exo (hp.objs.size + 1) C none) keep nn (exo_ok here)
  have r2 : Vals (V.ref (hp.objs.size + 1) :: (vs ++ dvs)) (Value.ref (hp.objs.size + 1) :: us ++ ds) := .cons rfl (r1.append hd)
  have n1 : (Value.ref (hp.objs.size + 1) :: us ++ ds).length = ps.length := r2.length ▸ F1.len _ _ _ _ q2
  have n2 : us.length ≤ sizeLine := by
    have sl : sizeLine = 16777216 := sizeLine_eq
    have := Paired.length r1
    omega
  have run := F1.run _ X.stack _ _ ⟨Value.ref (hp.objs.size + 1) :: us, []⟩ _ _ _ (fun _ _ _ => False) (hr.make C us []) (I2.env0.make C us []) (hb _ (Value.ref (hp.objs.size + 1) :: us) I2.kIn n1) r2 q2
  refine wpAny_call (PySem.HandSPX.call_own F.excBase_ValueError (fun Y => PySem.HandSPX.refsVE_contains Y bm hbm) (I1.kIn _ _ hC) (PySem.W.looks_findIn I1.kIn iC) (fun self => PySem.W.bind_fn I1.kIn self tI) n2 (codeAny_mono run fun r s' z => ?_))
  match r, z with
  | .error er, z => exact hx pins σ _ _ er s' I2 z
  | .ok .next, z => exact z.elim
  | .ok .brk, z => exact z.elim
  | .ok .cont, z => exact z.elim
  | .ok (.ret u), z =>
    obtain ⟨v, H2, o2, b2, u2, k2, rv, ev, q3⟩ := z
    subst ev
    have un : Un (frs X.stack) [] H1 H2 hp s'.heap := (Un.laid keep nn fr).trans u2
    exact ⟨rv, .ref (hp.objs.size + 1), H2, I1.call' (ch := []) o2 un k2 b2 (fun b z => absurd z (by simp)), rfl, q3⟩
/-- the object of an error and its dict -/
theorem err_at {pins : List (Addr × Obj)} {σ : L2.St} {H : Hp} {s : Shared} {a C : Addr} {fs : List (Str × V)} (I : Inv X pins σ H s) (h : Err H a C fs) :
    ∃ ox od, PySem.W.InstAt s.heap a ox C (some od) ∧ ∃ mA : Str → Option Value, (∀ name, PySem.W.lookIn name od = some (mA name)) ∧ ∀ f, RelO (fs.lookup f) (mA f) := by
  obtain ⟨d, h1, h2⟩ := h
  obtain ⟨t1, e1⟩ := exo_at I.hok h1
  obtain ⟨mA, hn, hr⟩ := exd_at I.hok h2
  obtain ⟨od, ho, hl⟩ := lookIn_ns hn
  exact ⟨_, od, ⟨e1, rfl, rfl, ho⟩, mA, hl, hr⟩
/-- e.n of an error -/
def tXv (K : PySem.W.Frag) (n : Str) (te : TE) : TE := fun σ H Q => te σ H fun x H1 => ∃ a C fs v, x = .ref a ∧ Err H1 a C fs ∧ XfC K C ∧ PySem.W.findIn K (.ref C) n = some none ∧ fs.lookup n = some v ∧ Q v H1
theorem pe_xv {e : Expr} {te : TE} {pos : Pos} {n : Str} (he : PE X e te) (hb : attributeBase e n X.env (eval e X.env) = eval e X.env := by rfl) : PE X (.Attribute e n pos) (tXv X.K n te) := by
  constructor
  intro pins s σ H Q I h
  refine attr_of hb (thn (he.run pins s σ H _ I h) fun u s1 w => ?_)
  obtain ⟨x, H1, I1, rx, a, C, fs, v, rfl, hE, T, hno, l, q⟩ := w
  obtain rfl : u = Value.ref a := rx
  obtain ⟨ox, od, J, mA, hl, hr⟩ := err_at I1 hE
  obtain ⟨u, hu, ru⟩ := RelO.some_of (v := v) (o := mA n) (l ▸ hr n)
  exact HandSPX.exc_get I1.kIn J T.ga T.gg T.exC (PySem.W.findObj_own T.hdC hno rfl (by rw [hl, hu])) (handed_of ru) ⟨v, H1, I1.tok _, ru, q⟩
/-- x.__class__ of an error with a dict of its own, as isinstance asks it -/
theorem x_class {prog : Program} {w : World} {A : Around} {E : Value → Shared → Prop} {s : Shared} {K : PySem.W.Frag} {x D : Addr} {ox od : Obj} {Q : Option Value → Shared → Prop} (T : ExcC K D) (KX : K.In s.heap) (J : PySem.W.InstAt s.heap x ox D (some od))
    (h : Q (some (.ref D)) { s with toks := s.toks + 1 }) : wpAny (model prog w) A (getAttr? (.ref x) "__class__") Q E s := by
  have found : PySem.W.findObj K D (some od) "__class__" = some (.bind (.builtin "getset_descriptor.__get__") (.builtin "object.__class__")) := by
    obtain ⟨cd, e, _⟩ := PySem.W.any_some T.hd
    exact PySem.W.findObj_data (by rw [e] <;> rfl) T.ha T.hn T.ht
  have no2 : (Value.builtin "BaseException.__getattribute__" == Value.builtin "object.__getattribute__") = false := by decide +kernel
  have no1 : (onTheHeap (.ref D) && Value.builtin "BaseException.__getattribute__" == Value.builtin "object.__getattribute__") = false := by rw [no2] <;> rfl
  obtain ⟨hp, g, d, t, os⟩ := s
  have isB : PySem.W.Looks (model prog w) hp (isInstance (.ref x) (.type "BaseException")) true := (J.type (M := model prog w)).andThen (PySem.W.looks_subIn KX T.hs)
  have tail : ∀ R : Fin → Shared → Prop, ∀ E' : Value → Shared → Prop, R (.done (.ret (.ref D))) ⟨hp, g, d, t + 1, os⟩ → wpAny (model prog w) (Around.in1 A) (Builtin.«object.__getattribute__» ⟨[.ref x, .str "__class__" t], []⟩) R E' ⟨hp, g, d, t + 1, os⟩ := fun R E' hR => by
    unfold Builtin.«object.__getattribute__»
    refine wpAny_bind (wpAny_of_eq (a := (Value.ref x, [Value.str "__class__" t])) (by first | rfl | (simp only [slotArgs]; rfl)) (wpAny_bind (wpAny_pure (wpAny_bind (J.type.at (wpAny_bind ((PySem.W.looks_find KX J found).at ?_)))))))
    refine wpAny_bind (wpAny_holding (wpAny_call (PySem.W.class_get (s := ⟨hp, g, d, t + 1, os⟩) KX J T.hm ?_)))
    exact wpAny_pure hR
  unfold getAttr? getAttrBy? getAttrBy
  refine wpAny_bind (wpAny_mkText (wpAny_bind (wpAny_attempt (wpAny_holding (wpAny_bind (J.type.at (wpAny_bind ((PySem.W.looks_findIn KX T.hg).at ?_))))))))
  dsimp only
  rw [no1, if_neg Bool.false_ne_true]
  unfold getAttrByItsOwn hookBefore callGetattribute boundAndCalled
  refine wpAny_bind ?_
  have oh : onTheHeap (Value.ref D) = true := rfl
  rw [if_pos oh]
  refine (PySem.W.looks_findIn KX T.hk).at (wpAny_bind (wpAny_attempt (wpAny_holding ?_)))
  have nh : (false && onTheHeap (Value.builtin "BaseException.__getattribute__")) = false := rfl
  rw [nh, if_neg Bool.false_ne_true, PySem.F.excAttr_ValueError.ga.bind (.ref x)]
  refine wpAny_bind (wpAny_pure ?_)
  dsimp only
  refine wpAny_call (codeAny_call_builtin PySem.F.excAttr_ValueError.ga.plain PySem.F.entry_bexc_ga ?_)
  refine @PySem.W.check_slot (model prog w) _ _ ⟨hp, g, d, t + 1, os⟩ "BaseException.__getattribute__" "BaseException" "__getattribute__" (.ref x) [.str "__class__" t] [] _ (by decide +kernel) (by decide +kernel) isB (PySem.F.args_bexc_ga (.ref x) (.str "__class__" t)) ?_
  refine tail _ _ ?_
  refine (show wpAny (model prog w) A (handedOut (Value.ref D)) (fun a s' => wpAny (model prog w) A (pure (some a)) Q E s') _ ⟨hp, g, d, t + 1, os⟩ from ?_)
  rw [PySem.W.handedOut_of (v := Value.ref D) rfl]
  exact wpAny_pure (wpAny_pure h)
theorem kit_err {K : PySem.W.Frag} {x D : Addr} {b : Bool} (T : ExcC K D) (self : PySem.W.kitCls K (.ref D) (.ref D) = some b) : PySem.W.KitX K (.ref x) (.ref D) (fun h => ∃ ox od, PySem.W.InstAt h x ox D (some od)) where
  ty := fun _ _ _ ⟨_, _, J⟩ => J.type
  it := fun _ _ KX _ => (PySem.W.kit_cls KX self).2.1
  ne := fun h tp dd its n sl KX e => by
    obtain ⟨cd, hc, _⟩ := PySem.W.any_some T.hd
    cases q : (Value.ref D == Value.ref tp) with
    | false => rfl
    | true =>
      obtain rfl : D = tp := Value.ref.inj (beq_iff_eq.mp q)
      unfold PySem.W.clsIn at hc
      cases k : K.lookup D with
      | none => rw [k] at hc; cases hc
      | some o =>
        have z := (KX _ _ k).symm.trans e
        cases z
        rw [k] at hc
        cases hc
  ca := fun KX ⟨_, _, J⟩ q => x_class T KX J q
/-- isinstance(x, c) of an error -/
def rIsX (K : PySem.W.Frag) : List V → Hp → VK → Prop := fun xs H Q => ∃ (a C : Addr) (fs : List (Str × V)) (c : V) (cv : Value) (b b' : Bool), xs = [.ref a, c] ∧ Err H a C fs ∧ ExcC K C ∧ PySem.W.kitCls K (.ref C) (.ref C) = some b' ∧ ClsV c cv ∧ PySem.W.kitOne K (.ref C) cv = some b ∧ Q (.bl b) H
theorem call_isX {X : Cx} : CallR X (.builtin "isinstance") (rIsX X.K) := by
  intro pins s σ H xs us Q I r h
  obtain ⟨a, C, fs, c, cv, b, b', rfl, hE, T, self, hc, e, q⟩ := h
  obtain ⟨u1, u2, rfl, r1, r2⟩ : ∃ u1 u2, us = [u1, u2] ∧ RelV (.ref a) u1 ∧ RelV c u2 := by
    cases r with
    | cons x1 y1 =>
      cases y1 with
      | cons x2 y2 => cases y2; exact ⟨_, _, rfl, x1, x2⟩
  obtain rfl : u1 = Value.ref a := r1
  obtain rfl : u2 = cv := hc.eq r2
  obtain ⟨ox, od, J, _⟩ := err_at I hE
  exact PySem.W.kia_one (kit_err T self) I.kIn ⟨ox, od, J⟩ e (fun z => nomatch z) fun tk => ⟨.bl b, H, I.tok tk, rfl, q⟩
end
end TT

set_option Elab.async false
set_option linter.all false
set_option maxRecDepth 100000
set_option maxHeartbeats 4000000
/-! == of a thing with itself, repr of what holds small dicts. -/
namespace TT
open PySem PySem.Spec PyProof.Rows L2
section
variable {X : Cx}
/-- the same thing, or the same plain value -/
def D0 : Eqv := fun x y _ => y = x ∧ (flatB x = true ∨ ∃ a, x = .ref a)
theorem D0.mon : Mon D0 := fun _ _ _ _ _ h => h
theorem D0.eqV {K : PySem.W.Frag} {H : Hp} {x : V} (h : flatB x = true ∨ ∃ a, x = .ref a) : EqV K H 1 x x := by
  unfold EqV
  exact h.elim (fun f => .inl ⟨rfl, f⟩) fun ⟨a, e⟩ => .inr (.inl ⟨a, e, e⟩)
theorem D0.eqG : EqG X 1 D0 := by
  intro A pins s σ H x y u v S I rx ry h
  obtain ⟨rfl, h⟩ := h
  have un : A.units + 1 < cLine := by have := S.room.un; omega
  refine eqV_run I 1 A un y y u v (D0.eqV h) rx ry _ _ ⟨rfl, H, I, Ext.rfl'⟩
/-- x is equal to itself, whatever it holds -/
def SelfEq (K : PySem.W.Frag) (H : Hp) (x : V) : Prop := scal x x = true ∨ (∃ n, n ≤ 60 ∧ EqR K H (EqV K H n) x x) ∨ DTup K D0 x x H
def rSame (K : PySem.W.Frag) : R2 := fun x y H Q => y = x ∧ SelfEq K H x ∧ ∀ H', Ext H H' → Q (.bl true) H'
theorem op_same (hu : X.A.units + 64 < cLine) (hr : Room 2 X.A) : OpR X (compareOp .Eq) (rSame X.K) := by
  intro pins s σ H x y v u Q I rx ry h
  obtain ⟨rfl, h, q⟩ := h
  rcases h with h | ⟨n, hn, h⟩ | h
  · exact op_eq pins s σ H y y v u Q I rx ry ⟨h, by rw [decide_eq_true rfl]; exact q H Ext.rfl'⟩
  · exact op_eqV hu pins s σ H y y v u Q I rx ry ⟨n, hn, h, q H Ext.rfl'⟩
  · exact op_eqG (rcG_tup D0.mon D0.eqG) hr pins s σ H y y v u Q I rx ry ⟨h, q⟩
/-! ### repr -/
inductive DpD (K : PySem.W.Frag) (H : Hp) : V → PyData → Prop
  | dp {v : V} {d : PyData} (h : Dp K H v d) (n : d.hasDict = false) : DpD K H v d
  | tt {a b : Addr} (h : H a = some (.tup [.ref b])) (h2 : H b = some (.tup [])) : DpD K H (.ref a) (.tuple [.tuple []])
  | d0 {a : Addr} (h : H a = some (.dK [])) : DpD K H (.ref a) (.dict [])
  | d1 {a : Addr} {k : Str} {i : Int} (h : H a = some (.dK [(.inr k, .int i)])) : DpD K H (.ref a) (.dict [(.str k, .int i)])
theorem dp_tt {K : PySem.W.Frag} {H : Hp} {a b : Addr} (h : H a = some (.tup [.ref b])) (h2 : H b = some (.tup [])) : Dp K H (.ref a) (.tuple [.tuple []]) :=
  .tup (SqT.of h) (.cons (.tup (SqT.of h2) .nil) .nil)
/-- no tracked thing is sys.modules -/
theorem not_sys {pins : List (Addr × Obj)} {σ : L2.St} {H : Hp} {s : Shared} (I : Inv X pins σ H s) {o : Obj} (hs : X.K.lookup sysModules = some o) {l : Addr} {x : HO} (h : H l = some x) : l ≠ sysModules := by
  rintro rfl
  have hb : X.base.get? sysModules = some o := I.ok.mod.kin _ _ hs
  obtain ⟨h0, h1⟩ := I.ok.bs _ _ hb
  have := I.base.free _ _ h0 h1 (I.ok.noex _ _ hb)
  rw [this] at h
  cases h
theorem DpD.reads {pins : List (Addr × Obj)} {σ : L2.St} {H : Hp} {s : Shared} (I : Inv X pins σ H s) {v : V} {d : PyData} {u : Value} (h : DpD X.K H v d) (r : RelV v u) : ∃ as, Reads s.heap u d as ∧ (d.hasDict = true → ¬ sysModules ∈ as) := by
  cases h with
  | dp h n => exact (Dp.reads I d v u h r).imp fun as z => ⟨z, PyData.noDict_hsm n⟩
  | tt h h2 => exact (Dp.reads I _ _ u (dp_tt h h2) r).imp fun as z => ⟨z, PyData.noDict_hsm rfl⟩
  | @d0 a h =>
    obtain rfl : u = Value.ref a := r
    have z := I.hok _ _ h
    unfold ObjOk at z
    obtain ⟨_, ns, vs, kv, o, es, ep, g, ex, da, _, pr, _⟩ := z
    cases kv
    generalize e : es.toList = L at pr
    cases pr
    refine ⟨_, Reads.dict g ex.1 da (as := []) (bs := []) (by rw [e]; exact .nil) (by rw [e]; exact .nil), fun _ m => ?_⟩
    have : sysModules = a := by simpa using m
    rw [← this] at ns
    cases ns
  | @d1 a k i h =>
    obtain rfl : u = Value.ref a := r
    have z := I.hok _ _ h
    unfold ObjOk at z
    obtain ⟨_, ns, vs, kv, o, es, ep, g, ex, da, _, pr, nd⟩ := z
    clear nd
    cases kv with
    | @cons _ q _ _ p1 p2 =>
      cases p2
      obtain ⟨e0, t, e1⟩ : Sum.inr k = q.1 ∧ ∃ t, q.2 = Value.int i t := p1
      generalize hl : es.toList = L at pr
      cases pr with
      | cons c1 c2 c3 =>
        cases c3
        rename_i e
        have c4 : Value.isStrOf k e.key = true := by
          have c5 : keyIs q.1 e.key = true := c1
          rw [← e0] at c5
          exact c5
        obtain ⟨tk, ek⟩ : ∃ tk, e.key = .str k tk := by
          cases hk : e.key <;> rw [hk] at c4 <;> simp [Value.isStrOf] at c4
          exact ⟨_, by rw [c4]⟩
        have ev : e.val = .int i t := c2.trans e1
        refine ⟨_, Reads.dict g ex.1 da (kvs := [(.str k, .int i)]) (as := [] ++ []) (bs := [] ++ []) (by rw [hl]; exact .cons (by show Reads _ e.key (.str k) []; rw [ek]; exact .str _ _) .nil) (by rw [hl]; exact .cons (by show Reads _ e.val (.int i) []; rw [ev]; exact .int _ _) .nil), fun _ m => ?_⟩
        have : sysModules = a := by simpa using m
        rw [← this] at ns
        cases ns
theorem readsAll_rep {h : Heap} {d : PyData} {v : V} (one : ∀ u, RelV v u → ∃ as, Reads h u d as ∧ (d.hasDict = true → ¬ sysModules ∈ as)) :
    ∀ (n : Nat) (its : List Value), Vals (List.replicate n v) its → ∃ as, ReadsAll h its (List.replicate n d) as ∧ (d.hasDict = true → ¬ sysModules ∈ as)
  | 0, its, r => by
    cases r
    exact ⟨[], .nil, fun _ m => by cases m⟩
  | n + 1, its, r => by
    rw [List.replicate_succ] at r
    cases r with
    | cons r1 r2 =>
      obtain ⟨as, h1, h2⟩ := one _ r1
      obtain ⟨bs, h3, h4⟩ := readsAll_rep one n _ r2
      exact ⟨as ++ bs, .cons h1 h3, fun e m => (List.mem_append.mp m).elim (h2 e) (h4 e)⟩
theorem hasDictAll_rep {d : PyData} : ∀ n, PyData.hasDictAll (List.replicate n d) = true → d.hasDict = true
  | 0, h => by simp [PyData.hasDictAll] at h
  | n + 1, h => by
    rw [List.replicate_succ] at h
    simp only [PyData.hasDictAll, Bool.or_eq_true] at h
    exact h.elim id (hasDictAll_rep n)
/-- what repr is asked of here: such a thing, or a list of it many times -/
inductive RpD (K : PySem.W.Frag) (H : Hp) : V → PyData → Prop
  | one {v : V} {d : PyData} (h : DpD K H v d) : RpD K H v d
  | rep {l : Addr} {n : Nat} {v : V} {d : PyData} (hl : H l = some (.lst (List.replicate n v))) (h : DpD K H v d) : RpD K H (.ref l) (.list (List.replicate n d))
theorem RpD.reads {pins : List (Addr × Obj)} {σ : L2.St} {H : Hp} {s : Shared} (I : Inv X pins σ H s) {o : Obj} (hs : X.K.lookup sysModules = some o) {v : V} {d : PyData} {u : Value} (h : RpD X.K H v d) (r : RelV v u) : ∃ as, Reads s.heap u d as ∧ (d.hasDict = true → ¬ sysModules ∈ as) := by
  cases h with
  | one h => exact DpD.reads I h r
  | @rep l n v d hl h =>
    obtain rfl : u = Value.ref l := r
    have z := I.hok _ _ hl
    unfold ObjOk at z
    obtain ⟨_, its, k, vs, g⟩ := z
    obtain ⟨as, h1, h2⟩ := readsAll_rep (fun u r => DpD.reads I h r) n its vs
    refine ⟨l :: as, Reads.list g rfl rfl (by rw [List.toList_toArray]; exact h1), fun e m => ?_⟩
    have e2 : d.hasDict = true := by
      simp only [PyData.hasDict] at e
      exact hasDictAll_rep n e
    rcases List.mem_cons.mp m with m | m
    · exact not_sys I hs hl m.symm
    · exact h2 e2 m
def rReprD (K : PySem.W.Frag) : List V → Hp → VK → Prop := fun xs H Q => ∃ (x : V) (d : PyData), xs = [x] ∧ RpD K H x d ∧ d.showable = true ∧ d.depth ≤ 60 ∧ d.shown.length ≤ sizeLine ∧ Q (.str d.shown) H
theorem call_reprD {o : Obj} (hs : X.K.lookup sysModules = some o) (hg : X.A.guards = some []) (hu : X.A.units + 64 < cLine) : CallR X (.builtin "repr") (rReprD X.K) := by
  intro pins s σ H xs us Q I r h
  obtain ⟨x, d, rfl, hd, sh, hdep, hz, q⟩ := h
  obtain ⟨u, rfl, rx⟩ : ∃ u, us = [u] ∧ RelV x u := by
    cases r with
    | cons a b => cases b; exact ⟨_, rfl, a⟩
  by_cases c : ∃ a, x = .ref a
  · obtain ⟨a, rfl⟩ := c
    obtain rfl : u = Value.ref a := rx
    obtain ⟨as, rd, ns⟩ := RpD.reads (u := Value.ref a) I hs hd rfl
    exact repr_of_reads' rd sh ns hg (by omega) (fun _ _ e => e) (fun h' u tk hk => ⟨.str d.shown, H, I.kept hk, ⟨_, rfl⟩, q⟩) hz
  · cases hd with
    | rep => exact absurd ⟨_, rfl⟩ c
    | one h =>
      cases h with
      | dp h n => exact call_repr hg hu pins s σ H _ _ Q I (.cons rx .nil) ⟨x, d, rfl, h, sh, n, hdep, hz, q⟩
      | tt => exact absurd ⟨_, rfl⟩ c
      | d0 => exact absurd ⟨_, rfl⟩ c
      | d1 => exact absurd ⟨_, rfl⟩ c
end
end TT

set_option Elab.async false
set_option linter.all false
set_option maxRecDepth 100000
set_option maxHeartbeats 4000000
/-! repr of a list whose own address may be any (only what it holds must not be sys.modules) -/
namespace TT
open PySem PySem.Spec PyProof.Rows L2
theorem repr_lst {prog : Program} {w : World} {h₀ : Heap} {a : Addr} {o : Obj} {vs : Array Value} {n : Nat} {xs : List PyData} {as : List Addr} {A : Around} {E : Value → Shared → Prop} {s : Shared} {Q : Value → Shared → Prop}
    (at_a : h₀.get? a = some o) (is_l : o.cls = .type "list") (dat : o.data = .seq vs n) (its : ReadsAll h₀ vs.toList xs as)
    (sh : PyData.showableAll xs = true) (out : PyData.hasDictAll xs = true → ¬ sysModules ∈ as) (gd : A.guards = some []) (un : A.units + ((PyData.list xs).depth + 1) < cLine)
    (low : ∀ b u, h₀.get? b = some u → s.heap.get? b = some u)
    (k : ∀ h' u tk, (∀ b o, s.heap.get? b = some o → h'.get? b = some o) → Q (.str (PyData.list xs).shown u) { s with heap := h', toks := tk })
    (len : (PyData.list xs).shown.length ≤ sizeLine) : wpAny (model prog w) A (call (.builtin "repr") [.ref a]) Q E s := by
  have short : (listText (PyData.shownAll xs)).length ≤ sizeLine := by
    have := len
    rwa [PyData.shown] at this
  obtain ⟨bs, below, each⟩ := ReprAllK.of_readsAll (prog := prog) (w := w) its sh out fun t ht => Nat.le_trans (listText_mem_le ht) short
  have apart : a ∉ bs := by
    refine not_mem_of_deeper (Reads.list at_a is_l dat its) ?_ below
    rw [PyData.depth]
    omega
  have dep : A.in1.units + (PyData.list xs).depth < cLine := by
    show A.units + 1 + _ < cLine
    omega
  refine call_repr_slot (by omega) (show s.TypeIs (.ref a) "list" from ⟨o, low _ _ at_a, is_l⟩) F.slot_list_repr.toG ?_
  rw [PyData.depth] at dep
  have k' := k
  simp only [PyData.shown] at k'
  obtain ⟨l⟩ := vs
  cases l with
  | nil =>
    have none' : ReadsAll h₀ [] xs as := its
    cases none'
    simp only [PyData.shownAll, listText_nil] at k'
    exact call_list_repr_empty ⟨o, low _ _ at_a, is_l⟩ (low _ _ at_a) dat ⟨_, _, rfl, k' s.heap _ _ fun _ _ e => e⟩
  | cons x l =>
    have el := each.length_eq
    exact call_list_reprK at_a is_l dat apart (by simpa using el) (fun i y e => each.item i y (by simpa using e)) gd (fun b _ => Clear.nil b) dep low (fun h' u tk hk => ⟨_, _, rfl, k' h' u tk hk⟩) short
section
variable {X : Cx}
theorem call_reprS (hg : X.A.guards = some []) (hu : X.A.units + 64 < cLine) : CallR X (.builtin "repr") (rReprD X.K) := by
  intro pins s σ H xs us Q I r h
  obtain ⟨x, d, rfl, hd, sh, hdep, hz, q⟩ := h
  obtain ⟨u, rfl, rx⟩ : ∃ u, us = [u] ∧ RelV x u := by
    cases r with
    | cons a b => cases b; exact ⟨_, rfl, a⟩
  have fin : ∀ h' u tk, (∀ b o, s.heap.get? b = some o → h'.get? b = some o) → EP X pins σ Q (.str d.shown u) { s with heap := h', toks := tk } := fun h' u tk hk => ⟨.str d.shown, H, I.kept hk, ⟨_, rfl⟩, q⟩
  cases hd with
  | @rep l n v d hl h =>
    obtain rfl : u = Value.ref l := rx
    have z := I.hok _ _ hl
    unfold ObjOk at z
    obtain ⟨_, its, k, vs, g⟩ := z
    obtain ⟨as, h1, h2⟩ := readsAll_rep (fun u r => DpD.reads I h r) n its vs
    have sh' : PyData.showableAll (List.replicate n d) = true := by
      rwa [PyData.showable] at sh
    exact repr_lst g rfl rfl (by rw [List.toList_toArray]; exact h1) sh' (fun e => h2 (hasDictAll_rep n e)) hg (by omega) (fun _ _ e => e) fin hz
  | one h =>
    by_cases c : ∃ a, x = .ref a
    · obtain ⟨a, rfl⟩ := c
      obtain rfl : u = Value.ref a := rx
      obtain ⟨as, rd, ns⟩ := DpD.reads (u := Value.ref a) I h rfl
      exact repr_of_reads' rd sh ns hg (by omega) (fun _ _ e => e) fin hz
    · cases h with
      | dp h n => exact call_repr hg hu pins s σ H _ _ Q I (.cons rx .nil) ⟨x, d, rfl, h, sh, n, hdep, hz, q⟩
      | tt => exact absurd ⟨_, rfl⟩ c
      | d0 => exact absurd ⟨_, rfl⟩ c
      | d1 => exact absurd ⟨_, rfl⟩ c
end
end TT

set_option Elab.async false
set_option linter.all false
set_option maxRecDepth 100000
set_option maxHeartbeats 4000000
/-! A lambda handed to a def; an error that was caught, kept behind its suite. -/
namespace TT
open PySem PySem.Spec PyProof.Rows L2
/-- at e: an error that was caught, of the class cls, its dict d -/
def exk (e : Addr) (cls : Value) (d : Option Addr) : HO := .ext fun h => ∃ (o : Obj) (vs : Array Value), h.get? e = some o ∧ Zc cls d o ∧ o.data = .fields vs
theorem exk_ok {P : Program} {w : World} {H : Hp} {h : Heap} {e : Addr} {cls : Value} {d : Option Addr} {o : Obj} {vs : Array Value} (he : h.get? e = some o) (hz : Zc cls d o) (hd : o.data = .fields vs) : ObjOk P w H h e (exk e cls d) :=
  ⟨⟨o, vs, he, hz, hd⟩, ⟨_, he⟩, fun h1 h2 ⟨o1, vs1, a, b, c⟩ k => ⟨o1, vs1, k _ a, b, c⟩⟩
theorem exk_at {P : Program} {w : World} {H : Hp} {h : Heap} {e : Addr} {cls : Value} {d : Option Addr} (hok : HOk P w H h) (he : H e = some (exk e cls d)) : ∃ (o : Obj) (vs : Array Value), h.get? e = some o ∧ Zc cls d o ∧ o.data = .fields vs := by
  have x : ObjOk P w H h e (.ext fun h => ∃ (o : Obj) (vs : Array Value), h.get? e = some o ∧ Zc cls d o ∧ o.data = .fields vs) := hok e _ he
  exact x.1
section
variable {X : Cx} {pins : List (Addr × Obj)} {σ : L2.St} {H : Hp} {s : Shared} {a : Addr} {cls : Value} {d : Option Addr} {oe : Obj} {vs : Array Value}
/-- a caught error is tracked -/
theorem Inv.track (I : Inv X pins σ H s) (ha : s.heap.get? a = some oe) (hz : Zc cls d oe) (hd : oe.data = .fields vs) (na : H a = none) (nL : a ≠ X.env.locals) (n0 : X.s_0.heap.get? a = none) (np : ∀ p ∈ X.pn ++ pins, p.1 ≠ a) :
    Inv X pins σ (L2.upd H a (exk a cls d)) s := by
  have sm : ∀ {b : Addr} {u : HO}, H b = some u → b ≠ a := fun {b u} e => ne_of_none e na
  refine ⟨I.ok, I.os, I.bare, ⟨I.base.keep, I.base.slot, fun b o e n hx => ?_, I.base.there, fun b xs e => ?_, fun b o u e => ?_, fun b ps e => ?_⟩, I.loc, I.cell, ?_, fun x c e => ?_, fun p hp => ?_, fun b u e => ?_, I.len⟩
  · have nb : b ≠ a := fun z => by rw [z, n0] at e; cases e
    rw [upd_ne nb]
    exact I.base.free b o e n hx
  · have q := I.base.tups b xs e
    rw [upd_ne (sm q)]
    exact q
  · have q := I.base.frzs b o u e
    rw [upd_ne (sm q)]
    exact q
  · obtain ⟨more, q⟩ := I.base.tbls b ps e
    exact ⟨more, by rw [upd_ne (sm q)]; exact q⟩
  · rw [upd_ne nL.symm]
    exact I.free
  · have nc : c ≠ a := fun z => by
      obtain ⟨v, o, ho, hc⟩ := I.cell x c e
      rw [z, ha] at ho
      cases ho
      rw [hd] at hc
      cases hc
    rw [upd_ne nc]
    exact I.freeC x c e
  · obtain ⟨e, n, r⟩ := I.pin p hp
    exact ⟨e, by rw [upd_ne (np p hp)]; exact n, r⟩
  · by_cases hb : b = a
    · subst hb
      rw [upd_same] at e
      cases e
      exact exk_ok ha hz hd
    · rw [upd_ne hb] at e
      exact (I.hok b u e).stay (fun _ _ _ q => q) (fun c q => by rw [upd_ne (sm q)]; exact q) fun c xs q => by rw [upd_ne (sm q)]; exact q
end
/-- what 'except x as n' wishes of the body's errors, each caught and kept behind the suite -/
def wKept (K : PySem.W.Frag) (c : Value) (i : Nat) (ts : Addr → Value → Option Addr → TS) (nx : L2.St → Hp → Prop) : WX := fun cls d σ H =>
  PySem.W.exmOne K cls c = some true ∧ ∀ a, H a = none → ts a cls d ⟨fun σ' H' => H' a = none → nx (σ'.set i none) (L2.upd H' a (exk a cls d)), fun _ _ => False, fun _ _ => False, fun _ _ => False⟩ (σ.set i (some (.ref a))) H
section
variable {X : Cx} {x n : Str} {c : Value} {i : Nat} {body suite : List Stmt} {b₀ : Stmt} {np pos pos' : Pos} {tb : WX → TS} {ts : Addr → Value → Option Addr → TS}
/-- try: body / except x as n: suite, where each error that the body lets out is an x -/
theorem ps_try_kept (hs : X.stack = X.env :: X.outer) (hf : X.env.frame = some X.env.locals) (hex : X.ex = []) (hN : X.N.Nodup) (hi : X.N[i]? = some n) (hln : X.env.kindOf n = some .local) (hc : Names X x c)
    (hb : ∀ (W : WX) (pn : List (Addr × Obj)) (xe : Value → Shared → Prop), Takes (X.tr pn xe) W → PassesOwn (model X.prog X.w) X.A X.env xe → PSs (X.tr pn xe) body (tb W))
    (hsu : ∀ (a : Addr) (oe : Obj) (cls : Value) (d : Option Addr) (pn : List (Addr × Obj)), Zc cls d oe → (∃ vs, oe.data = .fields vs) → PSs (X.suite a ((a, oe) :: pn)) (b₀ :: suite) (ts a cls d)) :
    PS X (.Try body [.ExceptHandler (some (.Name x np)) (some n) (b₀ :: suite) pos'] [] [] pos) (fun D σ H => tb (wKept X.K c i ts D.nx) ⟨D.nx, fun _ _ => False, fun _ _ => False, fun _ _ => False⟩ σ H) := by
  constructor
  intro pins s σ H D I h
  have ok := I.ok
  -- what is done with an error of the body
  let R : Value → Shared → Prop := fun e s₁ => wpAny (model X.prog X.w) X.A (noteFrame e X.env) (fun _ s₂ => wpAny (model X.prog X.w) X.A (setFlight e none) (fun _ s₃ =>
    wpAny (model X.prog X.w) X.A (handleBy e X.env [.ExceptHandler (some (.Name x np)) (some n) (b₀ :: suite) pos']) (SP X pins D) X.xe s₃) X.xe s₂) X.xe s₁
  have caught : Takes (X.tr (X.pn ++ pins) R) (wKept X.K c i ts D.nx) := by
    rintro u s' ⟨a, B, t0, pins', σ1, H1, cls, d, rfl, J0, ground, up, sky, na, os, ag, ex, told⟩
    have J : Inv X pins σ1 H1 t0 := J0.ofTry ok
    have frames : X.A.frames = some (X.env :: X.outer) := ok.frames.trans (congrArg some hs)
    have sky2 : Sky B (X.env :: X.outer) a (Zc cls d) X.env.locals s'.heap := hs ▸ sky
    have none_of : ∀ {h1 : Heap}, HandSPX.FlyingZ B (X.env :: X.outer) a (Zc cls d) h1 → a ∉ frs (X.env :: X.outer) := fun fl hm => by
      obtain ⟨o, vs, e1, _, e2⟩ := fl.there
      obtain ⟨_, o2, e3, e4⟩ := fl.2.2.1.mem hm
      cases e1.symm.trans e3
      exact e4 _ e2
    refine Sky.land Zc.steady frames hf sky2 fun g1 fl1 up1 => ?_
    have off := none_of fl1
    have nL : a ≠ X.env.locals := fun z => off (List.mem_filterMap.mpr ⟨_, List.mem_cons_self, hf.trans (congrArg some z.symm)⟩)
    have nF : a ∉ X.fs := fun hm => off (List.mem_filterMap.mpr ((List.mem_filterMap.mp hm).imp fun _ z => ⟨List.mem_cons_of_mem _ z.1, z.2⟩))
    have gone : t0.heap.get? a = none := by
      cases q : t0.heap.get? a with
      | none => rfl
      | some o => cases fl1.2.1.symm.trans (ground a o q (hs ▸ off))
    have older : X.s_0.heap.get? a = none := by
      cases q : X.s_0.heap.get? a with
      | none => rfl
      | some o =>
        obtain ⟨o2, z⟩ := J.base.there a o q (hex ▸ List.not_mem_nil)
        cases gone.symm.trans z
    have npin : ∀ p ∈ X.pn ++ pins, p.1 ≠ a := fun p hp z => by cases gone.symm.trans (z ▸ (J.pin p hp).1)
    obtain ⟨o1, vs1, e1, z1, f1⟩ := fl1.there
    have J1 : Inv X pins σ1 H1 { s' with heap := g1 } := J.landed ground fl1.1 (up.trans up1) os ag
    refine wpAny_handleBy_cons (codeAny_handlers_test ?_) (fun q => nomatch q)
    have matches_ := PySem.W.exm_one (M := model X.prog X.w) J1.kIn (fun A Q E s k q => wpAny_typeOf_ref (k _ _ e1) (z1.1 ▸ q)) ex
    have S1 := J1.suite e1 f1 na nL nF
    have named : ∀ {Q : Value → Shared → Prop} {E : Value → Shared → Prop}, Q c { s' with heap := g1 } → wpAny (model X.prog X.w) (X.A.mark (some (.ref a))) (eval (.Name x np) X.env) Q E { s' with heap := g1 } := fun {Q E} q => by
      obtain ⟨h1, h2, h3 | ⟨h3, h4, h5⟩⟩ := hc
      · exact ld_glob (X := X.suite a ((a, o1) :: (X.pn ++ pins))) S1 h1 h3 q h2
      · exact ld_blt (X := X.suite a ((a, o1) :: (X.pn ++ pins))) S1 h1 h3 h4 q h5 h2
    refine named (matches_.here (codeAny_handlers_suite_as (HandSPX.lands_againZ fl1 fun g2 fl2 up2 => ?_)))
    obtain ⟨o2, vs2, e2, z2, f2⟩ := fl2.there
    have J2 : Inv X pins σ1 H1 { s' with heap := g2 } := J.landed ground fl2.1 ((up.trans up1).trans up2) os ag
    refine store_ok (X := X.suite a ((a, o2) :: (X.pn ++ pins))) (v := .ref a) (J2.suite e2 f2 na nL nF) hN hi (.inl hln) rfl (fun s5 S5 => ?_) (.inr hln)
    refine wpAny_mono ((hsu a o2 cls d (X.pn ++ pins) z2 ⟨_, f2⟩).run [] s5 _ H1 _ S5 (told a na)) (fun f s6 hsp => ?_) (fun _ _ z => z.elim)
    match f, hsp with
    | .next, ⟨σ6, H6, S6, q6⟩ =>
      obtain ⟨e6, n6, _⟩ := S6.pin (a, o2) (List.mem_append_left _ List.mem_cons_self)
      exact gone_ok (Inv.track (S6.unsuite ok) e6 z2 f2 n6 nL older npin) hN hi hln fun s7 J7 => ⟨_, _, J7, q6 n6⟩
    | .brk, ⟨_, _, _, z⟩ => exact z.elim
    | .cont, ⟨_, _, _, z⟩ => exact z.elim
    | .ret u, ⟨_, _, _, _, _, z⟩ => exact z.elim
  refine wpAny_Try_except (wpAny_mono ((hb _ (X.pn ++ pins) R caught PassesOwn.looking).run [] s σ H _ (I.toTry _) h) (fun f s1 hsp => ?_) fun _ _ z => z)
  match f, hsp with
  | .next, ⟨σ2, H2, J2, q2⟩ => exact wpAny_execs_nil ⟨σ2, H2, J2.ofTry ok, q2⟩
  | .brk, ⟨_, _, _, z⟩ => exact z.elim
  | .cont, ⟨_, _, _, z⟩ => exact z.elim
  | .ret u, ⟨_, _, _, _, _, z⟩ => exact z.elim
end
/-! ### a callable without parameters, as a value -/
theorem Un.then {fs fs' : List Addr} {H H1 H2 : Hp} {h h1 h2 : Heap} (a : Un fs [] H H1 h h1) (b : Un fs' [] H1 H2 h1 h2) (h1' : ∀ c ∈ fs', c ∈ fs ∨ h.get? c = none) (h2' : ∀ c ∈ fs, c ∈ fs') : Un fs [] H H2 h h2 where
  keep := fun c ob q n hc hx => b.keep c ob (a.keep c ob q n hc hx) (a.free c ob q n hx) (fun z => (h1' c z).elim hc fun z => by rw [q] at z; cases z) hx
  slot := fun c ob q n hc hx => by
    obtain ⟨sl, e1⟩ := a.slot c ob q n hc hx
    obtain ⟨sl', e2⟩ := b.slot c _ e1 (a.free c ob q n hx) (h2' c hc) hx
    exact ⟨sl', e2⟩
  free := fun c ob q n hx => by
    obtain ⟨o', e1⟩ := a.there c ob q hx
    exact b.free c o' e1 (a.free c ob q n hx) hx
  there := fun c ob q hx => by
    obtain ⟨o', e1⟩ := a.there c ob q hx
    exact b.there c o' e1 hx
  tups := fun c xs q => b.tups c xs (a.tups c xs q)
  frzs := fun c ob xs q => b.frzs c ob xs (a.frzs c ob xs q)
  tbls := fun c ps q => by
    obtain ⟨m1, e1⟩ := a.tbls c ps q
    obtain ⟨m2, e2⟩ := b.tbls c _ e1
    exact ⟨m1 ++ m2, by rw [e2, Array.append_assoc]⟩
end TT

set_option Elab.async false
set_option linter.all false
set_option maxRecDepth 100000
set_option maxHeartbeats 4000000
/-! A callable without parameters as a value: what it does while it is handed on, lambdas that are such, defs that take one. -/
namespace TT
open PySem PySem.Spec PyProof.Rows L2 LamX
theorem un_then {fs fs' : List Addr} {H H1 H2 : Hp} {h h1 h2 : Heap} (a : Un fs [] H H1 h h1) (b : Un fs' [] H1 H2 h1 h2) (new : ∀ c ∈ fs', c ∈ fs ∨ h.get? c = none) (sub : ∀ c ∈ fs, c ∈ fs') : Un fs [] H H2 h h2 := by
  have up : Un fs' [] H H1 h h1 := a.mono sub fun _ z => z
  have all := up.trans b
  refine ⟨fun c o e n hc hx => ?_, fun c o e n hc hx => all.any e n hx, all.free, all.there, all.tups, all.frzs, all.tbls⟩
  refine b.keep c o (a.keep c o e n hc hx) (a.free c o e n hx) (fun z => ?_) hx
  rcases new c z with q | q
  · exact hc q
  · rw [q] at e; cases e
/-- f() runs so, as long as what stands in (s, H) but the frames fs stays -/
structure Runs (P : Program) (w : World) (K : PySem.W.Frag) (mg : Str → Option Value) (base : Heap) (fs : List Addr) (k : Nat) (f : Addr) (tl : XK → Hp → VK → Prop) (s : Shared) (H : Hp) : Prop where
  obj : ∃ (oc : Value) (od : Option Addr) (fd : FuncData) (sl : Array (Option Value)), s.heap.get? f = some ⟨oc, od, .func fd, sl⟩
  fn : H f = none
  fr : f ∉ fs
  run : ∀ (A : Around) (outer : List Env) (s1 : Shared) (HZ : Hp) (Q : VK) (E : XK), Room (k + 1) A → Env0 P w K mg base A outer s1 HZ → Un fs [] H HZ s.heap s1.heap → tl E HZ Q →
    codeAny (model P w) A (.call (.ref f) ⟨[], []⟩) (CR (L2.CX P w) outer P w HZ s1 Q E) s1
section
variable {P : Program} {w : World} {K : PySem.W.Frag} {mg : Str → Option Value} {base : Heap} {k j : Nat} {f : Addr} {tl : XK → Hp → VK → Prop}
theorem Runs.step {fs fs' : List Addr} {s s1 : Shared} {H H1 : Hp} (R : Runs P w K mg base fs k f tl s H) (u : Un fs [] H H1 s.heap s1.heap) (new : ∀ c ∈ fs', c ∈ fs ∨ s.heap.get? c = none) (sub : ∀ c ∈ fs, c ∈ fs') : Runs P w K mg base fs' k f tl s1 H1 := by
  obtain ⟨oc, od, fd, sl, e⟩ := R.obj
  refine ⟨⟨oc, od, fd, sl, u.keep f _ e R.fn R.fr List.not_mem_nil⟩, u.free f _ e R.fn List.not_mem_nil, fun z => ?_, fun A outer s2 HZ Q E hr e0 u2 t => R.run A outer s2 HZ Q E hr e0 (un_then u u2 new sub) t⟩
  rcases new f z with q | q
  · exact R.fr q
  · rw [q] at e; cases e
/-- within a def that got it: at any state of the def -/
theorem Runs.now {X : Cx} {pins : List (Addr × Obj)} {σ : L2.St} {H : Hp} {s : Shared} (R : Runs X.prog X.w X.K X.mg X.base X.fs k f tl X.s_0 X.H_0) (hex : X.ex = []) (I : Inv X pins σ H s) : Runs X.prog X.w X.K X.mg X.base (frs X.stack) k f tl s H := by
  have u : Un X.fs [] X.H_0 H X.s_0.heap s.heap := hex ▸ I.base
  refine R.step u (fun c hc => ?_) fun c hc => ?_
  · rcases List.mem_cons.mp (I.stkSub c hc) with z | z
    · exact .inr (Heap.get?_none_of_le (z ▸ I.ok.above))
    · exact .inl z
  · rcases I.ok.stk with z | ⟨z, hf⟩
    · rw [z]; exact hc
    · rw [z]
      unfold frs
      rw [List.filterMap_cons, hf]
      exact List.mem_cons_of_mem _ hc
end
/-- a def whose first argument is such a callable -/
structure LOk (P : Program) (w : World) (K : PySem.W.Frag) (mg : Str → Option Value) (base : Heap) (k j : Nat) (g : Addr) (fd : FuncData) (ps : List Str) (sp : (XK → Hp → VK → Prop) → List V → Hp → VK → Prop) : Prop where
  len : ∀ tl vs H Q, sp tl vs H Q → vs.length + 1 = ps.length
  run : ∀ (A : Around) (outer : List Env) (s : Shared) (H : Hp) (args : Args) (us : List Value) (vs : List V) (Q : VK) (f : Addr) (tl : XK → Hp → VK → Prop), A.guards = some [] → Room k A → Env0 P w K mg base A outer s H →
    BindsTo s fd args (ps.zip (.ref f :: us)) → Vals vs us → Runs P w K mg base (frs outer) j f tl s H → sp tl vs H Q → codeAny (model P w) A (.call (.ref g) args) (CR CX0 outer P w H s Q fun _ _ _ => False) s
section
variable {X : Cx} {k j i : Nat} {f g : Addr} {fd : FuncData} {ps : List Str} {sp : (XK → Hp → VK → Prop) → List V → Hp → VK → Prop} {tl : XK → Hp → VK → Prop} {x a : Str} {p p1 p2 pos : Pos} {e : Expr} {es : List Expr} {ta : TA}
theorem run_L {pins : List (Addr × Obj)} {σ : L2.St} {H : Hp} {s : Shared} {Q : VK} {us : List Value} {vs : List V} (L : LOk X.prog X.w X.K X.mg X.base k j g fd ps sp) (gd : X.A.guards = some []) (hr : Room k X.A) (hb : Binds X.K fd ps [])
    (I : Inv X pins σ H s) (R : Runs X.prog X.w X.K X.mg X.base (frs X.stack) j f tl s H) (r : Vals vs us) (h : sp tl vs H Q) : wpAny (model X.prog X.w) X.A (call (.ref g) (.ref f :: us)) (EP X pins σ Q) X.xe s := by
  have n : (.ref f :: us : List Value).length = ps.length := by
    rw [List.length_cons, ← r.length]
    exact L.len _ _ _ _ h
  have b := hb s (.ref f :: us) I.kIn (by rw [List.append_nil]; exact n)
  rw [List.append_nil] at b
  refine wpAny_call (codeAny_mono (L.run X.A X.stack s H ⟨.ref f :: us, []⟩ us vs Q f tl gd hr I.env0 b r R h) fun res s1 z => ?_)
  match res, z with
  | .error _, z => exact z.elim
  | .ok (.ret u), z => exact I.after z
  | .ok .next, z => exact z.elim
  | .ok .brk, z => exact z.elim
  | .ok .cont, z => exact z.elim
/-- g(x, ..) in a def that got x -/
theorem pe_handon (R : Runs X.prog X.w X.K X.mg X.base X.fs j f tl X.s_0 X.H_0) (hex : X.ex = []) (L : LOk X.prog X.w X.K X.mg X.base k j g fd ps sp) (gd : X.A.guards = some []) (hr : Room k X.A) (hb : Binds X.K fd ps [])
    (hg : Gl X x) (hm : X.mg x = some (.ref g)) (hk : PySem.W.keepIn X.K (.ref g) = true) (ha : PA X (e :: es) ta) (hdb : (x == ("__debug__" : Str)) = false := by decide)
    (he : starEach (e :: es) X.env = (false, eval e X.env) :: starEach es X.env := by rfl) (hpl : (backTo pos (starEach es X.env)).any (·.1) = false := by rfl) :
    PE X (.Call (.Name x p) (e :: es) [] pos) (fun σ H Q => ta σ H fun vs H1 => ∃ ws, vs = .ref f :: ws ∧ sp tl ws H1 Q) := by
  constructor
  intro pins s σ H Q I h
  refine wpAny_Call_Name_kw (ld_glob I hg hm (PySem.W.callWith_K (h₀ := X.base) I.ok.mod.kin hk (thn (ha.run pos pins s σ H _ I h) fun us s1 ⟨vs, H1, I1, r, ws, ev, q⟩ => ⟨I1.kIn, ?_⟩) he hpl) hdb)
  subst ev
  cases r with
  | @cons _ u _ ur r1 r2 =>
    obtain rfl : u = Value.ref f := r1
    exact run_L L gd hr hb I1 (R.now hex I1) r2 q
/-- x() in a def that got x -/
theorem pe_look {E : XK} (R : Runs X.prog X.w X.K X.mg X.base X.fs k f tl X.s_0 X.H_0) (hex : X.ex = []) (hx : Passes (L2.CX X.prog X.w) X E) (hr : Room (k + 1) X.A) (hN : X.N[i]? = some a) (hv : Vis X.env.scope a)
    (hd : (a == ("__debug__" : Str)) = false := by decide) (hcd : (a == ("__classdict__" : Str)) = false := by decide) :
    PE X (.Call (.Name a p1) [] [] p2) (fun σ H Q => σ[i]? = some (some (.ref f)) ∧ tl E H Q) := by
  constructor
  intro pins s σ H Q I ⟨hs, t⟩
  refine wpAny_Call_Name_kw (thn ((pe_var (pos := p1) (i := i) hN hv hd hcd).run pins s σ H (fun v H1 => v = .ref f ∧ H1 = H) I ⟨_, hs, rfl, rfl⟩) fun u s1 ⟨v, H1, I1, r1, ev, eH⟩ => ?_)
  subst ev eH
  obtain rfl : u = Value.ref f := r1
  have R1 := R.now hex I1
  obtain ⟨oc, od, fd, sl, ob⟩ := R1.obj
  refine PySem.W.callWith_F0 (first := []) ⟨oc, od, fd, sl, ob⟩ (wpAny_call (codeAny_mono (R1.run X.A X.stack s1 _ Q E hr I1.env0 Un.refl t) fun res s2 z => ?_))
  match res, z with
  | .error e, z => exact hx pins σ _ s1 e s2 I1 z
  | .ok (.ret u), z => exact I1.after z
  | .ok .next, z => exact z.elim
  | .ok .brk, z => exact z.elim
  | .ok .cont, z => exact z.elim
/-- g(lambda: body, ..): T the tables of code objects -/
theorem pe_lam {T : List (Addr × Str)} {c PT : Addr} {params : Arguments} {body : Expr} {scope : Scope} {t : XK → TE} {lpos : Pos} (L : LOk X.prog X.w X.K X.mg X.base j k g fd ps sp) (gd : X.A.guards = some []) (hr : Room j X.A) (hb : Binds X.K fd ps [])
    (hg : Gl X x) (hm : X.mg x = some (.ref g)) (hk : PySem.W.keepIn X.K (.ref g) = true) (ha : PA X es ta)
    (TB : TabB X.base X.mg c PT) (hcode : X.env.code = .ref c) (hmT : (PT, X.env.qual ++ "<lambda>") ∈ T) (hu : ∀ p ∈ T, p.1 = PT → p.2 = X.env.qual ++ "<lambda>") (S : LamS X.env.scope scope) (hdef : defaultsOf params X.env = ([], []))
    (hbind : ∀ (q : Str) (cl : List (Str × Addr)) (pm cv ctv : Value), bindArgs (PySem.W.kla_fn "<lambda>" q params body scope cl pm cv ctv) ⟨[], []⟩ = pure [])
    (hbody : ∀ (A : Around) (outer : List Env) (s : Shared) (H : Hp) (E : XK) (f c' : Addr), Room k (A.deeper (lamEnv X scope s.heap.objs.size f c')) → PE (lamCx X A outer s H E scope f c') body (t E))
    (hdb : (x == ("__debug__" : Str)) = false := by decide)
    (he : starEach (.Lambda params body scope lpos :: es) X.env = (false, eval (.Lambda params body scope lpos) X.env) :: starEach es X.env := by rfl) (hpl : (backTo pos (starEach es X.env)).any (·.1) = false := by rfl) :
    PE X (.Call (.Name x p) (.Lambda params body scope lpos :: es) [] pos)
      (fun σ H Q => Tabs T H ∧ ∀ H1 c', ExtN H H1 → Tabs T H1 → H1 c' = some (CodeO c' (X.env.qual ++ "<lambda>")) → ta σ H1 fun ws H2 => sp (fun E H' Q' => H' c' = some (CodeO c' (X.env.qual ++ "<lambda>")) ∧ t E σ H' Q') ws H2 Q) := by
  constructor
  intro pins s σ H Q I ⟨hT, h⟩
  refine wpAny_Call_Name_kw (ld_glob I hg hm ?_ hdb)
  refine PySem.W.callWith_K (h₀ := X.base) I.ok.mod.kin hk ?_ he hpl
  rw [he]
  refine Calls.spliced_cons (lam_make2 I TB hcode hmT hu hT hdef (S.has I.ok) fun f c' pm ctv H1 s1 I1 eN T1 hf hfn hfr hco => ?_)
  have fL : f ≠ X.env.locals := fun z => by
    obtain ⟨m, ⟨o, es, ep, e1, e2, _⟩, _⟩ := I1.loc
    rw [← z, hf] at e1
    cases e1
    cases e2
  have fF : f ∉ X.fs := fun z => hfr (by
    rcases I1.ok.stk with q | ⟨q, hf2⟩
    · rw [q]; exact z
    · rw [q]; unfold frs; rw [List.filterMap_cons, hf2]; exact List.mem_cons_of_mem _ z)
  generalize hob : PySem.W.kla_obj "<lambda>" (X.env.qual ++ "<lambda>") params body scope (cloFrom X.env.cells scope.names []) pm c' ctv = ob at hf
  have I1p : Inv X ((f, ob) :: pins) σ H1 s1 := I1.pins_of fun q hq => by
    rcases List.mem_cons.mp hq with z | z
    · subst z
      exact ⟨hf, hfn, fL, fF, fun v z => by rw [← hob] at z; cases z⟩
    · exact I1.pin q (List.mem_append_right _ z)
  refine thn (ha.run pos ((f, ob) :: pins) s1 σ H1 _ I1p (h H1 c' eN T1 hco)) fun us s2 ⟨ws, H2, I2p, r, q⟩ => ⟨I2p.kIn, ?_⟩
  have I2 : Inv X pins σ H2 s2 := I2p.pins_of fun q hq => I2p.pin q (List.mem_append_right _ (List.mem_cons_of_mem _ hq))
  obtain ⟨e2, n2, _⟩ := I2p.pin (f, ob) (List.mem_append_right _ List.mem_cons_self)
  refine run_L (f := f) (tl := fun E H' Q' => H' c' = some (CodeO c' (X.env.qual ++ "<lambda>")) ∧ t E σ H' Q') L gd hr hb I2 ⟨⟨_, _, _, _, by rw [← hob] at e2; exact e2⟩, n2, hfr, fun A outer s3 HZ Q' E hrA e0 un ⟨hc', ht⟩ => ?_⟩ r q
  have e3 := un.keep f _ e2 n2 hfr List.not_mem_nil
  rw [← hob] at e3
  obtain ⟨⟨oc, vs, tk, hoc, hdc, hvc⟩, _, _⟩ := e0.hok c' _ hc'
  refine PySem.W.kla_callFunE hrA.depth e3 rfl S.co S.gen rfl ⟨c', oc, vs, tk, rfl, hoc, hdc, hvc⟩ ?_
  rw [hbind]
  have lim : s3.heap.NoLimit := e0.mod.nolimit.keeps fun b o z => (e0.bs b o z).1
  refine wpAny_pure (wpAny_newFunctionEnv (fun y hy => (S.own y hy).2) (fun y hy => absurd hy List.not_mem_nil) (fun h₁ hns hsb => ⟨lim.fresh _ hsb, ?_⟩) S.kind)
  show codeAny _ _ (.expr body (lamEnv X scope s3.heap.objs.size f c')) _ _
  have kp : ∀ b o, s3.heap.get? b = some o → h₁.get? b = some o := fun b o z => hsb.extBut b o (Nat.ne_of_lt (Heap.lt_size z)) (Heap.get?_push_of_some _ z)
  have J := lam_start2 (f := f) (c' := c') (E := E) (tk := s3.toks + ([] : List (Str × Value)).length) I2 S e0 hrA.hd un hns kp
  refine PySem.W.kla_codeExpr (wpAny_mono ((hbody A outer s3 HZ E f c' (hrA.deeper _)).run [] _ σ HZ Q' J ht) (fun v s' ⟨w', H', J', rv, q'⟩ => ⟨w', H', J'.os, J'.bare, J'.base, J'.hok, rv, q'⟩) fun _ _ z => z)
end
/-- a def of the text whose first argument is such a callable -/
theorem okL {P : Program} {w : World} {K : PySem.W.Frag} {mg : Str → Option Value} {base : Heap} {x qual : Str} {st : Stmt} {g : Addr} {fd : FuncData} {N ps : List Str} {k j : Nat} {sp : (XK → Hp → VK → Prop) → List V → Hp → VK → Prop} (F : Fun K x qual st g fd) (S : FnScope N ps (defScope st))
    (len : ∀ tl vs H Q, sp tl vs H Q → vs.length + 1 = ps.length)
    (hb : ∀ (cdv : Value) (A : Around) (outer : List Env) (s : Shared) (H : Hp) (vs : List V) (Q : VK) (f : Addr) (tl : XK → Hp → VK → Prop), A.guards = some [] → Room k (A.deeper (envOfC qual (defScope st) s.heap.objs.size g cdv)) → Runs P w K mg base (frs outer) j f tl s H → sp tl vs H Q →
      ∃ t, PSs (cxOf CX0 P w K mg base N qual (defScope st) g cdv A outer s H fun _ _ _ => False).nox (defBody st) t ∧ t { nx := fun _ H1 => Q .non H1, rt := Q } (start N (.ref f :: vs)) H) : LOk P w K mg base (k + 1) j g fd ps sp := by
  obtain ⟨oc, od, kV, doc, pm, an, cdv, ct, osl, rfl, lk, hcd⟩ := F.ex
  refine ⟨len, fun A outer s H args us vs Q f tl gd hr e0 bnd r R h => ?_⟩
  refine run_ofS (vs := .ref f :: vs) lk hcd S hr e0 bnd (.cons rfl r) (len _ _ _ _ h) fun hr' => ?_
  obtain ⟨t, ht, hq⟩ := hb cdv A outer s H vs Q f tl gd hr' R h
  exact ⟨t, ht.nox, hq⟩
/-- x() in a try's body: what it lets out is told at the slots as they stand -/
def tLook (f : Addr) (i : Nat) (tl : XK → Hp → VK → Prop) (W : WX) : TE := fun σ H Q => ∃ (E : XK) (Q0 : VK), (∀ cls d H', E cls d H' → W cls d σ H') ∧ (∀ v H', Q0 v H' → Q v H') ∧ σ[i]? = some (some (.ref f)) ∧ tl E H Q0
theorem pe_lookS {X : Cx} {k i : Nat} {f : Addr} {tl : XK → Hp → VK → Prop} {a : Str} {p1 p2 : Pos} {W : WX} (tk : Takes X W) (R : Runs X.prog X.w X.K X.mg X.base X.fs k f tl X.s_0 X.H_0) (hex : X.ex = []) (hr : Room (k + 1) X.A) (hN : X.N[i]? = some a) (hv : Vis X.env.scope a)
    (hd : (a == ("__debug__" : Str)) = false := by decide) (hcd : (a == ("__classdict__" : Str)) = false := by decide) : PE X (.Call (.Name a p1) [] [] p2) (tLook f i tl W) := by
  constructor
  intro pins s σ H Q I ⟨E, Q0, hW, hQ, hs, t⟩
  refine wpAny_Call_Name_kw (thn ((pe_var (pos := p1) (i := i) hN hv hd hcd).run pins s σ H (fun v H1 => v = .ref f ∧ H1 = H) I ⟨_, hs, rfl, rfl⟩) fun u s1 ⟨v, H1, I1, r1, ev, eH⟩ => ?_)
  subst ev eH
  obtain rfl : u = Value.ref f := r1
  have R1 := R.now hex I1
  obtain ⟨oc, od, fd, sl, ob⟩ := R1.obj
  refine PySem.W.callWith_F0 (first := []) ⟨oc, od, fd, sl, ob⟩ (wpAny_call (codeAny_mono (R1.run X.A X.stack s1 _ Q0 E hr I1.env0 Un.refl t) fun res s2 z => ?_))
  match res, z with
  | .error e, z => exact tk e s2 (XE.of_call I1 hW z)
  | .ok (.ret u), z =>
    obtain ⟨v, H2, I2, rv, q⟩ := I1.after z
    exact ⟨v, H2, I2, rv, hQ _ _ q⟩
  | .ok .next, z => exact z.elim
  | .ok .brk, z => exact z.elim
  | .ok .cont, z => exact z.elim
/-! ### errors that were caught -/
/-- at a stands a caught error of the class at C whose own dict holds fs -/
def Met (H : Hp) (a C : Addr) (fs : List (Str × V)) : Prop := ∃ d, H a = some (exk a (.ref C) (some d)) ∧ H d = some (.xd fs)
theorem Met.same {H H' : Hp} {a C : Addr} {fs : List (Str × V)} (s : Same H H') (h : Met H a C fs) : Met H' a C fs := h.imp fun _ z => ⟨s _ _ z.1, s _ _ z.2⟩
section
variable {X : Cx} {pins : List (Addr × Obj)} {σ : L2.St} {H : Hp} {s : Shared} {a C : Addr} {fs : List (Str × V)}
theorem met_at (I : Inv X pins σ H s) (h : Met H a C fs) : ∃ ox od, PySem.W.InstAt s.heap a ox C (some od) ∧ ∃ mA : Str → Option Value, (∀ name, PySem.W.lookIn name od = some (mA name)) ∧ ∀ f, RelO (fs.lookup f) (mA f) := by
  obtain ⟨d, h1, h2⟩ := h
  obtain ⟨o, vs, e1, z1, f1⟩ := exk_at I.hok h1
  obtain ⟨mA, hn, hr⟩ : ∃ mA, s.heap.Ns1 d mA ∧ ∀ f, RelO (fs.lookup f) (mA f) := I.hok d _ h2
  obtain ⟨od, ho, hl⟩ := lookIn_ns hn
  exact ⟨o, od, ⟨e1, z1.1, by unfold PySem.W.notCls; rw [f1] <;> rfl, by rw [z1.2]; exact ho⟩, mA, hl, hr⟩
/-- e.n of a caught error -/
def tMv (K : PySem.W.Frag) (n : Str) (te : TE) : TE := fun σ H Q => te σ H fun x H1 => ∃ a C fs v, x = .ref a ∧ Met H1 a C fs ∧ XfC K C ∧ PySem.W.findIn K (.ref C) n = some none ∧ fs.lookup n = some v ∧ Q v H1
theorem pe_mv {e : Expr} {te : TE} {pos : Pos} {n : Str} (he : PE X e te) (hb : attributeBase e n X.env (eval e X.env) = eval e X.env := by rfl) : PE X (.Attribute e n pos) (tMv X.K n te) := by
  constructor
  intro pins s σ H Q I h
  refine attr_of hb (thn (he.run pins s σ H _ I h) fun u s1 ⟨x, H1, I1, rx, a, C, fs, v, ex, hE, T, hno, l, q⟩ => ?_)
  subst ex
  obtain rfl : u = Value.ref a := rx
  obtain ⟨ox, od, J, mA, hl, hr⟩ := met_at I1 hE
  obtain ⟨u, hu, ru⟩ := RelO.some_of (v := v) (o := mA n) (l ▸ hr n)
  exact HandSPX.exc_get I1.kIn J T.ga T.gg T.exC (PySem.W.findObj_own T.hdC hno rfl (by rw [hl, hu])) (handed_of ru) ⟨v, H1, I1.tok _, ru, q⟩
/-- isinstance(x, c) of a caught error -/
def rIsM (K : PySem.W.Frag) : List V → Hp → VK → Prop := fun xs H Q => ∃ (a C : Addr) (fs : List (Str × V)) (c : V) (cv : Value) (b b' : Bool), xs = [.ref a, c] ∧ Met H a C fs ∧ ExcC K C ∧ PySem.W.kitCls K (.ref C) (.ref C) = some b' ∧ ClsV c cv ∧ PySem.W.kitOne K (.ref C) cv = some b ∧ Q (.bl b) H
theorem call_isM {X : Cx} : CallR X (.builtin "isinstance") (rIsM X.K) := by
  intro pins s σ H xs us Q I r h
  obtain ⟨a, C, fs, c, cv, b, b', rfl, hE, T, self, hc, e, q⟩ := h
  match us, r with
  | [u1, u2], .cons r1 (.cons r2 .nil) =>
    obtain rfl : u1 = Value.ref a := r1
    obtain rfl : u2 = cv := hc.eq r2
    obtain ⟨ox, od, J, _⟩ := met_at I hE
    exact PySem.W.kia_one (kit_err T self) I.kIn ⟨ox, od, J⟩ e (fun z => nomatch z) fun tk => ⟨.bl b, H, I.tok tk, rfl, q⟩
end
end TT

set_option Elab.async false
set_option linter.all false
set_option maxRecDepth 100000
set_option maxHeartbeats 4000000
/-! What the laws of our program share: defs that make lambdas, the errors' classes, the end of a law whose defs make lambdas. -/
namespace TT
open PySem PySem.Spec PyProof.Rows L2 LamX
/-! ### defs that make lambdas: their code object is known -/
structure FunC (K : PySem.W.Frag) (x qual : Str) (st : Stmt) (f : Addr) (fd : FuncData) (c : Addr) : Prop where
  ex : ∃ (oc : Value) (od : Option Addr) (kV doc pm : Value) (an : Option Addr) (ct : Value) (osl : Array (Option Value)),
    fd = PySem.W.fnOf x qual (defArgs st) (defBody st) (defScope st) .none kV doc pm an (.ref c) ct ∧ K.lookup f = some ⟨oc, od, .func fd, osl⟩ ∧ PySem.W.codeIn K (.ref c) qual = true
  kp : PySem.W.keepIn K (.ref f) = true
section
variable {P : Program} {w : World} {K : PySem.W.Frag} {mg : Str → Option Value} {base : Heap} {x qual : Str} {st : Stmt} {f c : Addr} {fd : FuncData} {N ps : List Str} {k : Nat} {sp : Sp}
theorem FunC.fn (F : FunC K x qual st f fd c) : Fun K x qual st f fd := by
  obtain ⟨oc, od, kV, doc, pm, an, ct, osl, e, l, h⟩ := F.ex
  exact ⟨⟨oc, od, kV, doc, pm, an, .ref c, ct, osl, e, l, h⟩, F.kp⟩
theorem okGC (F : FunC K x qual st f fd c) (S : FnScope N ps (defScope st)) (size : ∀ vs H Q E, sp vs H Q E → vs.length = ps.length)
    (hb : ∀ (A : Around) (outer : List Env) (s : Shared) (H : Hp) (vs : List V) (Q : VK) (E : XK), A.guards = some [] → Room k (A.deeper (envOfC qual (defScope st) s.heap.objs.size f (.ref c))) → sp vs H Q E →
      ∃ t, PSs (cxOf CX0 P w K mg base N qual (defScope st) f (.ref c) A outer s H E).nox (defBody st) t ∧ t { nx := fun _ H1 => Q .non H1, rt := Q } (start N vs) H) : GOk P w K mg base CX0 (k + 1) f fd ps sp := by
  obtain ⟨oc, od, kV, doc, pm, an, ct, osl, rfl, lk, hcd⟩ := F.ex
  refine g_of lk hcd S size fun A outer s H vs Q E g hr hsp => ?_
  obtain ⟨t, h, q⟩ := hb A outer s H vs Q E g hr hsp
  exact ⟨t, h.nox, q⟩
end
/-- a def that lets errors out, called where it lets none out -/
theorem passF {P : Program} {w : World} {X : Cx} : Passes (L2.CX P w) X E0 := fun _ _ _ _ _ _ _ h => by
  obtain ⟨_, _, _, _, _, _, _, _, _, _, _, _, z⟩ := h
  exact z.elim
/-- o(..), o an instance of the class at C -/
def tCallI (C : Addr) (sp : Sp) (E : XK) (tf : TE) (t : TA) : TE := fun σ H Q => tf σ H fun y H1 => ∃ a, y = V.ref a ∧ t σ H1 fun vs H2 => (∃ dx fs, H2 a = some (.ins C dx fs)) ∧ sp (V.ref a :: vs) H2 Q E
theorem pe_callI {X : Cx} {CX : CXT} {k : Nat} {g C : Addr} {sp : Sp} {E : XK} {fe e : Expr} {es : List Expr} {tf : TE} {t : TA} {pos : Pos} (hf : PE X fe tf) (c : StX.CallO X.K C g) (F : FnR X.prog X.w X.K X.mg X.base CX k g sp) (hr : Room k X.A) (hx : Passes CX X E) (ha : PA X (e :: es) t)
    (ht : eval (.Call fe (e :: es) [] pos) X.env = (do callWith pos (← eval fe X.env) [] (backTo pos (starEach (e :: es) X.env)) (backToKw pos (keywordEach [] X.env))) := by rfl)
    (he : starEach (e :: es) X.env = (false, eval e X.env) :: starEach es X.env := by rfl) (hpl : (backTo pos (starEach es X.env)).any (·.1) = false := by rfl) : PE X (.Call fe (e :: es) [] pos) (tCallI C sp E tf t) := by
  constructor
  intro pins s σ H Q I h
  refine Call_ (thn (hf.run pins s σ H _ I h) fun u s1 z => ?_) ht
  obtain ⟨_, H1, I1, ru, a, rfl, q⟩ := z
  obtain rfl : u = .ref a := ru
  refine StX.callO_with (thn (ha.run pos pins s1 σ H1 _ I1 q) fun us s2 z => ?_) he hpl
  obtain ⟨vs, H2, I2, rv, inst, q2⟩ := z
  have at2 : StX.InsC X H2 a C := .inr inst
  obtain ⟨ox, od, J, plain⟩ := StX.insC_at I2 at2
  exact ⟨⟨C, ox, od, J, plain⟩, StX.run_callO c F hr hx I2 at2 rv q2⟩
/-- what a lambda in the def q is called -/
def lamN (q : Str) : Str := (q ++ ".<locals>.") ++ "<lambda>"
/-! ### the errors' classes -/
/-- the chain of each error's class behind itself -/
def chain (cE C : Addr) : List Value := (if C = cE then [] else [.ref cE]) ++ [.type "ValueError", .type "Exception", .type "BaseException", .type "object"]
structure ExcT (K : PySem.W.Frag) (cE fI C : Addr) : Prop where
  ox : OexC K C
  xf : XfC K C
  ec : ExcC K C
  ini : PySem.W.findIn K (.ref C) "__init__" = some (some (.ref fI))
  nv : PySem.W.findIn K (.ref C) "value" = some none
  sub : ∀ b, PySem.W.subIn K (.ref C) b = some ((Value.ref C :: chain cE C).contains b)
  is : ((PySem.W.clsIn K C).isSome && PySem.W.typeIn K (.ref C) == some (.type "type")) = true
section
variable {K : PySem.W.Frag} {cE fI C D : Addr}
theorem ExcT.kit (a : ExcT K cE fI C) (b : ExcT K cE fI D) (h : C ≠ D) : PySem.W.kitOne K (.ref C) (.ref D) = some (decide (D = cE)) := by
  have n1 : (Value.ref C == Value.ref D) = false := by simpa using h
  unfold PySem.W.kitOne
  rw [n1, if_neg Bool.false_ne_true]
  unfold PySem.W.kitCls
  dsimp only
  rw [if_pos b.is, a.sub]
  congr 1
  unfold chain
  have n2 : ¬ D = C := fun e => h e.symm
  by_cases c : C = cE
  · subst c
    rw [if_pos rfl, decide_eq_false n2]
    simp [n2]
  · rw [if_neg c]
    by_cases e : D = cE
    · subst e
      simp
    · rw [decide_eq_false e]
      simp [e, n2]
theorem ExcT.self (a : ExcT K cE fI C) : PySem.W.kitOne K (.ref C) (.ref C) = some true := by
  unfold PySem.W.kitOne
  rw [if_pos (beq_iff_eq.mpr rfl)]
theorem ExcT.selfC (a : ExcT K cE fI C) : PySem.W.kitCls K (.ref C) (.ref C) = some true := by
  unfold PySem.W.kitCls
  dsimp only
  rw [if_pos a.is, a.sub]
  congr 1
  simp
/-- it is caught as a TuneError -/
theorem ExcT.exm (a : ExcT K cE fI C) (b : ExcT K cE fI cE) : PySem.W.exmOne K (.ref C) (.ref cE) = some true := by
  refine PySem.W.exm_ref b.ox.exC b.xf.hdC b.ox.tyC ?_
  rw [a.sub]
  congr 1
  unfold chain
  by_cases c : C = cE
  · subst c; simp
  · rw [if_neg c]; simp
structure ExcF (K : PySem.W.Frag) (cE fI C : Addr) : Prop where
  cls : ∃ nm q N bs sn sub ab col dd k0 k1 k2 k3 k5, K.lookup C = some (excClassObj nm q C N bs (chain cE C) true sn sub ab col dd k0 k1 k2 k3 k5 "ValueError.__new__")
  sa : PySem.W.findIn K (.ref C) "__setattr__" = some (some (.builtin "object.__setattr__"))
  tyC : PySem.W.typeIn K (.ref C) = some (.type "type")
  kC : PySem.W.keepIn K (.ref C) = true
  ga : PySem.W.findIn K (.ref C) "__getattribute__" = some (some (.builtin "BaseException.__getattribute__"))
  gg : PySem.W.findIn K (.ref C) "__getattr__" = some none
  ha : PySem.W.findIn K (.ref C) "__class__" = some (some (.builtin "object.__class__"))
  ini : PySem.W.findIn K (.ref C) "__init__" = some (some (.ref fI))
  nv : PySem.W.findIn K (.ref C) "value" = some none
theorem excF_mk {nm q : Str} {N : Addr} {bs bm : List Value} {sn : List Str} {sub : List Value} {ab : Bool} {col : Option Bool} {dd : Option Addr} {k0 k1 k2 k3 k5 : Option Value}
    (xL : K.lookup C = some (excClassObj nm q C N bs bm true sn sub ab col dd k0 k1 k2 k3 k5 "ValueError.__new__")) (hb : bm = chain cE C)
    (sa : PySem.W.findIn K (.ref C) "__setattr__" = some (some (.builtin "object.__setattr__"))) (tyC : PySem.W.typeIn K (.ref C) = some (.type "type")) (kC : PySem.W.keepIn K (.ref C) = true)
    (ga : PySem.W.findIn K (.ref C) "__getattribute__" = some (some (.builtin "BaseException.__getattribute__"))) (gg : PySem.W.findIn K (.ref C) "__getattr__" = some none)
    (ha : PySem.W.findIn K (.ref C) "__class__" = some (some (.builtin "object.__class__"))) (ini : PySem.W.findIn K (.ref C) "__init__" = some (some (.ref fI))) (nv : PySem.W.findIn K (.ref C) "value" = some none) : ExcF K cE fI C :=
  ⟨⟨nm, q, N, bs, sn, sub, ab, col, dd, k0, k1, k2, k3, k5, hb ▸ xL⟩, sa, tyC, kC, ga, gg, ha, ini, nv⟩
theorem chain_has (cE C : Addr) (b : Value) (h : b ∈ ([.type "ValueError", .type "Exception", .type "BaseException", .type "object"] : List Value)) : (Value.ref C :: chain cE C).contains b = true := by
  rw [List.contains_iff_mem]
  exact List.mem_cons_of_mem _ (List.mem_append_right _ h)
theorem ExcF.all (a : ExcF K cE fI C) (zget : PySem.W.specialIn K (.builtin "object.__class__") "__get__" = some (some (.builtin "getset_descriptor.__get__"))) (ztk : PySem.W.takesIn K (.builtin "object.__class__") = some true) : ExcT K cE fI C := by
  obtain ⟨nm, q, N, bs, sn, sb, ab, col, dd, k0, k1, k2, k3, k5, xL⟩ := a.cls
  have cl : PySem.W.clsIn K C = some { name := nm, bases := bs, mro := Value.ref C :: chain cE C, ns := N, qualname := q, hasDict := true, slotNames := sn, subclasses := sb, abstract := ab, collection := col } := by
    unfold PySem.W.clsIn
    rw [xL]
  have sub : ∀ b, PySem.W.subIn K (.ref C) b = some ((Value.ref C :: chain cE C).contains b) := fun b => by
    unfold PySem.W.subIn
    dsimp only
    unfold PySem.W.mroIn
    rw [cl]
    rfl
  have hd : PySem.W.hasDictIn K C = true := by
    unfold PySem.W.hasDictIn
    rw [cl]
    rfl
  have be : PySem.W.subIn K (.ref C) (.type "BaseException") = some true := by rw [sub, chain_has cE C _ (by simp)]
  have ob : PySem.W.subIn K (.ref C) (.type "object") = some true := by rw [sub, chain_has cE C _ (by simp)]
  exact {
    ox := ⟨⟨nm, q, N, bs, _, sn, sb, ab, col, dd, k0, k1, k2, k3, k5, xL, by
      unfold chain
      by_cases c : C = cE
      · rw [if_pos c]
        decide +kernel
      · rw [if_neg c]
        rfl⟩, a.sa, be, a.tyC, a.kC⟩
    xf := ⟨a.ga, a.gg, be, hd⟩
    ec := ⟨a.ga, a.gg, be, hd, a.ha, zget, ztk, ob⟩
    ini := a.ini
    nv := a.nv
    sub := sub
    is := by rw [cl, a.tyC] <;> rfl }
end
theorem nd_at {l : List Addr} (h : l.Nodup) {i j : Nat} (hi : i < l.length) (hj : j < l.length) (e : l.getD i 0 = l.getD j 0) : i = j := by
  rw [List.getD_eq_getElem?_getD, List.getD_eq_getElem?_getD, List.getElem?_eq_getElem hi, List.getElem?_eq_getElem hj] at e
  have pw := List.pairwise_iff_getElem.mp h
  have e' : l[i] = l[j] := e
  rcases Nat.lt_trichotomy i j with c | c | c
  · exact absurd e' (pw i j hi hj c)
  · exact c
  · exact absurd e'.symm (pw j i hj hi c)
/-! ### heaps in which tables may have grown -/
theorem ExtN.same {H H' : Hp} (s : Same H H') : ExtN H H' := fun b o e _ => s b o e
theorem ExtN.seq {K : PySem.W.Frag} {H H' : Hp} {a : Addr} {xs : List V} (e : ExtN H H') (h : SqL K H a xs) : SqL K H' a xs := by
  rcases h with (h | ⟨o, h⟩) | h
  · exact .inl (.inl (e _ _ h fun ps z => by cases z))
  · exact .inl (.inr ⟨o, e _ _ h fun ps z => by cases z⟩)
  · exact .inr h
/-! ### the end of a law's row whose defs make lambdas -/
/-- the script and the empty tables are tracked -/
def seenT (a : Addr) (ob : Obj) (ns : List Int) (own : Bool) (ts : List Addr) : Hp := fun b => if own = false ∧ b = a then some (.frz ob (.lst (ns.map V.int))) else if b ∈ ts then some (.tbl #[]) else none
/-- .. or: each tracked thing is the script or a table -/
theorem seenT_is {a b : Addr} {ob : Obj} {ns : List Int} {own : Bool} {ts : List Addr} {u : HO} (h : seenT a ob ns own ts b = some u) : (own = false ∧ b = a ∧ u = .frz ob (.lst (ns.map V.int))) ∨ (b ∈ ts ∧ u = .tbl #[]) := by
  unfold seenT at h
  split at h
  · rename_i c
    cases h
    exact .inl ⟨c.1, c.2, rfl⟩
  · split at h
    · rename_i c
      cases h
      exact .inr ⟨c, rfl⟩
    · cases h
abbrev tab0 : Obj := { cls := .none, data := .fields #[] }
theorem run_lawT {P : Program} {w : World} {K : PySem.W.Frag} {mg mb : Str → Option Value} {k : Nat} {fa a : Addr} {fd : FuncData} {x : Str} {sp : Sp} {s : Shared} {vs : List Value} {ns : List Int} {cs : List (Addr × Addr)}
    (KX : K.In s.heap) (hns : s.heap.Ns mainGlobals mg) (hb : s.heap.Ns builtinsNs mb) (hbb : ∀ x : Str, x ≠ "__name__" → mb x = bootBuiltins x) (lim : s.heap.NoLimit) (hg : s.gens = #[])
    (bmain : ∃ (bm : Addr) (ob : Obj), mg "__builtins__" = some (.ref bm) ∧ bm ≠ builtinsNs ∧ s.heap.get? bm = some ob ∧ ob.cls = .type "module" ∧ ob.dict = some builtinsNs ∧ ob.data = .plain)
    (tabs : ∀ p ∈ cs, s.heap.get? p.2 = some tab0) (codes : ∀ p ∈ cs, PySem.W.CodeHd s.heap p.1 p.2) (noT : PySem.W.noTabs K = true)
    (ha : s.heap.get? a = some { cls := .type "list", data := .seq vs.toArray }) (hi : IntsAre vs ns) (hl : ns.length ≤ sizeLine) (hr : Room k callerA)
    (F : ∀ base : Heap, K.In base → base.Ns mainGlobals mg → (∀ p ∈ cs, TabB base mg p.1 p.2) → GOk P w K mg base CX0 k fa fd [x] sp) (bnd : ∀ (s : Shared) (u : Value), BindsTo s fd ⟨[u], []⟩ [(x, u)])
    (hsp : ∀ H : Hp, (∀ p ∈ cs, H p.2 = some (.tbl #[])) → SqL K H a (ns.map V.int) → sp [.ref a] H (fun v _ => v = .bl true) fun _ _ _ => False) :
    codeAny (model P w) callerA (.call (.ref fa) ⟨[.ref a], []⟩) (fun r s1 => r = .ok (.ret (.bool true)) ∧ OldK s.heap s1.heap ∧ s1.os = s.os ∧ AllBare s1.gens) s := by
  have rv := vals_ints hi
  let ob : Obj := { cls := .type "list", data := .seq vs.toArray }
  have aT : a ∉ cs.map (·.2) := fun z => by
    obtain ⟨p, hp, e⟩ := List.mem_map.mp z
    have := (tabs p hp).symm.trans (e ▸ ha)
    cases this
  have ofT : ∀ b ∈ cs.map (·.2), s.heap.get? b = some tab0 := fun b hb => by
    obtain ⟨p, hp, rfl⟩ := List.mem_map.mp hb
    exact tabs p hp
  have KT : ∀ b ∈ cs.map (·.2), K.lookup b = none := fun b hb => by
    cases q : K.lookup b with
    | none => rfl
    | some o =>
      have e := (KX b o q).symm.trans (ofT b hb)
      cases e
      exact absurd (List.all_eq_true.mp noT _ (PySem.W.mem_of_lookupK q)) Bool.false_ne_true
  obtain ⟨own, hown⟩ : ∃ own : Bool, own = (K.lookup a).isSome := ⟨_, rfl⟩
  generalize hH : seenT a ob ns own (cs.map (·.2)) = H
  have is : ∀ b u, H b = some u → (own = false ∧ b = a ∧ u = .frz ob (.lst (ns.map V.int))) ∨ (b ∈ cs.map (·.2) ∧ u = .tbl #[]) := fun b u e => seenT_is (hH ▸ e)
  have atT : ∀ b ∈ cs.map (·.2), H b = some (.tbl #[]) := fun b m => by
    rw [← hH]
    unfold seenT
    rw [if_neg (fun z : own = false ∧ b = a => aT (z.2 ▸ m)), if_pos m]
  have hS : SqL K H a (ns.map V.int) := by
    cases q : K.lookup a with
    | some o =>
      have e := (KX a o q).symm.trans ha
      cases e
      exact .inr ⟨_, vs.toArray, _, q, rfl, rfl, rfl, by rw [List.size_toArray, hi.length]; exact hl, by simpa using rv⟩
    | none =>
      rw [q] at hown
      refine .inl (.inr ⟨ob, ?_⟩)
      rw [← hH]
      unfold seenT
      rw [if_pos ⟨hown, rfl⟩]
  have hok : HOk P w H s.heap := fun b u e => by
    rcases is b u e with ⟨_, rfl, rfl⟩ | ⟨m, rfl⟩
    · exact ⟨ha, by rw [List.length_map]; exact hl, vs, _, rv, ha⟩
    · exact ofT b m
  -- what is neither a list nor an empty record is not tracked
  have free : ∀ {b : Addr} {o : Obj}, s.heap.get? b = some o → (∀ xs n, o.data ≠ .seq xs n) → o.data ≠ .fields #[] → H b = none := fun {b o} e d1 d2 => by
    cases q : H b with
    | none => rfl
    | some u =>
      rcases is b u q with ⟨_, rfl, _⟩ | ⟨m, _⟩
      · cases e.symm.trans ha
        exact absurd rfl (d1 _ _)
      · cases e.symm.trans (ofT b m)
        exact absurd rfl d2
  have nsB : ∀ {b : Addr} {m : Str → Option Value}, s.heap.Ns b m → (hidT s.heap H).Ns b m := fun {b m} ⟨o, es, ep, e, d, r⟩ =>
    ⟨o, es, ep, hidT_get e (free e (fun _ _ z => by rw [d] at z; cases z) fun z => by rw [d] at z; cases z), d, r⟩
  have inK : K.In (hidT s.heap H) := fun b o e => hidT_get (KX b o e) (by
    cases q : H b with
    | none => rfl
    | some u =>
      rcases is b u q with ⟨z, rfl, _⟩ | ⟨m, _⟩
      · rw [e] at hown
        rw [hown] at z
        cases z
      · rw [KT b m] at e
        cases e)
  have TB : ∀ p ∈ cs, TabB (hidT s.heap H) mg p.1 p.2 := fun p hp => by
    obtain ⟨o, us, file, tf, flags, tg, inF, text, tt, e1, c1, c2, c3, rest⟩ := codes p hp
    obtain ⟨bm, om, b1, b2, b3, b4, b5, b6⟩ := bmain
    obtain ⟨og, eg, pg, g1, g2, _⟩ := id hns
    have pm : bm ≠ p.2 := fun z => by
      have := b3.symm.trans (z ▸ tabs p hp)
      cases this
      cases b6
    have gm : bm ≠ mainGlobals := fun z => by
      rw [z] at b3
      cases b3.symm.trans g1
      cases b6.symm.trans g2
    refine ⟨⟨o, us, file, tf, flags, tg, inF, text, tt, hidT_get e1 (free e1 (fun _ _ z => by rw [c2] at z; cases z) fun z => ?_), c1, c2, c3, rest⟩, ⟨bm, om, b1, b2, gm, pm, hidT_get b3 (free b3 (fun _ _ z => by rw [b6] at z; cases z) fun z => by rw [b6] at z; cases z), b4, b5, b6⟩, fun z => ?_⟩
    · rw [c2] at z
      cases z
      simp at c3
    · have := g1.symm.trans (z ▸ tabs p hp)
      cases this
      cases g2
  obtain ⟨mc, l1, l2⟩ := lim
  have e0 : Env0 P w K mg (hidT s.heap H) callerA [] s H :=
    { frames := rfl, mod := ⟨inK, nsB hns, ⟨mb, nsB hb, hbb⟩, ⟨mc, nsB l1, l2⟩⟩, bs := fun b o e => of_hidT e, bsz := Nat.le_of_eq (hidT_size _ _), funs := trivial, frf := fun b z => absurd (show b ∈ ([] : List Addr) from z) List.not_mem_nil, hok := hok, bare := .of_eq hg }
  refine codeAny_mono ((F _ inK (nsB hns) TB).go callerA [] s H ⟨[.ref a], []⟩ [.ref a] [.ref a] _ _ rfl hr e0 (bnd s (.ref a)) (.cons rfl .nil) (hsp H (fun p hp => atT _ (List.mem_map.mpr ⟨p, hp, rfl⟩)) hS)) fun r s1 z => ?_
  match r, z with
  | .error e, z => exact z.elim
  | .ok .next, z => exact z.elim
  | .ok .brk, z => exact z.elim
  | .ok .cont, z => exact z.elim
  | .ok (.ret u), z =>
    obtain ⟨v, H1, os, bare, un, hok1, r1, q⟩ := z
    subst q
    obtain rfl : u = Value.bool true := r1
    have stay : ∀ b o, b ∉ cs.map (·.2) → s.heap.get? b = some o → s1.heap.get? b = some o := fun b o nb e => by
      cases q : H b with
      | none => exact un.keep b o e q (fun z => absurd (show b ∈ ([] : List Addr) from z) List.not_mem_nil) List.not_mem_nil
      | some u =>
        rcases is b u q with ⟨_, rfl, rfl⟩ | ⟨m, _⟩
        · obtain ⟨e1, _⟩ := hok _ _ q
          obtain ⟨e2, _⟩ := hok1 _ _ (un.frzs _ _ _ q)
          cases e.symm.trans e1
          exact e2
        · exact absurd m nb
    have grown : ∀ p ∈ cs, ∃ more : Array Value, s1.heap.get? p.2 = some { cls := .none, data := .fields more } := fun p hp => by
      obtain ⟨more, q⟩ := un.tbls p.2 #[] (atT _ (List.mem_map.mpr ⟨p, hp, rfl⟩))
      exact ⟨_, hok1 p.2 _ q⟩
    refine ⟨rfl, ⟨fun b o e => ?_, fun b o e => ?_⟩, os, bare⟩
    · by_cases m : b ∈ cs.map (·.2)
      · obtain ⟨p, hp, rfl⟩ := List.mem_map.mp m
        obtain ⟨more, q⟩ := grown p hp
        cases e.symm.trans (tabs p hp)
        exact .inr (.inl ⟨((codes p hp).tab (tabs p hp)).isCodeTable, rfl, #[], more, rfl, by rw [Array.empty_append]; exact q⟩)
      · exact .inl (stay b o m e)
    · by_cases m : b ∈ cs.map (·.2)
      · obtain ⟨p, hp, rfl⟩ := List.mem_map.mp m
        obtain ⟨more, q⟩ := grown p hp
        exact ⟨_, q⟩
      · exact ⟨o, stay b o m e⟩
/-- the def's code object and its table, by the top -/
theorem tab_at {p : Program} {h : Heap} {K : PySem.W.Frag} {mg : Str → Option Value} {x : Str} {f : Addr} {oc : Value} {od : Option Addr} {fd : FuncData} {sl : Array (Option Value)}
    (tab : ∀ d ∈ recsOf p, ∃ a o fd c P, mg d.name = some (.ref a) ∧ h.get? a = some o ∧ o.data = .func fd ∧ fd.code = .ref c ∧ h.IsCode c P #[] ∧ h.TableAt c P #[]) (X : K.In h) (hx : ((recsOf p).any fun d => d.name == x) = true) (hm : mg x = some (.ref f))
    (lk : K.lookup f = some ⟨oc, od, .func fd, sl⟩) : ∃ c P, fd.code = .ref c ∧ PySem.W.CodeHd h c P ∧ h.get? P = some tab0 := by
  obtain ⟨d, hd, e⟩ := List.any_eq_true.mp hx
  obtain rfl : d.name = x := beq_iff_eq.mp e
  obtain ⟨a, o, fd2, c, P, h1, h2, h3, h4, h5, h6⟩ := tab d hd
  cases hm.symm.trans h1
  cases h2.symm.trans (X _ _ lk)
  cases h3
  exact ⟨c, P, h4, PySem.W.CodeHd.of h5 h6, h6.2⟩
theorem walk_gT {l : PySem.W.OpenLaw} {n k : Nat} {q : Program} {loose : List Str} {XP : (Str → Option Value) → Heap → Prop} {YP : World → Heap → Prop} {d : DefRec} {K : Params → PySem.W.Frag} {x : Str}
    (hn : l.most = some n) (hn2 : n ≤ sizeLine) (hdf : d.params.defaults = []) (hr : Room k callerA) (hY : ∀ (w : World) (h : Heap), YP w h → (K w.params).In h) (noT : ∀ w : World, PySem.W.noTabs (K w.params) = true)
    (F : ∀ (w : World) (mg : Str → Option Value) (fa : Addr) (h : Heap), (K w.params).In h → h.Ns mainGlobals mg → mg d.name = some (.ref fa) →
      (∀ d ∈ recsOf q, ∃ a o fd c P, mg d.name = some (.ref a) ∧ h.get? a = some o ∧ o.data = .func fd ∧ fd.code = .ref c ∧ h.IsCode c P #[] ∧ h.TableAt c P #[]) →
      ∃ (fd : FuncData) (cs : List (Addr × Addr)) (sp : Sp), (∀ p ∈ cs, PySem.W.CodeHd h p.1 p.2 ∧ h.get? p.2 = some tab0) ∧ (∀ (s : Shared) (u : Value), BindsTo s fd ⟨[u], []⟩ [(x, u)]) ∧
        (∀ (H : Hp) (a : Addr) (ns : List Int), ns.length ≤ n → (∀ p ∈ cs, H p.2 = some (.tbl #[])) → SqL (K w.params) H a (ns.map V.int) → sp [.ref a] H (fun v _ => v = .bl true) fun _ _ _ => False) ∧
        ∀ base : Heap, (K w.params).In base → base.Ns mainGlobals mg → (∀ p ∈ cs, TabB base mg p.1 p.2) → GOk l.prog w (K w.params) mg base CX0 k fa fd [x] sp) :
    PySem.W.WalkO q loose XP YP l.row.toRowW d [] (fun f vs => PySem.call f vs) :=
  Att.attach_call hn hdf fun w s₀ s₁ mg mb fa o pm cd doc a vs ns G Y ho hd hcd hmg hobj hints hlen hg => by
    obtain ⟨fd, cs, sp, ht, hb, hsp, hF⟩ := F w mg fa _ (hY w _ Y) G.T.g hmg G.T.tab
    exact run_lawT (hY w _ Y) G.T.g G.T.b G.T.builtins G.T.nolimit hg G.T.bmain (fun p hp => (ht p hp).2) (fun p hp => (ht p hp).1) (noT w) hobj hints (Nat.le_trans hlen hn2) hr hF hb fun H hT hS => hsp H a ns hlen hT hS
end TT

set_option Elab.async false
set_option linter.all false
set_option maxRecDepth 100000
set_option maxHeartbeats 4000000
/-! list(range(a, b)) with ends of any size. -/
namespace TT
open PySem PySem.Spec PyProof.Rows L2
section
variable {prog : Program} {w : World} {A : Around} {E : Value → Shared → Prop} {s : Shared}
/-- the list at S takes what the range at r yields, by the iterator for great ends -/
theorem take_long {R : Result → Shared → Prop} {r S : Addr} {a b c : Int} {t u v : Tok} {n k0 : Nat} {res : Value} (hh : A.handled = none) (hr : IsRange s.heap r a b c t u v) (big : Builtin.Range.small a b c = false) (hn : Builtin.Range.rangeSize a b c = n) (hl : n ≤ 2 ^ 24)
    (hS : s.heap.get? S = some { cls := .type "list", data := .seq #[] k0 })
    (done : ∀ h' tk its k, (∀ x o, x ≠ S → s.heap.get? x = some o → h'.get? x = some o) → h'.get? S = some { cls := .type "list", dict := none, data := .seq its k, slots := #[] } → ItemsOf (fun i y => ∃ t, y = .int (a + i * c) t) its n → R (.ok (.ret res)) { s with heap := h', toks := tk }) :
    wpAny (model prog w) A.in1 (Builtin.List.listExtendWith (.ref S) (.ref r) res)
      (fun fin s1 => match fin with | .done f => R (.ok f) s1 | .again c1 => c1.quiet = true ∧ codeAny (model prog w) A c1 R s1) (fun e s1 => R (.error e) s1) s := by
  have apart : S ≠ r := by
    rintro rfl
    have z := congrArg (fun o => o.map Obj.cls) (hr.symm.trans hS)
    simp at z
  have below : S < s.heap.objs.size := Heap.lt_size hS
  have notI : S ≠ s.heap.objs.size := Nat.ne_of_lt below
  have walk := (Walks.longrange (prog := prog) (w := w) (A := A.in1) hh s.heap.objs.size a c n).toS
  have loop : ∀ (h : Heap) (k tk : Nat), IsLongIter h s.heap.objs.size (a + ((0 : Nat) : Int) * c) ((n : Int) - ((0 : Nat) : Int)) c → (∀ x o, x ≠ S → s.heap.get? x = some o → h.get? x = some o) →
      h.get? S = some { cls := .type "list", data := .seq #[] k } → codeAny (model prog w) A (.builtin "list.extend.loop" ⟨[.ref S, .ref s.heap.objs.size, res], []⟩) R { s with heap := h, toks := tk } := fun h k tk it old atS => by
    refine codeAny_extend_loopS walk (by rw [sizeLine_eq]; omega) S (fun m => notI (List.mem_singleton.mp m)) res n 0 _ #[] k rfl (Nat.zero_le _) it atS (ItemsOf.nil _) fun s1 its k1 mv at1 all => ?_
    rw [Moved.eq_with mv]
    refine done s1.heap s1.toks its k1 (fun x o nx e => mv.heap x o (fun m => ?_) (old x o nx e)) at1 all
    rcases List.mem_cons.mp m with z | z
    · exact nx z
    · have lt := Heap.lt_size e
      rw [List.mem_singleton.mp z] at lt
      exact Nat.lt_irrefl _ lt
  have n1 : Builtin.List.listSameRef (.ref S) (.ref r) = false := by simp [Builtin.List.listSameRef, apart]
  have n2 : (Value.type "range" == Value.type "list") = false := by decide
  have n3 : (Value.type "range" == Value.type "tuple") = false := by decide
  unfold Builtin.List.listExtendWith
  refine wpAny_bind (wpAny_typeOf (T := "range") ⟨_, hr, rfl⟩ ?_)
  simp only [n1, n2, n3, Bool.or_false, Bool.false_eq_true, if_false]
  refine wpAny_bind (wpAny_pyIter_longrange hr big (wpAny_bind (wpAny_holding (wpAny_hint_range (n := n) (Heap.get?_push_of_some _ hr) hn hl ?_))))
  have it1 : IsLongIter (s.heap.push { cls := .type "longrange_iterator", data := .fields #[rawInt a, rawInt (Builtin.Range.rangeSize a b c), rawInt c] }) s.heap.objs.size (a + ((0 : Nat) : Int) * c) ((n : Int) - ((0 : Nat) : Int)) c := by
    rw [hn]
    simpa using Heap.get?_push_size _ rfl
  have S1 := Heap.get?_push_of_some { cls := .type "longrange_iterator", data := .fields #[rawInt a, rawInt (Builtin.Range.rangeSize a b c), rawInt c] } hS
  refine wpAny_ite_split (fun _ => ?_) (fun _ => wpAny_pure ⟨plainId_quiet F.plain_extend_loop _, loop _ k0 _ it1 (fun _ _ _ e => Heap.get?_push_of_some _ e) S1⟩)
  refine wpAny_bind (wpAny_rule (wpAny_bind ?_))
  show wpAny _ _ (updateSeq S (·.push .none) >>= fun _ => updateSeq S (·.pop)) _ _ _
  have S2 := Heap.get?_update_self (Obj.mapSeq (·.push Value.none)) S1 rfl
  refine wpAny_bind (wpAny_updateSeq S1 rfl (wpAny_updateSeq (hz := by seq_fits) S2 rfl ?_))
  have S3 := Heap.get?_update_self (Obj.mapSeq (·.pop)) S2 rfl
  refine wpAny_pure ⟨plainId_quiet F.plain_extend_loop _, loop _ _ _ ?_ (fun x o nx e => ?_) S3⟩
  · exact (Heap.get?_update_other _ _ notI).trans ((Heap.get?_update_other _ _ notI).trans it1)
  · exact (Heap.get?_update_other _ _ (Ne.symm nx)).trans ((Heap.get?_update_other _ _ (Ne.symm nx)).trans (Heap.get?_push_of_some _ e))
theorem list_long {Q : Value → Shared → Prop} {r : Addr} {a b c : Int} {t u v : Tok} {n : Nat} (hh : A.handled = none) (hr : IsRange s.heap r a b c t u v) (big : Builtin.Range.small a b c = false) (hn : Builtin.Range.rangeSize a b c = n) (hl : n ≤ 2 ^ 24)
    (done : ∀ h' tk its k, (∀ x o, s.heap.get? x = some o → h'.get? x = some o) → h'.get? s.heap.objs.size = some { cls := .type "list", dict := none, data := .seq its k, slots := #[] } → ItemsOf (fun i y => ∃ t, y = .int (a + i * c) t) its n → Q (.ref s.heap.objs.size) { s with heap := h', toks := tk }) :
    wpAny (model prog w) A (call (.type "list") [.ref r]) Q E s := by
  refine callType_codes (Q₁ := fun obj s1 => obj = .ref s.heap.objs.size ∧ s1 = { s with heap := s.heap.push { cls := .type "list", data := .seq #[] } }) F.called_list (F.typeCall_list_1 _) F.entry_list_init (code_list_new _ ⟨rfl, rfl⟩) fun obj s1 ⟨e1, e2⟩ => ?_
  subst e1 e2
  have S0 : (s.heap.push { cls := .type "list", data := .seq #[] }).get? s.heap.objs.size = some { cls := .type "list", data := .seq #[] } := Heap.get?_push_size _ rfl
  have r0 := Heap.get?_push_of_some { cls := .type "list", data := .seq #[] } hr
  refine ⟨⟨_, S0, rfl⟩, F.args_list_init_2 _ _, ?_⟩
  have apart : r ≠ s.heap.objs.size := Nat.ne_of_lt (Heap.lt_size hr)
  show wpAny _ _ (do let old ← Builtin.List.listItems (.ref s.heap.objs.size); Builtin.List.listUpdate (.ref s.heap.objs.size) (fun _ => #[]); letGo old.toList.reverse; Builtin.List.listExtendWith (.ref s.heap.objs.size) (.ref r) .none) _ _ _
  refine wpAny_bind ?_
  unfold Builtin.List.listItems
  refine wpAny_bind (wpAny_seqItems S0 rfl (wpAny_pure ?_))
  show wpAny _ _ (updateSeq s.heap.objs.size (fun _ => #[]) >>= fun _ => letGo (#[] : Array Value).toList.reverse >>= fun _ => Builtin.List.listExtendWith (.ref s.heap.objs.size) (.ref r) .none) _ _ _
  refine wpAny_bind (wpAny_updateSeq S0 rfl (wpAny_bind (wpAny_letGo ?_)))
  have off : ∀ {x : Addr} {f : Obj → Obj}, x ≠ s.heap.objs.size → ((s.heap.push { cls := .type "list", data := .seq #[] }).update s.heap.objs.size f).get? x = (s.heap.push { cls := .type "list", data := .seq #[] }).get? x := fun nx => Heap.get?_update_other _ _ (Ne.symm nx)
  refine take_long (A := A.in1) (s := { s with heap := (s.heap.push { cls := .type "list", data := .seq #[] }).update s.heap.objs.size (Obj.mapSeq (fun _ => (#[] : Array Value))) }) (S := s.heap.objs.size) hh ((off apart).trans r0) big hn hl (Heap.get?_update_self (Obj.mapSeq (fun _ => (#[] : Array Value))) S0 rfl) fun h' tk its k old at1 all => ?_
  refine ⟨rfl, done h' tk its k (fun x o e => ?_) at1 all⟩
  have nx := Nat.ne_of_lt (Heap.lt_size e)
  exact old x o nx ((off nx).trans (Heap.get?_push_of_some _ e))
end
section
variable {X : Cx} {e : Expr} {te : L2.St → Hp → (Int → Int → Hp → Prop) → Prop}
def tLstRgW (te : L2.St → Hp → (Int → Int → Hp → Prop) → Prop) : TE := fun σ H Q => te σ H fun a b H1 => (b - a).toNat ≤ 2 ^ 24 ∧ ∀ q, H1 q = none → Q (.ref q) (upd H1 q (.lst (rgV a b)))
theorem pe_listRgW {p pos : Pos} (hc : X.calm = true) (hg : Gl X "list") (hm : X.mg "list" = none) (he : PRg X e te) (na : starEach [e] X.env = (false, eval e X.env) :: starEach [] X.env := by rfl) : PE X (.Call (.Name "list" p) [e] [] pos) (tLstRgW te) := by
  constructor
  intro pins s σ H Q I h
  refine Call_ (ld_blt I hg hm boot_list (PyProof.Rows.callWith_type1 (args_cons (thn (he pins s σ H _ I h) fun x s1 ⟨r, a, b, t, u, v, H1, ex, hr, I1, ok, q⟩ => args_nil ?_) na) na))
  subst ex
  have fin : ∀ h' tk its k, (∀ x o, s1.heap.get? x = some o → h'.get? x = some o) → h'.get? s1.heap.objs.size = some { cls := .type "list", dict := none, data := .seq its k, slots := #[] } → ItemsOf (fun i y => ∃ t, y = .int (a + i * 1) t) its (b - a).toNat →
      EP X pins σ Q (.ref s1.heap.objs.size) { s1 with heap := h', toks := tk } := fun h' tk its k old at1 all => by
    refine ⟨.ref s1.heap.objs.size, upd H1 s1.heap.objs.size (.lst (rgV a b)), I1.laid old (Nat.le_refl _) (show ObjOk X.prog X.w _ _ _ (.lst (rgV a b)) from ⟨?_, its.toList, k, vals_rg all, ?_⟩), rfl, q _ (I1.hok.fresh (Nat.le_refl _))⟩
    · rw [rgV_length, sizeLine_eq]
      omega
    · rw [Array.toArray_toList]
      exact at1
  by_cases sm : Builtin.Range.small a b 1 = true
  · exact call_list_range (I1.ok.hd hc) hr sm (rangeSize_nat a b) ok fin
  · exact list_long (I1.ok.hd hc) hr (by simpa using sm) (rangeSize_nat a b) ok fin
end
end TT

set_option Elab.async false
set_option linter.all false
set_option maxRecDepth 100000
set_option maxHeartbeats 4000000
/-! An own operation of two things of one own class. -/
namespace TT
open PySem PySem.Spec PyProof.Rows L2 LamX
/-- x op y, both instances of the class at C; what comes out is a thing -/
def rBinO (C : Addr) (sp : Sp) (E : XK) : R2 := fun x y H Q => ∃ a b, x = V.ref a ∧ y = V.ref b ∧ (∃ dx fs, H a = some (.ins C dx fs)) ∧ (∃ dx fs, H b = some (.ins C dx fs)) ∧ sp [.ref a, .ref b] H (fun v H' => (∃ c, v = V.ref c) ∧ Q v H') E
section
variable {X : Cx} {CX : CXT} {k : Nat} {f C : Addr} {fd : FuncData} {ps : List Str} {sp : Sp} {E : XK}
theorem op_binO {op : Operator} (F : FnOk X.prog X.w X.K X.mg X.base CX k f fd ps sp) (hr : Room k X.A) (hb : Binds X.K fd ps []) (hx : Passes CX X E) (hc : PySem.W.selfFirst X.K C = true)
    (hs : PySem.W.findIn X.K (.ref C) (PySem.dunder op.info.2) = some (some (.ref f))) (hf : PySem.W.isFn X.K (.ref f) = true) : OpR X (binaryOp op) (rBinO C sp E) := by
  intro pins s σ H x y v u Q I rx ry h
  obtain ⟨a, b, rfl, rfl, ⟨dx, fs, ha⟩, ⟨dy, gs, hb'⟩, hq⟩ := h
  obtain rfl : v = Value.ref a := rx
  obtain rfl : u = Value.ref b := ry
  obtain ⟨mA, O, _⟩ := ins_get I.hok ha
  obtain ⟨od, J, _⟩ := O.look
  obtain ⟨mB, O', _⟩ := ins_get I.hok hb'
  obtain ⟨od', J', _⟩ := O'.look
  obtain ⟨m, hF⟩ := I.fr
  refine PySem.W.binop_K hF I.ok.mod.kin J J'.type hc hs hf (wpAny_mono (run_fn (us := [.ref a, .ref b]) (vs := [.ref a, .ref b]) (dvs := []) (ds := []) F hr hb .nil hx I (.cons rfl (.cons rfl .nil)) hq) (fun v' s' z => ?_) fun _ _ z => z)
  obtain ⟨w', H', I', r', ⟨c, rfl⟩, q⟩ := z
  obtain rfl : v' = Value.ref c := r'
  exact ⟨.ref c, H', I', rfl, q⟩
end
end TT

set_option Elab.async false
set_option linter.all false
set_option maxRecDepth 100000
set_option maxHeartbeats 4000000
/-! max of a tuple of two ints; != of a list and []. -/
namespace TT
open PySem PySem.Spec PyProof.Rows L2 LamX
section
variable {X : Cx}
def rNeNil (K : PySem.W.Frag) : R2 := fun x y H Q => ∃ a b xs, x = .ref a ∧ y = .ref b ∧ SqL K H a xs ∧ SqL K H b [] ∧ Q (.bl (!xs.isEmpty)) H
theorem op_neNil (hu : X.A.units < cLine) : OpR X (compareOp .NotEq) (rNeNil X.K) := by
  intro pins s σ H x y v u Q I rx ry h
  obtain ⟨a, b, xs, rfl, rfl, ha, hb, q⟩ := h
  obtain rfl : v = Value.ref a := rx
  obtain rfl : u = Value.ref b := ry
  obtain ⟨its, rv, hl, _⟩ := I.list ha
  obtain ⟨its2, rv2, hl2, _⟩ := I.list hb
  cases rv2
  show wpAny (model X.prog X.w) X.A (richCompare .NotEq (.ref a) (.ref b)) (EP X pins σ Q) X.xe s
  cases rv with
  | nil => exact SeqAt.RcNeAt.lists (e := fun _ => true) hl.isList hl2.isList rfl hu (fun j h1 _ => absurd h1 (by simp)) X.prog X.w X.xe _ ⟨.bl false, H, I, rfl, q⟩
  | cons r rs => exact SeqAt.RcNeAt.lists_lengths hl.isList hl2.isList (by simp) hu X.prog X.w X.xe _ ⟨.bl true, H, I, rfl, q⟩
def rMaxT2 (K : PySem.W.Frag) : List V → Hp → VK → Prop := fun vs H Q => ∃ (a : Addr) (i j : Int), vs = [V.ref a] ∧ SqT K H a [.int i, .int j] ∧ Q (.int (if j > i then j else i)) H
theorem cr_maxT2 (hc : X.calm = true) (hu : X.A.units + 64 < cLine) : CallR X (.builtin "max") (rMaxT2 X.K) := by
  intro pins s σ H vs us Q I r h
  obtain ⟨a, i, j, rfl, hs, q⟩ := h
  obtain ⟨its, rv, ht, _⟩ := I.tuple hs
  rw [Vals.ref1 r]
  cases rv with
  | cons r1 rs =>
    cases rs with
    | cons r2 r3 =>
      cases r3
      obtain ⟨t, rfl⟩ := r1
      obtain ⟨t', rfl⟩ := r2
      refine PySem.W.max_tuple_data (x := .int i) (xs := [.int j]) (I.ok.hd hc) ht (.cons (.int i t) (.cons (.int j t') .nil)) ?_ ?_ fun k v h' tk bs hv hr hk => ?_
      · refine ⟨fun x hx y hy => ?_, fun x hx => ?_⟩
        · simp only [List.mem_cons, List.not_mem_nil, or_false] at hx hy
          rcases hx with rfl | rfl <;> rcases hy with rfl | rfl <;> simp [PySem.W.alike]
        · simp only [List.mem_cons, List.not_mem_nil, or_false] at hx
          rcases hx with rfl | rfl <;> simp
      · simp only [PyData.depthAll, PyData.depth]
        omega
      · have e : PySem.W.maxD (.int i) [.int j] = .int (if j > i then j else i) := by
          have := PySem.W.maxD_ints i [j]
          simp only [List.map_cons, List.map_nil, List.foldl_cons, List.foldl_nil] at this
          rw [this]
          congr 1
          rw [Int.max_def]
          split <;> split <;> omega
        rw [e] at hr
        cases hr with
        | int z t => exact ⟨.int _, H, I.kept hk, ⟨_, rfl⟩, q⟩
end
end TT

set_option Elab.async false
set_option linter.all false
set_option maxRecDepth 100000
set_option maxHeartbeats 400000
/-! own ==, with either answer, of a thing and another one or a tuple; != by way of it. -/
namespace TT
open PySem PySem.Spec PyProof.Rows PySem.SeqAt
section
variable {M : Model} {prog : Program} {w : World} {A : Around} {E : Value → Shared → Prop} {s : Shared} {K : PySem.W.Frag} {x C f L : Addr} {ox : Obj} {od : Option Obj} {b tb : Value} {h₀ : Heap} {m : Str → Option Value}
theorem entry_ne {Q : Fin → Shared → Prop} (hu : A.units < cLine) (X : K.In s.heap) (I : PySem.W.InstAt s.heap x ox C od) (hs : PySem.W.findIn K (.ref C) "__eq__" = some (some (.ref f))) (hf : PySem.W.isFn K (.ref f) = true)
    (h : wpAny M A (call (.ref f) [.ref x, b]) (fun v s' => ∃ k, v = .bool k ∧ Q (.done (.ret (.bool (!k)))) s') E s) : wpAny M A (Builtin.«object.__ne__» ⟨[.ref x, b], []⟩) Q E s := by
  unfold Builtin.«object.__ne__»
  repeat (first | with_reducible refine wpAny_cRoomFor hu ?_ | (with_reducible refine PySem.W.ifBound_K X I hs hf (wpAny_mono h (fun v s' z => ?_) fun _ _ e => e); obtain ⟨k, rfl, q⟩ := z) | wp_step)
  exact q
theorem call_objNe {Q : Value → Shared → Prop} (hu : A.units + 1 < cLine) (X : K.In s.heap) (I : PySem.W.InstAt s.heap x ox C od) (hm : PySem.W.mroIn K C (.type "object") = some true) (hs : PySem.W.findIn K (.ref C) "__eq__" = some (some (.ref f))) (hf : PySem.W.isFn K (.ref f) = true)
    (h : wpAny (model prog w) A.in1 (call (.ref f) [.ref x, b]) (fun v s' => ∃ k, v = .bool k ∧ Q (.bool (!k)) s') E s) :
    wpAny (model prog w) A (call (.builtin "object.__ne__") [.ref x, b]) Q E s :=
  wpAny_call (codeAny_call_builtin F.cmp_object.ne.plain F.cmpEntry_ne (PySem.W.check_slot F.cmpKind_ne F.cmpSplit_ne (I.type.andThen (PySem.W.looks_mroIn X hm)) (F.cmpArgs_ne _ _)
    (entry_ne (A := A.in1) hu X I hs hf (wpAny_mono h (fun v s' z => z) fun _ _ e => e))))
theorem ifBound_objNe {args : List Value} {Q : Option Value → Shared → Prop} (X : K.In s.heap) (I : PySem.W.InstAt s.heap x ox C od) (hs : PySem.W.findIn K (.ref C) "__ne__" = some (some (.builtin "object.__ne__")))
    (h : wpAny M A (call (.builtin "object.__ne__") (.ref x :: args)) (fun v => Q (some v)) E s) : wpAny M A (callSpecialIfBound? (.ref x) "__ne__" args) Q E s := by
  simp only [callSpecialIfBound?, bindSpecialIfBound?]
  refine wpAny_holding (wpAny_bind (wpAny_bind (wpAny_bind (I.type.here ((PySem.W.looks_findIn X hs).here ?_)))))
  refine wpAny_bind (wpAny_askSetting (wpAny_ite ?_))
  have fin : wpAny M A (call (.builtin "object.__ne__") ([.ref x] ++ args) >>= fun v => pure (some v)) Q E s := wpAny_bind (wpAny_mono h (fun v s' h' => wpAny_pure h') fun _ _ h' => h')
  split
  · exact wpAny_bind (wpAny_of_eq (F.cmp_object.ne.bind _) (wpAny_pure (by exact fin)))
  · exact wpAny_tryCatch (wpAny_bind (wpAny_of_eq (F.cmp_object.ne.bind _) (wpAny_pure (by exact fin))))
/-- x != b, the class of x having an own == and no own != -/
theorem ne_K {Q : Value → Shared → Prop} (hu : A.units + 1 < cLine) (X : K.In s.heap) (I : PySem.W.InstAt s.heap x ox C od) (hb : PySem.W.Looks (model prog w) s.heap (typeOf b) tb) (hn : PySem.W.notFirst K C tb = true)
    (hm : PySem.W.mroIn K C (.type "object") = some true) (hne : PySem.W.findIn K (.ref C) "__ne__" = some (some (.builtin "object.__ne__"))) (hs : PySem.W.findIn K (.ref C) "__eq__" = some (some (.ref f))) (hf : PySem.W.isFn K (.ref f) = true)
    (h : wpAny (model prog w) A.in1 (call (.ref f) [.ref x, b]) (fun v s' => ∃ k, v = .bool k ∧ Q (.bool (!k)) s') E s) : wpAny (model prog w) A (richCompare .NotEq (.ref x) b) Q E s := by
  have one : wpAny (model prog w) A (tryCompare (.ref x) "__ne__" b) (fun r s' => ∃ v, r = some v ∧ Q v s') E s := by
    unfold tryCompare
    refine wpAny_bind (ifBound_objNe X I hne (wpAny_mono (call_objNe (Q := fun v s' => ∃ k, v = .bool k ∧ Q v s') hu X I hm hs hf (wpAny_mono h (fun v s' ⟨k, e, q⟩ => ⟨k, e, _, rfl, q⟩) fun _ _ e => e)) (fun v s' z => ?_) fun _ _ e => e))
    obtain ⟨k, rfl, q⟩ := z
    exact wpAny_pure ⟨_, rfl, q⟩
  unfold richCompare
  simp only [oneThing_ref]
  refine wpAny_holding (wpAny_bind (wpAny_cRoomFor (by omega) ?_))
  refine wpAny_bind (I.type.here (wpAny_bind (hb.here ?_)))
  split
  · rename_i q
    have e : PySem.W.subIn K tb (.ref C) = some false := by
      rcases Bool.or_eq_true_iff.mp hn with e | e
      · rw [beq_iff_eq.mp e] at q; simp at q
      · exact beq_iff_eq.mp e
    refine wpAny_bind ((PySem.W.looks_subIn X e).here ?_)
    simp only [Bool.false_eq_true, if_false]
    refine wpAny_bind (wpAny_mono one (fun r s' z => ?_) fun _ _ e => e)
    obtain ⟨v, rfl, hq⟩ := z
    exact wpAny_pure hq
  · refine wpAny_bind (wpAny_pure ?_)
    simp only [Bool.false_eq_true, if_false]
    refine wpAny_bind (wpAny_mono one (fun r s' z => ?_) fun _ _ e => e)
    obtain ⟨v, rfl, hq⟩ := z
    exact wpAny_pure hq
end
open L2 LamX
/-- y is an instance of the class at C, or a tuple -/
inductive Oth (C : Addr) (H : Hp) : V → Prop
  | ins {b dy : Addr} {gs : List (Str × V)} (h : H b = some (.ins C dy gs)) : Oth C H (.ref b)
  | tup {b : Addr} {xs : List V} (h : H b = some (.tup xs)) : Oth C H (.ref b)
/-- x == y by the own __eq__, which answers by a bool -/
def rEqO (C : Addr) (sp : Sp) (E : XK) : R2 := fun x y H Q => ∃ a dx fs, x = V.ref a ∧ H a = some (.ins C dx fs) ∧ Oth C H y ∧ sp [.ref a, y] H (fun v H' => (∃ b, v = V.bl b) ∧ Q v H') E
def rNeO (C : Addr) (sp : Sp) (E : XK) : R2 := fun x y H Q => ∃ a dx fs, x = V.ref a ∧ H a = some (.ins C dx fs) ∧ Oth C H y ∧ sp [.ref a, y] H (fun v H' => ∃ b, v = V.bl b ∧ Q (.bl (!b)) H') E
section
variable {X : Cx} {CX : CXT} {k : Nat} {f C : Addr} {fd : FuncData} {ps : List Str} {sp : Sp} {E : XK}
theorem oth_type {pins : List (Addr × Obj)} {σ : L2.St} {H : Hp} {s : Shared} {M : Model} (I : Inv X pins σ H s) {y : V} {u : Value} (ry : RelV y u) (o : Oth C H y) (ht : PySem.W.notFirst X.K C (.type "tuple") = true) :
    ∃ tb, PySem.W.Looks M s.heap (typeOf u) tb ∧ PySem.W.notFirst X.K C tb = true := by
  cases o with
  | @ins b dy gs h =>
    obtain rfl : u = Value.ref b := ry
    obtain ⟨mB, O, _⟩ := ins_get I.hok h
    obtain ⟨od, J, _⟩ := O.look
    exact ⟨_, J.type, by simp [PySem.W.notFirst]⟩
  | @tup b xs h =>
    obtain rfl : u = Value.ref b := ry
    obtain ⟨its, _, ⟨o, ho, hc, _⟩, _⟩ := I.tuple (SqT.of h)
    exact ⟨_, hc ▸ (PySem.W.Looks.ld ho).andThen .now, ht⟩
theorem op_eqO (F : FnOk X.prog X.w X.K X.mg X.base CX k f fd ps sp) (hr : Room k X.A) (hb : Binds X.K fd ps []) (hx : Passes CX X E) (ht : PySem.W.notFirst X.K C (.type "tuple") = true)
    (hs : PySem.W.findIn X.K (.ref C) "__eq__" = some (some (.ref f))) (hf : PySem.W.isFn X.K (.ref f) = true) : OpR X (compareOp .Eq) (rEqO C sp E) := by
  intro pins s σ H x y v u Q I rx ry h
  obtain ⟨a, dx, fs, rfl, ha, o, hq⟩ := h
  obtain rfl : v = Value.ref a := rx
  obtain ⟨mA, O, _⟩ := ins_get I.hok ha
  obtain ⟨od, J, _⟩ := O.look
  obtain ⟨m, hF⟩ := I.fr
  obtain ⟨tb, lt, hn⟩ := oth_type (M := model X.prog X.w) I ry o ht
  show wpAny (model X.prog X.w) X.A (richCompare .Eq (.ref a) u) (EP X pins σ Q) X.xe s
  refine PySem.W.cmp_K (op := .Eq) hr.units0 hF I.ok.mod.kin J lt hn hs hf (wpAny_mono (run_fn (us := [.ref a, u]) (vs := [.ref a, y]) (dvs := []) (ds := []) F hr hb .nil hx I (.cons rfl (.cons ry .nil)) hq) (fun v' s' z => ?_) fun _ _ z => z)
  obtain ⟨w', H', I', r', ⟨c, rfl⟩, q⟩ := z
  obtain rfl : v' = Value.bool c := r'
  exact ⟨.bl c, H', I', rfl, q⟩
theorem op_neO (F : FnOk X.prog X.w X.K X.mg X.base CX k f fd ps sp) (hr : Room k X.A.in1) (hu : X.A.units + 64 < cLine) (hb : Binds X.K fd ps []) (hx : Passes CX X E) (ht : PySem.W.notFirst X.K C (.type "tuple") = true)
    (hm : PySem.W.mroIn X.K C (.type "object") = some true) (hne : PySem.W.findIn X.K (.ref C) "__ne__" = some (some (.builtin "object.__ne__")))
    (hs : PySem.W.findIn X.K (.ref C) "__eq__" = some (some (.ref f))) (hf : PySem.W.isFn X.K (.ref f) = true) : OpR X (compareOp .NotEq) (rNeO C sp E) := by
  intro pins s σ H x y v u Q I rx ry h
  obtain ⟨a, dx, fs, rfl, ha, o, hq⟩ := h
  obtain rfl : v = Value.ref a := rx
  obtain ⟨mA, O, _⟩ := ins_get I.hok ha
  obtain ⟨od, J, _⟩ := O.look
  obtain ⟨tb, lt, hn⟩ := oth_type (M := model X.prog X.w) I ry o ht
  show wpAny (model X.prog X.w) X.A (richCompare .NotEq (.ref a) u) (EP X pins σ Q) X.xe s
  refine ne_K (by omega) I.kIn J lt hn hm hne hs hf ?_
  have e0 : Env0 X.prog X.w X.K X.mg X.base X.A.in1 X.stack s H := by
    have e := I.env0
    exact ⟨e.frames, e.mod, e.bs, e.bsz, e.funs, e.frf, e.hok, e.bare⟩
  have hl := F.len _ _ _ _ hq
  have r2 : Vals [V.ref a, y] [Value.ref a, u] := .cons rfl (.cons ry .nil)
  refine wpAny_call (codeAny_mono (F.run X.A.in1 X.stack s H ⟨[.ref a, u], []⟩ [.ref a, u] [.ref a, y] _ E hr e0 (by
    have := hb s [.ref a, u] I.kIn (by simpa using hl)
    simpa using this) r2 hq) fun r s' hq => ?_)
  cases r with
  | error e => exact hx pins σ H s e s' I hq
  | ok fl =>
    cases fl with
    | ret w =>
      obtain ⟨z, H', I', rz, ⟨c, ez, q⟩⟩ := I.after hq
      subst ez
      obtain rfl : w = Value.bool c := rz
      exact ⟨c, rfl, .bl (!c), H', I', rfl, q⟩
    | next => exact False.elim hq
    | brk => exact False.elim hq
    | cont => exact False.elim hq
end
end TT

set_option Elab.async false
set_option linter.all false
set_option maxRecDepth 100000
set_option maxHeartbeats 4000000
/-! An own operation whose right side is any value of a built-in type. -/
namespace TT
open PySem PySem.Spec PyProof.Rows
section
variable {pr : Program} {wd : World} {ar : Around} {er : Value → Shared → Prop} {st : Shared} {K : PySem.W.Frag} {x C L f : Addr} {ob : Obj} {xd : Option Obj} {y : Value} {T : String} {hb : Heap} {mm : Str → Option Value}
theorem own_op {op : Operator} {fo ro : Option Value} {Q : Value → Shared → Prop} (F : Fr hb L st.heap mm) (KI : K.In hb) (J : PySem.W.InstAt st.heap x ob C xd) (ty : PySem.W.Looks (model pr wd) st.heap (typeOf y) (.type T)) (first : PySem.W.selfFirst K C = true)
    (own : PySem.W.findIn K (.ref C) (PySem.dunder op.info.2) = some (some (.ref f))) (fn : PySem.W.isFn K (.ref f) = true) (noR : PySem.W.findIn K (.ref C) (dunderR op.info.2) = some none)
    (left : PySem.W.findIn K (.type T) (PySem.dunder op.info.2) = some fo) (right : PySem.W.findIn K (.type T) (dunderR op.info.2) = some ro) (apart : PySem.W.subIn K (.type T) (.ref C) = some false)
    (go : wpAny (model pr wd) ar (call (.ref f) [.ref x, y]) (PySem.W.CmpBack Q) er st) : wpAny (model pr wd) ar (binaryOp op (.ref x) y) Q er st := by
  have KS := KI.keeps F.keep
  obtain ⟨cd, mr, c1, c2⟩ := PySem.W.ksp_first first
  rcases ei : op.info with ⟨sym, nm⟩
  rw [ei] at own noR left right
  dsimp only at own noR left right
  have try1 := PySem.W.ksp_try KS J own fn go
  obtain ⟨hp, g, d, tk, os⟩ := st
  have l1 : PySem.W.Looks (model pr wd) hp (typeOf (.ref x)) (.ref C) := J.type
  have l2 : PySem.W.Looks (model pr wd) hp (typeOf y) (.type T) := ty
  have l3 : PySem.W.Looks (model pr wd) hp (fillsNumberSlot (.ref C) nm) true := PySem.W.fills_K KS c1 c2 own
  have l4 : PySem.W.Looks (model pr wd) hp (fillsNumberSlot (.type T) nm) _ := PySem.W.ksp_fillsT KS left right
  have l5 : PySem.W.Looks (model pr wd) hp (isSubtype (.type T) (.ref C)) false := PySem.W.looks_subIn KS apart
  have l6 : PySem.W.Looks (model pr wd) hp (numberSlotInPython (.ref C) nm) true := PySem.W.ksp_inPy KS own noR (.inl rfl)
  have l7 : PySem.W.Looks (model pr wd) hp (numberSlotInPython (.type T) nm) false := PySem.W.Looks.of_pure rfl
  have l8 : PySem.W.Looks (model pr wd) hp (typeLookup (.type T) (dunderR nm)) ro := PySem.W.looks_findIn KS right
  generalize ((fo.isSome && !isSeqSlot fo) || (ro.isSome && !isSeqSlot ro)) = rs at l4
  have ne : (Value.ref C == Value.type T) = false := Bool.eq_false_iff.mpr fun z => by cases beq_iff_eq.mp z
  simp only [binaryOp, ei]
  refine wpAny_holding (wpAny_bind ?_)
  unfold binaryOp1
  refine wpAny_bind (l1.at (wpAny_bind (l2.at (wpAny_bind (l3.at ?_)))))
  simp only [ne, Bool.false_eq_true, if_false]
  cases rs
  all_goals
    ksp_lk
    refine wpAny_mono try1 (fun r s' z => ?_) fun _ _ z => z
    obtain ⟨v, rfl, q⟩ := z
    ksp_lk
    exact q
end
open L2 LamX
/-- the built-in type of a value, by its name -/
inductive Ty (H : Hp) : V → String → Prop
  | non : Ty H .non "NoneType"
  | bl (b : Bool) : Ty H (.bl b) "bool"
  | int (i : Int) : Ty H (.int i) "int"
  | str (x : Str) : Ty H (.str x) "str"
  | tup {a : Addr} {xs : List V} (h : H a = some (.tup xs)) : Ty H (.ref a) "tuple"
  | lst {a : Addr} {xs : List V} (h : H a = some (.lst xs)) : Ty H (.ref a) "list"
  | dK {a : Addr} {kvs : List (Key × V)} (h : H a = some (.dK kvs)) : Ty H (.ref a) "dict"
/-- what the operation's rule asks of that type -/
def RightT (K : PySem.W.Frag) (op : Operator) (C : Addr) (T : String) : Prop := ∃ fo ro, PySem.W.findIn K (.type T) (PySem.dunder op.info.2) = some fo ∧ PySem.W.findIn K (.type T) (dunderR op.info.2) = some ro ∧ PySem.W.subIn K (.type T) (.ref C) = some false
/-- x op y, x an instance of the class at C, y of a built-in type; what comes out is a thing -/
def rBinV (K : PySem.W.Frag) (op : Operator) (C : Addr) (sp : Sp) (E : XK) : R2 := fun x y H Q => ∃ a dx fs T, x = V.ref a ∧ H a = some (.ins C dx fs) ∧ Ty H y T ∧ RightT K op C T ∧ sp [.ref a, y] H (fun v H' => (∃ c, v = V.ref c) ∧ Q v H') E
section
variable {X : Cx} {CX : CXT} {k : Nat} {f C : Addr} {fd : FuncData} {ps : List Str} {sp : Sp} {E : XK}
theorem Ty.looks {M : Model} {pins : List (Addr × Obj)} {σ : L2.St} {H : Hp} {s : Shared} {y : V} {u : Value} {T : String} (I : Inv X pins σ H s) (ry : RelV y u) (t : Ty H y T) : PySem.W.Looks M s.heap (typeOf u) (.type T) := by
  cases t with
  | non =>
    obtain rfl : u = Value.none := ry
    exact PySem.W.Looks.of_pure rfl
  | bl b =>
    obtain rfl : u = Value.bool b := ry
    exact PySem.W.Looks.of_pure rfl
  | int i =>
    obtain ⟨t, rfl⟩ := (show ∃ t, u = Value.int i t from ry)
    exact PySem.W.Looks.of_pure rfl
  | str x =>
    obtain ⟨t, rfl⟩ := (show ∃ t, u = Value.str x t from ry)
    exact PySem.W.Looks.of_pure rfl
  | @tup a xs h =>
    obtain rfl : u = Value.ref a := ry
    obtain ⟨its, _, ⟨o, ho, hc, _⟩, _⟩ := I.tuple (SqT.of h)
    exact hc ▸ (PySem.W.Looks.ld ho).andThen .now
  | @lst a xs h =>
    obtain rfl : u = Value.ref a := ry
    obtain ⟨its, _, ⟨o, _, ho, hc, _⟩, _⟩ := I.list (SqL.of h)
    exact hc ▸ (PySem.W.Looks.ld ho).andThen .now
  | @dK a kvs h =>
    obtain rfl : u = Value.ref a := ry
    have z := I.hok _ _ h
    unfold ObjOk at z
    obtain ⟨_, _, _, _, o, _, _, ho, ex, _⟩ := z
    exact ex.1 ▸ (PySem.W.Looks.ld ho).andThen .now
theorem op_binV {op : Operator} (F : FnOk X.prog X.w X.K X.mg X.base CX k f fd ps sp) (hr : Room k X.A) (hb : Binds X.K fd ps []) (hx : Passes CX X E) (hc : PySem.W.selfFirst X.K C = true)
    (hs : PySem.W.findIn X.K (.ref C) (PySem.dunder op.info.2) = some (some (.ref f))) (hf : PySem.W.isFn X.K (.ref f) = true) (hn : PySem.W.findIn X.K (.ref C) (dunderR op.info.2) = some none) : OpR X (binaryOp op) (rBinV X.K op C sp E) := by
  intro pins s σ H x y v u Q I rx ry h
  obtain ⟨a, dx, fs, T, rfl, ha, ty, ⟨fo, ro, t1, t2, t3⟩, hq⟩ := h
  obtain rfl : v = Value.ref a := rx
  obtain ⟨mA, O, _⟩ := ins_get I.hok ha
  obtain ⟨od, J, _⟩ := O.look
  obtain ⟨m, hF⟩ := I.fr
  refine own_op hF I.ok.mod.kin J (Ty.looks I ry ty) hc hs hf hn t1 t2 t3 (wpAny_mono (run_fn (us := [.ref a, u]) (vs := [.ref a, y]) (dvs := []) (ds := []) F hr hb .nil hx I (.cons rfl (.cons ry .nil)) hq) (fun v' s' z => ?_) fun _ _ z => z)
  obtain ⟨w', H', I', r', ⟨c, rfl⟩, q⟩ := z
  obtain rfl : v' = Value.ref c := r'
  exact ⟨.ref c, H', I', rfl, q⟩
end
end TT

set_option Elab.async false
set_option linter.all false
set_option maxRecDepth 100000
set_option maxHeartbeats 4000000
/-! Texts: numbers read, words joined and split. -/
namespace TT
open PySem PySem.Builtin PySem.Builtin.Str PySem.StrLaws PySem.Spec PyProof.Rows L2 TL
theorem at_zero_iff (x y : Str) : At x y x.length 0 ↔ Txt.startswith x y = true := by
  unfold Txt.startswith
  rw [Bool.and_eq_true, decide_eq_true_eq]
  exact Iff.rfl
theorem starts_one (x : Str) (c : Nat) : Txt.startswith x ⟨#[c]⟩ = ((tl x).head? == some c) := by
  have h := (at_zero_iff x ⟨#[c]⟩).symm.trans (at_iff (x := x) (y := ⟨#[c]⟩) (by simp) 0)
  rw [List.drop_zero] at h
  have e : pre (tl (⟨#[c]⟩ : Str)) (tl x) = ((tl x).head? == some c) := by
    show ((tl x).take 1 == [c]) = _
    cases tl x with
    | nil => simp
    | cons a l => simp
  rw [e] at h
  exact Bool.eq_iff_iff.mpr h
theorem dig_ascii : ∀ c, c < 128 → Unicode.isDigit c = (decide (48 ≤ c) && decide (c ≤ 57)) := by decide +kernel
/-- are these digits, one or more? -/
def allDig (l : List Nat) : Bool := !l.isEmpty && l.all fun c => decide (48 ≤ c) && decide (c ≤ 57)
theorem allDig_iff {l : List Nat} : allDig l = true ↔ l ≠ [] ∧ NumText.AllDigits l := by
  unfold allDig NumText.AllDigits
  simp [List.all_eq_true]
theorem isdigit_ascii (x : Str) (h : Txt.isascii x = true) : Txt.isdigit x = allDig (tl x) := by
  unfold Txt.isascii at h
  unfold Txt.isdigit allDig
  rw [← Array.all_toList] at h ⊢
  have e1 : decide (x.length > 0) = !(tl x).isEmpty := by
    rw [len_tl]
    cases tl x <;> simp
  rw [e1]
  congr 1
  rw [Bool.eq_iff_iff, List.all_eq_true, List.all_eq_true]
  rw [List.all_eq_true] at h
  refine ⟨fun a c hc => ?_, fun a c hc => ?_⟩
  · rw [← dig_ascii c (by simpa using h c hc)]
    exact a c hc
  · rw [dig_ascii c (by simpa using h c hc)]
    exact a c hc
theorem ascii_of {x : Str} (h : allDig (tl x) = true) : Txt.isascii x = true := by
  obtain ⟨_, h⟩ := allDig_iff.mp h
  unfold Txt.isascii
  rw [← Array.all_toList, List.all_eq_true]
  intro c hc
  have := h c hc
  simp
  omega
/-- the digits of a word -/
def digs (w : Str) : List Nat := if (tl w).head? = some 45 then (tl w).drop 1 else tl w
/-- the number that Python writes as this word -/
def numRead (w : Str) : Option Int :=
  if allDig (digs w) = true then
    if (digs w).head? = some 48 ∧ tl w ≠ [48] then none
    else some (if (tl w).head? = some 45 then -((NumText.digitsVal (digs w) : Nat) : Int) else ((NumText.digitsVal (digs w) : Nat) : Int))
  else none
theorem numL_head {n : Nat} (h : 1 ≤ n) : (numL n).head? ≠ some 48 := by
  induction n using Nat.strongRecOn with
  | _ n ih =>
    by_cases c : n < 10
    · rw [numL_lt c]
      simp
      omega
    · rw [numL_step (by omega)]
      have := ih (n / 10) (by omega) (by omega)
      cases e : numL (n / 10) with
      | nil => exact absurd e (numL_ne _)
      | cons a l =>
        rw [e] at this
        simpa using this
theorem numL_not45 (n : Nat) : (numL n).head? ≠ some 45 := by
  cases e : numL n with
  | nil => simp
  | cons a l =>
    have := numL_digits n a (by rw [e]; exact List.mem_cons_self)
    simp
    omega
theorem numL_allDig (n : Nat) : allDig (numL n) = true := allDig_iff.mpr ⟨numL_ne n, numL_digits n⟩
theorem numRead_nat (n : Nat) : numRead (Str.ofString (toString ((n : Nat) : Int))) = some (n : Int) := by
  unfold numRead digs
  rw [tl_num, if_neg (numL_not45 n), numL_allDig, if_pos rfl, if_neg (numL_not45 n), numL_val]
  rw [if_neg]
  rintro ⟨h1, h2⟩
  by_cases c : 1 ≤ n
  · exact numL_head c h1
  · have : n = 0 := by omega
    subst this
    exact h2 (numL_lt (by decide))
theorem numRead_neg {n : Nat} (h : 1 ≤ n) : numRead (Str.ofString "-" ++ Str.ofString (toString ((n : Nat) : Int))) = some (-(n : Int)) := by
  have e : tl (Str.ofString "-" ++ Str.ofString (toString ((n : Nat) : Int))) = 45 :: numL n := by
    rw [tl_append, tl_num] <;> rfl
  unfold numRead digs
  rw [e]
  simp only [List.head?_cons, if_true, List.drop_one, List.tail_cons]
  rw [numL_allDig, if_pos rfl, if_neg (fun z => numL_head h z.1), numL_val]
/-! the digits' value -/
theorem val_zero (l : List Nat) : NumText.digitsVal (48 :: l) = NumText.digitsVal l := rfl
theorem int_zero {d : Str} (h : allDig (tl d) = true) (hl : d.length ≤ 600) : intText? (Str.ofString "0" ++ d) = some ((NumText.digitsVal (tl d) : Nat) : Int) := by
  obtain ⟨h1, h2⟩ := allDig_iff.mp h
  have e : tl (Str.ofString "0" ++ d) = 48 :: tl d := by
    rw [tl_append] <;> rfl
  have z := PySem.intText_digits (x := Str.ofString "0" ++ d) (by
    show NumText.AllDigits (tl _)
    rw [e]
    intro c hc
    rcases List.mem_cons.mp hc with rfl | hc
    · decide
    · exact h2 c hc) (by show tl _ ≠ []; rw [e]; simp) (by rw [len_tl, e, List.length_cons, ← len_tl]; omega)
  rw [show (Str.ofString "0" ++ d).cps.toList = 48 :: tl d from e, val_zero] at z
  exact z
theorem cut_one (w : Str) : tl (cutS w (some 1) none) = (tl w).drop 1 := by
  have hl := len_tl w
  unfold cutS
  show (((tl w).drop (HT.sIx w.length 0 (some 1))).take (HT.sIx w.length w.length none - HT.sIx w.length 0 (some 1))) = _
  have e1 : HT.sIx w.length w.length none = w.length := rfl
  have e2 : HT.sIx w.length 0 (some 1) = min 1 w.length := by
    show (if (1 : Int) < 0 then ((1 : Int) + (w.length : Int)).toNat else min (1 : Int).toNat w.length) = _
    rw [if_neg (by decide)]
    rfl
  rw [e1, e2]
  by_cases c : w.length = 0
  · have : tl w = [] := List.length_eq_zero_iff.mp (by omega)
    rw [this]
    simp
  · have : min 1 w.length = 1 := by omega
    rw [this]
    exact List.take_of_length_le (by rw [List.length_drop]; omega)
theorem str_one (c : Nat) (x : Str) : (tl x = [c]) ↔ x = ⟨#[c]⟩ := ⟨fun h => ext_tl h, fun h => by rw [h]⟩
theorem str_eq_tl {x y : Str} : decide (V.str x = V.str y) = decide (tl x = tl y) := by
  by_cases c : x = y
  · subst c
    simp
  · rw [decide_eq_false (fun z => c (V.str.inj z)), decide_eq_false (fun z => c (ext_tl z))]
/-! words -/
theorem tl_str (s : String) : tl (Str.ofString s) = s.toList.map Char.toNat := by
  rw [Str.ofString_eq_toList]
theorem blank_free {n : Nat} : 32 ∉ numL n := numL_free (.inl (by decide))
end TT

set_option Elab.async false
set_option linter.all false
set_option maxRecDepth 100000
set_option maxHeartbeats 4000000
/-! A static method called by way of its class. -/
namespace TT
open PySem PySem.Spec PyProof.Rows L2 LamX
/-- C.m is a static method: its record at p, its def at g -/
structure CSta (K : PySem.W.Frag) (C : Addr) (mc : Value) (m : Str) (p g : Addr) : Prop where
  found : PySem.W.findCls K (.ref C) mc m = some (.get (.builtin "staticmethod.__get__") (.ref p) .none (.ref C))
  holds : ∃ more, PySem.W.recIn K p "staticmethod" = some (.ref g :: more)
  kept : PySem.W.keepIn K (.ref g) = true
def tStat (C : Addr) (sp : Sp) (E : XK) (to : TE) (ta : TA) : TE := fun σ H Q => to σ H fun x H1 => x = .ref C ∧ ta σ H1 fun vs H2 => sp (vs ++ []) H2 Q E
section
variable {X : Cx} {CX : CXT} {k : Nat} {C p g : Addr} {mc : Value} {fd : FuncData} {ps : List Str} {sp : Sp} {E : XK} {o e : Expr} {es : List Expr} {m : Str} {pos apos : Pos} {to : TE} {ta : TA} {pl : Sem Bool}
theorem sta_attr {pins : List (Addr × Obj)} {σ : L2.St} {H : Hp} {s : Shared} {A : Around} {b : Bool} {ER : Value → Shared → Prop} {Q : Value → Shared → Prop} (I : Inv X pins σ H s) (rd : ClX.CRead X.K C mc) (c : CSta X.K C mc m p g)
    (go : ∀ s1, Inv X pins σ H s1 → Q (.ref g) s1) : wpAny (model X.prog X.w) A (getAttr (.ref C) m b) Q ER s := by
  obtain ⟨more, hp⟩ := c.holds
  refine PySem.W.cls_bind I.kIn rd.rd c.found (wpAny_call ?_)
  exact PySem.W.sm_get (s := { s with toks := s.toks + 1 }) I.kIn hp (PySem.W.handed_on rfl (go _ (I.tok _)))
theorem pe_stat (ho : PE X o to) (rd : ClX.CRead X.K C mc) (c : CSta X.K C mc m p g) (F : FnOk X.prog X.w X.K X.mg X.base CX k g fd ps sp) (hr : Room k X.A) (hb : Binds X.K fd ps []) (hx : Passes CX X E) (ha : PA X (e :: es) ta)
    (star : starEach (e :: es) X.env = (false, eval e X.env) :: starEach es X.env := by rfl) (plain : (backTo pos (starEach es X.env)).any (·.1) = false := by rfl)
    (runs : eval (.Call (.Attribute o m apos) (e :: es) [] pos) X.env = (do
      let w0 ← eval o X.env
      standAt apos.atName
      let (fn, ahead) ← holding [w0] (getMethod w0 m pl)
      callWith pos fn ahead (backTo pos (starEach (e :: es) X.env)) (backToKw pos (keywordEach [] X.env))) := by rfl) :
    PE X (.Call (.Attribute o m apos) (e :: es) [] pos) (tStat C sp E to ta) := by
  constructor
  intro pins s σ H Q I h
  refine PySem.W.methodCall_KW (pl := pl) (thn (ho.run pins s σ H _ I h) fun u s1 z => ?_) runs
  obtain ⟨x, H1, I1, rx, ex, q⟩ := z
  subst ex
  obtain rfl : u = Value.ref C := rx
  refine PySem.W.method_cls I1.kIn rd.ga (sta_attr I1 rd c fun s2 I2 => ?_)
  refine PySem.W.callWith_K (h₀ := X.base) I2.ok.mod.kin c.kept (thn (ha.run pos pins s2 σ H1 _ I2 q) fun us s3 y => ?_) star plain
  obtain ⟨vs, H2, I3, rv, q2⟩ := y
  exact ⟨I3.kIn, run_fn F hr hb .nil hx I3 rv q2⟩
end
end TT

set_option Elab.async false
set_option linter.all false
set_option maxRecDepth 100000
set_option maxHeartbeats 4000000
/-! repr of a tuple whose items may be odd things (dicts among them). -/
namespace TT
open PySem PySem.Spec PyProof.Rows L2
theorem repr_tup {prog : Program} {w : World} {h₀ : Heap} {a : Addr} {o : Obj} {vs : Array Value} {n : Nat} {xs : List PyData} {as : List Addr} {A : Around} {E : Value → Shared → Prop} {s : Shared} {Q : Value → Shared → Prop}
    (at_a : h₀.get? a = some o) (is_t : o.cls = .type "tuple") (dat : o.data = .seq vs n) (its : ReadsAll h₀ vs.toList xs as)
    (sh : PyData.showableAll xs = true) (out : PyData.hasDictAll xs = true → ¬ sysModules ∈ as) (gd : A.guards = some []) (un : A.units + ((PyData.tuple xs).depth + 1) < cLine)
    (low : ∀ b u, h₀.get? b = some u → s.heap.get? b = some u)
    (k : ∀ h' u tk, (∀ b o, s.heap.get? b = some o → h'.get? b = some o) → Q (.str (PyData.tuple xs).shown u) { s with heap := h', toks := tk })
    (len : (PyData.tuple xs).shown.length ≤ sizeLine) : wpAny (model prog w) A (call (.builtin "repr") [.ref a]) Q E s := by
  have short : (tupleText (PyData.shownAll xs)).length ≤ sizeLine := by
    have := len
    rwa [PyData.shown] at this
  obtain ⟨bs, below, each⟩ := ReprAllK.of_readsAll (prog := prog) (w := w) its sh out fun t ht => Nat.le_trans (tupleText_mem_le ht) short
  have apart : a ∉ bs := by
    refine not_mem_of_deeper (Reads.tuple at_a is_t dat its) ?_ below
    rw [PyData.depth]
    omega
  have dep : A.in1.units + (PyData.tuple xs).depth < cLine := by
    show A.units + 1 + _ < cLine
    omega
  refine call_repr_slot (by omega) (show s.TypeIs (.ref a) "tuple" from ⟨o, low _ _ at_a, is_t⟩) F.slot_tuple_repr ?_
  rw [PyData.depth] at dep
  have k' := k
  simp only [PyData.shown] at k'
  exact call_tuple_reprK at_a is_t dat apart each gd (fun b _ => Clear.nil b) dep low (fun h' u tk hk => ⟨_, _, rfl, k' h' u tk hk⟩) short
/-- flat data -/
inductive Flat0 : V → PyData → Prop
  | non : Flat0 .non .none
  | bl (b : Bool) : Flat0 (.bl b) (.bool b)
  | int (i : Int) : Flat0 (.int i) (.int i)
  | str (x : Str) : Flat0 (.str x) (.str x)
/-- each item is flat, or it is the one odd thing v, d -/
inductive DpDs (v : V) (d : PyData) : List V → List PyData → Prop
  | nil : DpDs v d [] []
  | fl {x : V} {e : PyData} {vs : List V} {ds : List PyData} (h : Flat0 x e) (t : DpDs v d vs ds) : DpDs v d (x :: vs) (e :: ds)
  | it {vs : List V} {ds : List PyData} (t : DpDs v d vs ds) : DpDs v d (v :: vs) (d :: ds)
theorem Flat0.reads {v : V} {d : PyData} {u : Value} {h : Heap} (f : Flat0 v d) (r : RelV v u) : Reads h u d [] ∧ d.hasDict = false := by
  cases f with
  | non => obtain rfl : u = .none := r; exact ⟨.none, by simp [PyData.hasDict]⟩
  | bl b => obtain rfl : u = .bool b := r; exact ⟨.bool _, by simp [PyData.hasDict]⟩
  | int i => obtain ⟨t, rfl⟩ : ∃ t, u = .int i t := r; exact ⟨.int _ _, by simp [PyData.hasDict]⟩
  | str x => obtain ⟨t, rfl⟩ : ∃ t, u = .str x t := r; exact ⟨.str _ _, by simp [PyData.hasDict]⟩
theorem DpDs.reads {X : Cx} {pins : List (Addr × Obj)} {σ : L2.St} {H : Hp} {s : Shared} {v : V} {d : PyData} (I : Inv X pins σ H s) (o : DpD X.K H v d) : ∀ {vs : List V} {ds : List PyData} {us : List Value}, DpDs v d vs ds → Vals vs us →
    ∃ as, ReadsAll s.heap us ds as ∧ (PyData.hasDictAll ds = true → d.hasDict = true) ∧ (d.hasDict = true → ¬ sysModules ∈ as)
  | _, _, _, .nil, .nil => ⟨[], .nil, fun e => by simp [PyData.hasDictAll] at e, fun _ m => by cases m⟩
  | _, _, _, .fl h t, .cons r rs => by
    obtain ⟨h1, h2⟩ := h.reads (h := s.heap) r
    obtain ⟨bs, h3, h4, h5⟩ := DpDs.reads I o t rs
    refine ⟨[] ++ bs, .cons h1 h3, fun e => ?_, h5⟩
    simp only [PyData.hasDictAll, h2, Bool.false_or] at e
    exact h4 e
  | _, _, _, .it t, .cons r rs => by
    obtain ⟨as, h1, h2⟩ := DpD.reads I o r
    obtain ⟨bs, h3, h4, h5⟩ := DpDs.reads I o t rs
    refine ⟨as ++ bs, .cons h1 h3, fun e => ?_, fun e m => (List.mem_append.mp m).elim (h2 e) (h5 e)⟩
    simp only [PyData.hasDictAll, Bool.or_eq_true] at e
    exact e.elim id h4
section
variable {X : Cx}
/-- repr(x): an odd thing, or a tuple of such -/
inductive RpT (K : PySem.W.Frag) (H : Hp) : V → PyData → Prop
  | one {v : V} {d : PyData} (h : DpD K H v d) : RpT K H v d
  | tup {t : Addr} {v : V} {d : PyData} {xs : List V} {ds : List PyData} (ht : H t = some (.tup xs)) (o : DpD K H v d) (h : DpDs v d xs ds) : RpT K H (.ref t) (.tuple ds)
def rReprT (K : PySem.W.Frag) : List V → Hp → VK → Prop := fun xs H Q => ∃ (x : V) (d : PyData), xs = [x] ∧ RpT K H x d ∧ d.showable = true ∧ d.depth ≤ 60 ∧ d.shown.length ≤ sizeLine ∧ Q (.str d.shown) H
theorem call_reprT (hg : X.A.guards = some []) (hu : X.A.units + 64 < cLine) : CallR X (.builtin "repr") (rReprT X.K) := by
  intro pins s σ H xs us Q I r h
  obtain ⟨x, d, rfl, hd, sh, dep, hz, q⟩ := h
  cases hd with
  | one h => exact call_reprS hg hu pins s σ H _ us Q I r ⟨x, d, rfl, .one h, sh, dep, hz, q⟩
  | @tup t v d ys ds ht o h =>
    match us, r with
    | [u], .cons r1 .nil =>
      obtain rfl : u = Value.ref t := r1
      obtain ⟨_, its, vs, ob, g, c, k, dt⟩ : ObjOk X.prog X.w H s.heap t (.tup ys) := I.hok _ _ ht
      obtain ⟨as, h1, h2, h3⟩ := DpDs.reads I o h vs
      have sh' : PyData.showableAll ds = true := by rwa [PyData.showable] at sh
      exact repr_tup g c dt (by rw [List.toList_toArray]; exact h1) sh' (fun e => h3 (h2 e)) hg (by omega) (fun _ _ e => e) (fun h' u tk hk => ⟨.str _, H, I.kept hk, ⟨_, rfl⟩, q⟩) hz
end
end TT

set_option Elab.async false
set_option linter.all false
set_option maxRecDepth 100000
set_option maxHeartbeats 4000000
/-! not in a tuple: of things of an own class with ==, of data; dict of a tuple of pairs. -/
namespace GQ
open PySem PySem.SeqAt
open AutoSeq1 (wpAny_loadPart')
open MeetsSeq MeetsSeq2 MeetsSeq3 SeqRoads2
section
variable {prog : Program} {w : World} {A : Around} {R : Result → Shared → Prop} {E : Value → Shared → Prop} {s : Shared}
/-- the items are asked one by one; what holds stays -/
theorem tuple_holdsG (l : Addr) (items : Array Value) (n : Nat) (dd : Option Addr) (sl : Array (Option Value)) (x : Value) (e : Value → Bool) (I : Shared → Prop)
    (turn : ∀ y ∈ items, ∀ s, I s → wpAny (model prog w) A.in1 (eqBool y x) (fun r s' => r = e y ∧ I s') (fun e s' => R (.error e) s') s)
    (fin : ∀ s, I s → R (.ok (.ret (.bool (items.any e)))) s) {s : Shared} (hl : s.heap.get? l = some { cls := .type "tuple", dict := dd, data := .seq items n, slots := sl }) (h : I s) :
    wpAny (model prog w) A.in1 (Builtin.«tuple.__contains__» ⟨[.ref l, x], []⟩) (FinOf prog w A R) (fun e s' => R (.error e) s') s := by
  have h0 := h
  obtain ⟨hp, g, d, tk, os⟩ := s
  wp_walk using wpAny_loadPart' hl, wpAny_forIn_array _ (fun rest b s' => b.1 = none ∧ I s' ∧ (∀ y, y ∈ rest → y ∈ items) ∧ items.any e = rest.any e) _
  case turn =>
    rintro y rest b s' ⟨hb, hI, hmem, hR⟩
    refine wpAny_bind (wpAny_mono (turn y (hmem y (List.mem_cons_self ..)) s' hI) (fun r s2 q2 => ?_) fun _ _ x => x)
    obtain ⟨rfl, q2⟩ := q2
    rw [List.any_cons] at hR
    cases hy : e y with
    | true =>
      rw [hy, Bool.true_or] at hR
      have q3 := fin s2 q2
      rw [hR] at q3
      wp_walk
      exact q3
    | false =>
      rw [hy, Bool.false_or] at hR
      wp_walk
      exact ⟨rfl, q2, fun z hz => hmem z (List.mem_cons_of_mem _ hz), hR⟩
  case fin =>
    rintro ⟨b1, b2⟩ s' ⟨hb, hI, -, hR⟩
    simp only at hb
    subst hb
    have q3 := fin s' hI
    rw [hR] at q3
    wp_walk
    simpa using q3
  case h =>
    exact ⟨rfl, h0, fun y hy => by simpa using hy, by simp⟩
end
end GQ
namespace TT
open PySem PySem.Spec PyProof.Rows L2 LamX
section
variable {X : Cx} {CX : CXT} {n : Nat} {C f : Addr} {fd : FuncData} {ps : List Str} {sp : Sp} {E : XK}
/-- item == x for one item, by the own __eq__, which changes nothing -/
theorem eq_item (F : FnOk X.prog X.w X.K X.mg X.base CX n f fd ps sp) (hs : PySem.W.findIn X.K (.ref C) "__eq__" = some (some (.ref f))) (hf : PySem.W.isFn X.K (.ref f) = true) (hb : Binds X.K fd ps []) (hx : Passes CX X E)
    {A : Around} (sb : Sub X n A) {pins : List (Addr × Obj)} {σ : L2.St} {H : Hp} {s : Shared} (I : Inv X pins σ H s) {i a : Addr} {b : Bool} (hi : ∃ dx fs, H i = some (.ins C dx fs)) (ha : ∃ dx fs, H a = some (.ins C dx fs)) (same : i = a → b = true)
    (hsp : sp [.ref i, .ref a] H (fun v H' => v = .bl b ∧ H' = H) E) : wpAny (model X.prog X.w) A (eqBool (.ref i) (.ref a)) (fun r s' => r = b ∧ Inv X pins σ H s') X.xe s := by
  by_cases hab : i = a
  · subst hab
    rw [same rfl]
    exact SeqAt.EqAt.same (A := A) (s := s) (.ref i) X.prog X.w X.xe _ ⟨rfl, I⟩
  · refine GQ.eqBool_refG hab ?_
    obtain ⟨dx, fs, hi⟩ := hi
    obtain ⟨dy, gs, ha⟩ := ha
    obtain ⟨mA, J, _⟩ := ins_get I.hok hi
    obtain ⟨mB, J', _⟩ := ins_get I.hok ha
    obtain ⟨od, J, _⟩ := J.look
    obtain ⟨od', J', _⟩ := J'.look
    obtain ⟨m, hF⟩ := I.fr
    refine PySem.W.cmp_K (op := .Eq) (tb := .ref C) sb.room.units0 hF I.ok.mod.kin J J'.type (by simp [PySem.W.notFirst]) hs hf ?_
    have e0 : Env0 X.prog X.w X.K X.mg X.base A X.stack s H := by
      have e := I.env0
      exact ⟨by rw [sb.fr]; exact e.frames, e.mod, e.bs, e.bsz, e.funs, e.frf, e.hok, e.bare⟩
    have hl := F.len _ _ _ _ hsp
    have r2 : Vals [V.ref i, V.ref a] [Value.ref i, Value.ref a] := .cons rfl (.cons rfl .nil)
    refine wpAny_call (codeAny_mono (F.run A X.stack s H ⟨[.ref i, .ref a], []⟩ [.ref i, .ref a] [.ref i, .ref a] _ E sb.room e0 (by
      have := hb s [.ref i, .ref a] I.kIn (by simpa using hl)
      simpa using this) r2 hsp) fun r s' hq => ?_)
    cases r with
    | error e => exact hx pins σ H s e s' I hq
    | ok fl =>
      cases fl with
      | ret w =>
        obtain ⟨z, H', I', rz, ez, ex⟩ := I.after hq
        subst ez ex
        cases rz
        exact ⟨b, rfl, rfl, I'⟩
      | next => exact False.elim hq
      | brk => exact False.elim hq
      | cont => exact False.elim hq
/-- x not in a tuple of things of the class at C -/
def rNotInO (K : PySem.W.Frag) (C : Addr) (sp : Sp) (E : XK) (neg : Bool) : R2 := fun x y H Q => ∃ (a p : Addr) (es : List (Addr × Bool)), x = .ref a ∧ y = .ref p ∧ SqT K H p (es.map fun e => V.ref e.1) ∧ (∃ dx fs, H a = some (.ins C dx fs)) ∧
  (∀ e ∈ es, (∃ dx fs, H e.1 = some (.ins C dx fs)) ∧ (e.1 = a → e.2 = true) ∧ sp [.ref e.1, .ref a] H (fun v H' => v = .bl e.2 ∧ H' = H) E) ∧ (∀ e ∈ es, ∀ d ∈ es, e.1 = d.1 → e.2 = d.2) ∧ Q (.bl (if neg then !es.any (·.2) else es.any (·.2))) H
theorem vals_refs : ∀ {es : List (Addr × Bool)} {us : List Value}, Vals (es.map fun e => V.ref e.1) us → us = es.map fun e => Value.ref e.1
  | [], _, r => by cases r; rfl
  | e :: es, _, r => by
    rw [List.map_cons] at r
    cases r with
    | cons h t =>
      cases h
      rw [List.map_cons, ← vals_refs t]
/-- the answer for an item -/
def ansO (es : List (Addr × Bool)) (v : Value) : Bool := es.any fun e => decide (v = Value.ref e.1) && e.2
theorem ansO_at {es : List (Addr × Bool)} (u : ∀ e ∈ es, ∀ d ∈ es, e.1 = d.1 → e.2 = d.2) {e : Addr × Bool} (he : e ∈ es) : ansO es (.ref e.1) = e.2 := by
  unfold ansO
  cases h : e.2 with
  | true =>
    rw [List.any_eq_true]
    exact ⟨e, he, by simp [h]⟩
  | false =>
    rw [List.any_eq_false]
    intro d hd
    by_cases c : Value.ref e.1 = Value.ref d.1
    · have c' : e.1 = d.1 := by injection c
      rw [← u e he d hd c', h]
      simp
    · simp [c]
theorem ansO_any {es : List (Addr × Bool)} (u : ∀ e ∈ es, ∀ d ∈ es, e.1 = d.1 → e.2 = d.2) : (es.map fun e => Value.ref e.1).any (ansO es) = es.any (·.2) := by
  rw [List.any_map, Bool.eq_iff_iff, List.any_eq_true, List.any_eq_true]
  constructor
  · rintro ⟨e, he, h⟩
    exact ⟨e, he, by rw [← ansO_at u he]; exact h⟩
  · rintro ⟨e, he, h⟩
    exact ⟨e, he, by show ansO es (.ref e.1) = true; rw [ansO_at u he]; exact h⟩
theorem op_notInO (F : FnOk X.prog X.w X.K X.mg X.base CX n f fd ps sp) (hs : PySem.W.findIn X.K (.ref C) "__eq__" = some (some (.ref f))) (hf : PySem.W.isFn X.K (.ref f) = true) (hb : Binds X.K fd ps []) (hx : Passes CX X E)
    (hr : Room (n + 1) X.A) : OpR X (compareOp .NotIn) (rNotInO X.K C sp E true) := by
  intro pins s σ H x y v u Q I rx ry h
  obtain ⟨a, p, es, rfl, rfl, hp, ha, each, u1, q⟩ := h
  obtain rfl : v = Value.ref a := rx
  obtain rfl : u = Value.ref p := ry
  obtain ⟨its, rv, pl, hz⟩ := I.tuple hp
  have ei := vals_refs rv
  subst ei
  obtain ⟨⟨cls, dd, data, sl⟩, ho, hc, k, hd⟩ := id pl
  simp only at hc hd
  subst hc hd
  have sb : Sub X (n + 1) X.A := ⟨hr, rfl⟩
  show wpAny (model X.prog X.w) X.A (do return .bool (!(← contains (.ref p) (.ref a)))) (EP X pins σ Q) X.xe s
  refine wpAny_bind (wpAny_contains_slot ⟨_, ho, rfl⟩ PySem.F.slot_tuple_contains (wpAny_mono (GQ.call_here (Q := fun v s' => v = .bool (es.any (·.2)) ∧ Inv X pins σ H s') PySem.F.slot_tuple_contains ⟨_, ho, rfl⟩ PySem.F.entry_tuple_contains (PySem.F.args_tuple_contains_2 _ _) ?_) (fun v s' hv => ?_) fun _ _ e => e))
  · refine GQ.tuple_holdsG (R := wants (fun v s' => v = .bool (es.any (·.2)) ∧ Inv X pins σ H s') X.xe) p _ k dd sl (.ref a) (ansO es) (fun s' => Inv X pins σ H s') (fun y hy s' I' => ?_) (fun s' I' => ⟨?_, I'⟩) ho I
    · obtain ⟨e, he, rfl⟩ := List.mem_map.mp (show y ∈ es.map fun e => Value.ref e.1 by simpa using hy)
      obtain ⟨h1, h2, h3⟩ := each e he
      rw [ansO_at u1 he]
      exact eq_item F hs hf hb hx sb.in1 I' h1 ha h2 h3
    · rw [show ((es.map fun e => Value.ref e.1).toArray.any (ansO es)) = (es.map fun e => Value.ref e.1).any (ansO es) by simp, ansO_any u1]
  · obtain ⟨rfl, I'⟩ := hv
    exact wpAny_truthy_bool (wpAny_pure ⟨.bl _, H, I', rfl, q⟩)
/-- x in a tuple of things of the class at C -/
theorem op_inO (F : FnOk X.prog X.w X.K X.mg X.base CX n f fd ps sp) (hs : PySem.W.findIn X.K (.ref C) "__eq__" = some (some (.ref f))) (hf : PySem.W.isFn X.K (.ref f) = true) (hb : Binds X.K fd ps []) (hx : Passes CX X E)
    (hr : Room (n + 1) X.A) : OpR X (compareOp .In) (rNotInO X.K C sp E false) := by
  intro pins s σ H x y v u Q I rx ry h
  obtain ⟨a, p, es, rfl, rfl, hp, ha, each, u1, q⟩ := h
  obtain rfl : v = Value.ref a := rx
  obtain rfl : u = Value.ref p := ry
  obtain ⟨its, rv, pl, hz⟩ := I.tuple hp
  have ei := vals_refs rv
  subst ei
  obtain ⟨⟨cls, dd, data, sl⟩, ho, hc, k, hd⟩ := id pl
  simp only at hc hd
  subst hc hd
  have sb : Sub X (n + 1) X.A := ⟨hr, rfl⟩
  show wpAny (model X.prog X.w) X.A (do return .bool (← contains (.ref p) (.ref a))) (EP X pins σ Q) X.xe s
  refine wpAny_bind (wpAny_contains_slot ⟨_, ho, rfl⟩ PySem.F.slot_tuple_contains (wpAny_mono (GQ.call_here (Q := fun v s' => v = .bool (es.any (·.2)) ∧ Inv X pins σ H s') PySem.F.slot_tuple_contains ⟨_, ho, rfl⟩ PySem.F.entry_tuple_contains (PySem.F.args_tuple_contains_2 _ _) ?_) (fun v s' hv => ?_) fun _ _ e => e))
  · refine GQ.tuple_holdsG (R := wants (fun v s' => v = .bool (es.any (·.2)) ∧ Inv X pins σ H s') X.xe) p _ k dd sl (.ref a) (ansO es) (fun s' => Inv X pins σ H s') (fun y hy s' I' => ?_) (fun s' I' => ⟨?_, I'⟩) ho I
    · obtain ⟨e, he, rfl⟩ := List.mem_map.mp (show y ∈ es.map fun e => Value.ref e.1 by simpa using hy)
      obtain ⟨h1, h2, h3⟩ := each e he
      rw [ansO_at u1 he]
      exact eq_item F hs hf hb hx sb.in1 I' h1 ha h2 h3
    · rw [show ((es.map fun e => Value.ref e.1).toArray.any (ansO es)) = (es.map fun e => Value.ref e.1).any (ansO es) by simp, ansO_any u1]
  · obtain ⟨rfl, I'⟩ := hv
    exact wpAny_truthy_bool (wpAny_pure ⟨.bl _, H, I', rfl, q⟩)
end
section
variable {X : Cx}
/-- x not in a tuple of data -/
def rNotInDT (K : PySem.W.Frag) : R2 := fun x y H Q => ∃ d ds, Dp K H x d ∧ Dp K H y (.tuple ds) ∧ SeqAt.shaped d = true ∧ SeqAt.shaped (.tuple ds) = true ∧ Q (.bl (!ds.any fun z => PyData.eqv z d)) H
theorem op_notInDT (hu : X.A.units + 65 < cLine) : OpR X (compareOp .NotIn) (rNotInDT X.K) := by
  intro pins s σ H x y v u Q I rx ry h
  obtain ⟨d, ds, hd, he, sd, se, q⟩ := h
  obtain ⟨as, r1⟩ := Dp.reads I d x v hd rx
  obtain ⟨bs, r2⟩ := Dp.reads I (.tuple ds) y u he ry
  exact SeqAt.notIn_tuple_reads r2 r1 (SeqAt.canLay_of_shaped se) (SeqAt.canLay_of_shaped sd) (room_in_shaped sd hu) ⟨.bl _, H, I, rfl, q⟩
/-- tuple(a list): the new tuple as an object that is known to have no dict -/
theorem call_tuple_frz : CallR X (.type "tuple") (fun xs H Q => ∃ p ys, xs = [.ref p] ∧ SqL X.K H p ys ∧ ∀ l (o : Obj), o.dict = none → H l = none → Q (.ref l) (upd H l (.frz o (.tup ys)))) := by
  intro pins s σ H xs us Q I r h
  obtain ⟨p, ys, rfl, hq, q⟩ := h
  obtain ⟨u, rfl, rx⟩ := vals1 r
  cases rx
  obtain ⟨its, r', pl, hz⟩ := I.list hq
  have hlen := r'.length
  refine call_tuple_list pl.isList (fun h' kp => ?_) (by simp only [List.size_toArray] <;> omega)
  have I1 : Inv X pins σ H { s with heap := h' } := I.kept (t' := s.toks) kp
  have I2 : Inv X pins σ (upd H h'.objs.size (.frz ({ cls := .type "tuple", data := .seq its.toArray } : Obj) (.tup ys))) { s with heap := h'.push { cls := .type "tuple", data := .seq its.toArray } } :=
    I1.laid (t' := s.toks) (fun b o e => Heap.get?_push_of_some _ e) (Nat.le_refl _) (show ObjOk X.prog X.w _ _ _ (.frz _ (.tup ys)) from ⟨Heap.get?_push_size _ rfl, hz, its, r', IsTup.new _ _⟩)
  exact ⟨.ref h'.objs.size, _, I2, rfl, q _ _ rfl (I1.hok.fresh (Nat.le_refl _))⟩
theorem refsOf : ∀ {ps : List Addr} {us : List Value}, Vals (ps.map V.ref) us → us = ps.map Value.ref
  | [], _, r => by cases r; rfl
  | p :: ps, _, r => by
    rw [List.map_cons] at r
    cases r with
    | cons h t =>
      cases h
      rw [List.map_cons, ← refsOf t]
/-- dict(t) of such a tuple of pairs -/
theorem call_dictT (hcalm : X.calm = true) : CallR X (.type "dict") (fun xs H Q => ∃ (a : Addr) (o : Obj) (ps : List Addr) (kvs : List (Key × V)), xs = [.ref a] ∧ H a = some (.frz o (.tup (ps.map V.ref))) ∧ o.dict = none ∧ Paired (fun p kv => SqT X.K H p [kV kv.1, kv.2]) ps kvs ∧
    ∀ p, H p = none → Q (.ref p) (upd H p (.dK (mergeK [] kvs)))) := by
  intro pins s σ H xs us Q I r q
  obtain ⟨a, o, ps, kvs, rfl, hq, hdn, hp, q⟩ := q
  obtain ⟨u, rfl, rx⟩ := vals1 r
  cases rx
  obtain ⟨ho, hz, its, rv, ob, ho2, hc, k, hdat⟩ := (show ObjOk X.prog X.w H s.heap a (.frz o (.tup (ps.map V.ref))) from I.hok a _ hq)
  rw [ho] at ho2
  cases ho2
  have ei := refsOf rv
  subst ei
  rw [List.length_map] at hz
  obtain ⟨prs, rel, hl, hpr⟩ := pairs_of I hp
  have hm : (s.heap.objs.size == sysModules) = false := beq_eq_false_iff_ne.mpr (Nat.ne_of_gt I.big)
  have hlen : (mergeK [] kvs).length ≤ sizeLine := by
    refine Nat.le_trans (length_mergeK kvs []) ?_
    rw [List.length_nil, Nat.zero_add, rel.length, hl]
    exact hz
  have hpr' : ∀ j : Nat, ∃ u : Value, ∀ q : Key × Value, prs[j]? = some q → ∃ b, ps[j]? = some b ∧ IsTup s.heap b #[u, q.2] ∧ keyIs q.1 u = true := fun j => by
    cases h : prs[j]? with
    | none => exact ⟨.none, fun q e => by cases e⟩
    | some q =>
      obtain ⟨b, u, e1, e2, e3⟩ := hpr j q h
      exact ⟨u, fun q' e => by cases e; exact ⟨b, e1, e2, e3⟩⟩
  obtain ⟨f, hf⟩ := Classical.axiomOfChoice hpr'
  have at' : ∀ (j : Nat) (k v : Value), (prs.mapIdx fun j q => (f j, q.2))[j]? = some (k, v) → ∃ q, prs[j]? = some q ∧ k = f j ∧ v = q.2 := fun j k v e => by
    rw [List.getElem?_mapIdx] at e
    obtain ⟨q, h1, h2⟩ := Option.map_eq_some_iff.mp e
    cases h2
    exact ⟨q, h1, rfl, rfl⟩
  refine PySem.call_dict_pairs (knd := mixKind X.prog X.w) (kvs := prs) (PySem.PairArg.tuple a (ps.map Value.ref).toArray (fun j => ps.getD j 0) (prs.mapIdx fun j q => (f j, q.2))) (I.ok.hd hcalm) ⟨⟨_, k, ho, hc, hdn, hdat⟩, ?_, fun j k v e => ?_⟩ ⟨by rw [List.length_mapIdx], fun i key v e => ?_⟩ ?_ fun h' tk hd' kk => ?_
  · rw [List.size_toArray, List.length_map, List.length_mapIdx, hl]
  · obtain ⟨q, h1, rfl, rfl⟩ := at' j k v e
    obtain ⟨b, e1, e2, e3⟩ := hf j q h1
    have eg : ps.getD j 0 = b := by rw [List.getD_eq_getElem?_getD, e1] <;> rfl
    show (List.map Value.ref ps).toArray[j]? = some (Value.ref (ps.getD j 0)) ∧ PairAt s.heap (ps.getD j 0) (f j) q.2
    rw [eg]
    exact ⟨by simp [e1], .inl e2⟩
  · obtain ⟨q, h1, rfl, rfl⟩ := at' i key v e
    obtain ⟨b, e1, e2, e3⟩ := hf i q h1
    exact ⟨q.1, h1, e3⟩
  · rw [List.length_mapIdx, hl]
    exact hz
  · exact ⟨.ref s.heap.objs.size, upd H s.heap.objs.size (.dK (mergeK [] kvs)), I.laid (t' := tk) (fun b o e => kk b o (fun z => nomatch z) e) (Nat.le_refl _) (show ObjOk X.prog X.w _ _ _ (.dK (mergeK [] kvs)) from ⟨hlen, hm, merged [] prs, KV.merge rel .nil, hd'⟩), rfl, q _ (I.hok.fresh (Nat.le_refl _))⟩
end
end TT

set_option Elab.async false
set_option linter.all false
set_option maxRecDepth 100000
set_option maxHeartbeats 4000000
/-! enumerate(a tuple): the rule for a «for» and for a comprehension. -/
namespace TT
open PySem PySem.Spec PyProof.Rows L2
open AutoSeq1 (wpAny_loadPart')
theorem meets_enumerate_newT (l : Addr) (items : Array Value) (n : Nat) (dct : Option Addr) (sl : Array (Option Value)) :
    Meets (Builtin.«enumerate.__new__» ⟨[.type "enumerate", .ref l], []⟩) (fun _ R s => s.heap.get? l = some { cls := .type "tuple", dict := dct, data := .seq items n, slots := sl } ∧
      R (.ok (.ret (.ref (s.heap.push { cls := .type "tuple_iterator", data := .fields #[.ref l, .int 0 0] }).objs.size)))
        { s with heap := (s.heap.push { cls := .type "tuple_iterator", data := .fields #[.ref l, .int 0 0] }).push { cls := .type "enumerate", data := .fields #[.none, .bool false, .ref s.heap.objs.size, rawInt 0, .none, .none] } }) :=
  .of_wp fun prog w A R s h => by
    obtain ⟨hp, g, d, tk, os⟩ := s; obtain ⟨hl, h⟩ := h
    have hsub := sub_enumerate
    have hL : Heap.IsTuple (Shared.heap ⟨hp, g, d, tk, os⟩) l items := ⟨_, hl, rfl, n, rfl⟩
    wp_walk using wpAny_loadPart' hl
    refine wpAny_stack_any fun st => wpAny_pure ?_
    split
    · rename_i c _ _ _ _ _
      cases (c == Value.type "enumerate")
      · wp_walk using wpAny_loadPart' hl, wpAny_pyIter_tuple hL
        exact ⟨_, rfl, h⟩
      · wp_walk using wpAny_loadPart' hl, wpAny_pyIter_tuple hL
        exact ⟨_, rfl, h⟩
    · wp_walk using wpAny_loadPart' hl, wpAny_pyIter_tuple hL
      exact ⟨_, rfl, h⟩
theorem call_enumerate_tuple {prog : Program} {w : World} {A : Around} {E : Value → Shared → Prop} {s : Shared} {l : Addr} {items : Array Value} {Q : Value → Shared → Prop} (hL : s.heap.IsTuple l items)
    (h : ∀ h', IsEnum h' (s.heap.objs.size + 1) s.heap.objs.size 0 .none → h'.IsTupleIter s.heap.objs.size l 0 → h'.objs.size = s.heap.objs.size + 2 →
      (∀ b o, s.heap.get? b = some o → h'.get? b = some o) → Q (.ref (s.heap.objs.size + 1)) { s with heap := h' }) :
    wpAny (model prog w) A (call (.type "enumerate") [.ref l]) Q E s := by
  obtain ⟨⟨c, dct, dt, sl⟩, hl, hc, n, hd⟩ := hL
  replace hc : c = .type "tuple" := hc
  replace hd : dt = .seq items n := hd
  subst hc hd
  refine callType_new F.called_enumerate (by decide) (F.typeCall_enumerate_1 _) (F.newCall_enumerate_1 _) (fun obj => F.args_object_init_2 obj _) F.entry_enumerate_new
    (meets_enumerate_newT l items n dct sl) ⟨hl, ?_⟩
  have hz : (s.heap.push { cls := .type "tuple_iterator", data := .fields #[.ref l, .int 0 0] }).objs.size = s.heap.objs.size + 1 := Heap.size_push ..
  show _ ∧ _
  rw [hz]
  have he : IsEnum ((s.heap.push { cls := .type "tuple_iterator", data := .fields #[.ref l, .int 0 0] }).push
      { cls := .type "enumerate", data := .fields #[.none, .bool false, .ref s.heap.objs.size, rawInt 0, .none, .none] }) (s.heap.objs.size + 1) s.heap.objs.size 0 .none := by
    have := Heap.get?_push_size (s.heap.push { cls := .type "tuple_iterator", data := .fields #[.ref l, .int 0 0] })
      (o := { cls := .type "enumerate", data := .fields #[.none, .bool false, .ref s.heap.objs.size, rawInt 0, .none, .none] }) rfl
    rw [hz] at this; exact this
  refine ⟨⟨_, he, rfl⟩, h _ he ⟨_, Heap.get?_push_of_some _ (Heap.get?_push_size _ rfl), rfl, rfl⟩ (by rw [Heap.size_push, hz]) fun b o x => Heap.get?_push_of_some _ (Heap.get?_push_of_some _ x)⟩
/-- the tuple at a, each item in a new pair -/
def IteT (K : PySem.W.Frag) (a : Addr) : It :=
  ⟨fun i H => ∃ (xs : List V) (x : V), SqT K H a xs ∧ xs[i]? = some x, fun i H v H' => ∃ T x, v = .ref T ∧ H T = none ∧ H' = upd H T (.tup [.int (i : Nat), x]) ∧ ∀ xs, SqT K H a xs → xs[i]? = some x, fun i H => ∃ xs : List V, SqT K H a xs ∧ xs.length ≤ i⟩
theorem turn_enumT {P : Program} {w : World} {K : PySem.W.Frag} {elts : List Expr} {kk : Nat} {tpos : Pos} (a e it : Addr) :
    Turn P w K (.Tuple elts kk tpos) (IteT K a) [e, it] e (fun i h => (∃ old, IsEnum h e it ((i : Nat) : Int) old) ∧ h.IsTupleIter it a i ∧ e ≠ it) where
  mem := by simp
  obj := fun i h st b hb => by
    obtain ⟨⟨old, he⟩, ⟨o, ho, hc, hd⟩, _⟩ := st
    have e' : b = e ∨ b = it := by simpa using hb
    rcases e' with z | z
    · rw [z]; exact ⟨_, he, fun v q => nomatch q⟩
    · rw [z]; exact ⟨o, ho, fun v q => by rw [hd] at q; cases q⟩
  keep := fun i h h' st k => let ⟨⟨old, he⟩, hi, hne⟩ := st; ⟨⟨old, k e (by simp) _ he⟩, hi.at fun o q => k it (by simp) o q, hne⟩
  item := by
    intro X hP hw hK hc i pins s σ H E I hf st hg
    subst hP hw hK
    obtain ⟨⟨old, he⟩, hit, hne⟩ := st
    obtain ⟨xs, x, hq, hx⟩ := hg
    obtain ⟨its, rv, p, hz⟩ := I.tuple hq
    obtain ⟨u, hu, ru⟩ := rv.get hx
    have hel : e < s.heap.objs.size := Heap.lt_size he
    have hil : it < s.heap.objs.size := by obtain ⟨_, q, _⟩ := hit; exact Heap.lt_size q
    have hia : a ≠ it := by
      rintro rfl
      obtain ⟨o1, q1, c1, _⟩ := hit
      obtain ⟨o2, q2, c2, _⟩ := id p
      rw [q1] at q2
      cases q2
      rw [c1] at c2
      exact absurd c2 (by decide)
    have hlt : i < its.toArray.size := by
      rw [List.size_toArray]
      exact (List.getElem?_eq_some_iff.mp hu).1
    by_cases hea : e = a
    · exfalso
      subst hea
      obtain ⟨o2, q2, c2, _⟩ := id p
      rw [show s.heap.get? e = _ from he] at q2
      cases q2
      replace c2 : Value.type "enumerate" = Value.type "tuple" := c2
      exact absurd c2 (by decide)
    refine wpAny_pyNext_enum_itemD (Draws.tuple (A := X.A.in1) (I.ok.hd hc) it a hia its.toArray) he ⟨hit, p⟩ hlt hne (by simp [hne, hea]) fun y h' tk hy ho hst hT hsz hk => ?_
    obtain ⟨hit', _⟩ := hst
    have eu : y = u := by
      have h1 : its[i]? = some y := by simpa using hy
      rw [hu] at h1
      exact (Option.some.inj h1).symm
    subst eu
    refine ⟨_, rfl, wpAny_letOwnedTupleGo_enum (s := { s with heap := h', toks := tk + 1 }) ho fun h'' he' sb => ?_⟩
    have hT2 : h''.get? s.heap.objs.size = some { cls := .type "tuple", data := .seq #[.int i tk, y] } := (sb.2 _ (Nat.ne_of_gt hel)).trans hT
    have new : ObjOk X.prog X.w (upd H s.heap.objs.size (.tup [.int (i : Nat), x])) h'' s.heap.objs.size (.tup [.int (i : Nat), x]) :=
      ⟨by show 2 ≤ sizeLine; decide, [.int i tk, y], .cons ⟨_, rfl⟩ (.cons ru .nil), ⟨_, hT2, rfl, _, rfl⟩⟩
    have I1 : Inv X pins σ (upd H s.heap.objs.size (.tup [.int (i : Nat), x])) { s with heap := h'', toks := tk + 1 } :=
      I.turnedNew (ch := [e, it]) (fun b ob hb q => (sb.2 b (fun z => hb (by simp [z]))).trans (hk b ob (fun z => hb (by simp [z])) (fun z => hb (by simp [z])) q)) hf (Nat.le_refl _) new
    refine ⟨.ref s.heap.objs.size, _, I1, rfl, ⟨_, x, rfl, I.hok.fresh (Nat.le_refl _), rfl, fun ys hy => by rw [I.tuple_inj hy hq]; exact hx⟩, ⟨⟨y, ?_⟩, hit'.at fun o q => (sb.2 it (Ne.symm hne)).trans q, hne⟩, fun b hb => ?_⟩
    · have e1 : ((i + 1 : Nat) : Int) = (i : Int) + 1 := by omega
      rw [e1]; exact he'
    · have hb' : b < s.heap.objs.size := by
        have e' : b = e ∨ b = it := by simpa using hb
        rcases e' with z | z
        · rw [z]; exact hel
        · rw [z]; exact hil
      rw [upd_ne (Nat.ne_of_lt hb')]
      exact (hf b hb).1
  done := by
    intro X hP hw hK hc i pins s σ H E I hf st hg
    subst hP hw hK
    obtain ⟨⟨old, he⟩, hit, hne⟩ := st
    obtain ⟨xs, hq, hx⟩ := hg
    obtain ⟨its, rv, p, hz⟩ := I.tuple hq
    obtain ⟨f0, f1, f2, f3, f4, f5⟩ := hf it (by simp)
    have hl := rv.length
    have hT : s.TypeIs (.ref e) "enumerate" := ⟨_, he, rfl⟩
    unfold pyNext
    refine wpAny_bind (wpAny_attempt (wpAny_callSpecial?_slot (name := Str.ofString "__next__") hT F.slot_enumerate_next
      (wpAny_call_entry F.slot_enumerate_next hT F.entry_enumerate_next ?_ (F.args_enumerate_next_1 _))))
    show wpAny _ _ (field (.ref e) 2 >>= _) _ _ _
    refine wpAny_bind (wpAny_field he rfl (x := .ref it) rfl ?_)
    refine wpAny_bind (wpAny_nextOf_tuple_end (I.ok.hd hc) hit p (by simp; omega) fun h' x he' hx' => ?_)
    obtain ⟨o, ho, hc⟩ := hx'
    refine wpAny_bind (wpAny_isInstance (T := "StopIteration") (b := true) ⟨o, ho, hc⟩ isSubtype_stop ?_)
    exact wpAny_pure ⟨rfl, I.turned (t' := s.toks) (fun b o hb q => he' b o hb q) f0 f1 f3 f4 f5⟩
  self := fun A i s Q E st h => let ⟨⟨_, he⟩, _⟩ := st; wpAny_pyIter_enum he h
def iEnumT (K : PySem.W.Frag) (ta : TA) : TI := fun σ H R => ta σ H fun vs H1 => ∃ a xs, vs = [.ref a] ∧ SqT K H1 a xs ∧ R (IteT K a) H1
theorem pi_enumT {X : Cx} {e : Expr} {ta : TA} {p pos tpos : Pos} {elts : List Expr} {kk : Nat} (hg : Gl X "enumerate") (hm : X.mg "enumerate" = none) (ha : PA X [e] ta) (hs : starEach [e] X.env = [(false, eval e X.env)] := by rfl) :
    PI X (.Tuple elts kk tpos) (.Call (.Name "enumerate" p) [e] [] pos) (iEnumT X.K ta) := by
  refine ⟨fun pins s σ H R I h => ?_⟩
  refine Call_ (ld_blt I hg hm boot_enumerate (PyProof.Rows.callWith_type1 (thn (ha.run pos pins s σ H _ I h) fun us s1 ⟨vs, H1, I1, r1, q1⟩ => ?_) hs rfl))
  obtain ⟨a, xs, ex, hq, q⟩ := q1
  subst ex
  cases r1 with
  | cons r rr =>
    cases rr
    cases r
    obtain ⟨its, rv, p', hz⟩ := I1.tuple hq
    refine call_enumerate_tuple p' fun h' he hit hsz hk => wpAny_pyIter_enum he ?_
    have I2 : Inv X pins σ H1 { s1 with heap := h' } := I1.kept (t' := s1.toks) hk
    refine ⟨s1.heap.objs.size + 1, [s1.heap.objs.size + 1, s1.heap.objs.size], _, _, H1, rfl, I2, turn_enumT a (s1.heap.objs.size + 1) s1.heap.objs.size, ⟨⟨.none, he⟩, hit, Nat.succ_ne_self _⟩, fun b hb => ?_, q⟩
    have e' : b = s1.heap.objs.size + 1 ∨ b = s1.heap.objs.size := by simpa using hb
    have hle : s1.heap.objs.size ≤ b := by
      rcases e' with z | z
      · rw [z]; exact Nat.le_add_right _ _
      · rw [z]; exact Nat.le_refl _
    exact I1.fpOk hle (I1.hok.fresh hle)
theorem walk_enumT {K : PySem.W.Frag} {a : Addr} {xs : List V} : Walk (IteT K a) xs.length (fun H => SqT K H a xs) (YPair (fun i => some (.int (i : Nat))) (fun i => xs[i]?)) := by
  refine ⟨fun i _ hi q => ⟨xs, xs[i], q, by simp [hi]⟩, fun _ q => ⟨xs, q, Nat.le_refl _⟩, fun i H v H' _ q y => ?_⟩
  obtain ⟨T, x, h1, h2, h3, h4⟩ := y
  exact ⟨T, .int (i : Nat), x, h1, h2, h3, rfl, h4 xs q⟩
end TT

set_option Elab.async false
set_option linter.all false
set_option maxRecDepth 100000
set_option maxHeartbeats 4000000
/-! len(x), x[i], y in x by the own __len__, __getitem__, __contains__ of a class. -/
namespace TT
open PySem PySem.Spec PyProof.Rows L2 LamX
section
variable {X : Cx} {CX : CXT} {k : Nat} {f C : Addr} {fd : FuncData} {ps : List Str} {sp : Sp} {E : XK} {a b : Expr} {ta tb : TE} {pos : Pos}
theorem run_fn1 {pins : List (Addr × Obj)} {σ : L2.St} {H : Hp} {s : Shared} {Q : VK} {us : List Value} {vs : List V} (F : FnOk X.prog X.w X.K X.mg X.base CX k f fd ps sp) (hr : Room k X.A.in1) (hb : Binds X.K fd ps []) (hx : Passes CX X E)
    (I : Inv X pins σ H s) (r : Vals vs us) (h : sp vs H Q E) : wpAny (model X.prog X.w) X.A.in1 (call (.ref f) us) (EP X pins σ Q) X.xe s := by
  have e0 : Env0 X.prog X.w X.K X.mg X.base X.A.in1 X.stack s H := by
    have e := I.env0
    exact ⟨e.frames, e.mod, e.bs, e.bsz, e.funs, e.frf, e.hok, e.bare⟩
  have hl := F.len _ _ _ _ h
  refine wpAny_call (codeAny_mono (F.run X.A.in1 X.stack s H ⟨us, []⟩ us vs Q E hr e0 (by
    have := hb s us I.kIn (by rw [List.append_nil, ← r.length]; exact hl)
    rw [List.append_nil] at this
    exact this) r h) fun r s' hq => ?_)
  cases r with
  | error e => exact hx pins σ H s e s' I hq
  | ok fl =>
    cases fl with
    | ret w => exact I.after hq
    | next => exact False.elim hq
    | brk => exact False.elim hq
    | cont => exact False.elim hq
/-- len(x) by the own __len__ -/
def rLenO (C : Addr) (sp : Sp) (E : XK) : List V → Hp → VK → Prop := fun vs H Q => ∃ a dx fs, vs = [V.ref a] ∧ H a = some (.ins C dx fs) ∧ sp [.ref a] H (fun v H' => ∃ n : Int, v = .int n ∧ (0 ≤ n ∧ n < 2 ^ 63) ∧ Q (.int n) H') E
theorem call_lenO (F : FnOk X.prog X.w X.K X.mg X.base CX k f fd ps sp) (hr : Room k X.A.in1) (hb : Binds X.K fd ps []) (hx : Passes CX X E)
    (hs : PySem.W.findIn X.K (.ref C) "__len__" = some (some (.ref f))) (hf : PySem.W.isFn X.K (.ref f) = true) : CallR X (.builtin "len") (rLenO C sp E) := by
  intro pins s σ H xs us Q I r h
  obtain ⟨a, dx, fs, rfl, ha, hq⟩ := h
  obtain ⟨u, rfl, ru⟩ := vals1 r
  obtain rfl : u = Value.ref a := ru
  obtain ⟨mA, O, _⟩ := ins_get I.hok ha
  obtain ⟨od, J, _⟩ := O.look
  obtain ⟨m, hF⟩ := I.fr
  refine PySem.W.len_K hF I.ok.mod.kin J hs hf (wpAny_mono (run_fn1 (vs := [.ref a]) (us := [.ref a]) F hr hb hx I (.cons rfl .nil) hq) (fun v' s' z => ?_) fun _ _ z => z)
  obtain ⟨w', H', I', r', n, rfl, hn, q⟩ := z
  obtain ⟨t, rfl⟩ := r'
  exact ⟨hn, .int n, H', I'.tok _, ⟨_, rfl⟩, q⟩
/-- x[i] by the own __getitem__ -/
def rIxO (C : Addr) (sp : Sp) (E : XK) : R2 := fun x y H Q => ∃ a dx fs, x = V.ref a ∧ H a = some (.ins C dx fs) ∧ sp [.ref a, y] H Q E
def PlainIxT (b : Expr) : Prop := ∀ o i, subscripted b true o i = runValue (.builtin "lifetime.subscript" ⟨[o, i], []⟩)
theorem pe_ixO (F : FnOk X.prog X.w X.K X.mg X.base CX k f fd ps sp) (hr : Room k X.A.in1) (hb : Binds X.K fd ps []) (hx : Passes CX X E)
    (hs : PySem.W.findIn X.K (.ref C) "__getitem__" = some (some (.ref f))) (hf : PySem.W.isFn X.K (.ref f) = true) (hn : PySem.W.fnIn X.K f = true) (ha : PE X a ta) (hb' : PE X b tb) (hp : PlainIxT b) : PE X (.Subscript a b pos) (tOp (rIxO C sp E) ta tb) := by
  refine ⟨fun pins s σ H Q I h => ?_⟩
  refine Subscript_ (binT ha hb' I h fun v u s2 x y H2 I2 rx ry q => ?_)
  obtain ⟨a', dx, fs, rfl, h1, hq⟩ := q
  obtain rfl : v = Value.ref a' := rx
  obtain ⟨mA, O, _⟩ := ins_get I2.hok h1
  obtain ⟨od, J, _⟩ := O.look
  obtain ⟨m, hF⟩ := I2.fr
  exact PySem.W.sub_K hF I2.ok.mod.kin J hs hn hf (run_fn1 (vs := [.ref a', y]) (us := [.ref a', u]) F hr hb hx I2 (.cons rfl (.cons ry .nil)) hq) (hp _ _)
/-- y in x, y not in x, by the own __contains__, which answers by a bool -/
def rInOwn (C : Addr) (sp : Sp) (E : XK) (neg : Bool) : R2 := fun y x H Q => ∃ a dx fs, x = V.ref a ∧ H a = some (.ins C dx fs) ∧ sp [.ref a, y] H (fun v H' => ∃ b, v = V.bl b ∧ Q (.bl (if neg then !b else b)) H') E
theorem op_inOwn (F : FnOk X.prog X.w X.K X.mg X.base CX k f fd ps sp) (hr : Room k X.A) (hb : Binds X.K fd ps []) (hx : Passes CX X E)
    (hs : PySem.W.findIn X.K (.ref C) "__contains__" = some (some (.ref f))) (hf : PySem.W.isFn X.K (.ref f) = true) : OpR X (compareOp .In) (rInOwn C sp E false) := by
  intro pins s σ H y x u v Q I ry rx h
  obtain ⟨a, dx, fs, rfl, ha, hq⟩ := h
  obtain rfl : v = Value.ref a := rx
  obtain ⟨mA, O, _⟩ := ins_get I.hok ha
  obtain ⟨od, J, _⟩ := O.look
  obtain ⟨m, hF⟩ := I.fr
  refine PySem.W.in_K hF I.ok.mod.kin J hs hf (wpAny_mono (run_fn (us := [.ref a, u]) (vs := [.ref a, y]) (dvs := []) (ds := []) F hr hb .nil hx I (.cons rfl (.cons ry .nil)) hq) (fun v' s' z => ?_) fun _ _ z => z)
  obtain ⟨w', H', I', r', c, rfl, q⟩ := z
  obtain rfl : v' = Value.bool c := r'
  exact wpAny_truthy_bool (by exact ⟨.bl c, H', I', rfl, q⟩)
theorem op_notInOwn (F : FnOk X.prog X.w X.K X.mg X.base CX k f fd ps sp) (hr : Room k X.A) (hb : Binds X.K fd ps []) (hx : Passes CX X E)
    (hs : PySem.W.findIn X.K (.ref C) "__contains__" = some (some (.ref f))) (hf : PySem.W.isFn X.K (.ref f) = true) : OpR X (compareOp .NotIn) (rInOwn C sp E true) := by
  intro pins s σ H y x u v Q I ry rx h
  obtain ⟨a, dx, fs, rfl, ha, hq⟩ := h
  obtain rfl : v = Value.ref a := rx
  obtain ⟨mA, O, _⟩ := ins_get I.hok ha
  obtain ⟨od, J, _⟩ := O.look
  obtain ⟨m, hF⟩ := I.fr
  refine PySem.W.notIn_K hF I.ok.mod.kin J hs hf (wpAny_mono (run_fn (us := [.ref a, u]) (vs := [.ref a, y]) (dvs := []) (ds := []) F hr hb .nil hx I (.cons rfl (.cons ry .nil)) hq) (fun v' s' z => ?_) fun _ _ z => z)
  obtain ⟨w', H', I', r', c, rfl, q⟩ := z
  obtain rfl : v' = Value.bool c := r'
  exact wpAny_truthy_bool (by exact ⟨.bl (!c), H', I', rfl, q⟩)
end
end TT

set_option Elab.async false
set_option linter.all false
set_option maxRecDepth 100000
set_option maxHeartbeats 4000000
/-! own == and != with a thing of a built-in type; == of two dicts of data, with either answer. -/
namespace TT
open PySem PySem.Spec PyProof.Rows L2 LamX
/-- x == y by the own __eq__, y of a built-in type -/
def rEqT (K : PySem.W.Frag) (C : Addr) (sp : Sp) (E : XK) : R2 := fun x y H Q => ∃ a dx fs T, x = V.ref a ∧ H a = some (.ins C dx fs) ∧ Ty H y T ∧ PySem.W.notFirst K C (.type T) = true ∧ sp [.ref a, y] H (fun v H' => (∃ b, v = V.bl b) ∧ Q v H') E
def rNeT (K : PySem.W.Frag) (C : Addr) (sp : Sp) (E : XK) : R2 := fun x y H Q => ∃ a dx fs T, x = V.ref a ∧ H a = some (.ins C dx fs) ∧ Ty H y T ∧ PySem.W.notFirst K C (.type T) = true ∧ sp [.ref a, y] H (fun v H' => ∃ b, v = V.bl b ∧ Q (.bl (!b)) H') E
section
variable {X : Cx} {CX : CXT} {k : Nat} {f C : Addr} {fd : FuncData} {ps : List Str} {sp : Sp} {E : XK}
theorem op_eqT (F : FnOk X.prog X.w X.K X.mg X.base CX k f fd ps sp) (hr : Room k X.A) (hb : Binds X.K fd ps []) (hx : Passes CX X E)
    (hs : PySem.W.findIn X.K (.ref C) "__eq__" = some (some (.ref f))) (hf : PySem.W.isFn X.K (.ref f) = true) : OpR X (compareOp .Eq) (rEqT X.K C sp E) := by
  intro pins s σ H x y v u Q I rx ry h
  obtain ⟨a, dx, fs, T, rfl, ha, ty, hn, hq⟩ := h
  obtain rfl : v = Value.ref a := rx
  obtain ⟨mA, O, _⟩ := ins_get I.hok ha
  obtain ⟨od, J, _⟩ := O.look
  obtain ⟨m, hF⟩ := I.fr
  show wpAny (model X.prog X.w) X.A (richCompare .Eq (.ref a) u) (EP X pins σ Q) X.xe s
  refine PySem.W.cmp_K (op := .Eq) hr.units0 hF I.ok.mod.kin J (Ty.looks I ry ty) hn hs hf (wpAny_mono (run_fn (us := [.ref a, u]) (vs := [.ref a, y]) (dvs := []) (ds := []) F hr hb .nil hx I (.cons rfl (.cons ry .nil)) hq) (fun v' s' z => ?_) fun _ _ z => z)
  obtain ⟨w', H', I', r', ⟨c, rfl⟩, q⟩ := z
  obtain rfl : v' = Value.bool c := r'
  exact ⟨.bl c, H', I', rfl, q⟩
theorem op_neT (F : FnOk X.prog X.w X.K X.mg X.base CX k f fd ps sp) (hr : Room k X.A.in1) (hu : X.A.units + 64 < cLine) (hb : Binds X.K fd ps []) (hx : Passes CX X E)
    (hm : PySem.W.mroIn X.K C (.type "object") = some true) (hne : PySem.W.findIn X.K (.ref C) "__ne__" = some (some (.builtin "object.__ne__")))
    (hs : PySem.W.findIn X.K (.ref C) "__eq__" = some (some (.ref f))) (hf : PySem.W.isFn X.K (.ref f) = true) : OpR X (compareOp .NotEq) (rNeT X.K C sp E) := by
  intro pins s σ H x y v u Q I rx ry h
  obtain ⟨a, dx, fs, T, rfl, ha, ty, hn, hq⟩ := h
  obtain rfl : v = Value.ref a := rx
  obtain ⟨mA, O, _⟩ := ins_get I.hok ha
  obtain ⟨od, J, _⟩ := O.look
  show wpAny (model X.prog X.w) X.A (richCompare .NotEq (.ref a) u) (EP X pins σ Q) X.xe s
  refine ne_K (by omega) I.kIn J (Ty.looks I ry ty) hn hm hne hs hf (wpAny_mono (run_fn1 (vs := [.ref a, y]) (us := [.ref a, u]) F hr hb hx I (.cons rfl (.cons ry .nil)) hq) (fun v' s' z => ?_) fun _ _ z => z)
  obtain ⟨w', H', I', r', c, rfl, q⟩ := z
  obtain rfl : v' = Value.bool c := r'
  exact ⟨c, rfl, .bl (!c), H', I', rfl, q⟩
end
/-- the values of two dicts of the same keys, each pair with its answer -/
inductive DHits (K : PySem.W.Frag) (H : Hp) (ls : List (Key × V)) : List (Key × V) → Bool → Prop
  | nil : DHits K H ls [] true
  | cons {p : Key × V} {ps : List (Key × V)} {u : V} {d e : PyData} {b : Bool} : valV ls p.1 = some u → Dp K H p.2 d → Dp K H u e → SeqAt.shaped d = true → SeqAt.shaped e = true → DHits K H ls ps b → DHits K H ls (p :: ps) (PyData.eqv d e && b)
def rEqDD (K : PySem.W.Frag) : R2 := fun x y H Q => ∃ a b ks ls e, x = V.ref a ∧ y = V.ref b ∧ H a = some (.dK ks) ∧ H b = some (.dK ls) ∧ ks.length = ls.length ∧ DHits K H ls ks e ∧ Q (.bl e) H
section
variable {X : Cx} {pins : List (Addr × Obj)} {σ : L2.St} {H : Hp} {s : Shared}
theorem DHits.run {A : Around} (I : Inv X pins σ H s) (hu : A.units + 64 < cLine) {ls : List (Key × V)} {vb : List (Key × Value)} (rb : KV ls vb) {ks : List (Key × V)} {e : Bool} (h : DHits X.K H ls ks e) : ∀ {va : List (Key × Value)}, KV ks va → PySem.W.KeqHitsP X.prog X.w A s vb va e := by
  induction h with
  | nil =>
    intro va ra
    unfold KV at ra
    cases ra
    exact .nil
  | @cons p ps u d e b hv h1 h2 s1 s2 _ ih =>
    intro va ra
    unfold KV at ra
    cases ra with
    | @cons _ q _ qs hd tl =>
      obtain ⟨e1, e2⟩ := hd
      have rr : RelO (some u) (valueAt vb p.1) := by rw [← hv]; exact rb.val p.1
      obtain ⟨y, hy, ry⟩ := rr.some_of
      obtain ⟨key, v⟩ := q
      have e1' : p.1 = key := e1
      rw [e1'] at hy
      obtain ⟨as, r1⟩ := Dp.reads I d _ _ h1 e2
      obtain ⟨bs, r2⟩ := Dp.reads I e _ _ h2 ry
      exact .hit hy (SeqAt.eqAt_reads d e A s _ _ as bs r1 r2 (SeqAt.canLay_of_shaped s1) (SeqAt.canLay_of_shaped s2) (SeqAt.room_of_shaped s1 hu)).eqP (ih tl)
theorem op_eqDD (hu : X.A.units + 65 < cLine) : OpR X (compareOp .Eq) (rEqDD X.K) := by
  intro pins s σ H x y v u Q I rx ry h
  obtain ⟨a, b, ks, ls, e, rfl, rfl, ha, hb, hl, hh, q⟩ := h
  obtain rfl : v = Value.ref a := rx
  obtain rfl : u = Value.ref b := ry
  obtain ⟨_, ya, va, ra, da⟩ := (show ObjOk X.prog X.w H s.heap a (.dK ks) from I.hok a _ ha)
  obtain ⟨_, yb, vb, rb, db⟩ := (show ObjOk X.prog X.w H s.heap b (.dK ls) from I.hok b _ hb)
  show wpAny (model X.prog X.w) X.A (richCompare .Eq (.ref a) (.ref b)) (EP X pins σ Q) X.xe s
  refine PySem.W.rcP_dicts (knd := mixKind X.prog X.w) (r := e) ya yb da db (by omega) (fun _ => hh.run (A := X.A.in1) I (by show X.A.units + 1 + 64 < cLine; omega) rb ra) X.xe _ ?_
  have e2 : va.length = vb.length := by rw [← ra.length, ← rb.length]; exact hl
  rw [show (va.length == vb.length && e) = e from by rw [e2]; simp]
  exact ⟨.bl e, H, I, rfl, q⟩
end
end TT

set_option Elab.async false
set_option linter.all false
set_option maxRecDepth 100000
set_option maxHeartbeats 4000000
/-! An except clause of a pair of classes, whose suite may raise. -/
namespace TT
open PySem PySem.Spec PyProof.Rows L2 L2H HotX
theorem flyZ_keeps {B h h' : Heap} {l : List Env} {a : Addr} {Z : Obj → Prop} (x : HandSPX.FlyingZ B l a Z h) (k : ∀ b o, h.get? b = some o → h'.get? b = some o) : HandSPX.FlyingZ B l a Z h' := by
  obtain ⟨f1, f2, f3, oe, vs, T, oT, ts, he, hz, hd, h1, hn, hne, hT, hdT, h3⟩ := x
  exact ⟨fun b o q => k b o (f1 b o q), f2, f3.of_keeps fun b o q _ => ⟨o, k b o q, rfl⟩, oe, vs, T, oT, ts, k _ _ he, hz, hd, h1, hn, hne, k _ _ hT, hdT, h3⟩
/-- what the clause asks of an exception -/
def wPair (K : PySem.W.Frag) (c1 c2 : Value) (ts : Addr → Value → Option Addr → TS) (Wout : WX) (D : Ends) : WX := fun cls d σ H =>
  ∃ b, PySem.W.exmAny K cls [c1, c2] = some b ∧ (b = true → ∀ a, H a = none → ts a cls d D σ H) ∧ (b = false → Wout cls d σ H)
/-- what flies on -/
def wPass2 (K : PySem.W.Frag) (c1 c2 : Value) (Wout : WX) : WX := fun cls d σ H => PySem.W.exmAny K cls [c1, c2] = some false ∧ Wout cls d σ H
section
variable {X : Cx} {x1 x2 : Str} {c1 c2 : Value} {n1 n2 tp : Pos} {kk : Nat}
/-- the test of the clause -/
theorem pair_test {a e : Addr} {pn pins : List (Addr × Obj)} {σ : L2.St} {H : Hp} {s : Shared} {cls : Value} {b : Bool} {Q : Bool → Shared → Prop} {E : Value → Shared → Prop} (h1 : Names X x1 c1) (h2 : Names X x2 c2) (S : Inv (X.suite a pn) pins σ H s) (kin : X.K.In s.heap)
    (LT : PySem.W.Looks (model X.prog X.w) s.heap (typeOf (.ref e)) cls) (he : PySem.W.exmAny X.K cls [c1, c2] = some b)
    (q : ∀ h', (∀ b o, s.heap.get? b = some o → h'.get? b = some o) → Q b { s with heap := h' }) :
    wpAny (model X.prog X.w) (X.A.mark (some (.ref a))) (eval (.Tuple [.Name x1 n1, .Name x2 n2] kk tp) X.env) (fun c s₁ => wpAny (model X.prog X.w) (X.A.mark (some (.ref a))) (excMatches (.ref e) c) Q E s₁) E s := by
  have one : ∀ {x : Str} {c : Value} {n : Pos} {Q : Value → Shared → Prop}, Names X x c → Q c s → wpAny (model X.prog X.w) (X.A.mark (some (.ref a))) (eval (.Name x n) X.env) Q E s := fun {x c n Q} hc q => by
    obtain ⟨hg, hdbg, hm | ⟨hm, hv, hnn⟩⟩ := hc
    · exact ld_glob (X := X.suite a pn) S hg hm q hdbg
    · exact ld_blt (X := X.suite a pn) S hg hm hv q hnn hdbg
  refine wpAny_Tuple ?_
  refine wpAny_items_cons (one h1 ?_)
  refine wpAny_items_cons (one h2 ?_)
  refine wpAny_items_nil ⟨by size_fits, ?_⟩
  have kp : ∀ q o, s.heap.get? q = some o → (s.heap.push { cls := .type "tuple", data := .seq [c1, c2].toArray }).get? q = some o := fun _ _ z => Heap.get?_push_of_some _ z
  exact (PySem.W.exm_tup2 (kin.keeps kp) (LT.keeps kp) (Heap.get?_push_size s.heap rfl) he).here (q _ kp)
end
section
variable {X : Cx} {x1 x2 : Str} {c1 c2 : Value} {n1 n2 tp pos pos' : Pos} {kk : Nat} {body suite : List Stmt} {b₀ : Stmt} {tb : WX → TS} {ts : Addr → Value → Option Addr → TS} {Wout : WX}
theorem ps_try_pairX (hs : X.stack = X.env :: X.outer) (hf : X.env.frame = some X.env.locals) (h1 : Names X x1 c1) (h2 : Names X x2 c2) (hpa : ∀ hd : Option Value, PassesOwnAt (model X.prog X.w) (X.A.mark hd) X.A X.env X.xe) (tk : L2.Takes X Wout)
    (hb : ∀ (W : WX) (pn : List (Addr × Obj)) (xe : Value → Shared → Prop), L2N.Takes (X.tr pn xe) W → L2.Takes (X.tr pn xe) (wPass2 X.K c1 c2 Wout) → PassesOwn (model X.prog X.w) X.A X.env xe → PSs (X.tr pn xe) body (tb W))
    (hsu : ∀ (a : Addr) (oe : Obj) (cls : Value) (d : Option Addr) (pn : List (Addr × Obj)), L2N.Zn cls d oe → (∃ vs, oe.data = .fields vs) → L2.Takes (suiteX X a ((a, oe) :: pn)) Wout → HotC (suiteX X a ((a, oe) :: pn)) →
      PSs (suiteX X a ((a, oe) :: pn)) (b₀ :: suite) (ts a cls d)) :
    PS X (.Try body [.ExceptHandler (some (.Tuple [.Name x1 n1, .Name x2 n2] kk tp)) none (b₀ :: suite) pos'] [] [] pos) (fun D σ H => tb (wPair X.K c1 c2 ts Wout D) D σ H) := by
  refine ⟨fun pins s σ H D I h => ?_⟩
  have ok := I.ok
  have hfr : X.A.frames = some (X.env :: X.outer) := by rw [ok.frames, hs]
  have notFr : ∀ {B h : Heap} {a : Addr} {o : Obj} {vs : Array Value}, h.FunFrames B (X.env :: X.outer) → h.get? a = some o → o.data = .fields vs → a ∉ frs (X.env :: X.outer) := fun {B h a o vs} ff e dd hm => by
    obtain ⟨_, o', e', hnf⟩ := ff.mem hm
    rw [e] at e'; cases e'
    exact hnf _ dd
  have flyOn : ∀ {a : Addr} {B : Heap} {sI s' : Shared} {σ' : L2.St} {H' : Hp} {cls : Value} {d : Option Addr} {h3 : Heap}, Inv X pins σ' H' sI → (∀ b o, sI.heap.get? b = some o → b ∉ frs X.stack → B.get? b = some o) → sI.heap.UpToSlots h3 →
      HandSPX.FlyingZ B (X.env :: X.outer) a (Zc cls d) h3 → H' a = none → s'.os = sI.os → AllBare s'.gens → Wout cls d σ' H' → wpAny (model X.prog X.w) X.A (handleBy (.ref a) X.env []) (SP X pins D) X.xe { s' with heap := h3 } := by
    intro a B sI s' σ' H' cls d h3 J nb up fl3 na os ag w
    refine wpAny_handleBy_nil ?_
    obtain ⟨k1, k2, k3, oe, vs, T, oT, ts', he, hz, hd, h1, hr⟩ := id fl3
    unfold PySem.passOn
    refine wpAny_bind (wpAny_field he hd h1 ?_)
    rw [if_neg (show ¬ ((Value.ref T == Value.none) = true) from by simp)]
    have fin : wpAny (model X.prog X.w) X.A (setFlight (.ref a) X.env.frame) (fun _ s4 => wpAny (model X.prog X.w) X.A (throw (.ref a) : Sem Flow) (SP X pins D) X.xe s4) X.xe { s' with heap := h3 } := by
      rw [hf]
      refine HandSPX.setFlight_upZ fl3 fun h4 hh4 up4 => wpAny_throw (tk _ _ ?_)
      exact ⟨a, B, sI, pins, σ', H', cls, d, rfl, J, nb, up.trans up4, .inr (.inr (by rw [hs]; exact hh4)), na, os, ag, w⟩
    first
      | exact wpAny_bind (wpAny_pure (wpAny_bind fin))
      | exact wpAny_bind fin
  -- what both kinds of exceptions share: the landed state, the test
  have nots : ∀ {B h : Heap} {a : Addr} {o : Obj} {vs : Array Value}, h.FunFrames B (X.env :: X.outer) → h.get? a = some o → o.data = .fields vs → a ≠ X.env.locals ∧ a ∉ X.fs := fun {B h a o vs} ff he hd => by
    have nfr := notFr ff he hd
    refine ⟨fun z => nfr (List.mem_filterMap.mpr ⟨X.env, List.mem_cons_self, by rw [hf, z]⟩), fun hm => ?_⟩
    obtain ⟨e, he', q⟩ := List.mem_filterMap.mp hm
    exact nfr (List.mem_filterMap.mpr ⟨e, List.mem_cons_of_mem _ he', q⟩)
  refine wpAny_Try_except ?_
  refine wpAny_mono ((hb (wPair X.K c1 c2 ts Wout D) (X.pn ++ pins) (fun e s₁ => wpAny (model X.prog X.w) X.A (noteFrame e X.env) (fun _ s₂ => wpAny (model X.prog X.w) X.A (setFlight e none) (fun _ s₃ =>
    wpAny (model X.prog X.w) X.A (handleBy e X.env [.ExceptHandler (some (.Tuple [.Name x1 n1, .Name x2 n2] kk tp)) none (b₀ :: suite) pos']) (SP X pins D) X.xe s₃) X.xe s₂) X.xe s₁) (fun u s' xx => ?_) (fun u s' xx => ?_) PassesOwn.looking).run [] s σ H D (I.toTry _) h) (fun f s1 hsp => ?_) (fun e s1 he => he)
  · obtain ⟨a, B, sI, pins', σ', H', cls, d, rfl, J', nb, up, sky, na, os, ag, b, hb1, hyes, hno⟩ := xx
    have J : Inv X pins σ' H' sI := J'.ofTry ok
    have sky' : Sky B (X.env :: X.outer) a (L2N.Zn cls d) X.env.locals s'.heap := by rw [← hs]; exact sky
    show wpAny (model X.prog X.w) X.A (noteFrame (.ref a) X.env) _ _ _
    refine L2N.Sky.land L2N.Zn.steady hfr hf sky' fun h3 fl3 up3 => ?_
    have J3 : Inv X pins σ' H' { s' with heap := h3 } := J.landed nb fl3.1 (up.trans up3) os ag
    obtain ⟨oe3, vs3, he3, hz3, hd3⟩ := fl3.there
    obtain ⟨nL, nF⟩ := nots fl3.2.2.1 he3 hd3
    have S3 := J3.suite he3 hd3 na nL nF
    refine wpAny_handleBy_cons (codeAny_handlers_test ?_) (by intro q; cases q)
    have LT : PySem.W.Looks (model X.prog X.w) h3 (typeOf (.ref a)) cls := fun A Q E s k q => wpAny_typeOf_ref (k _ _ he3) (by rw [hz3.1]; exact q)
    refine pair_test h1 h2 S3 J3.kIn LT hb1 fun h5 kp => ?_
    have fl5 := flyZ_keeps fl3 kp
    have up5 := (up.trans up3).trans (Heap.UpToSlots.of_keeps kp)
    cases b with
    | true =>
      refine codeAny_handlers_suite ?_
      refine HandSPX.lands_againZ fl5 fun h4 fl4 up4 => ?_
      have J4 : Inv X pins σ' H' { s' with heap := h4 } := J.landed nb fl4.1 (up5.trans up4) os ag
      obtain ⟨oe4, vs4, he4, hz4, hd4⟩ := fl4.there
      have S4 := J4.suite he4 hd4 na nL nF
      have tkS : L2.Takes (suiteX X a ((a, oe4) :: (X.pn ++ pins))) Wout := fun u2 s2 x2 => by
        obtain ⟨a2, B2, sI2, pn2, σ2, H2, cls2, d2, e2, I2, nb2, up2, sky2, na2, os2, ag2, w2⟩ := x2
        exact tk u2 s2 ⟨a2, B2, sI2, pins, σ2, H2, cls2, d2, e2, unsuiteX I2 ok, nb2, up2, sky2, na2, os2, ag2, w2⟩
      have hot : HotC (suiteX X a ((a, oe4) :: (X.pn ++ pins))) := ⟨(a, oe4), ⟨rfl, vs4, hd4, hz4.2.2 vs4 hd4⟩, List.mem_cons_self⟩
      refine wpAny_mono ((hsu a oe4 cls d (X.pn ++ pins) hz4 ⟨_, hd4⟩ tkS hot).run [] _ _ H' _ (suiteX_of S4) (hyes rfl a na)) (fun f s6 hsp => ?_) (fun e6 s6 z => hpa (some (.ref a)) e6 s6 z)
      cases f with
      | ret u =>
        obtain ⟨v6, σ6, H6, S6, r6, q6⟩ := hsp
        exact ⟨_, _, _, unsuiteX S6 ok, r6, q6⟩
      | next =>
        obtain ⟨σ6, H6, S6, q6⟩ := hsp
        exact ⟨_, _, unsuiteX S6 ok, q6⟩
      | brk =>
        obtain ⟨σ6, H6, S6, q6⟩ := hsp
        exact ⟨_, _, unsuiteX S6 ok, q6⟩
      | cont =>
        obtain ⟨σ6, H6, S6, q6⟩ := hsp
        exact ⟨_, _, unsuiteX S6 ok, q6⟩
    | false =>
      show wpAny _ X.A (handleBy (.ref a) X.env []) _ _ _
      exact flyOn J nb up5 (flyingZ_imp (fun o z => z.zc) fl5) na os ag (hno rfl)
  · obtain ⟨a, B, sI, pins', σ', H', cls, d, rfl, J', nb, up, sky, na, os, ag, hb1, hno⟩ := xx
    have J : Inv X pins σ' H' sI := J'.ofTry ok
    have sky' : Sky B (X.env :: X.outer) a (Zc cls d) X.env.locals s'.heap := by rw [← hs]; exact sky
    show wpAny (model X.prog X.w) X.A (noteFrame (.ref a) X.env) _ _ _
    refine L2.Sky.land Zc.steady hfr hf sky' fun h3 fl3 up3 => ?_
    have J3 : Inv X pins σ' H' { s' with heap := h3 } := J.landed nb fl3.1 (up.trans up3) os ag
    obtain ⟨oe3, vs3, he3, hz3, hd3⟩ := fl3.there
    obtain ⟨nL, nF⟩ := nots fl3.2.2.1 he3 hd3
    have S3 := J3.suite he3 hd3 na nL nF
    refine wpAny_handleBy_cons (codeAny_handlers_test ?_) (by intro q; cases q)
    have LT : PySem.W.Looks (model X.prog X.w) h3 (typeOf (.ref a)) cls := fun A Q E s k q => wpAny_typeOf_ref (k _ _ he3) (by rw [hz3.1]; exact q)
    refine pair_test h1 h2 S3 J3.kIn LT hb1 fun h5 kp => ?_
    show wpAny _ X.A (handleBy (.ref a) X.env []) _ _ _
    exact flyOn J nb ((up.trans up3).trans (Heap.UpToSlots.of_keeps kp)) (flyZ_keeps fl3 kp) na os ag hno
  · cases f with
    | ret u =>
      obtain ⟨v, σ', H', J', r, q⟩ := hsp
      exact ⟨v, σ', H', J'.ofTry ok, r, q⟩
    | next =>
      obtain ⟨σ', H', J', q⟩ := hsp
      exact wpAny_execs_nil ⟨σ', H', J'.ofTry ok, q⟩
    | brk =>
      obtain ⟨σ', H', J', q⟩ := hsp
      exact ⟨σ', H', J'.ofTry ok, q⟩
    | cont =>
      obtain ⟨σ', H', J', q⟩ := hsp
      exact ⟨σ', H', J'.ofTry ok, q⟩
end
/-! ### errors of one's own whose context is None -/
section
variable {X : Cx} {e : Expr} {es : List Expr} {ta : TA} {p pos : Pos}
/-- C(e, ..) where nothing is handled: its context is None -/
theorem pmk_oexN {CX : CXT} {x : Str} {C fI : Addr} {k : Nat} {fd : FuncData} {ps : List Str} {sp : Sp} {ds : List Value} {dvs : List V} (T : OexC X.K C) (iC : PySem.W.findIn X.K (.ref C) "__init__" = some (some (.ref fI))) (tI : PySem.W.typeIn X.K (.ref fI) = some (.type "function"))
    (F1 : FnOk X.prog X.w X.K X.mg X.base CX k fI fd ps sp) (hr : Room (k + 1) X.A) (hb : Binds X.K fd ps ds) (hd : Vals dvs ds) (hx : Passes CX X (fun _ _ _ => False)) (hg : Gl X x) (hm : X.mg x = some (.ref C)) (ha : PA X (e :: es) ta)
    (hdb : (x == ("__debug__" : Str)) = false := by decide) (he : starEach (e :: es) X.env = (false, eval e X.env) :: starEach es X.env := by rfl) (hpl : (backTo pos (starEach es X.env)).any (·.1) = false := by rfl) :
    L2N.PMk X (.Call (.Name x p) (e :: es) [] pos) (tMkO C sp dvs ta) := by
  intro pins s σ H Q I h
  obtain ⟨_, _, _, _, bm, _, _, _, _, _, _, _, _, _, _, hC, hbm⟩ := T.cls
  refine wpAny_Call_Name_kw (ld_glob I hg hm ?_ hdb)
  refine PySem.W.callWith_K (h₀ := X.base) I.ok.mod.kin T.kC (thn (ha.run pos pins s σ H _ I h) fun us s1 ⟨vs, H1, I1, r1, hz, q1⟩ => ⟨I1.kIn, ?_⟩) he hpl
  show wpAny _ _ (call (.ref C) us) _ _ _
  obtain ⟨hp, g, dr, tk, os⟩ := s1
  have new : H1 (hp.objs.size + 1) = none := I1.hok.fresh (Nat.le_succ _)
  have asked := q1 (hp.objs.size + 1) new
  have kk : ∀ b o, hp.get? b = some o → ((hp.push (PySem.W.kdv_tup us)).push (PySem.HandSPX.excO C hp.objs.size)).get? b = some o := fun b o e => Heap.get?_push_of_some _ (Heap.get?_push_of_some _ e)
  have there : ((hp.push (PySem.W.kdv_tup us)).push (PySem.HandSPX.excO C hp.objs.size)).get? (hp.objs.size + 1) = some (PySem.HandSPX.excO C hp.objs.size) := by heap_get
  have I2 : Inv X pins σ (upd H1 (hp.objs.size + 1) (exo (hp.objs.size + 1) C none)) ⟨(hp.push (PySem.W.kdv_tup us)).push (PySem.HandSPX.excO C hp.objs.size), g, dr, tk, os⟩ :=
    I1.laid (t' := tk) (a := hp.objs.size + 1) (o := exo (hp.objs.size + 1) C none) (h' := (hp.push (PySem.W.kdv_tup us)).push (PySem.HandSPX.excO C hp.objs.size)) kk (Nat.le_succ _) (exo_ok there)
  have r2 : Vals (V.ref (hp.objs.size + 1) :: (vs ++ dvs)) (Value.ref (hp.objs.size + 1) :: (us ++ ds)) := .cons rfl (r1.append hd)
  have hl : (Value.ref (hp.objs.size + 1) :: us ++ ds).length = ps.length := by
    have e := r2.length
    rw [F1.len _ _ _ _ asked] at e
    exact e.symm
  have hus : us.length ≤ sizeLine := by
    rw [← Paired.length r1, sizeLine_eq]
    omega
  refine wpAny_call (PySem.HandSPX.call_own F.excBase_ValueError (fun Y => PySem.HandSPX.refsVE_contains Y bm hbm) (I1.kIn _ _ hC) (PySem.W.looks_findIn I1.kIn iC) (fun self => PySem.W.bind_fn I1.kIn self tI) hus
    (codeAny_mono (F1.run _ X.stack _ _ ⟨Value.ref (hp.objs.size + 1) :: us, []⟩ (Value.ref (hp.objs.size + 1) :: (us ++ ds)) _ _ (fun _ _ _ => False) (hr.make C us []) (I2.env0.make C us []) (hb _ (Value.ref (hp.objs.size + 1) :: us) I2.kIn hl) r2 asked) fun r s' hq' => ?_))
  cases r with
  | error er => exact hx pins σ _ _ er s' I2 hq'
  | ok fl =>
    cases fl with
    | next => exact False.elim hq'
    | brk => exact False.elim hq'
    | cont => exact False.elim hq'
    | ret u =>
      obtain ⟨v, H2, os2, bare2, un2, hok2, rv, ev, d, fs, ea, ed, hd1, q2⟩ := hq'
      subst ev
      obtain ⟨h2, g2, d2, t2, os'⟩ := s'
      obtain ⟨t0, G, J, kG, ge, hoe, na⟩ := mk_end0 (d2 := d2) (t2 := t2) I1 (Nat.le_succ _) kk un2 hok2 os2 bare2 ea ed hd1
      exact ⟨rv, hp.objs.size + 1, _, _, ⟨G, g2, d2, t2, os'⟩, _, .ref C, some d, rfl, J, kG, ge, hoe, ⟨rfl, rfl, fun vs hv => by cases hv; rfl⟩, rfl, rfl, na, rfl, bare2, raises_own T.exC T.tyC, q2⟩
end
section
variable {P : Program} {w : World} {K : PySem.W.Frag} {mg : Str → Option Value} {base : Heap}
/-- a def whose errors have no context -/
theorem _root_.L2.Fun.okXN {x qual : Str} {st : Stmt} {f : Addr} {fd : FuncData} {N ps : List Str} {k : Nat} {sp : Sp} (F : Fun K x qual st f fd) (S : FnScope N ps (defScope st)) (len : ∀ vs H Q E, sp vs H Q E → vs.length = ps.length)
    (hbody : ∀ (cdv : Value) (A : Around) (outer : List Env) (s : Shared) (H : Hp) (vs : List V) (Q : VK) (E : XK), Room k (A.deeper (envOfC qual (defScope st) s.heap.objs.size f cdv)) → sp vs H Q E →
      ∃ t, PSs (cxOf (L2N.CX P w) P w K mg base N qual (defScope st) f cdv A outer s H E) (defBody st) t ∧ t { nx := fun _ H' => Q .non H', rt := Q } (start N vs) H) : FnOk P w K mg base (L2N.CX P w) (k + 1) f fd ps sp := by
  obtain ⟨oc, od, kV, doc, pm, an, cdv, ct, osl, rfl, lk, hcd⟩ := F.ex
  exact fn_of lk hcd S len fun A outer s H vs Q E hr hsp => hbody cdv A outer s H vs Q E hr hsp
/-- a def called while an error is handled, which raises none -/
theorem _root_.L2.Fun.okH {x qual : Str} {st : Stmt} {f : Addr} {fd : FuncData} {N ps : List Str} {k : Nat} {sp : Sp} {CX : CXT} (F : Fun K x qual st f fd) (S : FnScope N ps (defScope st)) (len : ∀ vs H Q E, sp vs H Q E → vs.length = ps.length)
    (hbody : ∀ (cdv : Value) (A : Around) (outer : List Env) (s : Shared) (H : Hp) (vs : List V) (Q : VK) (E : XK) (p : Addr × Obj), Hot1 A p → RoomH k (A.deeper (envOfC qual (defScope st) s.heap.objs.size f cdv)) → sp vs H Q E →
      ∃ t, PSs (cxH CX P w K mg base N qual (defScope st) f cdv A outer s H E p) (defBody st) t ∧ t { nx := fun _ H' => Q .non H', rt := Q } (start N vs) H) : FnH P w K mg base CX (k + 1) f fd ps sp := by
  obtain ⟨oc, od, kV, doc, pm, an, cdv, ct, osl, rfl, lk, hcd⟩ := F.ex
  exact fn_ofH lk hcd S len fun A outer s H vs Q E p hot hr hsp => hbody cdv A outer s H vs Q E p hot hr hsp
end
/-! ### C(.., k = v, ..) in a try: what its errors ask may speak of the slots -/
def tMakeKS (C : Addr) (n m : Nat) (sp : Sp) (gV : List V → List V → List V) (E : L2.St → XK) (t tk : TA) : TE := fun σ H Q => t σ H fun vs H1 => tk σ H1 fun zs H2 => vs.length = n ∧ zs.length = m ∧ ∀ x dx, H2 x = none → H2 dx = none → dx ≠ x →
  sp (gV (.ref x :: vs) zs) (upd (upd H2 dx (.own x)) x (.ins C dx [])) (fun v H3 => v = .non ∧ Q (.ref x) H3) (E σ)
section
variable {X : Cx} {CX : CXT} {k n : Nat} {f C : Addr} {fd : FuncData} {ps ks : List Str} {sp : Sp} {E : L2.St → XK} {x : Str} {p pos : Pos} {e : Expr} {es : List Expr} {kws : List Keyword} {t tk : TA} {g : List Value → List Value → List Value} {gV : List V → List V → List V}
theorem pe_makeKS (M : Mk X.K C f) (F : FnOk X.prog X.w X.K X.mg X.base CX k f fd ps sp) (hr : Room (k + 1) X.A) (hg : Gl X x) (hm : X.mg x = some (.ref C)) (hb : KBn X.K fd ps (n + 1) ks g gV) (hx : ∀ σ, PassesAt CX X σ (E σ)) (ha : PA X (e :: es) t) (hkw : PK X kws tk)
    (hall : (backToKw pos (keywordEach kws X.env)).all (·.1.isSome) = true := by rfl) (hks : (backToKw pos (keywordEach kws X.env)).filterMap (·.1) = ks := by rfl) (hdb : (x == ("__debug__" : Str)) = false := by decide)
    (he : starEach (e :: es) X.env = (false, eval e X.env) :: starEach es X.env := by rfl) (hpl : ((backTo pos (starEach (e :: es) X.env)).any (·.1) || (backToKw pos (keywordEach kws X.env)).any (·.1.isNone)) = false := by rfl) :
    PE X (.Call (.Name x p) (e :: es) kws pos) (tMakeKS C n ks.length sp gV E t tk) := by
  refine ⟨fun pins s σ H Q I h => ?_⟩
  refine wpAny_Call_Name_kw (ld_glob I hg hm ?_ hdb)
  refine PySem.W.callWith_KW (h₀ := X.base) I.ok.mod.kin M.kp hall (thn (ha.run pos pins s σ H _ I h) fun us s1 ⟨vs, H1, I1, r, q⟩ => ?_) hpl he
  refine thn (hkw.run pos pins s1 σ H1 _ I1 q) fun ws s2 ⟨zs, H2, I2, rz, l1, l2, q2⟩ => ⟨I2.kIn, ?_⟩
  rw [hks]
  have asked := q2 (s2.heap.objs.size + 1) s2.heap.objs.size (I2.hok.fresh (Nat.le_succ _)) (I2.hok.fresh (Nat.le_refl _)) (Nat.ne_of_lt (Nat.lt_succ_self _))
  have I3 := Inv.made (C := C) I2
  have n1 : (Value.ref (s2.heap.objs.size + 1) :: us).length = n + 1 := by
    rw [List.length_cons, ← r.length, l1]
  have r1 : Vals (V.ref (s2.heap.objs.size + 1) :: vs) (Value.ref (s2.heap.objs.size + 1) :: us) := .cons rfl r
  refine wpAny_call (make_map (f := f) I2.kIn M.makes M.init (beq_iff_eq.mp M.fn) (codeAny_mono (F.run _ X.stack _ _ ⟨Value.ref (s2.heap.objs.size + 1) :: us, ks.zip ws⟩ (g (Value.ref (s2.heap.objs.size + 1) :: us) ws) _ _ (E σ) (hr.make C us (ks.zip ws))
    (I3.env0.make C us (ks.zip ws)) (hb.to _ (Value.ref (s2.heap.objs.size + 1) :: us) ws I3.kIn n1 (rz.length.symm.trans l2)) (hb.rel r1 rz) asked) fun r s' hq' => ?_))
  cases r with
  | error e => exact hx σ pins _ _ e s' I3 hq'
  | ok fl =>
    cases fl with
    | next => exact False.elim hq'
    | brk => exact False.elim hq'
    | cont => exact False.elim hq'
    | ret u =>
      obtain ⟨v, H', I4, rv, ev, q3⟩ := I3.after hq'
      subst ev
      exact ⟨rv, ⟨V.ref (s2.heap.objs.size + 1), H', I4, rfl, q3⟩⟩
end
end TT

set_option Elab.async false
set_option linter.all false
set_option maxRecDepth 100000
set_option maxHeartbeats 4000000
/-! A static method called by way of its class, in a try: what its errors ask may speak of the slots. -/
namespace TT
open PySem PySem.Spec PyProof.Rows L2 LamX
def tStatS (C : Addr) (sp : Sp) (E : L2.St → XK) (to : TE) (ta : TA) : TE := fun σ H Q => to σ H fun x H1 => x = .ref C ∧ ta σ H1 fun vs H2 => sp (vs ++ []) H2 Q (E σ)
section
variable {X : Cx} {CX : CXT} {k : Nat} {C p g : Addr} {mc : Value} {fd : FuncData} {ps : List Str} {sp : Sp} {E : L2.St → XK} {o e : Expr} {es : List Expr} {m : Str} {pos apos : Pos} {to : TE} {ta : TA} {pl : Sem Bool}
theorem pe_statS (ho : PE X o to) (rd : ClX.CRead X.K C mc) (c : CSta X.K C mc m p g) (F : FnOk X.prog X.w X.K X.mg X.base CX k g fd ps sp) (hr : Room k X.A) (hb : Binds X.K fd ps []) (hx : ∀ σ, PassesAt CX X σ (E σ)) (ha : PA X (e :: es) ta)
    (star : starEach (e :: es) X.env = (false, eval e X.env) :: starEach es X.env := by rfl) (plain : (backTo pos (starEach es X.env)).any (·.1) = false := by rfl)
    (runs : eval (.Call (.Attribute o m apos) (e :: es) [] pos) X.env = (do
      let w0 ← eval o X.env
      standAt apos.atName
      let (fn, ahead) ← holding [w0] (getMethod w0 m pl)
      callWith pos fn ahead (backTo pos (starEach (e :: es) X.env)) (backToKw pos (keywordEach [] X.env))) := by rfl) :
    PE X (.Call (.Attribute o m apos) (e :: es) [] pos) (tStatS C sp E to ta) := by
  constructor
  intro pins s σ H Q I h
  refine PySem.W.methodCall_KW (pl := pl) (thn (ho.run pins s σ H _ I h) fun u s1 z => ?_) runs
  obtain ⟨x, H1, I1, rx, ex, q⟩ := z
  subst ex
  obtain rfl : u = Value.ref C := rx
  refine PySem.W.method_cls I1.kIn rd.ga (sta_attr I1 rd c fun s2 I2 => ?_)
  refine PySem.W.callWith_K (h₀ := X.base) I2.ok.mod.kin c.kept (thn (ha.run pos pins s2 σ H1 _ I2 q) fun us s3 y => ?_) star plain
  obtain ⟨vs, H2, I3, rv, q2⟩ := y
  refine ⟨I3.kIn, ?_⟩
  have n : (us ++ []).length = ps.length := by
    have e1 := F.len _ _ _ _ q2
    rw [List.append_nil] at e1 ⊢
    rw [← rv.length]
    exact e1
  have b := hb s3 us I3.kIn n
  rw [List.append_nil] at b q2
  refine wpAny_call (codeAny_mono (F.run X.A X.stack s3 H2 ⟨us, []⟩ us vs Q (E σ) hr I3.env0 b rv q2) fun res s4 z => ?_)
  match res, z with
  | .error e, z => exact hx σ pins H2 s3 e s4 I3 z
  | .ok (.ret u), z => exact I3.after z
  | .ok .next, z => exact z.elim
  | .ok .brk, z => exact z.elim
  | .ok .cont, z => exact z.elim
end
end TT

set_option Elab.async false
set_option linter.all false
set_option maxRecDepth 100000
set_option maxHeartbeats 4000000
/-! A def in whose first step a token is asked: a method of a str, all([.. for x in ..]) of lengths of words. -/
namespace TT
open PySem PySem.Spec PyProof.Rows L2 LamX
section
variable {X : Cx}
/-- o.name(e), where o asks a token -/
theorem pet_m1 {o e : Expr} {to te : TE} {name : Str} {id : String} {r : V → List V → Hp → VK → Prop} {apos pos : Pos} (slot : Slot "str" name id) (ty : typeOf (.builtin id) = pure (.type "method_descriptor")) (rule : MtR X id r) (ho : PET X o to) (he : PE X e te)
    (hst : starEach [e] X.env = [(false, eval e X.env)] := by rfl) (hbase : attributeBase o name X.env (eval o X.env) = eval o X.env := by rfl) (hline : (apos.endLine == pos.line) = true := by rfl) :
    PET X (.Call (.Attribute o name apos) [e] [] pos) (tM1 r to te) := by
  intro pins s σ H Q ht I h
  refine PySem.Call_method1 hbase hst hline (thn (ho pins s σ H _ ht I h) fun v s1 z => ?_)
  obtain ⟨v', H1, I1, r1, ⟨a, e1⟩, q⟩ := z
  subst e1
  obtain ⟨tx, e2⟩ := r1
  subst e2
  refine ⟨"str", _, PySem.F.plainAttrs_str, slot, ty, typeIs_str _ _ _, (fun _ e => nomatch e), Calls.callWith_builtin rfl (Calls.evalArgs_plain (Calls.spliced_cons ?_))⟩
  refine thn (he.run pins _ σ H1 _ I1 q) fun u s2 z => ?_
  obtain ⟨y, H2, I2, r2, q2⟩ := z
  exact Calls.spliced_nil (rule pins s2 σ H2 (.str a) [y] _ [u] Q I2 ⟨tx, rfl⟩ (.cons r2 .nil) q2)
theorem range_all (bs : List Bool) : (List.range bs.length).all (fun i => bs.getD i false) = bs.all id := by
  rw [Bool.eq_iff_iff, List.all_eq_true, List.all_eq_true]
  constructor
  · intro h b hb
    obtain ⟨i, hi, rfl⟩ := List.mem_iff_getElem.mp hb
    have := h i (List.mem_range.mpr hi)
    rw [List.getD_eq_getElem?_getD, List.getElem?_eq_getElem hi] at this
    exact this
  · intro h i hi
    have hi' := List.mem_range.mp hi
    rw [List.getD_eq_getElem?_getD, List.getElem?_eq_getElem hi']
    exact h _ (List.getElem_mem hi')
/-- all([e for x in o]) of a list of texts, e quiet: f of each -/
theorem pet_allStr {o elt : Expr} {x : Str} {px pa pos lpos : Pos} {scope : Scope} {to : TE} {f : Str → Bool} {Pw : Str → Prop} (hc : X.calm = true) (hg : Gl X "all") (hm : X.mg "all" = none)
    (h1 : ∀ y ∈ scope.names, y.2 ≠ .free) (h2 : ∀ y ∈ scope.names, y.2 ≠ .cell) (h3 : scope.kind = .function) (h4 : ∀ y ∈ scope.names, y.2 = .local → scope.names.lookup y.1 = some .local) (h5 : scope.names.lookup x = some .local)
    (ho : PET X o to)
    (helt : ∀ (pins : List (Addr × Obj)) (σ : L2.St) (H1 : Hp) (s1 : Shared), Inv X pins σ H1 s1 → ∀ (C : Addr) (z : Str) (t : Tok) (s2 : Shared) (m2 : Str → Option Value) (E' : Value → Shared → Prop), Pw z → s2.heap.Ns C m2 → m2 x = some (.str z t) →
      (∀ b u, s1.heap.get? b = some u → s2.heap.get? b = some u) → wpAny (model X.prog X.w) X.A (eval elt (compEnv scope C X.env)) (fun y s3 => y = .bool (f z) ∧ Keeps s2 s3) E' s2)
    (hfold : ∀ v : Value, foldedSetIterable o X.env v = pure v := by exact fun _ => rfl)
    (hst : starEach [.ListComp elt [⟨.Name x px, o, [], 0⟩] scope lpos] X.env = [(false, eval (.ListComp elt [⟨.Name x px, o, [], 0⟩] scope lpos) X.env)] := by rfl) :
    PET X (.Call (.Name "all" pa) [.ListComp elt [⟨.Name x px, o, [], 0⟩] scope lpos] [] pos) (fun σ H Q => to σ H fun v H1 => ∃ (l : Addr) (ws : List Str), v = .ref l ∧ SqL X.K H1 l (ws.map V.str) ∧ (∀ z ∈ ws, Pw z) ∧ Q (.bl (ws.all f)) H1) := by
  intro pins s σ H Q ht I h
  refine wpAny_Call_Name_kw (ld_blt I hg hm boot_all ?_)
  rw [hst]
  refine Calls.callWith_builtin rfl (Calls.evalArgs_plain (Calls.spliced_cons ?_))
  refine wpAny_ListComp_map (fun _ => true) (fun v y => ∃ z t, v = .str z t ∧ y = .bool (f z)) (I.ok.hd hc) h1 h2 h3 h4 h5 (thn (ho pins s σ H _ ht I h) fun v s1 z => ?_) hfold
  obtain ⟨_, H1, I1, r1, l, ws, rfl, hl, hp, q⟩ := z
  obtain rfl : v = Value.ref l := r1
  obtain ⟨its, rv, ⟨ol, nl, hk, k1, k2, k3⟩, hn⟩ := I1.list hl
  have each : ∀ (ws : List Str) {its : List Value}, Vals (ws.map V.str) its → (∀ z ∈ ws, Pw z) → ∀ v ∈ its, ∃ z t, v = .str z t ∧ Pw z := fun ws => by
    induction ws with
    | nil =>
      intro its r _ v hv
      cases r
      cases hv
    | cons a t ih =>
      intro its r hpw v hv
      cases r with
      | cons ra rt =>
        obtain ⟨ta, rfl⟩ := ra
        rcases List.mem_cons.mp hv with rfl | hv
        · exact ⟨a, ta, rfl, hpw a (List.mem_cons_self ..)⟩
        · exact ih rt (fun z hz => hpw z (List.mem_cons_of_mem _ hz)) v hv
  have bools : ∀ (ws : List Str) {its : List Value} {ys : List Value}, Vals (ws.map V.str) its → Paired (fun v y => ∃ z t, v = Value.str z t ∧ y = .bool (f z)) its ys → ys = (ws.map f).map Value.bool := fun ws => by
    induction ws with
    | nil =>
      intro its ys r pr
      cases r
      cases pr
      rfl
    | cons a t ih =>
      intro its ys r pr
      cases r with
      | cons ra rt =>
        obtain ⟨ta, rfl⟩ := ra
        cases pr with
        | cons p1 p2 =>
          obtain ⟨z, tz, e1, e2⟩ := p1
          cases e1
          rw [e2, ih rt p2]
          rfl
  refine ⟨l, its.toArray, rfl, ?_, ?_, fun C v s2 m2 E' hv hns hx keep => ?_, fun C v s2 m2 E' hv _ hns hx keep => ?_, fun D h' tk ys hD hy pr keep => ?_⟩
  · exact ⟨_, hk, k1, nl, k3⟩
  · have := rv.length
    rw [List.size_toArray, ← this]
    exact hn
  · exact wpAny_pure ⟨rfl, s2.heap, s2.toks, rfl, fun _ _ e => e⟩
  · obtain ⟨z, t, rfl, pz⟩ := each ws rv hp v (by simpa using hv)
    exact thn (helt pins σ H1 s1 I1 C z t s2 m2 E' pz hns hx keep) fun y s3 ⟨e, k⟩ => ⟨⟨z, t, rfl, e⟩, k⟩
  · have ey : ys.toList = (ws.map f).map Value.bool := bools ws rv (by
      have p2 := pr
      rw [List.filter_eq_self.mpr (fun _ _ => rfl)] at p2
      exact p2)
    refine Calls.spliced_nil (call_all_walk (wpAny_pyIter_list hy ?_))
    have nD : D ≠ h'.objs.size := fun e => by
      obtain ⟨o, ho, _⟩ := hy
      exact Nat.ne_of_lt (Heap.lt_size ho) e
    refine ⟨_, _, _, _, _, _, fun i => (ws.map f).getD i false, rfl, Walks.list (show X.A.in1.handled = none from I.ok.hd hc) h'.objs.size D nD ys, ⟨⟨_, Heap.get?_push_size _ rfl, rfl, rfl⟩, ?_⟩, ?_, fun h'' tk' keep2 => ?_⟩
    · obtain ⟨o, ho, ho2⟩ := hy
      exact ⟨o, Heap.get?_push_of_some _ ho, ho2⟩
    · have := truth_bools (prog := X.prog) (w := X.w) (A := X.A.in1) ey
      rw [Array.toArray_toList] at this
      exact this
    · have e : ys.size = (ws.map f).length := by
        rw [← Array.length_toList, ey, List.length_map]
      rw [e, range_all]
      refine ⟨.bl (ws.all f), H1, I1.kept fun b u eb => keep2 b u ?_ (Heap.get?_push_of_some _ (keep b u eb)), ?_, q⟩
      · intro hb
        have hb' : b = h'.objs.size := by simpa using hb
        exact Nat.ne_of_lt (Heap.lt_size (keep b u eb)) hb'
      · show Value.bool _ = Value.bool _
        rw [List.all_map]
        rfl
/-- len(x) < n of a word -/
theorem elt_len {pins : List (Addr × Obj)} {σ : L2.St} {H1 : Hp} {s1 s2 : Shared} {C : Addr} {scope : Scope} {x z : Str} {t : Tok} {n : Int} {m2 : Str → Option Value} {E' : Value → Shared → Prop} {p1 p2 p3 p4 p5 : Pos} {k : Nat} (I : Inv X pins σ H1 s1) (hm : X.mg "len" = none)
    (h3 : scope.kind = .function) (hl : scope.names.lookup ("len" : Str) = some NameKind.globalImplicit) (h5 : scope.names.lookup x = some .local) (hd : (x == ("__debug__" : Str)) = false) (hz : z.length ≤ sizeLine)
    (hns : s2.heap.Ns C m2) (hx : m2 x = some (.str z t)) (keep : ∀ b u, s1.heap.get? b = some u → s2.heap.get? b = some u)
    (hst : starEach [.Name x p2] (compEnv scope C X.env) = [(false, eval (.Name x p2) (compEnv scope C X.env))] := by rfl) (hmark : behindInMarks .Lt (.Constant (.int n) k p4) = false := by rfl) :
    wpAny (model X.prog X.w) X.A (eval (.Compare (.Call (.Name "len" p1) [.Name x p2] [] p3) [.Lt] [.Constant (.int n) k p4] p5) (compEnv scope C X.env)) (fun y s3 => y = .bool (decide ((z.length : Int) < n)) ∧ Keeps s2 s3) E' s2 := by
  have kl : (compEnv scope C X.env).kindOf "len" = some .globalImplicit := hl
  have kx : (compEnv scope C X.env).kindOf x = some .local := h5
  have bs : ∀ b o, X.base.get? b = some o → s2.heap.get? b = some o := fun b o e => keep b o (I.bk b o e)
  have ng : s2.heap.Ns (compEnv scope C X.env).globals X.mg := by
    show s2.heap.Ns X.env.globals X.mg
    rw [I.ok.glob]
    exact I.mod.glob.keeps bs
  obtain ⟨mb, nb, hb⟩ := I.mod.blt
  have nb2 : s2.heap.Ns (compEnv scope C X.env).builtins mb := by
    show s2.heap.Ns X.env.builtins mb
    rw [I.ok.blt]
    exact nb.keeps bs
  have sl : sizeLine = 16777216 := sizeLine_eq
  have big : (sizeLine : Int) < 2 ^ 63 := by rw [sl]; decide
  refine wpAny_Compare1 (wpAny_Call_Name_kw (wpAny_Name (W.ks_loadName_global h3 kl (Calls.loadGlobal_builtin ng hm nb2 (v := .builtin "len") (by rw [hb _ (by decide)]; exact boot_len) ?_)))) hmark
  rw [hst]
  refine Calls.callWith_builtin rfl (Calls.evalArgs_plain (Calls.spliced_cons (wpAny_Name (wpAny_loadName_local h3 kx hns hx (Calls.spliced_nil (P.len_str (by omega) ?_))) hd)))
  refine lit_int _ fun v tk hv => ?_
  obtain ⟨t2, rfl⟩ : ∃ t2, v = .int n t2 := by
    cases hv s2.heap
    exact ⟨_, rfl⟩
  exact wpAny_lt_int ⟨rfl, _, _, rfl, fun _ _ e => e⟩
end
end TT

set_option Elab.async false
set_option linter.all false
set_option maxRecDepth 100000
set_option maxHeartbeats 4000000
namespace TT
open PySem PySem.Spec PyProof.Rows L2
def top (i : Nat) : Stmt := PySem.Challenge.pw_turnedtunes_k10_the_first_wrong_line_of.main.body.getD i (.Pass ⟨0, 0, 0, 0⟩)
abbrev s_E_init : Stmt := inClass (top 2) 0
theorem sc_E_init : FnScope ["self", "value"] ["self", "value"] (defScope s_E_init) := ⟨rfl, rfl, rfl, by decide +kernel, rfl, by decide +kernel, by decide +kernel⟩
abbrev s_is_whole : Stmt := top 23
theorem sc_is_whole : FnScope ["value"] ["value"] (defScope s_is_whole) := ⟨rfl, rfl, rfl, by decide +kernel, rfl, by decide +kernel, by decide +kernel⟩
abbrev s_is_from : Stmt := top 24
theorem sc_is_from : FnScope ["value", "least"] ["value", "least"] (defScope s_is_from) := ⟨rfl, rfl, rfl, by decide +kernel, rfl, by decide +kernel, by decide +kernel⟩
abbrev s_is_between : Stmt := top 25
theorem sc_is_between : FnScope ["value", "least", "greatest"] ["value", "least", "greatest"] (defScope s_is_between) := ⟨rfl, rfl, rfl, by decide +kernel, rfl, by decide +kernel, by decide +kernel⟩
abbrev s_written : Stmt := top 26
theorem sc_written : FnScope ["number", "rest", "chunks"] ["number"] (defScope s_written) := ⟨rfl, rfl, rfl, by decide +kernel, rfl, by decide +kernel, by decide +kernel⟩
abbrev s_number_in : Stmt := top 27
theorem sc_number_in : FnScope ["word", "digits", "number"] ["word"] (defScope s_number_in) := ⟨rfl, rfl, rfl, by decide +kernel, rfl, by decide +kernel, by decide +kernel⟩
abbrev s_number_of : Stmt := top 28
theorem sc_number_of : FnScope ["digits", "head", "number", "at"] ["digits"] (defScope s_number_of) := ⟨rfl, rfl, rfl, by decide +kernel, rfl, by decide +kernel, by decide +kernel⟩
abbrev s_T_init : Stmt := inClass (top 30) 0
theorem sc_T_init : FnScope ["self", "first", "second", "length", "amount", "down", "backward", "way", "back"] ["self", "first", "second", "length", "amount", "down", "backward"] (defScope s_T_init) := ⟨rfl, rfl, rfl, by decide +kernel, rfl, by decide +kernel, by decide +kernel⟩
abbrev s_T_of : Stmt := inClass (top 30) 1
theorem sc_T_of : FnScope ["text", "values", "first", "second", "length", "amount", "down", "backward", "tie"] ["text"] (defScope s_T_of) := ⟨rfl, rfl, rfl, by decide +kernel, rfl, by decide +kernel, by decide +kernel⟩
abbrev s_is_tie_within : Stmt := top 31
theorem sc_is_tie_within : FnScope ["value", "size"] ["value", "size"] (defScope s_is_tie_within) := ⟨rfl, rfl, rfl, by decide +kernel, rfl, by decide +kernel, by decide +kernel⟩
abbrev s_check_parts : Stmt := top 32
theorem sc_check_parts : FnScope ["first", "second", "length"] ["first", "second", "length"] (defScope s_check_parts) := ⟨rfl, rfl, rfl, by decide +kernel, rfl, by decide +kernel, by decide +kernel⟩
abbrev s_check_leading : Stmt := top 33
theorem sc_check_leading : FnScope ["amount", "down", "backward"] ["amount", "down", "backward"] (defScope s_check_leading) := ⟨rfl, rfl, rfl, by decide +kernel, rfl, by decide +kernel, by decide +kernel⟩
abbrev s_values_in : Stmt := top 34
theorem sc_values_in : FnScope ["text", "words", "backward", "numbers", "word"] ["text"] (defScope s_values_in) := ⟨rfl, rfl, rfl, by decide +kernel, rfl, by decide +kernel, by decide +kernel⟩
abbrev s_numbers_behind : Stmt := top 40
theorem sc_numbers_behind : FnScope ["line", "word", "many", "words", "numbers", "one"] ["line", "word", "many"] (defScope s_numbers_behind) := ⟨rfl, rfl, rfl, by decide +kernel, rfl, by decide +kernel, by decide +kernel⟩
abbrev s_tie_behind : Stmt := top 41
theorem sc_tie_behind : FnScope ["line", "word", "first", "_", "text", "tie"] ["line", "word"] (defScope s_tie_behind) := ⟨rfl, rfl, rfl, by decide +kernel, rfl, by decide +kernel, by decide +kernel⟩
abbrev s_size_in : Stmt := top 42
theorem sc_size_in : FnScope ["line", "numbers"] ["line"] (defScope s_size_in) := ⟨rfl, rfl, rfl, by decide +kernel, rfl, by decide +kernel, by decide +kernel⟩
abbrev s_tie_in : Stmt := top 43
theorem sc_tie_in : FnScope ["line", "size", "tie"] ["line", "size"] (defScope s_tie_in) := ⟨rfl, rfl, rfl, by decide +kernel, rfl, by decide +kernel, by decide +kernel⟩
abbrev s_note_in : Stmt := top 44
theorem sc_note_in : FnScope ["line", "size", "numbers"] ["line", "size"] (defScope s_note_in) := ⟨rfl, rfl, rfl, by decide +kernel, rfl, by decide +kernel, by decide +kernel⟩
abbrev s_B_init : Stmt := inClass (top 47) 0
theorem sc_B_init : FnScope ["self", "text", "size", "ties", "notes"] ["self", "text"] (defScope s_B_init) := ⟨rfl, rfl, rfl, by decide +kernel, rfl, by decide +kernel, by decide +kernel⟩
abbrev s_contents : Stmt := top 48
theorem sc_contents : FnScope ["text", "lines", "size", "ties", "notes", "read"] ["text"] (defScope s_contents) := ⟨rfl, rfl, rfl, by decide +kernel, rfl, by decide +kernel, by decide +kernel⟩
abbrev s_first_ties : Stmt := top 49
theorem sc_first_ties : FnScope ["lines", "size", "ties", "line", "tie"] ["lines", "size"] (defScope s_first_ties) := ⟨rfl, rfl, rfl, by decide +kernel, rfl, by decide +kernel, by decide +kernel⟩
abbrev s_first_notes : Stmt := top 50
theorem sc_first_notes : FnScope ["lines", "size", "notes", "line", "note"] ["lines", "size"] (defScope s_first_notes) := ⟨rfl, rfl, rfl, by decide +kernel, rfl, by decide +kernel, by decide +kernel⟩
abbrev s_has_note : Stmt := top 51
theorem sc_has_note : FnScope ["notes", "place", "told", "_"] ["notes", "place"] (defScope s_has_note) := ⟨rfl, rfl, rfl, by decide +kernel, rfl, by decide +kernel, by decide +kernel⟩
abbrev s_l_pot : Stmt := top 58
theorem sc_l_pot : FnScope ["_law_script", "_law_k", "_law_cell", "_law_own", "_law_small"] ["_law_script", "_law_k"] (defScope s_l_pot) := ⟨rfl, rfl, rfl, by decide +kernel, rfl, by decide +kernel, by decide +kernel⟩
abbrev s_l_take : Stmt := top 59
theorem sc_l_take : FnScope ["_law_pot_here", "_law_under", "_law_digit", "_law_prime", "_law_mixed"] ["_law_pot_here", "_law_under"] (defScope s_l_take) := ⟨rfl, rfl, rfl, by decide +kernel, rfl, by decide +kernel, by decide +kernel⟩
abbrev s_l_of : Stmt := top 60
theorem sc_l_of : FnScope ["_law_pot_here", "_law_some"] ["_law_pot_here", "_law_some"] (defScope s_l_of) := ⟨rfl, rfl, rfl, by decide +kernel, rfl, by decide +kernel, by decide +kernel⟩
abbrev s_l_cells : Stmt := top 61
theorem sc_l_cells : FnScope ["_law_script", "_law_most"] ["_law_script", "_law_most"] (defScope s_l_cells) := ⟨rfl, rfl, rfl, by decide +kernel, rfl, by decide +kernel, by decide +kernel⟩
abbrev s_l_met_error : Stmt := top 62
theorem sc_l_met_error : FnScope ["_law_look", "_law_caught", "error"] ["_law_look"] (defScope s_l_met_error) := ⟨rfl, rfl, rfl, by decide +kernel, rfl, by decide +kernel, by decide +kernel⟩
abbrev s_l_amount : Stmt := top 63
theorem sc_l_amount : FnScope ["_law_pot_here"] ["_law_pot_here"] (defScope s_l_amount) := ⟨rfl, rfl, rfl, by decide +kernel, rfl, by decide +kernel, by decide +kernel⟩
abbrev s_l_row : Stmt := top 64
theorem sc_l_row : FnScope ["_law_pot_here", "_law_size", "_law_length", "_law_first", "_law_second", "_law_amount_here", "_law_is_down", "_law_is_back"] ["_law_pot_here", "_law_size"] (defScope s_l_row) := ⟨rfl, rfl, rfl, by decide +kernel, rfl, by decide +kernel, by decide +kernel⟩
abbrev s_l_text_of : Stmt := top 65
theorem sc_l_text_of : FnScope ["_law_row_here", "_law_words"] ["_law_row_here"] (defScope s_l_text_of) := ⟨rfl, rfl, rfl, by decide +kernel, rfl, by decide +kernel, by decide +kernel⟩
abbrev s_l_figure : Stmt := top 66
theorem sc_l_figure : FnScope ["_law_word", "_law_size", "_law_sign"] ["_law_word"] (defScope s_l_figure) := ⟨rfl, rfl, rfl, by decide +kernel, rfl, by decide +kernel, by decide +kernel⟩
abbrev s_l_row_told : Stmt := top 67
theorem sc_l_row_told : FnScope ["_law_text", "_law_words", "_law_numbers", "_law_word"] ["_law_text"] (defScope s_l_row_told) := ⟨rfl, rfl, rfl, by decide +kernel, rfl, by decide +kernel, by decide +kernel⟩
abbrev s_l_lore : Stmt := top 68
theorem sc_l_lore : FnScope ["_law_pot_here", "_law_most", "_law_ties", "_law_notes", "_law_lore_here", "_law_lap", "_law_left"] ["_law_pot_here", "_law_most", "_law_ties", "_law_notes"] (defScope s_l_lore) := ⟨rfl, rfl, rfl, by decide +kernel, rfl, by decide +kernel, by decide +kernel⟩
abbrev s_l_lines : Stmt := top 69
theorem sc_l_lines : FnScope ["_law_lore_here", "_law_lines_here", "_law_row_here", "_law_place", "_law_note"] ["_law_lore_here"] (defScope s_l_lines) := ⟨rfl, rfl, rfl, by decide +kernel, rfl, by decide +kernel, by decide +kernel⟩
abbrev s_l_bent_line : Stmt := top 70
theorem sc_l_bent_line : FnScope ["_law_pot_here", "_law_line", "_law_words", "_law_way", "_law_at", "_law_spot", "_law_sign"] ["_law_pot_here", "_law_line"] (defScope s_l_bent_line) := ⟨rfl, rfl, rfl, by decide +kernel, rfl, by decide +kernel, by decide +kernel⟩
abbrev s_l_is_short : Stmt := top 71
theorem sc_l_is_short : FnScope ["_law_text", "_law_word"] ["_law_text"] (defScope s_l_is_short) := ⟨rfl, rfl, rfl, by decide +kernel, rfl, by decide +kernel, by decide +kernel⟩
abbrev s_l_note_told : Stmt := top 72
theorem sc_l_note_told : FnScope ["_law_line", "_law_size", "_law_words", "_law_place", "_law_note"] ["_law_line", "_law_size"] (defScope s_l_note_told) := ⟨rfl, rfl, rfl, by decide +kernel, rfl, by decide +kernel, by decide +kernel⟩
abbrev s_l_first_wrong : Stmt := top 73
theorem sc_l_first_wrong : FnScope ["_law_text", "_law_lines_here", "_law_words", "_law_size", "_law_ties", "_law_places", "_law_at", "_law_line", "_law_row_here", "_law_given"] ["_law_text"] (defScope s_l_first_wrong) := ⟨rfl, rfl, rfl, by decide +kernel, rfl, by decide +kernel, by decide +kernel⟩
abbrev s_l_bent_text : Stmt := top 74
theorem sc_l_bent_text : FnScope ["_law_pot_here", "_law_text", "_law_lines_here", "_law_way", "_law_at", "_law_other", "_law_some"] ["_law_pot_here", "_law_text"] (defScope s_l_bent_text) := ⟨rfl, rfl, rfl, by decide +kernel, rfl, by decide +kernel, by decide +kernel⟩
abbrev s_l_is_judged : Stmt := top 75
theorem sc_l_is_judged : FnScope ["_law_value", "_law_caught", "_law_number"] ["_law_value"] (defScope s_l_is_judged) := ⟨rfl, rfl, rfl, by decide +kernel, rfl, by decide +kernel, by decide +kernel⟩
abbrev s_l_right : Stmt := top 76
theorem sc_l_right : FnScope ["_law_pot_here", "_law_lore_here", "_law_text", "_law_turn", "_law_value", "_law_often", "_law_ties", "_law_some", "_law_at"] ["_law_pot_here"] (defScope s_l_right) := ⟨rfl, rfl, rfl, by decide +kernel, rfl, by decide +kernel, by decide +kernel⟩
abbrev s_law : Stmt := top 77
theorem sc_law : FnScope ["_law_script", "_law_k", "_law_pot_here", "_law_lap"] ["_law_script"] (defScope s_law) := ⟨rfl, rfl, rfl, by decide +kernel, rfl, by decide +kernel, by decide +kernel⟩
structure Zs where
  c : Nat → Addr
  f_E_init : Addr
  d_E_init : FuncData
  f_is_whole : Addr
  d_is_whole : FuncData
  f_is_from : Addr
  d_is_from : FuncData
  f_is_between : Addr
  d_is_between : FuncData
  f_written : Addr
  d_written : FuncData
  f_number_in : Addr
  d_number_in : FuncData
  f_number_of : Addr
  d_number_of : FuncData
  f_T_init : Addr
  d_T_init : FuncData
  f_T_of : Addr
  d_T_of : FuncData
  f_is_tie_within : Addr
  d_is_tie_within : FuncData
  f_check_parts : Addr
  d_check_parts : FuncData
  f_check_leading : Addr
  d_check_leading : FuncData
  f_values_in : Addr
  d_values_in : FuncData
  f_numbers_behind : Addr
  d_numbers_behind : FuncData
  f_tie_behind : Addr
  d_tie_behind : FuncData
  f_size_in : Addr
  d_size_in : FuncData
  f_tie_in : Addr
  d_tie_in : FuncData
  f_note_in : Addr
  d_note_in : FuncData
  f_B_init : Addr
  d_B_init : FuncData
  f_contents : Addr
  d_contents : FuncData
  f_first_ties : Addr
  d_first_ties : FuncData
  f_first_notes : Addr
  d_first_notes : FuncData
  f_has_note : Addr
  d_has_note : FuncData
  f_l_pot : Addr
  d_l_pot : FuncData
  f_l_take : Addr
  d_l_take : FuncData
  f_l_of : Addr
  d_l_of : FuncData
  f_l_cells : Addr
  d_l_cells : FuncData
  f_l_met_error : Addr
  d_l_met_error : FuncData
  f_l_amount : Addr
  d_l_amount : FuncData
  f_l_row : Addr
  d_l_row : FuncData
  f_l_text_of : Addr
  d_l_text_of : FuncData
  f_l_figure : Addr
  d_l_figure : FuncData
  f_l_row_told : Addr
  d_l_row_told : FuncData
  f_l_lore : Addr
  d_l_lore : FuncData
  f_l_lines : Addr
  d_l_lines : FuncData
  f_l_bent_line : Addr
  d_l_bent_line : FuncData
  f_l_is_short : Addr
  d_l_is_short : FuncData
  f_l_note_told : Addr
  d_l_note_told : FuncData
  f_l_first_wrong : Addr
  d_l_first_wrong : FuncData
  f_l_bent_text : Addr
  d_l_bent_text : FuncData
  f_l_is_judged : Addr
  d_l_is_judged : FuncData
  f_l_right : Addr
  d_l_right : FuncData
  f_law : Addr
  d_law : FuncData
  c_l_is_judged : Addr
  t_l_is_judged : Addr
  cC : Addr
  cB : Addr
  t_GREATEST : Tok
  t__DIGITS : Tok
  t__CHUNK : Tok
  t_MOST : Tok
  pS : Addr
/-- where the top has put each def, and what it says of them -/
structure Txt (K : PySem.W.Frag) (mg : Str → Option Value) (Z : Zs) : Prop where
  F_E_init : Fun K "__init__" "TuneError.__init__" s_E_init Z.f_E_init Z.d_E_init
  bn_E_init : Binds K Z.d_E_init ["self", "value"] []
  k_E_init : PySem.W.keepIn K (.ref Z.f_E_init) = true
  i_E_init : PySem.W.isFn K (.ref Z.f_E_init) = true
  F_is_whole : Fun K "is_whole" "is_whole" s_is_whole Z.f_is_whole Z.d_is_whole
  bn_is_whole : Binds K Z.d_is_whole ["value"] []
  k_is_whole : PySem.W.keepIn K (.ref Z.f_is_whole) = true
  g_is_whole : mg "is_whole" = some (.ref Z.f_is_whole)
  F_is_from : Fun K "is_from" "is_from" s_is_from Z.f_is_from Z.d_is_from
  bn_is_from : Binds K Z.d_is_from ["value", "least"] []
  k_is_from : PySem.W.keepIn K (.ref Z.f_is_from) = true
  g_is_from : mg "is_from" = some (.ref Z.f_is_from)
  F_is_between : Fun K "is_between" "is_between" s_is_between Z.f_is_between Z.d_is_between
  bn_is_between : Binds K Z.d_is_between ["value", "least", "greatest"] []
  k_is_between : PySem.W.keepIn K (.ref Z.f_is_between) = true
  g_is_between : mg "is_between" = some (.ref Z.f_is_between)
  F_written : Fun K "written" "written" s_written Z.f_written Z.d_written
  bn_written : Binds K Z.d_written ["number"] []
  k_written : PySem.W.keepIn K (.ref Z.f_written) = true
  g_written : mg "written" = some (.ref Z.f_written)
  F_number_in : Fun K "number_in" "number_in" s_number_in Z.f_number_in Z.d_number_in
  bn_number_in : Binds K Z.d_number_in ["word"] []
  k_number_in : PySem.W.keepIn K (.ref Z.f_number_in) = true
  g_number_in : mg "number_in" = some (.ref Z.f_number_in)
  F_number_of : Fun K "_number_of" "_number_of" s_number_of Z.f_number_of Z.d_number_of
  bn_number_of : Binds K Z.d_number_of ["digits"] []
  k_number_of : PySem.W.keepIn K (.ref Z.f_number_of) = true
  g_number_of : mg "_number_of" = some (.ref Z.f_number_of)
  F_T_init : FunD K "__init__" "Tie.__init__" (defArgs s_T_init) (defBody s_T_init) (defScope s_T_init) [.int 0] [("down", .bl false), ("backward", .bl false)] Z.f_T_init Z.d_T_init
  k_T_init : PySem.W.keepIn K (.ref Z.f_T_init) = true
  i_T_init : PySem.W.isFn K (.ref Z.f_T_init) = true
  a_T_init : PySem.W.findIn K (.ref Z.cC) "__init__" = some (some (.ref Z.f_T_init))
  F_T_of : Fun K "of" "Tie.of" s_T_of Z.f_T_of Z.d_T_of
  bn_T_of : Binds K Z.d_T_of ["text"] []
  k_T_of : PySem.W.keepIn K (.ref Z.f_T_of) = true
  i_T_of : PySem.W.isFn K (.ref Z.f_T_of) = true
  F_is_tie_within : Fun K "is_tie_within" "is_tie_within" s_is_tie_within Z.f_is_tie_within Z.d_is_tie_within
  bn_is_tie_within : Binds K Z.d_is_tie_within ["value", "size"] []
  k_is_tie_within : PySem.W.keepIn K (.ref Z.f_is_tie_within) = true
  g_is_tie_within : mg "is_tie_within" = some (.ref Z.f_is_tie_within)
  F_check_parts : Fun K "_check_parts" "_check_parts" s_check_parts Z.f_check_parts Z.d_check_parts
  bn_check_parts : Binds K Z.d_check_parts ["first", "second", "length"] []
  k_check_parts : PySem.W.keepIn K (.ref Z.f_check_parts) = true
  g_check_parts : mg "_check_parts" = some (.ref Z.f_check_parts)
  F_check_leading : Fun K "_check_leading" "_check_leading" s_check_leading Z.f_check_leading Z.d_check_leading
  bn_check_leading : Binds K Z.d_check_leading ["amount", "down", "backward"] []
  k_check_leading : PySem.W.keepIn K (.ref Z.f_check_leading) = true
  g_check_leading : mg "_check_leading" = some (.ref Z.f_check_leading)
  F_values_in : Fun K "_values_in" "_values_in" s_values_in Z.f_values_in Z.d_values_in
  bn_values_in : Binds K Z.d_values_in ["text"] []
  k_values_in : PySem.W.keepIn K (.ref Z.f_values_in) = true
  g_values_in : mg "_values_in" = some (.ref Z.f_values_in)
  F_numbers_behind : Fun K "numbers_behind" "numbers_behind" s_numbers_behind Z.f_numbers_behind Z.d_numbers_behind
  bn_numbers_behind : Binds K Z.d_numbers_behind ["line", "word", "many"] []
  k_numbers_behind : PySem.W.keepIn K (.ref Z.f_numbers_behind) = true
  g_numbers_behind : mg "numbers_behind" = some (.ref Z.f_numbers_behind)
  F_tie_behind : Fun K "tie_behind" "tie_behind" s_tie_behind Z.f_tie_behind Z.d_tie_behind
  bn_tie_behind : Binds K Z.d_tie_behind ["line", "word"] []
  k_tie_behind : PySem.W.keepIn K (.ref Z.f_tie_behind) = true
  g_tie_behind : mg "tie_behind" = some (.ref Z.f_tie_behind)
  F_size_in : Fun K "size_in" "size_in" s_size_in Z.f_size_in Z.d_size_in
  bn_size_in : Binds K Z.d_size_in ["line"] []
  k_size_in : PySem.W.keepIn K (.ref Z.f_size_in) = true
  g_size_in : mg "size_in" = some (.ref Z.f_size_in)
  F_tie_in : Fun K "tie_in" "tie_in" s_tie_in Z.f_tie_in Z.d_tie_in
  bn_tie_in : Binds K Z.d_tie_in ["line", "size"] []
  k_tie_in : PySem.W.keepIn K (.ref Z.f_tie_in) = true
  g_tie_in : mg "tie_in" = some (.ref Z.f_tie_in)
  F_note_in : Fun K "note_in" "note_in" s_note_in Z.f_note_in Z.d_note_in
  bn_note_in : Binds K Z.d_note_in ["line", "size"] []
  k_note_in : PySem.W.keepIn K (.ref Z.f_note_in) = true
  g_note_in : mg "note_in" = some (.ref Z.f_note_in)
  F_B_init : Fun K "__init__" "Book.__init__" s_B_init Z.f_B_init Z.d_B_init
  bn_B_init : Binds K Z.d_B_init ["self", "text"] []
  k_B_init : PySem.W.keepIn K (.ref Z.f_B_init) = true
  i_B_init : PySem.W.isFn K (.ref Z.f_B_init) = true
  a_B_init : PySem.W.findIn K (.ref Z.cB) "__init__" = some (some (.ref Z.f_B_init))
  F_contents : Fun K "_contents" "_contents" s_contents Z.f_contents Z.d_contents
  bn_contents : Binds K Z.d_contents ["text"] []
  k_contents : PySem.W.keepIn K (.ref Z.f_contents) = true
  g_contents : mg "_contents" = some (.ref Z.f_contents)
  F_first_ties : Fun K "_first_ties" "_first_ties" s_first_ties Z.f_first_ties Z.d_first_ties
  bn_first_ties : Binds K Z.d_first_ties ["lines", "size"] []
  k_first_ties : PySem.W.keepIn K (.ref Z.f_first_ties) = true
  g_first_ties : mg "_first_ties" = some (.ref Z.f_first_ties)
  F_first_notes : Fun K "_first_notes" "_first_notes" s_first_notes Z.f_first_notes Z.d_first_notes
  bn_first_notes : Binds K Z.d_first_notes ["lines", "size"] []
  k_first_notes : PySem.W.keepIn K (.ref Z.f_first_notes) = true
  g_first_notes : mg "_first_notes" = some (.ref Z.f_first_notes)
  F_has_note : Fun K "_has_note" "_has_note" s_has_note Z.f_has_note Z.d_has_note
  bn_has_note : Binds K Z.d_has_note ["notes", "place"] []
  k_has_note : PySem.W.keepIn K (.ref Z.f_has_note) = true
  g_has_note : mg "_has_note" = some (.ref Z.f_has_note)
  F_l_pot : Fun K "_law_pot" "_law_pot" s_l_pot Z.f_l_pot Z.d_l_pot
  bn_l_pot : Binds K Z.d_l_pot ["_law_script", "_law_k"] []
  k_l_pot : PySem.W.keepIn K (.ref Z.f_l_pot) = true
  g_l_pot : mg "_law_pot" = some (.ref Z.f_l_pot)
  F_l_take : Fun K "_law_take" "_law_take" s_l_take Z.f_l_take Z.d_l_take
  bn_l_take : Binds K Z.d_l_take ["_law_pot_here", "_law_under"] []
  k_l_take : PySem.W.keepIn K (.ref Z.f_l_take) = true
  g_l_take : mg "_law_take" = some (.ref Z.f_l_take)
  F_l_of : Fun K "_law_of" "_law_of" s_l_of Z.f_l_of Z.d_l_of
  bn_l_of : Binds K Z.d_l_of ["_law_pot_here", "_law_some"] []
  k_l_of : PySem.W.keepIn K (.ref Z.f_l_of) = true
  g_l_of : mg "_law_of" = some (.ref Z.f_l_of)
  F_l_cells : Fun K "_law_cells" "_law_cells" s_l_cells Z.f_l_cells Z.d_l_cells
  bn_l_cells : Binds K Z.d_l_cells ["_law_script", "_law_most"] []
  k_l_cells : PySem.W.keepIn K (.ref Z.f_l_cells) = true
  g_l_cells : mg "_law_cells" = some (.ref Z.f_l_cells)
  F_l_met_error : Fun K "_law_met_error" "_law_met_error" s_l_met_error Z.f_l_met_error Z.d_l_met_error
  bn_l_met_error : Binds K Z.d_l_met_error ["_law_look"] []
  k_l_met_error : PySem.W.keepIn K (.ref Z.f_l_met_error) = true
  g_l_met_error : mg "_law_met_error" = some (.ref Z.f_l_met_error)
  F_l_amount : Fun K "_law_amount" "_law_amount" s_l_amount Z.f_l_amount Z.d_l_amount
  bn_l_amount : Binds K Z.d_l_amount ["_law_pot_here"] []
  k_l_amount : PySem.W.keepIn K (.ref Z.f_l_amount) = true
  g_l_amount : mg "_law_amount" = some (.ref Z.f_l_amount)
  F_l_row : Fun K "_law_row" "_law_row" s_l_row Z.f_l_row Z.d_l_row
  bn_l_row : Binds K Z.d_l_row ["_law_pot_here", "_law_size"] []
  k_l_row : PySem.W.keepIn K (.ref Z.f_l_row) = true
  g_l_row : mg "_law_row" = some (.ref Z.f_l_row)
  F_l_text_of : Fun K "_law_text_of" "_law_text_of" s_l_text_of Z.f_l_text_of Z.d_l_text_of
  bn_l_text_of : Binds K Z.d_l_text_of ["_law_row_here"] []
  k_l_text_of : PySem.W.keepIn K (.ref Z.f_l_text_of) = true
  g_l_text_of : mg "_law_text_of" = some (.ref Z.f_l_text_of)
  F_l_figure : Fun K "_law_figure" "_law_figure" s_l_figure Z.f_l_figure Z.d_l_figure
  bn_l_figure : Binds K Z.d_l_figure ["_law_word"] []
  k_l_figure : PySem.W.keepIn K (.ref Z.f_l_figure) = true
  g_l_figure : mg "_law_figure" = some (.ref Z.f_l_figure)
  F_l_row_told : Fun K "_law_row_told" "_law_row_told" s_l_row_told Z.f_l_row_told Z.d_l_row_told
  bn_l_row_told : Binds K Z.d_l_row_told ["_law_text"] []
  k_l_row_told : PySem.W.keepIn K (.ref Z.f_l_row_told) = true
  g_l_row_told : mg "_law_row_told" = some (.ref Z.f_l_row_told)
  F_l_lore : Fun K "_law_lore" "_law_lore" s_l_lore Z.f_l_lore Z.d_l_lore
  bn_l_lore : Binds K Z.d_l_lore ["_law_pot_here", "_law_most", "_law_ties", "_law_notes"] []
  k_l_lore : PySem.W.keepIn K (.ref Z.f_l_lore) = true
  g_l_lore : mg "_law_lore" = some (.ref Z.f_l_lore)
  F_l_lines : Fun K "_law_lines" "_law_lines" s_l_lines Z.f_l_lines Z.d_l_lines
  bn_l_lines : Binds K Z.d_l_lines ["_law_lore_here"] []
  k_l_lines : PySem.W.keepIn K (.ref Z.f_l_lines) = true
  g_l_lines : mg "_law_lines" = some (.ref Z.f_l_lines)
  F_l_bent_line : Fun K "_law_bent_line" "_law_bent_line" s_l_bent_line Z.f_l_bent_line Z.d_l_bent_line
  bn_l_bent_line : Binds K Z.d_l_bent_line ["_law_pot_here", "_law_line"] []
  k_l_bent_line : PySem.W.keepIn K (.ref Z.f_l_bent_line) = true
  g_l_bent_line : mg "_law_bent_line" = some (.ref Z.f_l_bent_line)
  F_l_is_short : Fun K "_law_is_short" "_law_is_short" s_l_is_short Z.f_l_is_short Z.d_l_is_short
  bn_l_is_short : Binds K Z.d_l_is_short ["_law_text"] []
  k_l_is_short : PySem.W.keepIn K (.ref Z.f_l_is_short) = true
  g_l_is_short : mg "_law_is_short" = some (.ref Z.f_l_is_short)
  F_l_note_told : Fun K "_law_note_told" "_law_note_told" s_l_note_told Z.f_l_note_told Z.d_l_note_told
  bn_l_note_told : Binds K Z.d_l_note_told ["_law_line", "_law_size"] []
  k_l_note_told : PySem.W.keepIn K (.ref Z.f_l_note_told) = true
  g_l_note_told : mg "_law_note_told" = some (.ref Z.f_l_note_told)
  F_l_first_wrong : Fun K "_law_first_wrong" "_law_first_wrong" s_l_first_wrong Z.f_l_first_wrong Z.d_l_first_wrong
  bn_l_first_wrong : Binds K Z.d_l_first_wrong ["_law_text"] []
  k_l_first_wrong : PySem.W.keepIn K (.ref Z.f_l_first_wrong) = true
  g_l_first_wrong : mg "_law_first_wrong" = some (.ref Z.f_l_first_wrong)
  F_l_bent_text : Fun K "_law_bent_text" "_law_bent_text" s_l_bent_text Z.f_l_bent_text Z.d_l_bent_text
  bn_l_bent_text : Binds K Z.d_l_bent_text ["_law_pot_here", "_law_text"] []
  k_l_bent_text : PySem.W.keepIn K (.ref Z.f_l_bent_text) = true
  g_l_bent_text : mg "_law_bent_text" = some (.ref Z.f_l_bent_text)
  F_l_is_judged : FunC K "_law_is_judged" "_law_is_judged" s_l_is_judged Z.f_l_is_judged Z.d_l_is_judged Z.c_l_is_judged
  bn_l_is_judged : Binds K Z.d_l_is_judged ["_law_value"] []
  k_l_is_judged : PySem.W.keepIn K (.ref Z.f_l_is_judged) = true
  g_l_is_judged : mg "_law_is_judged" = some (.ref Z.f_l_is_judged)
  F_l_right : Fun K "_law_right" "_law_right" s_l_right Z.f_l_right Z.d_l_right
  bn_l_right : Binds K Z.d_l_right ["_law_pot_here"] []
  k_l_right : PySem.W.keepIn K (.ref Z.f_l_right) = true
  g_l_right : mg "_law_right" = some (.ref Z.f_l_right)
  F_law : Fun K "law" "law" s_law Z.f_law Z.d_law
  bn_law : Binds K Z.d_law ["_law_script"] []
  k_law : PySem.W.keepIn K (.ref Z.f_law) = true
  g_law : mg "law" = some (.ref Z.f_law)
  b_isinstance : mg "isinstance" = none
  b_int : mg "int" = none
  b_bool : mg "bool" = none
  b_str : mg "str" = none
  b_range : mg "range" = none
  b_len : mg "len" = none
  b_max : mg "max" = none
  b_tuple : mg "tuple" = none
  b_abs : mg "abs" = none
  b_list : mg "list" = none
  b_min : mg "min" = none
  b_all : mg "all" = none
  b_enumerate : mg "enumerate" = none
  b_repr : mg "repr" = none
  c_GREATEST : mg "GREATEST" = some (.int 1000000000000000000000000000000 Z.t_GREATEST)
  c__DIGITS : mg "_DIGITS" = some (.int 64 Z.t__DIGITS)
  c__CHUNK : mg "_CHUNK" = some (.int 10000000000000000000000000000000000000000000000000000000000000000 Z.t__CHUNK)
  c_MOST : mg "MOST" = some (.int 12 Z.t_MOST)
  cl : Cls K Z.cC
  g_C : mg "Tie" = some (.ref Z.cC)
  mkC : PySem.W.makesIn K Z.cC = true
  kC : PySem.W.keepIn K (.ref Z.cC) = true
  n_first : NoAttr K Z.cC "first"
  n_second : NoAttr K Z.cC "second"
  n_length : NoAttr K Z.cC "length"
  n_amount : NoAttr K Z.cC "amount"
  n_down : NoAttr K Z.cC "down"
  n_backward : NoAttr K Z.cC "backward"
  n_text : NoAttr K Z.cC "text"
  clB : Cls K Z.cB
  g_Bk : mg "Book" = some (.ref Z.cB)
  mkBc : PySem.W.makesIn K Z.cB = true
  kB : PySem.W.keepIn K (.ref Z.cB) = true
  nB_text : NoAttr K Z.cB "text"
  nB_size : NoAttr K Z.cB "size"
  nB_ties : NoAttr K Z.cB "ties"
  nB_notes : NoAttr K Z.cB "notes"
  g_BadPlace : mg "BadPlace" = some (.ref (Z.c 0))
  g_BadLength : mg "BadLength" = some (.ref (Z.c 1))
  g_BadAmount : mg "BadAmount" = some (.ref (Z.c 2))
  g_BadWay : mg "BadWay" = some (.ref (Z.c 3))
  g_BadText : mg "BadText" = some (.ref (Z.c 4))
  g_BadBook : mg "BadBook" = some (.ref (Z.c 5))
  g_TuneError : mg "TuneError" = some (.ref (Z.c 6))
  ex : ∀ i, i < 7 → ExcT K (Z.c 6) Z.f_E_init (Z.c i)
  nd : ∀ i j, i < 7 → j < 7 → Z.c i = Z.c j → i = j
  z_ve : PySem.W.findCls K (.type "ValueError") (.type "type") "__init__" = some (.val (.builtin "ValueError.__init__"))
  t_E_init : PySem.W.typeIn K (.ref Z.f_E_init) = some (.type "function")
  b_ValueError : mg "ValueError" = none
  z_cls : PySem.W.findIn K (.ref Z.cC) "__class__" = some (some (.builtin "object.__class__"))
  z_mro : PySem.W.mroIn K Z.cC (.type "object") = some true
  z_kit : PySem.W.kitOne K (.ref Z.cC) (.ref Z.cC) = some true
  z_ty : PySem.W.typeIn K (.ref Z.cC) = some (.type "type")
  z_clsB : PySem.W.findIn K (.ref Z.cB) "__class__" = some (some (.builtin "object.__class__"))
  z_mroB : PySem.W.mroIn K Z.cB (.type "object") = some true
  z_kitB : PySem.W.kitOne K (.ref Z.cB) (.ref Z.cB) = some true
  z_tyB : PySem.W.typeIn K (.ref Z.cB) = some (.type "type")
  z_get : PySem.W.specialIn K (.builtin "object.__class__") "__get__" = some (some (.builtin "getset_descriptor.__get__"))
  z_tk : PySem.W.takesIn K (.builtin "object.__class__") = some true
  z_read : ClX.CRead K Z.cC (.type "type")
  z_sta : CSta K Z.cC (.type "type") "of" Z.pS Z.f_T_of
  z_subN : PySem.W.subIn K (.type "NoneType") (.ref Z.cC) = some false
  z_kitN : PySem.W.kitOne K (.type "NoneType") (.ref Z.cC) = some false
  z_subT : PySem.W.subIn K (.type "tuple") (.ref Z.cC) = some false
  z_kitT : PySem.W.kitOne K (.type "tuple") (.ref Z.cC) = some false
  z_subL : PySem.W.subIn K (.type "list") (.ref Z.cC) = some false
  z_kitL : PySem.W.kitOne K (.type "list") (.ref Z.cC) = some false
  z_subD : PySem.W.subIn K (.type "dict") (.ref Z.cC) = some false
  z_kitD : PySem.W.kitOne K (.type "dict") (.ref Z.cC) = some false
  z_subI : PySem.W.subIn K (.type "int") (.ref Z.cC) = some false
  z_kitI : PySem.W.kitOne K (.type "int") (.ref Z.cC) = some false
  z_subO : PySem.W.subIn K (.type "bool") (.ref Z.cC) = some false
  z_kitO : PySem.W.kitOne K (.type "bool") (.ref Z.cC) = some false
  z_subS : PySem.W.subIn K (.type "str") (.ref Z.cC) = some false
  z_kitS : PySem.W.kitOne K (.type "str") (.ref Z.cC) = some false
  z_subIB : PySem.W.subIn K (.type "int") (.ref Z.cB) = some false
  z_kitIB : PySem.W.kitOne K (.type "int") (.ref Z.cB) = some false
  z_notIB : PySem.W.notFirst K Z.cB (.type "int") = true
  z_subSB : PySem.W.subIn K (.type "str") (.ref Z.cB) = some false
  z_kitSB : PySem.W.kitOne K (.type "str") (.ref Z.cB) = some false
  z_notSB : PySem.W.notFirst K Z.cB (.type "str") = true
  z_notT : PySem.W.notFirst K Z.cC (.type "tuple") = true
  z_notTB : PySem.W.notFirst K Z.cB (.type "tuple") = true
  z_neB : PySem.W.findIn K (.ref Z.cB) "__ne__" = some (some (.builtin "object.__ne__"))
end TT

set_option Elab.async false
set_option linter.all false
set_option maxRecDepth 100000
set_option maxHeartbeats 4000000
namespace TT
open PySem PySem.Spec PyProof.Rows L2
/-! ### the law's draws -/
/-- a pot of draws stands at p: n numbers were mixed so far -/
def Pot (H : Hp) (p : Addr) (n : Nat) : Prop := ∃ own mix : Int, H p = some (.lst [.int own, .int mix, .int (n : Int)]) ∧ 0 ≤ own ∧ own < 10 ^ 300 ∧ 0 ≤ mix ∧ mix < 2305843009213693951
/-- all that was tracked but the object at p is as it was -/
def Keep (p : Addr) (H H' : Hp) : Prop := ∀ b o, b ≠ p → H b = some o → H' b = some o
theorem Keep.rfl' {p : Addr} {H : Hp} : Keep p H H := fun _ _ _ h => h
theorem Keep.trans {p : Addr} {H H1 H2 : Hp} (a : Keep p H H1) (b : Keep p H1 H2) : Keep p H H2 := fun c o n h => b c o n (a c o n h)
theorem Keep.of {p : Addr} {H H1 : Hp} (a : Same H H1) : Keep p H H1 := fun c o _ h => a c o h
theorem Keep.upd {p : Addr} {H H1 : Hp} {o : HO} (a : Keep p H H1) : Keep p H (upd H1 p o) := fun c u n h => by rw [upd_ne n]; exact a c u n h
theorem Keep.new {p q : Addr} {H H1 : Hp} {o : HO} (a : Keep p H H1) (h : H1 q = none) : Keep p H (L2.upd H1 q o) := fun c u n e => by
  have := a c u n e
  rw [upd_ne (ne_of_none this h)]
  exact this
theorem Same.new {q : Addr} {H H1 : Hp} {o : HO} (a : Same H H1) (h : H1 q = none) : Same H (L2.upd H1 q o) := fun c u e => by
  have := a c u e
  rw [upd_ne (ne_of_none this h)]
  exact this
theorem lt200 {u : Int} (h0 : 0 < u) (h : u < 10 ^ 60) : u.natAbs < 2 ^ 200 := by
  have : (10 : Int) ^ 60 < 2 ^ 200 := by decide
  omega
theorem bits62 {y : Int} (h0 : 0 ≤ y) (h : y < 2 ^ 62) : Builtin.Int.intBits y ≤ 64 := intBits_le_64 (by omega) (by omega)
theorem prime_at (i : Int) (h0 : 0 ≤ i) (h : i < 5) : ∃ v : Int, atI [V.int 2147483647, V.int 2147483629, V.int 2147483587, V.int 2147483579, V.int 2147483563] i = some (.int v) ∧ 2 ≤ v ∧ v ≤ 2147483648 := by
  have : i = 0 ∨ i = 1 ∨ i = 2 ∨ i = 3 ∨ i = 4 := by omega
  rcases this with rfl | rfl | rfl | rfl | rfl <;> exact ⟨_, rfl, by decide, by decide⟩
def sp_l_take : Sp := fun vs H Q _ => ∃ (p : Addr) (n : Nat) (u : Int), vs = [.ref p, .int u] ∧ Pot H p n ∧ n < 1000000 ∧ 0 < u ∧ u < 10 ^ 60 ∧
  ∀ (d : Int) (n' : Nat) (H' : Hp), 0 ≤ d → d < u → n' ≤ n + 1 → Pot H' p n' → Keep p H H' → Q (.int d) H'
section
variable {P : Program} {w : World} {K : PySem.W.Frag} {mg : Str → Option Value} {base : Heap} {Z : Zs}
theorem ok_l_take (T : Txt K mg Z) : FnOk P w K mg base CX0 1 Z.f_l_take Z.d_l_take ["_law_pot_here", "_law_under"] sp_l_take := by
  refine T.F_l_take.ok sc_l_take (fun vs H Q E h => ?_) (fun cdv A outer s H vs Q E hr h => ?_)
  · obtain ⟨p, n, u, rfl, _⟩ := h
    rfl
  · obtain ⟨p, n, u, rfl, ⟨own, mix, hp, o0, o1, m0, m1⟩, hn, u0, u1, k⟩ := h
    refine ⟨_, (pss_cons (ps_if (pt_cmpR op_gt (pe_ix ix_list (pv 0) pe_int (fun _ _ => rfl)) pe_int (nomark _)) (pss_cons (ps_set (i := 2) sc_l_take.nd rfl (Or.inl rfl) (pe_op op_mod (pe_callTy call_int1 (by rfl) T.b_int (by decide +kernel) (pa_cons (pe_ix ix_list (pv 0) pe_int (fun _ _ => rfl)) pa_nil)) (pv 1)))
      (pss_cons (ps_asg (pe_op op_fdivW (pe_ix ix_list (pv 0) pe_int (fun _ _ => rfl)) (pv 1)) (pg_sub (pv 0) pe_int set_list))
      (pss_one (ps_ret (pv 2))))) pss_nil)
      (pss_cons (ps_asg (pe_op op_add (pe_ix ix_list (pv 0) pe_int (fun _ _ => rfl)) pe_int) (pg_sub (pv 0) pe_int set_list))
      (pss_cons (ps_set (i := 3) sc_l_take.nd rfl (Or.inl rfl) (pe_ix ix_list (pe_lst (pa_cons pe_int (pa_cons pe_int (pa_cons pe_int (pa_cons pe_int (pa_cons pe_int pa_nil)))))) (pe_op op_mod (pe_callTy call_int1 (by rfl) T.b_int (by decide +kernel) (pa_cons (pe_ix ix_list (pv 0) pe_int (fun _ _ => rfl)) pa_nil)) pe_int) (fun _ _ => rfl)))
      (pss_cons (ps_set (i := 4) sc_l_take.nd rfl (Or.inl rfl) (pe_op op_mod (pe_callTy call_int1 (by rfl) T.b_int (by decide +kernel) (pa_cons (pe_op op_powW (pe_callTy call_int1 (by rfl) T.b_int (by decide +kernel) (pa_cons (pe_op op_add (pe_op op_add (pe_ix ix_list (pv 0) pe_int (fun _ _ => rfl)) (pe_op op_mul (pe_op op_mul pe_int (pe_ix ix_list (pv 0) pe_int (fun _ _ => rfl))) (pe_ix ix_list (pv 0) pe_int (fun _ _ => rfl)))) pe_int) pa_nil)) pe_int) pa_nil)) (pv 3)))
      (pss_cons (ps_set (i := 4) sc_l_take.nd rfl (Or.inl rfl) (pe_op op_mod (pe_callTy call_int1 (by rfl) T.b_int (by decide +kernel) (pa_cons (pe_op op_mul (pv 4) (pe_op op_add (pe_op op_mod (pe_callTy call_int1 (by rfl) T.b_int (by decide +kernel) (pa_cons (pv 4) pa_nil)) pe_int) (pe_op op_mul pe_int (pe_ix ix_list (pv 0) pe_int (fun _ _ => rfl))))) pa_nil)) pe_int))
      (pss_one (ps_ret (pe_op op_mod (pe_callTy call_int1 (by rfl) T.b_int (by decide +kernel) (pa_cons (pe_op op_fdivW (pv 4) pe_int) pa_nil)) (pv 1))))))))), ?_⟩
    refine ⟨_, rfl, p, _, _, _, rfl, rfl, SqL.of hp, rfl, _, _, rfl, rfl, _, rfl, ?_⟩
    refine ite2 (fun c => ?_) (fun c => ?_)
    · have c' : 0 < own := of_decide_eq_true c
      have q0 : 0 ≤ own / u := Int.ediv_nonneg o0 (Int.le_of_lt u0)
      have q1 : own / u < 10 ^ 300 := Int.lt_of_le_of_lt (Int.ediv_le_self _ o0) o1
      refine ⟨_, rfl, p, _, _, _, rfl, rfl, SqL.of hp, rfl, .inl ⟨_, rfl, _, rfl, _, _, rfl, rfl, u0, ?_⟩⟩
      refine ⟨_, rfl, p, _, _, _, rfl, rfl, SqL.of hp, rfl, _, rfl, _, _, rfl, rfl, wide_div u0 (b := 200) (lt200 u0 u1) (by decide) (by decide), _, rfl, p, _, _, _, rfl, rfl, hp, rfl, _, rfl, ?_⟩
      exact k _ n _ (Int.emod_nonneg _ (by omega)) (Int.emod_lt_of_pos _ u0) (Nat.le_succ _) ⟨own / u, mix, upd_same, q0, q1, m0, m1⟩ Keep.rfl'.upd
    · refine ⟨_, rfl, p, _, _, _, rfl, rfl, SqL.of hp, rfl, _, _, rfl, rfl, _, rfl, p, _, _, _, rfl, rfl, hp, rfl, ?_⟩
      obtain ⟨H1, hH1⟩ : ∃ H1, H1 = upd H p (.lst [V.int own, V.int mix, V.int ((n : Int) + 1)]) := ⟨_, rfl⟩
      have hp1 : H1 p = some (.lst [V.int own, V.int mix, V.int ((n : Int) + 1)]) := by rw [hH1]; exact upd_same
      have kp1 : Keep p H H1 := by rw [hH1]; exact Keep.rfl'.upd
      refine Eq.mp (congrArg _ hH1) ?_
      -- the primes
      refine ⟨by show 5 ≤ sizeLine; decide, fun q hq => ?_⟩
      have npq : p ≠ q := ne_of_none hp1 hq
      have hp2 : (upd H1 q (.lst [V.int 2147483647, V.int 2147483629, V.int 2147483587, V.int 2147483579, V.int 2147483563])) p = some (.lst [V.int own, V.int mix, V.int ((n : Int) + 1)]) := by rw [upd_ne npq]; exact hp1
      refine ⟨_, rfl, p, _, _, _, rfl, rfl, SqL.of hp2, rfl, .inl ⟨_, rfl, _, _, rfl, rfl, by show (0 : Int) < 5; decide, ?_⟩⟩
      obtain ⟨v, hv, v0, v1⟩ := prime_at (((n : Int) + 1) % 5) (Int.emod_nonneg _ (by decide)) (Int.emod_lt_of_pos _ (by decide))
      refine ⟨q, _, _, _, rfl, rfl, SqL.of upd_same, hv, ?_⟩
      generalize hH2 : upd H1 q (.lst [V.int 2147483647, V.int 2147483629, V.int 2147483587, V.int 2147483579, V.int 2147483563]) = H2 at hp2 ⊢
      have kp2 : Keep p H H2 := by rw [← hH2]; exact kp1.new hq
      -- mixed
      refine ⟨_, rfl, p, _, _, _, rfl, rfl, SqL.of hp2, rfl, _, rfl, p, _, _, _, rfl, rfl, SqL.of hp2, rfl, _, _, rfl, rfl, .inl (by constructor <;> decide), _, rfl, p, _, _, _, rfl, rfl, SqL.of hp2, rfl, _, _, rfl, rfl, .inr (by constructor <;> omega), _, _, rfl, rfl, _, _, rfl, rfl, .inl ⟨_, rfl, ?_⟩⟩
      have b1 : 0 ≤ 100169 * ((n : Int) + 1) * ((n : Int) + 1) ∧ 100169 * ((n : Int) + 1) * ((n : Int) + 1) ≤ 100169 * 1000000 * 1000000 := by
        have h1 : 0 ≤ (n : Int) + 1 := by omega
        have h2 : (n : Int) + 1 ≤ 1000000 := by omega
        refine ⟨Int.mul_nonneg (Int.mul_nonneg (by decide) h1) h1, ?_⟩
        exact Int.mul_le_mul (Int.mul_le_mul_of_nonneg_left h2 (by decide)) h2 h1 (by decide)
      generalize hz : 100169 * ((n : Int) + 1) * ((n : Int) + 1) = z at b1 ⊢
      have b2 : 0 ≤ mix + z + 53 ∧ mix + z + 53 < 2 ^ 62 := by constructor <;> omega
      generalize mix + z + 53 = y at b2 ⊢
      refine ⟨_, _, rfl, rfl, ⟨by decide, ?_⟩, .inl ⟨_, rfl, ?_⟩⟩
      · have := bits62 b2.1 b2.2
        show ((Builtin.Int.intBits y : Nat) : Int) * 3 ≤ 2 ^ 27
        omega
      refine ⟨_, rfl, _, _, rfl, rfl, by omega, ?_⟩
      have b3 : 0 ≤ y ^ (3 : Int).toNat % v ∧ y ^ (3 : Int).toNat % v < 2147483648 := ⟨Int.emod_nonneg _ (by omega), Int.lt_of_lt_of_le (Int.emod_lt_of_pos _ (by omega)) (by omega)⟩
      refine ⟨_, rfl, _, rfl, .inl ⟨_, rfl, _, _, rfl, rfl, by show (0 : Int) < 10039; decide, _, rfl, p, _, _, _, rfl, rfl, SqL.of hp2, rfl, _, _, rfl, rfl, .inl (by constructor <;> decide), _, _, rfl, rfl, _, _, rfl, rfl, .inl (by constructor <;> omega), .inl ⟨_, rfl, _, _, rfl, rfl, (by decide : (0 : Int) < 2305843009213693907), ?_⟩⟩⟩
      refine ⟨_, rfl, _, _, rfl, rfl, wide_div (j := 127) (by decide) (b := 200) (by decide) (by decide) (by decide), .inl ⟨_, rfl, _, rfl, _, _, rfl, rfl, u0, ?_⟩⟩
      exact k _ (n + 1) _ (Int.emod_nonneg _ (by omega)) (Int.emod_lt_of_pos _ u0) (Nat.le_refl _) ⟨own, mix, hp2, o0, o1, m0, m1⟩ kp2
end
end TT

set_option Elab.async false
set_option linter.all false
set_option maxRecDepth 100000
set_option maxHeartbeats 4000000
namespace TT
open PySem PySem.Spec PyProof.Rows L2
def sp_l_of : Sp := fun vs H Q _ => ∃ (p a : Addr) (n : Nat) (xs : List V), vs = [.ref p, .ref a] ∧ Pot H p n ∧ n < 1000000 ∧ H a = some (.lst xs) ∧ a ≠ p ∧ 0 < xs.length ∧ xs.length ≤ 1000 ∧
  ∀ (v : V) (n' : Nat) (H' : Hp), v ∈ xs → n' ≤ n + 1 → Pot H' p n' → Keep p H H' → Q v H'
def sp_l_cells (K : PySem.W.Frag) : Sp := fun vs H Q _ => ∃ (a : Addr) (ns : List Int) (most : Int), vs = [.ref a, .int most] ∧ SqL K H a (ns.map V.int) ∧ ns.length ≤ 63 ∧ 1 ≤ most ∧ most ≤ 63 ∧
  ∀ (q : Addr) (m : Int), H q = none → 1 ≤ m → m ≤ 63 → Q (.ref q) (upd H q (.lst (rgV 0 m)))
def sp_l_pot (K : PySem.W.Frag) : Sp := fun vs H Q _ => ∃ (a : Addr) (ns : List Int) (i : Int), vs = [.ref a, .int i] ∧ SqL K H a (ns.map V.int) ∧ ns.length ≤ 63 ∧ 0 ≤ i ∧ i < 100 ∧
  ∀ (p : Addr) (H' : Hp), H p = none → Same H H' → Pot H' p 0 → Q (.ref p) H'
theorem at_mem {xs : List V} {i : Int} (h0 : 0 ≤ i) (h : i < (xs.length : Int)) : ∃ v, atI xs i = some v ∧ v ∈ xs := by
  obtain ⟨j, rfl⟩ : ∃ j : Nat, i = (j : Int) := ⟨i.toNat, by omega⟩
  have hj : j < xs.length := by omega
  exact ⟨xs[j], atI_nat (List.getElem?_eq_getElem hj), List.getElem_mem hj⟩
theorem ite01 (b : Bool) : -(2 ^ 64) < (if b = true then (1 : Int) else 0) ∧ (if b = true then (1 : Int) else 0) < 2 ^ 64 := by cases b <;> constructor <;> decide
theorem share {T : Int → Prop} {G : Prop} (h : (∀ z, T z) → G) (t : ∀ z, T z) : G := h t
section
variable {P : Program} {w : World} {K : PySem.W.Frag} {mg : Str → Option Value} {base : Heap} {Z : Zs}
theorem ok_l_of (T : Txt K mg Z) : FnOk P w K mg base CX0 2 Z.f_l_of Z.d_l_of ["_law_pot_here", "_law_some"] sp_l_of := by
  refine T.F_l_of.ok sc_l_of (fun vs H Q E h => ?_) (fun cdv A outer s H vs Q E hr h => ?_)
  · obtain ⟨p, a, n, xs, rfl, _⟩ := h
    rfl
  · obtain ⟨p, a, n, xs, rfl, hp, hn, ha, hne, l0, l1, k⟩ := h
    refine ⟨_, (pss_one (ps_ret (pe_ix ix_list (pv 1) (pe_call (ok_l_take T) (hr.mono (by decide)) rfl T.g_l_take T.k_l_take T.bn_l_take .nil pass0 (pa_cons (pv 0) (pa_cons (pe_callB  call_len (by rfl) T.b_len (by decide +kernel) (pa_cons (pv 1) pa_nil)) pa_nil))) (fun _ _ => rfl)))), ?_⟩
    have big : (xs.length : Int) < 10 ^ 60 := by
      have : (1000 : Int) < 10 ^ 60 := by decide
      omega
    refine ⟨_, rfl, _, rfl, _, rfl, _, _, rfl, .inl ⟨_, SqL.of ha, rfl⟩, p, n, _, rfl, hp, hn, by omega, big, fun d n' H' d0 d1 hn' hp' kp => ?_⟩
    obtain ⟨v, hv, hm⟩ := at_mem d0 d1
    exact ⟨a, xs, d, v, rfl, rfl, SqL.of (kp _ _ hne ha), hv, k v n' H' hm hn' hp' kp⟩
theorem ok_l_cells (T : Txt K mg Z) : FnOk P w K mg base CX0 1 Z.f_l_cells Z.d_l_cells ["_law_script", "_law_most"] (sp_l_cells K) := by
  refine T.F_l_cells.ok sc_l_cells (fun vs H Q E h => ?_) (fun cdv A outer s H vs Q E hr h => ?_)
  · obtain ⟨a, ns, m, rfl, _⟩ := h
    rfl
  · obtain ⟨a, ns, m, rfl, hS, hl, m0, m1, k⟩ := h
    refine ⟨_, (pss_one (ps_ret (pe_listRg rfl rfl T.b_list (prg_1 rfl T.b_range (pe_callB  (call_max2 rfl) (by rfl) T.b_max (by decide +kernel) (pa_cons pe_int (pa_cons (pe_callB  (call_min2 rfl) (by rfl) T.b_min (by decide +kernel) (pa_cons (pv 1) (pa_cons (pe_callB  call_len (by rfl) T.b_len (by decide +kernel) (pa_cons (pv 0) pa_nil)) pa_nil))) pa_nil))))))), ?_⟩
    refine ⟨_, rfl, _, rfl, _, _, rfl, .inl ⟨_, hS, rfl⟩, _, _, rfl, _, _, rfl, ?_⟩
    rw [List.length_map]
    have b : 1 ≤ (if (if (ns.length : Int) < m then (ns.length : Int) else m) > 1 then (if (ns.length : Int) < m then (ns.length : Int) else m) else 1) ∧ (if (if (ns.length : Int) < m then (ns.length : Int) else m) > 1 then (if (ns.length : Int) < m then (ns.length : Int) else m) else 1) ≤ 63 := by
      constructor <;> split <;> first | omega | (split <;> omega)
    exact ⟨_, rfl, RgOk.of_le (by decide) (by omega) (by decide) (by omega), fun q hq => k q _ hq b.1 b.2⟩
theorem own_bound (x : Int) (b : Bool) : 0 ≤ x % ((10 : Int) ^ (60 : Int).toNat) ^ (5 : Int).toNat * (if b = true then 1 else 0) ∧ x % ((10 : Int) ^ (60 : Int).toNat) ^ (5 : Int).toNat * (if b = true then 1 else 0) < 10 ^ 300 := by
  have e : ((10 : Int) ^ (60 : Int).toNat) ^ (5 : Int).toNat = 10 ^ 300 := by decide
  rw [e]
  have h1 := Int.emod_nonneg x (b := 10 ^ 300) (by decide)
  have h2 := Int.emod_lt_of_pos x (b := 10 ^ 300) (by decide)
  cases b
  · simp only [Bool.false_eq_true, if_false, Int.mul_zero]
    exact ⟨Int.le_refl _, by decide⟩
  · simp only [if_true, Int.mul_one]
    exact ⟨h1, h2⟩
theorem ok_l_pot (T : Txt K mg Z) : FnOk P w K mg base CX0 1 Z.f_l_pot Z.d_l_pot ["_law_script", "_law_k"] (sp_l_pot K) := by
  refine T.F_l_pot.ok sc_l_pot (fun vs H Q E h => ?_) (fun cdv A outer s H vs Q E hr h => ?_)
  · obtain ⟨a, ns, i, rfl, _⟩ := h
    rfl
  · obtain ⟨a, ns, i, rfl, hS, hl, i0, i1, k⟩ := h
    refine ⟨_, (pss_cons (ps_set (i := 2) sc_l_pot.nd rfl (Or.inl rfl) (pe_ifExp (pt_cmpR op_lt (pv 1) (pe_callB  call_len (by rfl) T.b_len (by decide +kernel) (pa_cons (pv 0) pa_nil)) (nomark _)) (pe_ix ix_list (pv 0) (pv 1) (fun _ _ => rfl)) (pe_op op_add (pe_op op_mul pe_int (pv 1)) pe_int)))
      (pss_cons (ps_set (i := 3) sc_l_pot.nd rfl (Or.inl rfl) (pe_op op_mul (pe_op op_mod (pe_callTy call_int1 (by rfl) T.b_int (by decide +kernel) (pa_cons (pe_callB  call_abs (by rfl) T.b_abs (by decide +kernel) (pa_cons (pv 2) pa_nil)) pa_nil)) (pe_op op_powW (pe_op op_powW pe_int pe_int) pe_int)) (pe_callTy call_int1 (by rfl) T.b_int (by decide +kernel) (pa_cons (pe_cmpR op_ge (pe_callB  call_abs (by rfl) T.b_abs (by decide +kernel) (pa_cons (pv 2) pa_nil)) (pe_op op_powW pe_int pe_int) (nomark _)) pa_nil))))
      (pss_cons (ps_set (i := 4) sc_l_pot.nd rfl (Or.inl rfl) (pe_op op_mod (pe_callTy call_int1 (by rfl) T.b_int (by decide +kernel) (pa_cons (pv 2) pa_nil)) pe_int))
      (pss_one (ps_ret (pe_lst (pa_cons (pv 3) (pa_cons (pe_op op_mod (pe_callTy call_int1 (by rfl) T.b_int (by decide +kernel) (pa_cons (pe_op op_add (pe_op op_add (pe_op op_mul (pv 4) pe_int) (pe_op op_mul (pe_op op_mul pe_int (pv 1)) (pv 1))) pe_int) pa_nil)) pe_int) (pa_cons pe_int pa_nil))))))))), ?_⟩
    refine ⟨_, rfl, _, rfl, _, _, rfl, .inl ⟨_, hS, rfl⟩, _, _, rfl, rfl, _, rfl, ?_⟩
    rw [List.length_map]
    refine' share (fun tail => ite2 (fun c => ?b1) (fun c => ?b2)) ?b3
    case b1 =>
      have c' : i < (ns.length : Int) := of_decide_eq_true c
      obtain ⟨v, hv, hm⟩ := at_mem (xs := ns.map V.int) i0 (by rw [List.length_map]; exact c')
      obtain ⟨z, _, rfl⟩ := List.mem_map.mp hm
      exact ⟨_, rfl, _, rfl, a, _, _, _, rfl, rfl, hS, hv, tail z⟩
    case b2 => exact ⟨_, rfl, _, _, rfl, rfl, .inl (by constructor <;> decide), _, _, rfl, rfl, tail _⟩
    case b3 =>
      intro z
      refine ⟨_, rfl, _, rfl, .inl ⟨_, rfl, _, _, rfl, rfl, ⟨by decide, by decide +kernel⟩, _, _, rfl, rfl, ⟨by decide, by decide +kernel⟩, _, _, rfl, rfl, (by decide +kernel : (0 : Int) < ((10 : Int) ^ (60 : Int).toNat) ^ (5 : Int).toNat), ?_⟩⟩
      refine ⟨_, rfl, _, rfl, _, _, rfl, rfl, ⟨by decide, by decide +kernel⟩, _, _, rfl, rfl, .inr ⟨_, rfl, _, _, rfl, rfl, .inr (ite01 _), ?_⟩⟩
      have ob := own_bound (if z < 0 then -z else z) (decide ((10 : Int) ^ (18 : Int).toNat ≤ (if z < 0 then -z else z)))
      refine ⟨_, rfl, .inl ⟨_, rfl, _, _, rfl, rfl, by show (0 : Int) < 2305843009213693951; decide, ?_⟩⟩
      refine ⟨_, rfl, _, rfl, _, _, rfl, rfl, .inr (by constructor <;> decide), _, rfl, _, _, rfl, rfl, .inl (by constructor <;> decide), _, rfl, _, _, rfl, rfl, .inr (by constructor <;> omega), _, _, rfl, rfl, _, _, rfl, rfl, .inl ⟨_, rfl, _, _, rfl, rfl, by show (0 : Int) < 2305843009213693921; decide, ?_⟩⟩
      refine ⟨by show 3 ≤ sizeLine; decide, fun p hp => k p _ hp (Same.new (Same.refl H) hp) ⟨_, _, upd_same, ob.1, ob.2, Int.emod_nonneg _ (by decide), ?_⟩⟩
      exact Int.lt_trans (Int.emod_lt_of_pos _ (by decide)) (by decide)
end
end TT

set_option Elab.async false
set_option linter.all false
set_option maxRecDepth 100000
set_option maxHeartbeats 4000000
namespace TT
open PySem PySem.Spec PyProof.Rows L2
theorem Pot.new {H : Hp} {p q : Addr} {n : Nat} {o : HO} (h : Pot H p n) (hq : H q = none) : Pot (upd H q o) p n := by
  obtain ⟨a, m, e, r⟩ := h
  exact ⟨a, m, by rw [upd_ne (ne_of_none e hq)]; exact e, r⟩
theorem free_of {H H' : Hp} {p q : Addr} {n m : Nat} (k : Keep p H H') (hp : Pot H p n) (hq : H' q = none) (hp' : Pot H' p m) : H q = none := by
  cases e : H q with
  | none => rfl
  | some o =>
    have ne : q ≠ p := by
      rintro rfl
      obtain ⟨_, _, z, _⟩ := hp'
      rw [hq] at z; cases z
    rw [k q o ne e] at hq
    cases hq
/-! ### rows: the law's own picture of a tie -/
/-- the six values of a tie -/
structure Row where
  f : Int
  s : Int
  l : Int
  a : Int
  d : Bool
  b : Bool
/-- such as a tie may have: places within 10 ^ 30, amounts below 10 ^ 36 -/
structure Row.Ok (r : Row) : Prop where
  f0 : 0 ≤ r.f
  s0 : 0 ≤ r.s
  l0 : 1 ≤ r.l
  fe : r.f + r.l ≤ 10 ^ 30
  se : r.s + r.l ≤ 10 ^ 30
  al : -(10 ^ 60) < r.a
  ah : r.a < 10 ^ 60
  bk : r.b = true → 1 < r.l
def Row.vs (r : Row) : List V := [.int r.f, .int r.s, .int r.l, .int r.a, .bl r.d, .bl r.b]
def Row.dat (r : Row) : PyData := .tuple [.int r.f, .int r.s, .int r.l, .int r.a, .bool r.d, .bool r.b]
/-- a row as a tuple stands at q -/
def RowAt (H : Hp) (q : Addr) (r : Row) : Prop := H q = some (.tup r.vs)
theorem Keep.row {p q : Addr} {H H' : Hp} {r : Row} {n : Nat} (k : Keep p H H') (hp : Pot H p n) (h : RowAt H q r) : RowAt H' q r := by
  refine k _ _ ?_ h
  obtain ⟨_, _, e, _⟩ := hp
  exact ne_of h e (fun z => by cases z)
def sp_l_amount : Sp := fun vs H Q _ => ∃ (p : Addr) (n : Nat), vs = [.ref p] ∧ Pot H p n ∧ n < 1000000 ∧
  ∀ (v : Int) (n' : Nat) (H' : Hp), -(10 ^ 36) < v → v < 10 ^ 36 → n' ≤ n + 1 → Pot H' p n' → Keep p H H' → Q (.int v) H'
def sp_l_row : Sp := fun vs H Q _ => ∃ (p : Addr) (n : Nat) (z : Int), vs = [.ref p, .int z] ∧ Pot H p n ∧ n + 6 < 1000000 ∧ 1 ≤ z ∧ z ≤ 1000 ∧
  ∀ (r : Row) (q : Addr) (n' : Nat) (H' : Hp), r.Ok → r.f + r.l ≤ z → r.s + r.l ≤ z → -(10 ^ 36) < r.a → r.a < 10 ^ 36 → n' ≤ n + 6 → Pot H' p n' → Keep p H H' → RowAt H' q r → H q = none → Q (.ref q) H'
section
variable {P : Program} {w : World} {K : PySem.W.Frag} {mg : Str → Option Value} {base : Heap} {Z : Zs}
theorem ok_l_amount (T : Txt K mg Z) : FnOk P w K mg base CX0 3 Z.f_l_amount Z.d_l_amount ["_law_pot_here"] sp_l_amount := by
  refine T.F_l_amount.ok sc_l_amount (fun vs H Q E h => ?_) (fun cdv A outer s H vs Q E hr h => ?_)
  · obtain ⟨p, n, rfl, _⟩ := h
    rfl
  · obtain ⟨p, n, rfl, hp, hn, k⟩ := h
    refine ⟨_, (pss_one (ps_ret (pe_call (ok_l_of T) (hr.mono (by decide)) rfl T.g_l_of T.k_l_of T.bn_l_of .nil pass0 (pa_cons (pv 0) (pa_cons (pe_lst (pa_cons pe_int (pa_cons pe_int (pa_cons pe_int (pa_cons (pe_un un_neg pe_int) (pa_cons pe_int (pa_cons pe_int (pa_cons (pe_un un_neg pe_int) (pa_cons pe_int (pa_cons (pe_op op_powW pe_int pe_int) pa_nil)))))))))) pa_nil))))), ?_⟩
    refine ⟨_, rfl, _, rfl, _, rfl, _, _, rfl, rfl, ⟨by decide, by decide +kernel⟩, by show 9 ≤ sizeLine; decide, fun a ha => ?_⟩
    have hpa : p ≠ a := by
      obtain ⟨_, _, e, _⟩ := hp
      exact ne_of_none e ha
    have hp2 : Pot (upd H a (.lst [.int 0, .int 0, .int 1, .int (-1), .int 2, .int 5, .int (-7), .int 12, .int ((10 : Int) ^ (35 : Int).toNat)])) p n := by
      obtain ⟨o, m, e, r⟩ := hp
      exact ⟨o, m, by rw [upd_ne hpa]; exact e, r⟩
    refine ⟨p, a, n, _, rfl, hp2, hn, upd_same, hpa.symm, by decide, by decide, fun v n' H' hv hn' hp' kp => ?_⟩
    have kp' : Keep p H H' := (Keep.new Keep.rfl' ha).trans kp
    simp only [List.mem_cons, List.not_mem_nil, or_false] at hv
    rcases hv with rfl | rfl | rfl | rfl | rfl | rfl | rfl | rfl | rfl <;> exact k _ n' H' (by decide) (by decide) hn' hp' kp'
theorem ok_l_row (T : Txt K mg Z) : FnOk P w K mg base CX0 4 Z.f_l_row Z.d_l_row ["_law_pot_here", "_law_size"] sp_l_row := by
  refine T.F_l_row.ok sc_l_row (fun vs H Q E h => ?_) (fun cdv A outer s H vs Q E hr h => ?_)
  · obtain ⟨p, n, z, rfl, _⟩ := h
    rfl
  · obtain ⟨p, n, z, rfl, hp, hn, z0, z1, k⟩ := h
    refine ⟨_, (pss_cons (ps_set (i := 2) sc_l_row.nd rfl (Or.inl rfl) (pe_op op_add pe_int (pe_call (ok_l_take T) (hr.mono (by decide)) rfl T.g_l_take T.k_l_take T.bn_l_take .nil pass0 (pa_cons (pv 0) (pa_cons (pv 1) pa_nil)))))
      (pss_cons (ps_par (i := 3) (j := 4) (by rfl) sc_l_row.nd rfl rfl (by decide) rfl rfl (pa_cons (pe_call (ok_l_take T) (hr.mono (by decide)) rfl T.g_l_take T.k_l_take T.bn_l_take .nil pass0 (pa_cons (pv 0) (pa_cons (pe_op op_add (pe_op op_sub (pv 1) (pv 2)) pe_int) pa_nil))) (pa_cons (pe_call (ok_l_take T) (hr.mono (by decide)) rfl T.g_l_take T.k_l_take T.bn_l_take .nil pass0 (pa_cons (pv 0) (pa_cons (pe_op op_add (pe_op op_sub (pv 1) (pv 2)) pe_int) pa_nil))) pa_nil)) (by rfl))
      (pss_cons (ps_par3 (i := 5) (j := 6) (l := 7) rfl sc_l_row.nd rfl rfl rfl (by decide) (by decide) (by decide) rfl rfl rfl (pa_cons (pe_call (ok_l_amount T) (hr.mono (by decide)) rfl T.g_l_amount T.k_l_amount T.bn_l_amount .nil pass0 (pa_cons (pv 0) pa_nil)) (pa_cons (pe_cmpR op_eq (pe_call (ok_l_take T) (hr.mono (by decide)) rfl T.g_l_take T.k_l_take T.bn_l_take .nil pass0 (pa_cons (pv 0) (pa_cons pe_int pa_nil))) pe_int (nomark _)) (pa_cons (pe_cmpR op_eq (pe_call (ok_l_take T) (hr.mono (by decide)) rfl T.g_l_take T.k_l_take T.bn_l_take .nil pass0 (pa_cons (pv 0) (pa_cons pe_int pa_nil))) pe_int (nomark _)) pa_nil))) (by rfl))
      (pss_one (ps_ret (pe_tup (pa_cons (pv 3) (pa_cons (pv 4) (pa_cons (pv 2) (pa_cons (pv 5) (pa_cons (pv 6) (pa_cons (pe_and (pv 7) (pe_one (pe_cmpR op_gt (pv 2) pe_int (nomark _)))) pa_nil)))))))))))), ?_⟩
    have big : (1001 : Int) < 10 ^ 60 := by decide
    refine ⟨_, rfl, _, rfl, p, n, _, rfl, hp, by omega, by omega, by omega, fun d1 n1 H1 a0 a1 hn1 hp1 k1 => ?_⟩
    refine ⟨_, _, rfl, rfl, ?_⟩
    refine ⟨_, rfl, _, rfl, _, rfl, _, _, rfl, rfl, _, _, rfl, rfl, p, n1, _, rfl, hp1, by omega, by show 0 < z - (1 + d1) + 1; omega, by show z - (1 + d1) + 1 < 10 ^ 60; omega, fun d2 n2 H2 b0 b1 hn2 hp2 k2 => ?_⟩
    refine ⟨_, rfl, _, rfl, _, rfl, _, _, rfl, rfl, _, _, rfl, rfl, p, n2, _, rfl, hp2, by omega, by show 0 < z - (1 + d1) + 1; omega, by show z - (1 + d1) + 1 < 10 ^ 60; omega, fun d3 n3 H3 c0 c1 hn3 hp3 k3 => ?_⟩
    refine ⟨_, _, rfl, ?_⟩
    refine ⟨_, rfl, p, n3, rfl, hp3, by omega, fun am n4 H4 e0 e1 hn4 hp4 k4 => ?_⟩
    refine ⟨_, rfl, p, n4, _, rfl, hp4, by omega, by decide, by decide, fun d5 n5 H5 _ _ hn5 hp5 k5 => ?_⟩
    refine ⟨rfl, ?_⟩
    refine ⟨_, rfl, p, n5, _, rfl, hp5, by omega, by decide, by decide, fun d6 n6 H6 _ _ hn6 hp6 k6 => ?_⟩
    refine ⟨rfl, ?_⟩
    refine ⟨_, _, _, rfl, ?_⟩
    refine ⟨_, rfl, _, rfl, _, rfl, _, rfl, _, rfl, _, rfl, _, rfl, ?_⟩
    have rok : ∀ bk : Bool, (bk = true → 1 < 1 + d1) → Row.Ok ⟨d2, d3, 1 + d1, am, decide (V.int d5 = V.int 0), bk⟩ := fun bk hb =>
      ⟨b0, c0, by show 1 ≤ 1 + d1; omega, by show d2 + (1 + d1) ≤ 10 ^ 30; omega, by show d3 + (1 + d1) ≤ 10 ^ 30; omega, by show -(10 ^ 60) < am; omega, by show am < 10 ^ 60; omega, hb⟩
    have kp : Keep p H H6 := ((((k1.trans k2).trans k3).trans k4).trans k5).trans k6
    refine ite2 (fun c => ?_) (fun c => ?_)
    · refine ⟨_, rfl, _, _, rfl, rfl, by show 6 ≤ sizeLine; decide, fun q hq => ?_⟩
      have nq : H q = none := free_of kp hp hq hp6
      refine k _ q n6 _ (rok (decide (1 < 1 + d1)) fun h => of_decide_eq_true h) (by show d2 + (1 + d1) ≤ z; omega) (by show d3 + (1 + d1) ≤ z; omega) e0 e1 (by omega) (hp6.new hq) (kp.new hq) upd_same nq
    · refine ⟨by show 6 ≤ sizeLine; decide, fun q hq => ?_⟩
      have nq : H q = none := free_of kp hp hq hp6
      refine k _ q n6 _ (rok false fun h => by cases h) (by show d2 + (1 + d1) ≤ z; omega) (by show d3 + (1 + d1) ≤ z; omega) e0 e1 (by omega) (hp6.new hq) (kp.new hq) upd_same nq
end
end TT

set_option Elab.async false
set_option linter.all false
set_option maxRecDepth 100000
set_option maxHeartbeats 4000000
namespace TT
open PySem PySem.Spec PyProof.Rows L2
/-! ### integers -/
/-- whether a value is an int and no bool -/
def Whole (K : PySem.W.Frag) (H : Hp) (x : V) (b : Bool) : Prop := ∃ (t : Value) (b1 b2 : Bool), TyX K H x t ∧ PySem.W.kitOne K t (.type "int") = some b1 ∧ PySem.W.kitOne K t (.type "bool") = some b2 ∧ (b1 && !b2) = b
theorem whole_int {K : PySem.W.Frag} {H : Hp} (i : Int) : Whole K H (.int i) true := ⟨_, true, false, .base (.int i), kit_ty (by decide +kernel), kit_ty (by decide +kernel), rfl⟩
def sp_is_whole (K : PySem.W.Frag) : Sp := fun vs H Q _ => ∃ (x : V) (b : Bool), vs = [x] ∧ Whole K H x b ∧ Q (.bl b) H
def sp_is_from (K : PySem.W.Frag) : Sp := fun vs H Q _ => (∃ v l : Int, vs = [.int v, .int l] ∧ Q (.bl (decide (l ≤ v))) H) ∨ ∃ x l : V, vs = [x, l] ∧ Whole K H x false ∧ Q (.bl false) H
def sp_is_between (K : PySem.W.Frag) : Sp := fun vs H Q _ => (∃ v l g : Int, vs = [.int v, .int l, .int g] ∧ Q (.bl (decide (l ≤ v) && decide (v ≤ g))) H) ∨ ∃ x l g : V, vs = [x, l, g] ∧ Whole K H x false ∧ Q (.bl false) H
/-- written(n), n below 10 ^ 64 in size: as Python writes it -/
def shownInt (n : Int) : Str := if n < 0 then Str.ofString "-" ++ Str.ofString (toString (-n)) else Str.ofString (toString n)
def sp_written0 : Sp := fun vs H Q _ => ∃ n : Int, vs = [.int n] ∧ 0 ≤ n ∧ n < 10 ^ 64 ∧ ∀ H', Same H H' → Q (.str (Str.ofString (toString n))) H'
def sp_written : Sp := fun vs H Q _ => ∃ n : Int, vs = [.int n] ∧ -(10 ^ 64) < n ∧ n < 10 ^ 64 ∧ ∀ H', Same H H' → Q (.str (shownInt n)) H'
theorem FnOk.or {P : Program} {w : World} {K : PySem.W.Frag} {mg : Str → Option Value} {base : Heap} {CX : CXT} {k : Nat} {f : Addr} {fd : FuncData} {ps : List Str} {sp sp' : Sp} (F : FnOk P w K mg base CX k f fd ps sp) (G : FnOk P w K mg base CX k f fd ps sp') :
    FnOk P w K mg base CX k f fd ps (fun vs H Q E => sp vs H Q E ∨ sp' vs H Q E) :=
  ⟨fun vs H Q E h => h.elim (F.len _ _ _ _) (G.len _ _ _ _), fun A outer s H args us vs Q E r e b v h => h.elim (F.run A outer s H args us vs Q E r e b v) (G.run A outer s H args us vs Q E r e b v)⟩
theorem log_lt {n : Int} (h0 : 0 ≤ n) (h : n < 10 ^ 64) : n.natAbs.log2 < 1920 := PySem.Flt.log2_lt_of (by decide) (by
  have : (10 : Int) ^ 64 < 2 ^ 1920 := by decide +kernel
  omega)
theorem ge_chunk {n : Int} (h : n < 10 ^ 64) : decide ((10000000000000000000000000000000000000000000000000000000000000000 : Int) ≤ n) = false := decide_eq_false (by
  have e : (10 : Int) ^ 64 = 10000000000000000000000000000000000000000000000000000000000000000 := by decide +kernel
  omega)
theorem join1 (x : Str) : Txt.join (Str.ofString "") [x] = x := by
  first | rfl | simp [Txt.join]
section
variable {P : Program} {w : World} {K : PySem.W.Frag} {mg : Str → Option Value} {base : Heap} {Z : Zs}
theorem ok_is_whole (T : Txt K mg Z) : FnOk P w K mg base CX0 1 Z.f_is_whole Z.d_is_whole ["value"] (sp_is_whole K) := by
  refine T.F_is_whole.ok sc_is_whole (fun vs H Q E h => ?_) (fun cdv A outer s H vs Q E hr h => ?_)
  · obtain ⟨x, b, rfl, _⟩ := h
    rfl
  · obtain ⟨x, b, rfl, ⟨t, b1, b2, ty, e1, e2, e3⟩, k⟩ := h
    refine ⟨_, (pss_one (ps_ret (pe_and (pe_callB  call_isi (by rfl) T.b_isinstance (by decide +kernel) (pa_cons (pv 0) (pa_cons (pe_bltn (v := .ty "int") rfl T.b_int (by decide +kernel) rfl) pa_nil))) (pe_one (pe_not (pe_callB  call_isi (by rfl) T.b_isinstance (by decide +kernel) (pa_cons (pv 0) (pa_cons (pe_bltn (v := .ty "bool") rfl T.b_bool (by decide +kernel) rfl) pa_nil)))))))), ?_⟩
    refine ⟨_, rfl, _, _, t, _, b1, rfl, .ty "int", ty, e1, _, rfl, ?_⟩
    subst e3
    cases b1 with
    | true => exact iteT ⟨_, rfl, _, _, t, _, b2, rfl, .ty "bool", ty, e2, _, rfl, k⟩
    | false => exact iteF k
theorem ok_is_from (T : Txt K mg Z) : FnOk P w K mg base CX0 2 Z.f_is_from Z.d_is_from ["value", "least"] (sp_is_from K) := by
  refine T.F_is_from.ok sc_is_from (fun vs H Q E h => ?_) (fun cdv A outer s H vs Q E hr h => ?_)
  · rcases h with ⟨v, l, rfl, _⟩ | ⟨x, l, rfl, _⟩ <;> rfl
  · rcases h with ⟨v, l, rfl, k⟩ | ⟨x, l, rfl, hw, k⟩
    · refine ⟨_, (pss_one (ps_ret (pe_and (pe_call (ok_is_whole T) (hr.mono (by decide)) rfl T.g_is_whole T.k_is_whole T.bn_is_whole .nil pass0 (pa_cons (pv 0) pa_nil)) (pe_one (pe_cmpR op_ge (pv 0) (pv 1) (nomark _)))))), ?_⟩
      exact ⟨_, rfl, _, true, rfl, whole_int v, true, rfl, iteT ⟨_, rfl, _, rfl, _, _, rfl, rfl, k⟩⟩
    · refine ⟨_, (pss_one (ps_ret (pe_and (pe_call (ok_is_whole T) (hr.mono (by decide)) rfl T.g_is_whole T.k_is_whole T.bn_is_whole .nil pass0 (pa_cons (pv 0) pa_nil)) (pe_one (pe_cmpR op_ge (pv 0) (pv 1) (nomark _)))))), ?_⟩
      exact ⟨_, rfl, _, false, rfl, hw, false, rfl, iteF k⟩
theorem ok_is_between (T : Txt K mg Z) : FnOk P w K mg base CX0 3 Z.f_is_between Z.d_is_between ["value", "least", "greatest"] (sp_is_between K) := by
  refine T.F_is_between.ok sc_is_between (fun vs H Q E h => ?_) (fun cdv A outer s H vs Q E hr h => ?_)
  · rcases h with ⟨v, l, g, rfl, _⟩ | ⟨x, l, g, rfl, _⟩ <;> rfl
  · rcases h with ⟨v, l, g, rfl, k⟩ | ⟨x, l, g, rfl, hw, k⟩
    · refine ⟨_, (pss_one (ps_ret (pe_and (pe_call (ok_is_from T) (hr.mono (by decide)) rfl T.g_is_from T.k_is_from T.bn_is_from .nil pass0 (pa_cons (pv 0) (pa_cons (pv 1) pa_nil))) (pe_one (pe_cmpR op_le (pv 0) (pv 2) (nomark _)))))), ?_⟩
      refine ⟨_, rfl, _, rfl, .inl ⟨v, l, rfl, _, rfl, ?_⟩⟩
      cases e : decide (l ≤ v) with
      | true =>
        rw [e] at k
        exact iteT ⟨_, rfl, _, rfl, _, _, rfl, rfl, k⟩
      | false =>
        rw [e] at k
        exact iteF k
    · refine ⟨_, (pss_one (ps_ret (pe_and (pe_call (ok_is_from T) (hr.mono (by decide)) rfl T.g_is_from T.k_is_from T.bn_is_from .nil pass0 (pa_cons (pv 0) (pa_cons (pv 1) pa_nil))) (pe_one (pe_cmpR op_le (pv 0) (pv 2) (nomark _)))))), ?_⟩
      exact ⟨_, rfl, _, rfl, .inr ⟨x, l, rfl, hw, false, rfl, iteF k⟩⟩
theorem ok_written0 (T : Txt K mg Z) : FnOk P w K mg base CX0 1 Z.f_written Z.d_written ["number"] sp_written0 := by
  refine T.F_written.ok sc_written (fun vs H Q E h => ?_) (fun cdv A outer s H vs Q E hr h => ?_)
  · obtain ⟨n, rfl, _⟩ := h
    rfl
  · obtain ⟨n, rfl, n0, n1, k⟩ := h
    refine ⟨_, (pss_cons (ps_if (pt_cmpR op_lt (pv 0) pe_int (nomark _)) pss_never pss_nil)
      (pss_cons (ps_set (i := 1) sc_written.nd rfl (Or.inl rfl) (pv 0))
      (pss_cons (ps_set (i := 2) sc_written.nd rfl (Or.inl rfl) (pe_lst pa_nil))
      (pss_cons (ps_while PassesOwn.never (pt_cmpR op_ge (pv 1) (pe_glob (v := .int 10000000000000000000000000000000000000000000000000000000000000000) rfl T.c__CHUNK ⟨_, rfl⟩) (nomark _)) pss_never)
      (pss_cons (ps_expr (pe_bm PySem.F.plainAttrs_list PySem.F.slot_list_append PySem.F.type_list_append mt_append (pv 2) (pa_cons (pe_callTy call_str_int (by rfl) T.b_str (by decide +kernel) (pa_cons (pv 1) pa_nil)) pa_nil)))
      (pss_one (ps_ret (pe_join pe_str (pe_revL (pv 2)))))))))), ?_⟩
    refine ⟨_, rfl, _, _, rfl, rfl, _, rfl, ?_⟩
    rw [decide_eq_false (by omega : ¬ n < 0)]
    refine iteF ⟨_, rfl, by show 0 ≤ sizeLine; exact Nat.zero_le _, fun q hq => ?_⟩
    refine while_by (fun σ H2 => σ = [some (.int n), some (.int n), some (.ref q)] ∧ H2 = upd H q (.lst [])) (fun _ _ => 0) ⟨rfl, rfl⟩ ?_ ?_
    · rintro σ H2 ⟨rfl, rfl⟩
      refine ⟨_, rfl, _, _, rfl, rfl, _, rfl, ?_⟩
      rw [ge_chunk n1]
      refine iteF ?_
      refine ⟨_, rfl, .inl ⟨rfl, _, SqL.of upd_same⟩, _, rfl, _, rfl, log_lt n0 n1, q, _, _, rfl, rfl, upd_same, (by show 0 < sizeLine; decide), ?_⟩
      have n640 : (Str.ofString (toString n)).length ≤ 64 := toString_length_le n0 (by decide) n1
      refine ⟨⟨_, rfl⟩, _, rfl, q, _, rfl, SqL.of upd_same, fun p2 hp2 => ⟨_, p2, [Str.ofString (toString n)], rfl, rfl, .inl (SqL.of upd_same), ?_, ?_⟩⟩
      · show (Str.ofString (toString n)).length + 0 + 1 * 0 ≤ 16777216
        omega
      · rw [join1]
        refine k _ (Same.new (fun b o e => ?_) hp2)
        rw [upd_ne (ne_of_none e hq), upd_ne (ne_of_none e hq)]
        exact e
    · rintro σ H2 Q1 Q2 hQ ⟨v, e, i, j, e1, e2, b, e3, q1⟩
      exact ⟨v, e, i, j, e1, e2, b, e3, hQ _ _ q1⟩
theorem ok_written (T : Txt K mg Z) : FnOk P w K mg base CX0 2 Z.f_written Z.d_written ["number"] sp_written := by
  have neg : FnOk P w K mg base CX0 2 Z.f_written Z.d_written ["number"] (fun vs H Q _ => ∃ n : Int, vs = [.int n] ∧ -(10 ^ 64) < n ∧ n < 0 ∧ ∀ H', Same H H' → Q (.str (shownInt n)) H') := by
    refine T.F_written.ok sc_written (fun vs H Q E h => ?_) (fun cdv A outer s H vs Q E hr h => ?_)
    · obtain ⟨n, rfl, _⟩ := h
      rfl
    · obtain ⟨n, rfl, n0, n1, k⟩ := h
      refine ⟨_, (pss_cons (ps_if (pt_cmpR op_lt (pv 0) pe_int (nomark _)) (pss_one (ps_ret (pe_joined (.cons pe_str (.cons (pe_fmt (pe_call (ok_written0 T) (hr.mono (by decide)) rfl T.g_written T.k_written T.bn_written .nil pass0 (pa_cons (pe_un un_neg (pv 0)) pa_nil))) .nil))))) pss_nil) pss_never), ?_⟩
      refine ⟨_, rfl, _, _, rfl, rfl, _, rfl, ?_⟩
      rw [decide_eq_true (by omega : n < 0)]
      have sz : (Str.ofString (toString (-n))).length ≤ 64 := toString_length_le (by omega) (by decide) (by omega)
      have sl : sizeLine = 16777216 := sizeLine_eq
      refine iteT ⟨_, rfl, by decide, _, rfl, _, rfl, -n, rfl, by omega, by omega, fun H' sm => .inl ⟨_, rfl, by omega, _, rfl, ?_, ?_⟩⟩
      · rw [Str.length_append, Str.length_append]
        have : Str.empty.length = 0 := rfl
        have : (Str.ofString "-").length = 1 := by decide
        omega
      · have e : Str.empty ++ Str.ofString "-" ++ Str.ofString (toString (-n)) = shownInt n := by
          unfold shownInt
          rw [if_pos n1]
          rfl
        rw [e]
        exact k H' sm
  have pos : FnOk P w K mg base CX0 2 Z.f_written Z.d_written ["number"] sp_written0 := (ok_written0 T).mono (by decide)
  refine (FnOk.or neg pos).imp fun vs H Q E h => ?_
  obtain ⟨n, rfl, n0, n1, k⟩ := h
  by_cases c : n < 0
  · exact .inl ⟨n, rfl, n0, c, k⟩
  · refine .inr ⟨n, rfl, by omega, n1, fun H' sm => ?_⟩
    have := k H' sm
    rw [shownInt, if_neg c] at this
    exact this
end
end TT

set_option Elab.async false
set_option linter.all false
set_option maxRecDepth 100000
set_option maxHeartbeats 4000000
namespace TT
open PySem PySem.Spec PyProof.Rows L2
/-! ### ties -/
def way (b : Bool) : Str := if b = true then Str.ofString "down" else Str.ofString "up"
def backs (b : Bool) : Str := if b = true then Str.ofString " back" else Str.ofString ""
def tieText (r : Row) : Str := Str.empty ++ Str.ofString (toString r.f) ++ Str.ofString " " ++ Str.ofString (toString r.s) ++ Str.ofString " " ++ Str.ofString (toString r.l) ++ Str.ofString " " ++ way r.d ++ Str.ofString " " ++ shownInt r.a ++ backs r.b
/-- the attributes of a tie, in the sequence in which __init__ stores them -/
def fs1 (r : Row) : List (Str × V) := putF "first" (.int r.f) []
def fs2 (r : Row) : List (Str × V) := putF "second" (.int r.s) (fs1 r)
def fs3 (r : Row) : List (Str × V) := putF "length" (.int r.l) (fs2 r)
def fs4 (r : Row) : List (Str × V) := putF "amount" (.int r.a) (fs3 r)
def fs5 (r : Row) : List (Str × V) := putF "down" (.bl r.d) (fs4 r)
def fs6 (r : Row) : List (Str × V) := putF "backward" (.bl r.b) (fs5 r)
def tfs (r : Row) : List (Str × V) := putF "text" (.str (tieText r)) (fs6 r)
theorem len_putF {f : Str} {v : V} {fs : List (Str × V)} {n : Nat} (h : fs.length ≤ n) : (putF f v fs).length ≤ n + 1 := Nat.le_trans (length_putF f v fs) (Nat.succ_le_succ h)
theorem len1 (r : Row) : (fs1 r).length ≤ 1 := len_putF (Nat.le_refl 0)
theorem len2 (r : Row) : (fs2 r).length ≤ 2 := len_putF (len1 r)
theorem len3 (r : Row) : (fs3 r).length ≤ 3 := len_putF (len2 r)
theorem len4 (r : Row) : (fs4 r).length ≤ 4 := len_putF (len3 r)
theorem len5 (r : Row) : (fs5 r).length ≤ 5 := len_putF (len4 r)
theorem len6 (r : Row) : (fs6 r).length ≤ 6 := len_putF (len5 r)
theorem tfs_lookup (r : Row) (g : Str) : (tfs r).lookup g = if g = "text" then some (.str (tieText r)) else if g = "backward" then some (.bl r.b) else if g = "down" then some (.bl r.d) else if g = "amount" then some (.int r.a) else
    if g = "length" then some (.int r.l) else if g = "second" then some (.int r.s) else if g = "first" then some (.int r.f) else none := by
  unfold tfs fs6 fs5 fs4 fs3 fs2 fs1
  rw [lookup_putF, lookup_putF, lookup_putF, lookup_putF, lookup_putF, lookup_putF, lookup_putF]
  rfl
theorem fs6_backward (r : Row) : (fs6 r).lookup ("backward" : Str) = some (.bl r.b) := by
  unfold fs6
  rw [lookup_putF, if_pos rfl]
theorem tfs_text (r : Row) : (tfs r).lookup ("text" : Str) = some (.str (tieText r)) := by rw [tfs_lookup, if_pos rfl]
theorem tfs_backward (r : Row) : (tfs r).lookup ("backward" : Str) = some (.bl r.b) := by rw [tfs_lookup, if_neg (by decide +kernel), if_pos rfl]
theorem tfs_down (r : Row) : (tfs r).lookup ("down" : Str) = some (.bl r.d) := by rw [tfs_lookup, if_neg (by decide +kernel), if_neg (by decide +kernel), if_pos rfl]
theorem tfs_amount (r : Row) : (tfs r).lookup ("amount" : Str) = some (.int r.a) := by rw [tfs_lookup, if_neg (by decide +kernel), if_neg (by decide +kernel), if_neg (by decide +kernel), if_pos rfl]
theorem tfs_length (r : Row) : (tfs r).lookup ("length" : Str) = some (.int r.l) := by rw [tfs_lookup, if_neg (by decide +kernel), if_neg (by decide +kernel), if_neg (by decide +kernel), if_neg (by decide +kernel), if_pos rfl]
theorem tfs_second (r : Row) : (tfs r).lookup ("second" : Str) = some (.int r.s) := by rw [tfs_lookup, if_neg (by decide +kernel), if_neg (by decide +kernel), if_neg (by decide +kernel), if_neg (by decide +kernel), if_neg (by decide +kernel), if_pos rfl]
theorem tfs_first (r : Row) : (tfs r).lookup ("first" : Str) = some (.int r.f) := by rw [tfs_lookup, if_neg (by decide +kernel), if_neg (by decide +kernel), if_neg (by decide +kernel), if_neg (by decide +kernel), if_neg (by decide +kernel), if_neg (by decide +kernel), if_pos rfl]
/-- a tie of the six values stands at q -/
def TieAt (C : Addr) (H : Hp) (q : Addr) (r : Row) : Prop := ∃ dx, H q = some (.ins C dx (tfs r))
def sp_check_parts : Sp := fun vs H Q _ => ∃ f s l : Int, vs = [.int f, .int s, .int l] ∧ 0 ≤ f ∧ 0 ≤ s ∧ 1 ≤ l ∧ f + l ≤ 10 ^ 30 ∧ s + l ≤ 10 ^ 30 ∧ Q .non H
def sp_check_leading : Sp := fun vs H Q _ => ∃ (a : Int) (d b : Bool), vs = [.int a, .bl d, .bl b] ∧ Q .non H
/-- a tie of these values is made -/
def sp_T_init (C : Addr) : Sp := fun vs H Q _ => ∃ (p dx : Addr) (r : Row) (b : Bool), vs = [.ref p, .int r.f, .int r.s, .int r.l, .int r.a, .bl r.d, .bl b] ∧ r.Ok ∧ r.b = (b && decide (1 < r.l)) ∧ H p = some (.ins C dx []) ∧
  ∀ H', H' p = some (.ins C dx (tfs r)) → Keep p H H' → Q .non H'
theorem share0 {T G : Prop} (h : T → G) (t : T) : G := h t
local macro_rules | `(tactic| walk_at "len") => `(tactic| ((try simp only [Str.length_append]); omega))
theorem shown_len {n : Int} (h0 : -(10 ^ 64) < n) (h1 : n < 10 ^ 64) : (shownInt n).length ≤ 66 := by
  unfold shownInt
  split
  · have := toString_length_le (v := -n) (by omega) (k := 64) (by decide) (by omega)
    have e : (Str.ofString "-").length = 1 := by decide
    rw [Str.length_append]
    omega
  · have := toString_length_le (v := n) (by omega) (k := 64) (by decide) h1
    omega
section
variable {P : Program} {w : World} {K : PySem.W.Frag} {mg : Str → Option Value} {base : Heap} {Z : Zs}
theorem ok_check_parts (T : Txt K mg Z) : FnOk P w K mg base CX0 3 Z.f_check_parts Z.d_check_parts ["first", "second", "length"] sp_check_parts := by
  refine T.F_check_parts.ok sc_check_parts (fun vs H Q E h => ?_) (fun cdv A outer s H vs Q E hr h => ?_)
  · obtain ⟨f, g, l, rfl, _⟩ := h
    rfl
  · obtain ⟨f, g, l, rfl, f0, g0, l0, fe, ge, k⟩ := h
    refine ⟨_, (pss_cons (ps_if (pt_not (pt_val (pe_call (ok_is_from T) (hr.mono (by decide)) rfl T.g_is_from T.k_is_from T.bn_is_from .nil pass0 (pa_cons (pv 0) (pa_cons pe_int pa_nil))))) (pss_one ps_never) pss_nil)
      (pss_cons (ps_if (pt_not (pt_val (pe_call (ok_is_from T) (hr.mono (by decide)) rfl T.g_is_from T.k_is_from T.bn_is_from .nil pass0 (pa_cons (pv 1) (pa_cons pe_int pa_nil))))) (pss_one ps_never) pss_nil)
      (pss_one (ps_if (PW.pt (pw_or (pt_not (pt_val (pe_call (ok_is_from T) (hr.mono (by decide)) rfl T.g_is_from T.k_is_from T.bn_is_from .nil pass0 (pa_cons (pv 2) (pa_cons pe_int pa_nil))))) (pw_or1 (pt_cmpR op_gt (pe_op op_add (pe_callB  (call_max2 rfl) (by rfl) T.b_max (by decide +kernel) (pa_cons (pv 0) (pa_cons (pv 1) pa_nil))) (pv 2)) (pe_glob (v := .int 1000000000000000000000000000000) rfl T.c_GREATEST ⟨_, rfl⟩) (nomark _))))) (pss_one ps_never) pss_nil)))), ?_⟩
    refine ⟨_, rfl, .inl ⟨f, 0, rfl, true, by rw [decide_eq_true f0], iteF ?_⟩⟩
    refine ⟨_, rfl, .inl ⟨g, 0, rfl, true, by rw [decide_eq_true g0], iteF ?_⟩⟩
    refine ⟨_, rfl, .inl ⟨l, 1, rfl, true, by rw [decide_eq_true l0], iteF ?_⟩⟩
    refine ⟨_, rfl, _, rfl, _, _, rfl, _, rfl, _, _, rfl, rfl, _, _, rfl, rfl, _, rfl, ?_⟩
    rw [decide_eq_false]
    · exact iteF k
    · have e : (10 : Int) ^ 30 = 1000000000000000000000000000000 := by decide +kernel
      split <;> omega
theorem ok_check_leading (T : Txt K mg Z) : FnOk P w K mg base CX0 2 Z.f_check_leading Z.d_check_leading ["amount", "down", "backward"] sp_check_leading := by
  refine T.F_check_leading.ok sc_check_leading (fun vs H Q E h => ?_) (fun cdv A outer s H vs Q E hr h => ?_)
  · obtain ⟨a, d, b, rfl, _⟩ := h
    rfl
  · obtain ⟨a, d, b, rfl, k⟩ := h
    refine ⟨_, (pss_cons (ps_if (pt_not (pt_val (pe_call (ok_is_whole T) (hr.mono (by decide)) rfl T.g_is_whole T.k_is_whole T.bn_is_whole .nil pass0 (pa_cons (pv 0) pa_nil)))) (pss_one ps_never) pss_nil)
      (pss_cons (ps_if (pt_not (pt_val (pe_callB  call_isi (by rfl) T.b_isinstance (by decide +kernel) (pa_cons (pv 1) (pa_cons (pe_bltn (v := .ty "bool") rfl T.b_bool (by decide +kernel) rfl) pa_nil))))) (pss_one ps_never) pss_nil)
      (pss_one (ps_if (pt_not (pt_val (pe_callB  call_isi (by rfl) T.b_isinstance (by decide +kernel) (pa_cons (pv 2) (pa_cons (pe_bltn (v := .ty "bool") rfl T.b_bool (by decide +kernel) rfl) pa_nil))))) (pss_one ps_never) pss_nil)))), ?_⟩
    refine ⟨_, rfl, _, true, rfl, whole_int a, true, rfl, iteF ?_⟩
    refine ⟨_, rfl, _, _, _, _, true, rfl, .ty "bool", .base (.bl d), kit_ty (by decide +kernel), true, rfl, iteF ?_⟩
    exact ⟨_, rfl, _, _, _, _, true, rfl, .ty "bool", .base (.bl b), kit_ty (by decide +kernel), true, rfl, iteF k⟩
theorem ok_T_init (T : Txt K mg Z) : FnOk P w K mg base CX0 4 Z.f_T_init Z.d_T_init ["self", "first", "second", "length", "amount", "down", "backward"] (sp_T_init Z.cC) := by
  refine T.F_T_init.ok sc_T_init (fun vs H Q E h => ?_) (fun cdv A outer s H vs Q E hr h => ?_)
  · obtain ⟨p, dx, r, b, rfl, _⟩ := h
    rfl
  · obtain ⟨p, dx, r, b, rfl, ok, hb, hp, k⟩ := h
    refine ⟨_, (pss_cons (ps_expr (pe_call (ok_check_parts T) (hr.mono (by decide)) rfl T.g_check_parts T.k_check_parts T.bn_check_parts .nil pass0 (pa_cons (pv 1) (pa_cons (pv 2) (pa_cons (pv 3) pa_nil)))))
      (pss_cons (ps_expr (pe_call (ok_check_leading T) (hr.mono (by decide)) rfl T.g_check_leading T.k_check_leading T.bn_check_leading .nil pass0 (pa_cons (pv 4) (pa_cons (pv 5) (pa_cons (pv 6) pa_nil)))))
      (pss_cons (ps_fld (pv 0) (pv 1) rfl)
      (pss_cons (ps_fld (pv 0) (pv 2) rfl)
      (pss_cons (ps_fld (pv 0) (pv 3) rfl)
      (pss_cons (ps_fld (pv 0) (pv 4) rfl)
      (pss_cons (ps_fld (pv 0) (pv 5) rfl)
      (pss_cons (ps_fld (pv 0) (pe_and (pv 6) (pe_one (pe_cmpR op_gt (pv 3) pe_int (nomark _)))) rfl)
      (pss_cons (ps_set (i := 7) sc_T_init.nd rfl (Or.inl rfl) (pe_ifExp (pt_val (pv 5)) pe_str pe_str))
      (pss_cons (ps_set (i := 8) sc_T_init.nd rfl (Or.inl rfl) (pe_ifExp (pt_val (pe_fld (pv 0) rfl)) pe_str pe_str))
      (pss_one (ps_fld (pv 0) (pe_joined (.cons (pe_fmt (pv 1)) (.cons pe_str (.cons (pe_fmt (pv 2)) (.cons pe_str (.cons (pe_fmt (pv 3)) (.cons pe_str (.cons (pe_fmt (pv 7)) (.cons pe_str (.cons (pe_fmt (pe_call (ok_written T) (hr.mono (by decide)) rfl T.g_written T.k_written T.bn_written .nil pass0 (pa_cons (pv 4) pa_nil))) (.cons (pe_fmt (pv 8)) .nil))))))))))) rfl)))))))))))), ?_⟩
    refine ⟨_, rfl, _, rfl, _, rfl, _, _, _, rfl, ok.f0, ok.s0, ok.l0, ok.fe, ok.se, ?_⟩
    refine ⟨_, rfl, _, rfl, _, rfl, _, _, _, rfl, ?_⟩
    refine ⟨_, rfl, _, rfl, p, _, dx, _, rfl, hp, T.cl, T.n_first, (by decide : 0 < 1000), ?_⟩
    refine ⟨_, rfl, _, rfl, p, _, dx, _, rfl, upd_same, T.cl, T.n_second, Nat.lt_of_le_of_lt (len1 r) (by decide), ?_⟩
    refine ⟨_, rfl, _, rfl, p, _, dx, _, rfl, upd_same, T.cl, T.n_length, Nat.lt_of_le_of_lt (len2 r) (by decide), ?_⟩
    refine ⟨_, rfl, _, rfl, p, _, dx, _, rfl, upd_same, T.cl, T.n_amount, Nat.lt_of_le_of_lt (len3 r) (by decide), ?_⟩
    refine ⟨_, rfl, _, rfl, p, _, dx, _, rfl, upd_same, T.cl, T.n_down, Nat.lt_of_le_of_lt (len4 r) (by decide), ?_⟩
    refine ⟨_, rfl, b, rfl, ?_⟩
    refine' share0 (fun tail => ite2 (fun c => ?b1) (fun c => ?b2)) ?b3
    case b1 =>
      refine ⟨_, rfl, _, _, rfl, rfl, ?_⟩
      have e : decide (1 < r.l) = r.b := by rw [hb, c] <;> rfl
      dsimp only
      rw [e]
      exact tail
    case b2 =>
      have e : V.bl false = V.bl r.b := by
        cases b with
        | true => exact absurd rfl c
        | false => rw [hb] <;> rfl
      dsimp only
      rw [e]
      exact tail
    case b3 =>
      have sl : sizeLine = 16777216 := sizeLine_eq
      have l30 : (10 : Int) ^ 30 < 10 ^ 31 := by decide +kernel
      have l64 : (10 : Int) ^ 60 < 10 ^ 64 := by decide +kernel
      have hf := ok.f0; have hs := ok.s0; have hl := ok.l0; have hfe := ok.fe; have hse := ok.se
      have ll1 := ok.al; have ll2 := ok.ah
      have zf : (Str.ofString (toString r.f)).length ≤ 31 := toString_length_le hf (by decide) (by omega)
      have zs : (Str.ofString (toString r.s)).length ≤ 31 := toString_length_le hs (by decide) (by omega)
      have zl : (Str.ofString (toString r.l)).length ≤ 31 := toString_length_le (by omega) (by decide) (by omega)
      have za : (shownInt r.a).length ≤ 66 := shown_len (by omega) (by omega)
      have z0 : Str.empty.length = 0 := rfl
      have z1 : (Str.ofString " ").length = 1 := by decide
      have zw : (Str.ofString "down").length = 4 := by decide
      have zu : (Str.ofString "up").length = 2 := by decide
      have zb : (Str.ofString " back").length = 5 := by decide
      have ze : (Str.ofString "").length = 0 := by decide
      have gf : r.f.natAbs.log2 < 1920 := log_lt hf (by omega)
      have gs : r.s.natAbs.log2 < 1920 := log_lt hs (by omega)
      have gl : r.l.natAbs.log2 < 1920 := log_lt (by omega) (by omega)
      refine ⟨_, rfl, p, _, dx, _, rfl, upd_same, T.cl, T.n_backward, Nat.lt_of_le_of_lt (len5 r) (by decide), _, rfl, r.d, rfl, ?_⟩
      refine ite2 (fun c1 => ?_) (fun c1 => ?_)
      all_goals
        refine ⟨_, rfl, p, _, dx, _, _, rfl, upd_same, T.cl, T.n_backward, fs6_backward r, r.b, rfl, ?_⟩
        refine ite2 (fun c2 => ?_) (fun c2 => ?_)
      all_goals
        refine ⟨_, rfl, .inr ⟨r.f, rfl, gf, _, rfl, by walk_at "len", _, rfl, by walk_at "len", ?_⟩⟩
        refine ⟨_, rfl, .inr ⟨r.s, rfl, gs, _, rfl, by walk_at "len", _, rfl, by walk_at "len", ?_⟩⟩
        refine ⟨_, rfl, .inr ⟨r.l, rfl, gl, _, rfl, by walk_at "len", _, rfl, by walk_at "len", ?_⟩⟩
        refine ⟨_, rfl, .inl ⟨_, rfl, by walk_at "len", _, rfl, by walk_at "len", _, rfl, by walk_at "len", ?_⟩⟩
        refine ⟨_, rfl, r.a, rfl, by omega, by omega, fun H' sm => .inl ⟨_, rfl, by walk_at "len", _, rfl, by walk_at "len", ?_⟩⟩
        refine ⟨_, rfl, .inl ⟨_, rfl, by walk_at "len", _, rfl, by walk_at "len", ?_⟩⟩
        refine ⟨_, rfl, p, _, dx, _, rfl, sm _ _ upd_same, T.cl, T.n_text, Nat.lt_of_le_of_lt (len6 r) (by decide), ?_⟩
        refine k _ ?_ ?_
        · have e : tieText r = Str.empty ++ Str.ofString (toString r.f) ++ Str.ofString " " ++ Str.ofString (toString r.s) ++ Str.ofString " " ++ Str.ofString (toString r.l) ++ Str.ofString " " ++ way r.d ++ Str.ofString " " ++ shownInt r.a ++ backs r.b := rfl
          simp only [way, backs, c1, c2, if_true, if_false, Bool.false_eq_true] at e
          unfold tfs
          rw [e]
          exact upd_same
        · intro q o n h
          rw [upd_ne n]
          refine sm _ _ ?_
          rw [upd_ne n, upd_ne n, upd_ne n, upd_ne n, upd_ne n, upd_ne n]
          exact h
end
end TT

namespace TT
open PySem PySem.Spec PyProof.Rows L2
/-! ### the errors are made -/
/-- in a dict of its own, that was not there -/
def sp_E_init (K : PySem.W.Frag) (Z : Zs) : Sp := fun vs H Q _ => ∃ (a C : Addr) (v : V), vs = [.ref a, v] ∧ H a = some (exo a C none) ∧ ExcT K (Z.c 6) Z.f_E_init C ∧
  ∀ (d : Addr) (H' : Hp), Keep a H H' → H d = none → H' a = some (exo a C (some d)) → H' d = some (exd d [("value", v)]) → Q .non H'
/-- what a def lets out: C of v -/
def Out (E : XK) (C : Addr) (v : V) (H : Hp) : Prop := ∀ (d : Addr) (H' : Hp), Same H H' → H d = none → H' d = some (.xd [("value", v)]) → E (.ref C) (some d) H'
section
variable {P : Program} {w : World} {K : PySem.W.Frag} {mg : Str → Option Value} {base : Heap} {Z : Zs}
theorem ok_E_init (T : Txt K mg Z) : FnOk P w K mg base CX0 1 Z.f_E_init Z.d_E_init ["self", "value"] (sp_E_init K Z) := by
  refine T.F_E_init.ok sc_E_init (fun vs H Q E h => ?_) (fun cdv A outer s H vs Q E hr h => ?_)
  · obtain ⟨a, C, v, rfl, _⟩ := h
    rfl
  · obtain ⟨a, C, v, rfl, ha, X, k⟩ := h
    refine ⟨_, (pss_cons (ps_expr (pe_veinit rfl T.b_ValueError T.z_ve (pa_cons (pv 0) (pa_cons (pv 1) pa_nil))))
      (pss_one (ps_ost (pv 0) (pv 1)))), ?_⟩
    refine ⟨_, rfl, _, rfl, a, C, [v], rfl, by show 1 ≤ 1000; decide, X.ox, ha, ?_⟩
    refine ⟨_, rfl, _, rfl, a, C, rfl, X.ox, X.nv, .inl ⟨ha, fun d hd hne => ?_⟩⟩
    refine k d _ (fun b o n e => ?_) hd upd_same ?_
    · rw [upd_ne n, upd_ne (ne_of_none e hd)]
      exact e
    · rw [upd_ne hne]
      exact upd_same
/-- raise C(x): what its reading asks -/
theorem mkR {C : Addr} {x : V} {E : XK} {H : Hp} (T : ExcT K (Z.c 6) Z.f_E_init C) (h : Out E C x H) :
    ([x] : List V).length ≤ 1000 ∧ ∀ a, H a = none → sp_E_init K Z (.ref a :: ([x] ++ [])) (upd H a (exo a C none))
      (fun v H2 => v = .non ∧ ∃ (d : Addr) (fs : List (Str × V)), H2 a = some (exo a C (some d)) ∧ H2 d = some (exd d fs) ∧ H d = none ∧ E (.ref C) (some d) (upd (del H2 a) d (.xd fs))) (fun _ _ _ => False) := by
  refine ⟨by show 1 ≤ 1000; decide, fun a ha => ⟨a, C, x, rfl, upd_same, T, fun d H' k hd e1 e2 => ⟨rfl, d, _, e1, e2, ?_, ?_⟩⟩⟩
  · by_cases c : d = a
    · rw [c]; exact ha
    · rw [upd_ne c] at hd; exact hd
  · have nd : d ≠ a := by
      rintro rfl
      rw [upd_same] at hd
      cases hd
    rw [upd_ne nd] at hd
    refine h d _ (fun b o e => ?_) hd upd_same
    have nb := ne_of_none e ha
    rw [upd_ne (ne_of_none e hd), del_ne nb]
    exact k b o nb (by rw [upd_ne nb]; exact e)
/-- caught as a TuneError, it stands behind the suite -/
theorem Out.met {C : Addr} {v : V} {H : Hp} {G : VK} (T : ExcT K (Z.c 6) Z.f_E_init C) (Te : ExcT K (Z.c 6) Z.f_E_init (Z.c 6)) (h : ∀ a H', Same H H' → Met H' a C [("value", v)] → G (.ref a) H') :
    Out (fun cls d H' => PySem.W.exmOne K cls (.ref (Z.c 6)) = some true ∧ ∀ a, H' a = none → G (.ref a) (upd H' a (exk a cls d))) C v H := fun d H' s hd e => by
  refine ⟨T.exm Te, fun a ha => h a _ (fun b o z => ?_) ⟨d, upd_same, ?_⟩⟩
  · rw [upd_ne (ne_of_none (s _ _ z) ha)]; exact s _ _ z
  · rw [upd_ne (ne_of_none e ha)]; exact e
end
/-- _law_met_error(look): None, or the error -/
def sp_met (K : PySem.W.Frag) (Z : Zs) : (XK → Hp → VK → Prop) → List V → Hp → VK → Prop := fun tl vs H Q =>
  vs = [] ∧ ∃ G : VK, (∀ v H', G v H' → Q v H') ∧ tl (fun cls d H' => PySem.W.exmOne K cls (.ref (Z.c 6)) = some true ∧ ∀ a, H' a = none → G (.ref a) (upd H' a (exk a cls d))) H (fun _ H' => G .non H')
section
variable {P : Program} {w : World} {K : PySem.W.Frag} {mg : Str → Option Value} {base : Heap} {Z : Zs} {k : Nat}
theorem ok_l_met_error (T : Txt K mg Z) : LOk P w K mg base (k + 2) k Z.f_l_met_error Z.d_l_met_error ["_law_look"] (sp_met K Z) := by
  refine okL T.F_l_met_error sc_l_met_error (fun tl vs H Q h => ?_) (fun cdv A outer s H vs Q f tl g hr R h => ?_)
  · obtain ⟨rfl, _⟩ := h
    rfl
  · obtain ⟨rfl, G, hG, t⟩ := h
    refine ⟨_, pss_cons (ps_set (i := 1) sc_l_met_error.nd rfl (Or.inl rfl) pe_non)
      (pss_cons (ps_try_kept (i := 2) (c := .ref (Z.c 6)) rfl rfl rfl sc_l_met_error.nd rfl rfl ⟨by rfl, by decide, .inl T.g_TuneError⟩ (fun W pn xe tk _ => pss_one (ps_expr (pe_lookS (i := 0) tk R rfl hr rfl (.inl rfl))))
        (fun a oe cls d pn _ _ => pss_one (ps_set (i := 1) sc_l_met_error.nd rfl (Or.inl rfl) (pv 2))))
      (pss_one (ps_ret (pv 1)))), ?_⟩
    exact ⟨_, _, fun cls d H' e => ⟨e.1, fun a ha => ⟨_, rfl, fun ha' => ⟨_, rfl, hG _ _ (e.2 a ha')⟩⟩⟩, fun v H' q => ⟨_, rfl, hG _ _ q⟩, rfl, t⟩
end
end TT

namespace TT
open PySem PySem.Spec PyProof.Rows L2
/-- v is an int i, or none -/
inductive IsI (K : PySem.W.Frag) (H : Hp) : V → Option Int → Prop
  | int (i : Int) : IsI K H (.int i) (some i)
  | no {v : V} (h : Whole K H v false) : IsI K H v none
section
variable {P : Program} {w : World} {K : PySem.W.Frag} {mg : Str → Option Value} {base : Heap} {Z : Zs}
end
end TT


namespace TT
open PySem PySem.Spec PyProof.Rows L2
theorem Same.fresh {H H' : Hp} {q : Addr} (s : Same H H') (n : H' q = none) : H q = none := by
  cases h : H q with
  | none => rfl
  | some o => rw [s _ _ h] at n; cases n
theorem Same.updN {H H1 : Hp} {q : Addr} {o : HO} (s : Same H H1) (n : H q = none) : Same H (L2.upd H1 q o) := fun b u e => by
  rw [upd_ne (ne_of_none e n)]
  exact s _ _ e
end TT

set_option Elab.async false
set_option linter.all false
set_option maxRecDepth 100000
set_option maxHeartbeats 4000000
namespace TT
open PySem PySem.Spec PyProof.Rows L2
theorem fnR_of {P : Program} {w : World} {K : PySem.W.Frag} {mg : Str → Option Value} {base : Heap} {CX : CXT} {k : Nat} {f : Addr} {fd : FuncData} {ps : List Str} {sp : Sp} (F : FnOk P w K mg base CX k f fd ps sp) (hb : Binds K fd ps []) : FnR P w K mg base CX k f sp := by
  intro A outer s H us vs Q E hr e0 rv h
  have n : us.length = ps.length := rv.length ▸ F.len _ _ _ _ h
  have b := hb s us (e0.mod.kin.keeps fun b o e => (e0.bs b o e).1) (by rw [List.append_nil]; exact n)
  rw [List.append_nil] at b
  exact F.run A outer s H ⟨us, []⟩ us vs Q E hr e0 b rv h
def partner (r : Row) (p : Int) : Int := if r.b = true then r.s + r.l - 1 - (p - r.f) else r.s + (p - r.f)
def led (r : Row) (n : Int) : Int := if r.d = true then r.a - n else r.a + n
def Row.back (r : Row) : Row := ⟨r.s, r.f, r.l, if r.d = true then r.a else -r.a, r.d, r.b⟩
theorem Row.Ok.back {r : Row} (h : r.Ok) : r.back.Ok := by
  obtain ⟨f0, s0, l0, fe, se, al, ah, bk⟩ := h
  refine ⟨s0, f0, l0, se, fe, ?_, ?_, bk⟩
  · show -(10 ^ 60) < if r.d = true then r.a else -r.a
    split <;> omega
  · show (if r.d = true then r.a else -r.a) < 10 ^ 60
    split <;> omega
theorem Same.tie {C q : Addr} {H H' : Hp} {r : Row} (k : Same H H') (h : TieAt C H q r) : TieAt C H' q r := by
  obtain ⟨dx, e⟩ := h
  exact ⟨dx, k _ _ e⟩
theorem Same.row {q : Addr} {H H' : Hp} {r : Row} (k : Same H H') (h : RowAt H q r) : RowAt H' q r := k _ _ h
/-- behind the making of a tie -/
theorem made {H H' : Hp} {x dx C : Addr} (nx : H x = none) (nd : H dx = none) (k : Keep x (upd (upd H dx (.own x)) x (.ins C dx [])) H') : Same H H' := fun b o e => by
  refine k b o (ne_of_none e nx) ?_
  rw [upd_ne (ne_of_none e nx), upd_ne (ne_of_none e nd)]
  exact e
/-- two ties of the same values are equal -/
def TieEq (C : Addr) (a b : Addr) (H : Hp) : Prop := ∃ r, TieAt C H a r ∧ TieAt C H b r
section
variable {P : Program} {w : World} {K : PySem.W.Frag} {mg : Str → Option Value} {base : Heap} {Z : Zs}
theorem mkT (T : Txt K mg Z) : Mk K Z.cC Z.f_T_init := ⟨T.mkC, T.a_T_init, T.i_T_init, T.kC⟩
/-- Tie(first, second, length, amount, down=.., backward=..) -/
theorem kb_tie (T : Txt K mg Z) : ∃ its mv : List Value, KBn K Z.d_T_init ["self", "first", "second", "length", "amount", "down", "backward"] 5 ["down", "backward"] (fun us ws => us ++ ws) (fun vs zs => vs ++ zs) := by
  obtain ⟨its, mv, h⟩ := T.F_T_init.kbinds (ps := ["self", "first", "second", "length", "amount", "down", "backward"]) 5 ["down", "backward"] [] (fun us _ _ ws => us ++ ws) (by decide) (by decide) (fun q hq => by cases hq)
    (fun r1 _ _ r4 => r1.append r4) (fun T D doc pm an cdv ct us its mv ws l1 l2 l3 l4 => by
      match us, its, mv, ws, l1, l2, l3, l4 with
      | [_, _, _, _, _], [_], [], [_, _], _, _, _, _ => exact ⟨_, rfl, rfl⟩)
  exact ⟨its, mv, h⟩
end
end TT


set_option Elab.async false
set_option linter.all false
set_option maxRecDepth 100000
set_option maxHeartbeats 4000000
namespace TT
open PySem PySem.Spec PyProof.Rows L2
theorem Pot.ne {H : Hp} {p q : Addr} {n : Nat} (hp : Pot H p n) (hq : H q = none) : p ≠ q := by
  obtain ⟨_, _, e, _⟩ := hp
  exact ne_of_none e hq
theorem Pot.same {H H' : Hp} {p : Addr} {n : Nat} (hp : Pot H p n) (s : Same H H') : Pot H' p n := by
  obtain ⟨a, m, e, r⟩ := hp
  exact ⟨a, m, s _ _ e, r⟩
theorem Keep.same {H H' H2 : Hp} {p : Addr} (k : Keep p H H') (s : Same H' H2) : Keep p H H2 := fun b o n e => s _ _ (k b o n e)
/-! ### odd things -/
inductive Fl : V → PyData → Prop
  | non : Fl .non .none
  | bl (b : Bool) : Fl (.bl b) (.bool b)
  | int (i : Int) : Fl (.int i) (.int i)
  | str (x : Str) : Fl (.str x) (.str x)
inductive Fls : List V → List PyData → Prop
  | nil : Fls [] []
  | cons {v : V} {d : PyData} {vs : List V} {ds : List PyData} (h : Fl v d) (t : Fls vs ds) : Fls (v :: vs) (d :: ds)
/-- v stands for d, in things other than the pot -/
inductive Odd (p : Addr) (H : Hp) : V → PyData → Prop
  | fl {v : V} {d : PyData} (h : Fl v d) : Odd p H v d
  | t {a : Addr} {xs : List V} {ds : List PyData} (n : a ≠ p) (h : H a = some (.tup xs)) (f : Fls xs ds) : Odd p H (.ref a) (.tuple ds)
  | l {a : Addr} {xs : List V} {ds : List PyData} (n : a ≠ p) (h : H a = some (.lst xs)) (f : Fls xs ds) : Odd p H (.ref a) (.list ds)
  | tt {a b : Addr} (n : a ≠ p) (m : b ≠ p) (h : H a = some (.tup [.ref b])) (h2 : H b = some (.tup [])) : Odd p H (.ref a) (.tuple [.tuple []])
  | d0 {a : Addr} (n : a ≠ p) (h : H a = some (.dK [])) : Odd p H (.ref a) (.dict [])
  | d1 {a : Addr} {k : Str} {i : Int} (n : a ≠ p) (h : H a = some (.dK [(.inr k, .int i)])) : Odd p H (.ref a) (.dict [(.str k, .int i)])
theorem Odd.keep {p : Addr} {H H' : Hp} {v : V} {d : PyData} (k : Keep p H H') (o : Odd p H v d) : Odd p H' v d := by
  cases o with
  | fl h => exact .fl h
  | t n h f => exact .t n (k _ _ n h) f
  | l n h f => exact .l n (k _ _ n h) f
  | tt n m h h2 => exact .tt n m (k _ _ n h) (k _ _ m h2)
  | d0 n h => exact .d0 n (k _ _ n h)
  | d1 n h => exact .d1 n (k _ _ n h)
def menu : List PyData := [.none, .bool true, .bool false, .int (-1), .str "", .str "0", .str "up", .str "back", .tuple [], .list [], .dict [], .tuple [.tuple []], .tuple [.int 0], .list [.int 0], .tuple [.int 0, .int 1], .str "0 1 1 up 0", .str "tie",
  .tuple [.bool true], .list [.str "0"], .dict [(.str "a", .int 0)], .str "size 1", .tuple [.str "down", .int 1]]
/-- all that repr wants of it, alone and thirty times in a list -/
def fine (d : PyData) : Bool := d.showable && decide (d.depth ≤ 60) && decide (d.shown.length ≤ 1000) && (PyData.list (List.replicate 30 d)).showable && decide ((PyData.list (List.replicate 30 d)).depth ≤ 60) && decide ((PyData.list (List.replicate 30 d)).shown.length ≤ 100000)
theorem menu_fine : menu.all fine = true := by decide +kernel
section
variable {P : Program} {w : World} {K : PySem.W.Frag} {mg : Str → Option Value} {base : Heap} {Z : Zs}
end
end TT

set_option Elab.async false
set_option linter.all false
set_option maxRecDepth 100000
set_option maxHeartbeats 4000000
namespace TT
open PySem PySem.Spec PyProof.Rows L2
/-! ### the texts of rows -/
theorem shown_int (i : Int) : (PyData.int i).shown = Str.ofString (toString i) := by simp [PyData.shown]
theorem bool_len (b : Bool) : ((PyData.bool b).shown).length ≤ 5 := by cases b <;> simp [PyData.shown] <;> decide
theorem int_len64 {i : Int} (h0 : -(10 ^ 64) < i) (h1 : i < 10 ^ 64) : (Str.ofString (toString i)).length ≤ 65 := by
  have h := PySem.int_text_length_le10 (a := i) (k := 64) (by decide) (by
    have e : ((10 ^ 64 : Nat) : Int) = 10 ^ 64 := by decide +kernel
    omega)
  rw [PySem.ofString_length]
  omega
theorem int_ok64 {i : Int} (h0 : -(10 ^ 64) < i) (h1 : i < 10 ^ 64) : (PyData.int i).showable = true := by
  have h : i.natAbs.log2 < 1920 := PySem.Flt.log2_lt_of (by decide) (by
    have : (10 : Int) ^ 64 < 2 ^ 1920 := by decide +kernel
    omega)
  simpa [PyData.showable] using h
theorem dat_ok {r : Row} (ok : r.Ok) : r.dat.showable = true ∧ r.dat.hasDict = false ∧ r.dat.depth ≤ 60 ∧ r.dat.shown.length ≤ sizeLine := by
  have e30 : (10 : Int) ^ 30 < 10 ^ 64 := by decide +kernel
  have e60 : (10 : Int) ^ 60 < 10 ^ 64 := by decide +kernel
  have f0 := ok.f0; have s0 := ok.s0; have l0 := ok.l0; have fe := ok.fe; have se := ok.se; have al := ok.al; have ah := ok.ah
  have bf : -(10 ^ 64) < r.f ∧ r.f < 10 ^ 64 := by constructor <;> omega
  have bs : -(10 ^ 64) < r.s ∧ r.s < 10 ^ 64 := by constructor <;> omega
  have bl : -(10 ^ 64) < r.l ∧ r.l < 10 ^ 64 := by constructor <;> omega
  have ba : -(10 ^ 64) < r.a ∧ r.a < 10 ^ 64 := by constructor <;> omega
  refine ⟨?_, ?_, ?_, ?_⟩
  · unfold Row.dat
    rw [PyData.showable]
    simp only [PyData.showableAll, int_ok64 bf.1 bf.2, int_ok64 bs.1 bs.2, int_ok64 bl.1 bl.2, int_ok64 ba.1 ba.2, Bool.true_and, Bool.and_true]
    simp [PyData.showable]
  · simp [Row.dat, PyData.hasDict, PyData.hasDictAll]
  · simp [Row.dat, PyData.depth, PyData.depthAll]
  · unfold Row.dat
    rw [PyData.shown]
    simp only [PyData.shownAll]
    have sl : sizeLine = 16777216 := sizeLine_eq
    have j := join_length_add [(PyData.int r.f).shown, (PyData.int r.s).shown, (PyData.int r.l).shown, (PyData.int r.a).shown, (PyData.bool r.d).shown, (PyData.bool r.b).shown] (by simp)
    have z1 := int_len64 bf.1 bf.2; have z2 := int_len64 bs.1 bs.2; have z3 := int_len64 bl.1 bl.2; have z4 := int_len64 ba.1 ba.2; have z5 := bool_len r.d; have z6 := bool_len r.b
    rw [← shown_int] at z1 z2 z3 z4
    unfold tupleText
    rw [Str.length_append, Str.length_append]
    simp only [piled, List.map_cons, List.map_nil, List.sum_cons, List.sum_nil] at j
    have y1 : (Str.ofString "(").length = 1 := by decide
    have y2 : (Str.ofString ")").length = 1 := by decide
    simp only [List.length_cons, List.length_nil]
    have y3 : (Str.ofString (if (0 + 1 + 1 + 1 + 1 + 1 + 1 == 1) = true then ",)" else ")")).length = 1 := by decide
    omega
theorem Row.dp {K : PySem.W.Frag} {H : Hp} {q : Addr} {r : Row} (h : H q = some (.tup r.vs)) : Dp K H (.ref q) r.dat :=
  .tup (SqT.of h) (.cons (.int _) (.cons (.int _) (.cons (.int _) (.cons (.int _) (.cons (.bl _) (.cons (.bl _) .nil))))))
/-! ### told back -/
end TT


namespace TT
open PySem PySem.Spec PyProof.Rows L2 LamX
/-! ### odd things: whether they are ints; their texts -/
def isInt : V → Option Int
  | .int i => some i
  | _ => none
theorem whole_non {K : PySem.W.Frag} {H : Hp} : Whole K H .non false := ⟨_, false, false, .base .non, kit_ty (by decide +kernel), kit_ty (by decide +kernel), rfl⟩
theorem whole_bl {K : PySem.W.Frag} {H : Hp} (b : Bool) : Whole K H (.bl b) false := ⟨_, true, true, .base (.bl b), kit_ty (by decide +kernel), kit_ty (by decide +kernel), rfl⟩
theorem whole_str {K : PySem.W.Frag} {H : Hp} (x : Str) : Whole K H (.str x) false := ⟨_, false, false, .base (.str x), kit_ty (by decide +kernel), kit_ty (by decide +kernel), rfl⟩
theorem whole_tup {K : PySem.W.Frag} {H : Hp} {a : Addr} {xs : List V} (h : H a = some (.tup xs)) : Whole K H (.ref a) false := ⟨_, false, false, .base (.tup h), kit_ty (by decide +kernel), kit_ty (by decide +kernel), rfl⟩
theorem whole_lst {K : PySem.W.Frag} {H : Hp} {a : Addr} {xs : List V} (h : H a = some (.lst xs)) : Whole K H (.ref a) false := ⟨_, false, false, .base (.lst h), kit_ty (by decide +kernel), kit_ty (by decide +kernel), rfl⟩
theorem whole_dK {K : PySem.W.Frag} {H : Hp} {a : Addr} {kvs : List (Key × V)} (h : H a = some (.dK kvs)) : Whole K H (.ref a) false := ⟨_, false, false, .base (.dK h), kit_ty (by decide +kernel), kit_ty (by decide +kernel), rfl⟩
theorem Odd.isI {K : PySem.W.Frag} {p : Addr} {H : Hp} {v : V} {d : PyData} (o : Odd p H v d) : IsI K H v (isInt v) := by
  cases o with
  | fl h =>
    cases h with
    | non => exact .no whole_non
    | bl b => exact .no (whole_bl b)
    | int i => exact .int i
    | str x => exact .no (whole_str x)
  | t n h f => exact .no (whole_tup h)
  | l n h f => exact .no (whole_lst h)
  | tt n m h h2 => exact .no (whole_tup h)
  | d0 n h => exact .no (whole_dK h)
  | d1 n h => exact .no (whole_dK h)
theorem IsI.whole {K : PySem.W.Frag} {H : Hp} {v : V} {o : Option Int} (h : IsI K H v o) : Whole K H v o.isSome := by
  cases h with
  | int i => exact whole_int i
  | no h => exact h
/-- what repr wants -/
structure Shown (d : PyData) : Prop where
  ok : d.showable = true
  dep : d.depth ≤ 60
  len : d.shown.length ≤ sizeLine
theorem shown_menu {d : PyData} (h : d ∈ menu) : Shown d := by
  have hf := List.all_eq_true.mp menu_fine d h
  unfold fine at hf
  simp only [Bool.and_eq_true, decide_eq_true_eq] at hf
  have sl : sizeLine = 16777216 := sizeLine_eq
  obtain ⟨⟨⟨⟨⟨f1, f2⟩, f3⟩, f4⟩, f5⟩, f6⟩ := hf
  exact ⟨f1, f2, by omega⟩
theorem shown_i {i : Int} (h0 : -(10 ^ 64) < i) (h1 : i < 10 ^ 64) : Shown (.int i) := by
  refine ⟨int_ok64 h0 h1, by simp [PyData.depth], ?_⟩
  rw [shown_int]
  have := int_len64 h0 h1
  have sl : sizeLine = 16777216 := sizeLine_eq
  omega
theorem shown_os {x : String} (h : x.length ≤ 1000) : Shown (.str (Str.ofString x)) := by
  have sl : sizeLine = 16777216 := sizeLine_eq
  refine ⟨by simp [PyData.showable], by simp [PyData.depth], ?_⟩
  have b : (PyData.str (Str.ofString x)).leavesShort 13 = true := by
    simp only [PyData.leavesShort, List.all_eq_true, decide_eq_true_eq]
    intro c hc
    rw [Str.ofString_eq_toList] at hc
    simp only [List.toList_toArray, List.mem_map] at hc
    obtain ⟨ch, _, rfl⟩ := hc
    have h1 : ch.toNat < 1114112 := by
      have := ch.valid
      unfold UInt32.isValidChar Nat.isValidChar at this
      show ch.val.toNat < 1114112
      omega
    omega
  have q := PyData.shown_le 13 (by decide) _ b
  have w : (PyData.str (Str.ofString x)).weight ≤ 1000 := by
    show (Str.ofString x).length ≤ 1000
    rw [PySem.ofString_length]
    exact h
  omega
theorem dig_len {n : Int} (h0 : 0 ≤ n) (h1 : n < 10 ^ 64) : (toString n : String).length ≤ 1000 := by
  have h := int_len64 (i := n) (by have : (0 : Int) < 10 ^ 64 := by decide +kernel
                                   omega) h1
  rw [PySem.ofString_length] at h
  omega
theorem shown_t1 {i : Int} (h0 : -(10 ^ 64) < i) (h1 : i < 10 ^ 64) : Shown (.tuple [.int i]) := by
  have s := shown_i h0 h1
  refine ⟨?_, ?_, ?_⟩
  · have := s.ok
    simp only [PyData.showable, PyData.showableAll, Bool.and_true] at this ⊢
    exact this
  · simp [PyData.depth, PyData.depthAll]
  · have l := int_len64 h0 h1
    have j := tupleText_len_le [(PyData.int i).shown]
    rw [PyData.shown]
    simp only [PyData.shownAll]
    rw [shown_int] at j ⊢
    simp only [List.map_cons, List.map_nil, List.sum_cons, List.sum_nil, List.length_cons, List.length_nil] at j
    have sl : sizeLine = 16777216 := sizeLine_eq
    omega
theorem isInt_some {v : V} {i : Int} (h : isInt v = some i) : v = .int i := by
  cases v <;> simp [isInt] at h
  rw [h]
theorem all_rep (n : Nat) : (List.replicate n true).all id = true := by simp
theorem ExtN.keep {p : Addr} {H H' : Hp} (h : ∀ b o, b ≠ p → H b = some o → (∀ ps, o ≠ .tbl ps) → H' b = some o) {v : V} {d : PyData} (o : Odd p H v d) : Odd p H' v d := by
  cases o with
  | fl h => exact .fl h
  | t n e f => exact .t n (h _ _ n e fun _ z => by cases z) f
  | l n e f => exact .l n (h _ _ n e fun _ z => by cases z) f
  | tt n m e e2 => exact .tt n m (h _ _ n e fun _ z => by cases z) (h _ _ m e2 fun _ z => by cases z)
  | d0 n e => exact .d0 n (h _ _ n e fun _ z => by cases z)
  | d1 n e => exact .d1 n (h _ _ n e fun _ z => by cases z)
theorem Odd.extN {p : Addr} {H H' : Hp} (h : ExtN H H') {v : V} {d : PyData} (o : Odd p H v d) : Odd p H' v d := ExtN.keep (fun b u _ e n => h b u e n) o
/-- repr of an odd thing -/
theorem fls_dp {K : PySem.W.Frag} {H : Hp} {vs : List V} {ds : List PyData} (f : Fls vs ds) : DpAll K H vs ds ∧ PyData.hasDictAll ds = false := by
  induction f with
  | nil => exact ⟨.nil, by simp [PyData.hasDictAll]⟩
  | cons h t ih =>
    refine ⟨.cons (by cases h <;> constructor) ih.1, ?_⟩
    cases h <;> simp [PyData.hasDictAll, PyData.hasDict, ih.2]
theorem Odd.dp {K : PySem.W.Frag} {p : Addr} {H : Hp} {v : V} {d : PyData} (o : Odd p H v d) : DpD K H v d := by
  cases o with
  | fl h => exact .dp (by cases h <;> constructor) (by cases h <;> simp [PyData.hasDict])
  | t n h f => exact .dp (.tup (SqT.of h) (fls_dp f).1) (by simp only [PyData.hasDict]; exact (fls_dp (K := K) (H := H) f).2)
  | l n h f => exact .dp (.lst (SqL.of h) (fls_dp f).1) (by simp only [PyData.hasDict]; exact (fls_dp (K := K) (H := H) f).2)
  | tt n m h h2 => exact .tt h h2
  | d0 n h => exact .d0 h
  | d1 n h => exact .d1 h
end TT

namespace TT
open PySem PySem.Spec PyProof.Rows L2
/-! ### ties made of any values, or refused -/
def isBl : V → Bool
  | .bl _ => true
  | _ => false
/-- the checks can tell what v is -/
structure Kn (K : PySem.W.Frag) (H : Hp) (v : V) : Prop where
  i : IsI K H v (isInt v)
  b : ∃ t, TyX K H v t ∧ PySem.W.kitOne K t (.type "bool") = some (isBl v)
theorem Odd.kn {K : PySem.W.Frag} {p : Addr} {H : Hp} {v : V} {d : PyData} (o : Odd p H v d) : Kn K H v := by
  refine ⟨o.isI, ?_⟩
  cases o with
  | fl h =>
    cases h with
    | non => exact ⟨_, .base .non, kit_ty (by decide +kernel)⟩
    | bl b => exact ⟨_, .base (.bl b), kit_ty (by show kitB "bool" "bool" = some true; decide +kernel)⟩
    | int i => exact ⟨_, .base (.int i), kit_ty (by show kitB "int" "bool" = some false; decide +kernel)⟩
    | str x => exact ⟨_, .base (.str x), kit_ty (by show kitB "str" "bool" = some false; decide +kernel)⟩
  | t n h f => exact ⟨_, .base (.tup h), kit_ty (by show kitB "tuple" "bool" = some false; decide +kernel)⟩
  | l n h f => exact ⟨_, .base (.lst h), kit_ty (by show kitB "list" "bool" = some false; decide +kernel)⟩
  | tt n m h h2 => exact ⟨_, .base (.tup h), kit_ty (by show kitB "tuple" "bool" = some false; decide +kernel)⟩
  | d0 n h => exact ⟨_, .base (.dK h), kit_ty (by show kitB "dict" "bool" = some false; decide +kernel)⟩
  | d1 n h => exact ⟨_, .base (.dK h), kit_ty (by show kitB "dict" "bool" = some false; decide +kernel)⟩
/-- an int from m on -/
def from0 (m : Int) (v : V) : Bool := match isInt v with
  | some i => decide (m ≤ i)
  | none => false
theorem from0_int {m i : Int} : from0 m (.int i) = decide (m ≤ i) := rfl
theorem is_from0 {K : PySem.W.Frag} {H : Hp} {v : V} {m : Int} {Q : VK} {E : XK} (k : IsI K H v (isInt v)) (q : Q (.bl (from0 m v)) H) : sp_is_from K [v, .int m] H Q E := by
  unfold from0 at q
  cases e : isInt v with
  | some i =>
    rw [e] at q
    exact .inl ⟨i, m, by rw [isInt_some e], q⟩
  | none =>
    rw [e] at q k
    cases k with
    | no h => exact .inr ⟨v, .int m, rfl, h, q⟩
theorem from0_some {m : Int} {v : V} (h : from0 m v = true) : ∃ i, v = .int i ∧ m ≤ i := by
  unfold from0 at h
  cases e : isInt v with
  | some i =>
    rw [e] at h
    exact ⟨i, isInt_some e, of_decide_eq_true h⟩
  | none =>
    rw [e] at h
    cases h
theorem isBl_some {v : V} (h : isBl v = true) : ∃ b, v = .bl b := by
  cases v <;> first | exact ⟨_, rfl⟩ | cases h
/-- which of the values is refused first, by which error -/
def verP (v1 v2 v3 : V) : Option (Nat × Nat) :=
  if from0 0 v1 = true then if from0 0 v2 = true then if from0 1 v3 = true then match v1, v2, v3 with
    | .int f, .int s, .int l => if (if s > f then s else f) + l > 10 ^ 30 then some (1, 2) else none
    | _, _, _ => none
  else some (1, 2) else some (0, 1) else some (0, 0)
def verL (v4 v5 v6 : V) : Option (Nat × Nat) := if (isInt v4).isSome = true then if isBl v5 = true then if isBl v6 = true then none else some (3, 2) else some (3, 1) else some (2, 0)
def sp_check_partsN (Z : Zs) : PySem.W.Frag → Sp := fun K vs H Q E => ∃ v1 v2 v3, vs = [v1, v2, v3] ∧ Kn K H v1 ∧ Kn K H v2 ∧ Kn K H v3 ∧ (verP v1 v2 v3 = none → Q .non H) ∧ ∀ i j, verP v1 v2 v3 = some (i, j) → Out E (Z.c i) ([v1, v2, v3].getD j .non) H
def sp_check_leadingN (Z : Zs) : PySem.W.Frag → Sp := fun K vs H Q E => ∃ v4 v5 v6, vs = [v4, v5, v6] ∧ Kn K H v4 ∧ Kn K H v5 ∧ Kn K H v6 ∧ (verL v4 v5 v6 = none → Q .non H) ∧ ∀ i j, verL v4 v5 v6 = some (i, j) → Out E (Z.c i) ([v4, v5, v6].getD j .non) H
def ver (v1 v2 v3 v4 v5 v6 : V) : Option (Nat × Nat) := match verP v1 v2 v3 with
  | some x => some x
  | none => (verL v4 v5 v6).map fun x => (x.1, x.2 + 3)
theorem verP_lt {v1 v2 v3 : V} {i j : Nat} (h : verP v1 v2 v3 = some (i, j)) : j < 3 := by
  unfold verP at h
  split at h
  · split at h
    · split at h
      · split at h
        · rename_i f s l _ _ _
          by_cases c : (if s > f then s else f) + l > (10 : Int) ^ 30
          · rw [if_pos c] at h
            cases h
            decide
          · rw [if_neg c] at h
            cases h
        · cases h
      · cases h
        decide
    · cases h
      decide
  · cases h
    decide
def sp_T_initN (Z : Zs) : PySem.W.Frag → Sp := fun K vs H Q E => ∃ (p dx : Addr) (v1 v2 v3 v4 v5 v6 : V), vs = [.ref p, v1, v2, v3, v4, v5, v6] ∧ H p = some (.ins Z.cC dx []) ∧ Kn K H v1 ∧ Kn K H v2 ∧ Kn K H v3 ∧ Kn K H v4 ∧ Kn K H v5 ∧ Kn K H v6 ∧
  (ver v1 v2 v3 v4 v5 v6 = none → ∃ (r : Row) (b : Bool), [v1, v2, v3, v4, v5, v6] = [.int r.f, .int r.s, .int r.l, .int r.a, .bl r.d, .bl b] ∧ r.Ok ∧ r.b = (b && decide (1 < r.l)) ∧ ∀ H', H' p = some (.ins Z.cC dx (tfs r)) → Keep p H H' → Q .non H') ∧
  ∀ i j, ver v1 v2 v3 v4 v5 v6 = some (i, j) → Out E (Z.c i) ([v1, v2, v3, v4, v5, v6].getD j .non) H
local macro_rules | `(tactic| walk_at "len") => `(tactic| ((try simp only [Str.length_append]); omega))
section
variable {P : Program} {w : World} {K : PySem.W.Frag} {mg : Str → Option Value} {base : Heap} {Z : Zs}
end
/-! a copy that stays folded: found by its name alone -/
namespace Fr
@[irreducible] def sp_is_from (K : PySem.W.Frag) : Sp := TT.sp_is_from K
theorem is_from0 {K : PySem.W.Frag} {H : Hp} {v : V} {m : Int} {Q : VK} {E : XK} (k : IsI K H v (isInt v)) (q : Q (.bl (from0 m v)) H) : sp_is_from K [v, .int m] H Q E := by
  unfold sp_is_from
  exact TT.is_from0 k q
section
variable {P : Program} {w : World} {K : PySem.W.Frag} {mg : Str → Option Value} {base : Heap} {Z : Zs}
theorem ok_is_from (T : Txt K mg Z) : FnOk P w K mg base CX0 2 Z.f_is_from Z.d_is_from ["value", "least"] (sp_is_from K) := by
  unfold sp_is_from
  exact TT.ok_is_from T
theorem ok_check_partsN (T : Txt K mg Z) : FnOk P w K mg base (L2N.CX P w) 3 Z.f_check_parts Z.d_check_parts ["first", "second", "length"] (sp_check_partsN Z K) := by
  refine T.F_check_parts.okXN sc_check_parts (fun vs H Q E h => ?_) (fun cdv A outer s H vs Q E hr h => ?_)
  · obtain ⟨v1, v2, v3, rfl, _⟩ := h
    rfl
  · obtain ⟨v1, v2, v3, rfl, k1, k2, k3, ok, out⟩ := h
    refine ⟨_, (pss_cons (ps_if (pt_not (pt_val (pe_call (ok_is_from T) (hr.mono (by decide)) rfl T.g_is_from T.k_is_from T.bn_is_from .nil pass0 (pa_cons (pv 0) (pa_cons pe_int pa_nil))))) (pss_one (L2N.ps_raise rfl (L2N.takes_of rfl rfl rfl rfl) (pmk_oexN (T.ex 0 (by decide)).ox (T.ex 0 (by decide)).ini T.t_E_init (ok_E_init T) (hr.mono (by decide)) T.bn_E_init .nil pass0 rfl T.g_BadPlace (pa_cons (pv 0) pa_nil)))) pss_nil)
      (pss_cons (ps_if (pt_not (pt_val (pe_call (ok_is_from T) (hr.mono (by decide)) rfl T.g_is_from T.k_is_from T.bn_is_from .nil pass0 (pa_cons (pv 1) (pa_cons pe_int pa_nil))))) (pss_one (L2N.ps_raise rfl (L2N.takes_of rfl rfl rfl rfl) (pmk_oexN (T.ex 0 (by decide)).ox (T.ex 0 (by decide)).ini T.t_E_init (ok_E_init T) (hr.mono (by decide)) T.bn_E_init .nil pass0 rfl T.g_BadPlace (pa_cons (pv 1) pa_nil)))) pss_nil)
      (pss_one (ps_if (PW.pt (pw_or (pt_not (pt_val (pe_call (ok_is_from T) (hr.mono (by decide)) rfl T.g_is_from T.k_is_from T.bn_is_from .nil pass0 (pa_cons (pv 2) (pa_cons pe_int pa_nil))))) (pw_or1 (pt_cmpR op_gt (pe_op op_add (pe_callB  (call_max2 rfl) (by rfl) T.b_max (by decide +kernel) (pa_cons (pv 0) (pa_cons (pv 1) pa_nil))) (pv 2)) (pe_glob (v := .int 1000000000000000000000000000000) rfl T.c_GREATEST ⟨_, rfl⟩) (nomark _))))) (pss_one (L2N.ps_raise rfl (L2N.takes_of rfl rfl rfl rfl) (pmk_oexN (T.ex 1 (by decide)).ox (T.ex 1 (by decide)).ini T.t_E_init (ok_E_init T) (hr.mono (by decide)) T.bn_E_init .nil pass0 rfl T.g_BadLength (pa_cons (pv 2) pa_nil)))) pss_nil)))), ?_⟩
    unfold verP at ok out
    refine ⟨_, rfl, is_from0 k1.i ⟨_, rfl, ?_⟩⟩
    by_cases c1 : from0 0 v1 = true
    case neg =>
      rw [if_neg c1] at out
      rw [show from0 0 v1 = false by simpa using c1]
      exact iteT ⟨_, rfl, mkR (T.ex 0 (by decide)) (out _ _ rfl)⟩
    rw [if_pos c1] at ok out
    rw [c1]
    refine iteF ⟨_, rfl, is_from0 k2.i ⟨_, rfl, ?_⟩⟩
    by_cases c2 : from0 0 v2 = true
    case neg =>
      rw [if_neg c2] at out
      rw [show from0 0 v2 = false by simpa using c2]
      exact iteT ⟨_, rfl, mkR (T.ex 0 (by decide)) (out _ _ rfl)⟩
    rw [if_pos c2] at ok out
    rw [c2]
    refine iteF ⟨_, rfl, is_from0 k3.i ⟨_, rfl, ?_⟩⟩
    by_cases c3 : from0 1 v3 = true
    case neg =>
      rw [if_neg c3] at out
      rw [show from0 1 v3 = false by simpa using c3]
      exact iteT (iteT ⟨_, rfl, mkR (T.ex 1 (by decide)) (out _ _ rfl)⟩)
    rw [if_pos c3] at ok out
    rw [c3]
    obtain ⟨f, rfl, _⟩ := from0_some c1
    obtain ⟨s, rfl, _⟩ := from0_some c2
    obtain ⟨l, rfl, _⟩ := from0_some c3
    refine iteF ⟨_, rfl, _, rfl, _, _, rfl, _, rfl, _, _, rfl, rfl, _, _, rfl, rfl, _, rfl, ?_⟩
    have e : (10 : Int) ^ 30 = 1000000000000000000000000000000 := by decide +kernel
    dsimp only at ok out
    rw [e] at ok out
    by_cases c4 : (if s > f then s else f) + l > 1000000000000000000000000000000
    · rw [if_pos c4] at out
      rw [decide_eq_true c4]
      exact iteT ⟨_, rfl, mkR (T.ex 1 (by decide)) (out _ _ rfl)⟩
    · rw [if_neg c4] at ok
      rw [decide_eq_false c4]
      exact iteF (ok rfl)
end
end Fr
section
variable {P : Program} {w : World} {K : PySem.W.Frag} {mg : Str → Option Value} {base : Heap} {Z : Zs}
theorem ok_check_partsN (T : Txt K mg Z) : FnOk P w K mg base (L2N.CX P w) 3 Z.f_check_parts Z.d_check_parts ["first", "second", "length"] (sp_check_partsN Z K) := Fr.ok_check_partsN T
theorem ok_check_leadingN (T : Txt K mg Z) : FnOk P w K mg base (L2N.CX P w) 3 Z.f_check_leading Z.d_check_leading ["amount", "down", "backward"] (sp_check_leadingN Z K) := by
  refine T.F_check_leading.okXN sc_check_leading (fun vs H Q E h => ?_) (fun cdv A outer s H vs Q E hr h => ?_)
  · obtain ⟨v4, v5, v6, rfl, _⟩ := h
    rfl
  · obtain ⟨v4, v5, v6, rfl, k4, ⟨_, ⟨t5, ty5, e5⟩⟩, ⟨_, ⟨t6, ty6, e6⟩⟩, ok, out⟩ := h
    refine ⟨_, (pss_cons (ps_if (pt_not (pt_val (pe_call (ok_is_whole T) (hr.mono (by decide)) rfl T.g_is_whole T.k_is_whole T.bn_is_whole .nil pass0 (pa_cons (pv 0) pa_nil)))) (pss_one (L2N.ps_raise rfl (L2N.takes_of rfl rfl rfl rfl) (pmk_oexN (T.ex 2 (by decide)).ox (T.ex 2 (by decide)).ini T.t_E_init (ok_E_init T) (hr.mono (by decide)) T.bn_E_init .nil pass0 rfl T.g_BadAmount (pa_cons (pv 0) pa_nil)))) pss_nil)
      (pss_cons (ps_if (pt_not (pt_val (pe_callB  call_isi (by rfl) T.b_isinstance (by decide +kernel) (pa_cons (pv 1) (pa_cons (pe_bltn (v := .ty "bool") rfl T.b_bool (by decide +kernel) rfl) pa_nil))))) (pss_one (L2N.ps_raise rfl (L2N.takes_of rfl rfl rfl rfl) (pmk_oexN (T.ex 3 (by decide)).ox (T.ex 3 (by decide)).ini T.t_E_init (ok_E_init T) (hr.mono (by decide)) T.bn_E_init .nil pass0 rfl T.g_BadWay (pa_cons (pv 1) pa_nil)))) pss_nil)
      (pss_one (ps_if (pt_not (pt_val (pe_callB  call_isi (by rfl) T.b_isinstance (by decide +kernel) (pa_cons (pv 2) (pa_cons (pe_bltn (v := .ty "bool") rfl T.b_bool (by decide +kernel) rfl) pa_nil))))) (pss_one (L2N.ps_raise rfl (L2N.takes_of rfl rfl rfl rfl) (pmk_oexN (T.ex 3 (by decide)).ox (T.ex 3 (by decide)).ini T.t_E_init (ok_E_init T) (hr.mono (by decide)) T.bn_E_init .nil pass0 rfl T.g_BadWay (pa_cons (pv 2) pa_nil)))) pss_nil)))), ?_⟩
    unfold verL at ok out
    refine ⟨_, rfl, v4, _, rfl, k4.i.whole, _, rfl, ?_⟩
    by_cases c1 : (isInt v4).isSome = true
    case neg =>
      rw [if_neg c1] at out
      rw [show (isInt v4).isSome = false by simpa using c1]
      exact iteT ⟨_, rfl, mkR (T.ex 2 (by decide)) (out _ _ rfl)⟩
    rw [if_pos c1] at ok out
    rw [c1]
    refine iteF ⟨_, rfl, _, _, t5, _, _, rfl, .ty "bool", ty5, e5, _, rfl, ?_⟩
    by_cases c2 : isBl v5 = true
    case neg =>
      rw [if_neg c2] at out
      rw [show isBl v5 = false by simpa using c2]
      exact iteT ⟨_, rfl, mkR (T.ex 3 (by decide)) (out _ _ rfl)⟩
    rw [if_pos c2] at ok out
    rw [c2]
    refine iteF ⟨_, rfl, _, _, t6, _, _, rfl, .ty "bool", ty6, e6, _, rfl, ?_⟩
    by_cases c3 : isBl v6 = true
    case neg =>
      rw [if_neg c3] at out
      rw [show isBl v6 = false by simpa using c3]
      exact iteT ⟨_, rfl, mkR (T.ex 3 (by decide)) (out _ _ rfl)⟩
    rw [if_pos c3] at ok
    rw [c3]
    exact iteF (ok rfl)
theorem ok_T_initN (T : Txt K mg Z) : FnOk P w K mg base (L2N.CX P w) 5 Z.f_T_init Z.d_T_init ["self", "first", "second", "length", "amount", "down", "backward"] (sp_T_initN Z K) := by
  refine T.F_T_init.ok sc_T_init (fun vs H Q E h => ?_) (fun cdv A outer s H vs Q E hr h => ?_)
  · obtain ⟨p, dx, v1, v2, v3, v4, v5, v6, rfl, _⟩ := h
    rfl
  · obtain ⟨p, dx, v1, v2, v3, v4, v5, v6, rfl, hp, k1, k2, k3, k4, k5, k6, fine, out⟩ := h
    refine ⟨_, (pss_cons (ps_expr (pe_call (ok_check_partsN T) (hr.mono (by decide)) rfl T.g_check_parts T.k_check_parts T.bn_check_parts .nil (L2N.passes_call (L2N.takes_of rfl rfl rfl rfl) (fun _ _ _ _ h => h)) (pa_cons (pv 1) (pa_cons (pv 2) (pa_cons (pv 3) pa_nil)))))
      (pss_cons (ps_expr (pe_call (ok_check_leadingN T) (hr.mono (by decide)) rfl T.g_check_leading T.k_check_leading T.bn_check_leading .nil (L2N.passes_call (L2N.takes_of rfl rfl rfl rfl) (fun _ _ _ _ h => h)) (pa_cons (pv 4) (pa_cons (pv 5) (pa_cons (pv 6) pa_nil)))))
      (pss_cons (ps_fld (pv 0) (pv 1) rfl)
      (pss_cons (ps_fld (pv 0) (pv 2) rfl)
      (pss_cons (ps_fld (pv 0) (pv 3) rfl)
      (pss_cons (ps_fld (pv 0) (pv 4) rfl)
      (pss_cons (ps_fld (pv 0) (pv 5) rfl)
      (pss_cons (ps_fld (pv 0) (pe_and (pv 6) (pe_one (pe_cmpR op_gt (pv 3) pe_int (nomark _)))) rfl)
      (pss_cons (ps_set (i := 7) sc_T_init.nd rfl (Or.inl rfl) (pe_ifExp (pt_val (pv 5)) pe_str pe_str))
      (pss_cons (ps_set (i := 8) sc_T_init.nd rfl (Or.inl rfl) (pe_ifExp (pt_val (pe_fld (pv 0) rfl)) pe_str pe_str))
      (pss_one (ps_fld (pv 0) (pe_joined (.cons (pe_fmt (pv 1)) (.cons pe_str (.cons (pe_fmt (pv 2)) (.cons pe_str (.cons (pe_fmt (pv 3)) (.cons pe_str (.cons (pe_fmt (pv 7)) (.cons pe_str (.cons (pe_fmt (pe_call (ok_written T) (hr.mono (by decide)) rfl T.g_written T.k_written T.bn_written .nil pass0 (pa_cons (pv 4) pa_nil))) (.cons (pe_fmt (pv 8)) .nil))))))))))) rfl)))))))))))), ?_⟩
    unfold ver at fine out
    refine ⟨_, rfl, _, rfl, _, rfl, v1, v2, v3, rfl, k1, k2, k3, fun e1 => ?_, fun i j e1 => ?_⟩
    case refine_2 =>
      rw [e1] at out
      have o := out _ _ rfl
      have lt := verP_lt e1
      rcases j with _ | _ | _ | j
      · exact o
      · exact o
      · exact o
      · omega
    rw [e1] at fine out
    refine ⟨_, rfl, _, rfl, _, rfl, v4, v5, v6, rfl, k4, k5, k6, fun e2 => ?_, fun i j e2 => ?_⟩
    case refine_2 => exact out i (j + 3) (by rw [e2] <;> rfl)
    obtain ⟨r, b, ev, ok, hb, k⟩ := fine (by rw [e2] <;> rfl)
    clear fine out e1 e2 k1 k2 k3 k4 k5 k6
    injection ev with e1 ev
    injection ev with e2 ev
    injection ev with e3 ev
    injection ev with e4 ev
    injection ev with e5 ev
    injection ev with e6 ev
    subst e1 e2 e3 e4 e5 e6
    refine ⟨_, rfl, _, rfl, p, _, dx, _, rfl, hp, T.cl, T.n_first, (by decide : 0 < 1000), ?_⟩
    refine ⟨_, rfl, _, rfl, p, _, dx, _, rfl, upd_same, T.cl, T.n_second, Nat.lt_of_le_of_lt (len1 r) (by decide), ?_⟩
    refine ⟨_, rfl, _, rfl, p, _, dx, _, rfl, upd_same, T.cl, T.n_length, Nat.lt_of_le_of_lt (len2 r) (by decide), ?_⟩
    refine ⟨_, rfl, _, rfl, p, _, dx, _, rfl, upd_same, T.cl, T.n_amount, Nat.lt_of_le_of_lt (len3 r) (by decide), ?_⟩
    refine ⟨_, rfl, _, rfl, p, _, dx, _, rfl, upd_same, T.cl, T.n_down, Nat.lt_of_le_of_lt (len4 r) (by decide), ?_⟩
    refine ⟨_, rfl, b, rfl, ?_⟩
    refine' share0 (fun tail => ite2 (fun c => ?b1) (fun c => ?b2)) ?b3
    case b1 =>
      refine ⟨_, rfl, _, _, rfl, rfl, ?_⟩
      have e : decide (1 < r.l) = r.b := by rw [hb, c] <;> rfl
      dsimp only
      rw [e]
      exact tail
    case b2 =>
      have e : V.bl false = V.bl r.b := by
        cases b with
        | true => exact absurd rfl c
        | false => rw [hb] <;> rfl
      dsimp only
      rw [e]
      exact tail
    case b3 =>
      have sl : sizeLine = 16777216 := sizeLine_eq
      have l30 : (10 : Int) ^ 30 < 10 ^ 31 := by decide +kernel
      have l64 : (10 : Int) ^ 60 < 10 ^ 64 := by decide +kernel
      have hf := ok.f0; have hs := ok.s0; have hl := ok.l0; have hfe := ok.fe; have hse := ok.se
      have ll1 := ok.al; have ll2 := ok.ah
      have zf : (Str.ofString (toString r.f)).length ≤ 31 := toString_length_le hf (by decide) (by omega)
      have zs : (Str.ofString (toString r.s)).length ≤ 31 := toString_length_le hs (by decide) (by omega)
      have zl : (Str.ofString (toString r.l)).length ≤ 31 := toString_length_le (by omega) (by decide) (by omega)
      have za : (shownInt r.a).length ≤ 66 := shown_len (by omega) (by omega)
      have z0 : Str.empty.length = 0 := rfl
      have z1 : (Str.ofString " ").length = 1 := by decide
      have zw : (Str.ofString "down").length = 4 := by decide
      have zu : (Str.ofString "up").length = 2 := by decide
      have zb : (Str.ofString " back").length = 5 := by decide
      have ze : (Str.ofString "").length = 0 := by decide
      have gf : r.f.natAbs.log2 < 1920 := log_lt hf (by omega)
      have gs : r.s.natAbs.log2 < 1920 := log_lt hs (by omega)
      have gl : r.l.natAbs.log2 < 1920 := log_lt (by omega) (by omega)
      refine ⟨_, rfl, p, _, dx, _, rfl, upd_same, T.cl, T.n_backward, Nat.lt_of_le_of_lt (len5 r) (by decide), _, rfl, r.d, rfl, ?_⟩
      refine ite2 (fun c1 => ?_) (fun c1 => ?_)
      all_goals
        refine ⟨_, rfl, p, _, dx, _, _, rfl, upd_same, T.cl, T.n_backward, fs6_backward r, r.b, rfl, ?_⟩
        refine ite2 (fun c2 => ?_) (fun c2 => ?_)
      all_goals
        refine ⟨_, rfl, .inr ⟨r.f, rfl, gf, _, rfl, by walk_at "len", _, rfl, by walk_at "len", ?_⟩⟩
        refine ⟨_, rfl, .inr ⟨r.s, rfl, gs, _, rfl, by walk_at "len", _, rfl, by walk_at "len", ?_⟩⟩
        refine ⟨_, rfl, .inr ⟨r.l, rfl, gl, _, rfl, by walk_at "len", _, rfl, by walk_at "len", ?_⟩⟩
        refine ⟨_, rfl, .inl ⟨_, rfl, by walk_at "len", _, rfl, by walk_at "len", _, rfl, by walk_at "len", ?_⟩⟩
        refine ⟨_, rfl, r.a, rfl, by omega, by omega, fun H' sm => .inl ⟨_, rfl, by walk_at "len", _, rfl, by walk_at "len", ?_⟩⟩
        refine ⟨_, rfl, .inl ⟨_, rfl, by walk_at "len", _, rfl, by walk_at "len", ?_⟩⟩
        refine ⟨_, rfl, p, _, dx, _, rfl, sm _ _ upd_same, T.cl, T.n_text, Nat.lt_of_le_of_lt (len6 r) (by decide), ?_⟩
        refine k _ ?_ ?_
        · have e : tieText r = Str.empty ++ Str.ofString (toString r.f) ++ Str.ofString " " ++ Str.ofString (toString r.s) ++ Str.ofString " " ++ Str.ofString (toString r.l) ++ Str.ofString " " ++ way r.d ++ Str.ofString " " ++ shownInt r.a ++ backs r.b := rfl
          simp only [way, backs, c1, c2, if_true, if_false, Bool.false_eq_true] at e
          unfold tfs
          rw [e]
          exact upd_same
        · intro q o n h
          rw [upd_ne n]
          refine sm _ _ ?_
          rw [upd_ne n, upd_ne n, upd_ne n, upd_ne n, upd_ne n, upd_ne n]
          exact h
end
end TT

set_option maxHeartbeats 4000000
namespace TT
open PySem PySem.Spec PyProof.Rows L2 LamX TL
/-! ### numbers read -/
def sp_number_of : Sp := fun vs H Q _ => ∃ d : Str, vs = [.str d] ∧ allDig (tl d) = true ∧ d.length ≤ 63 ∧ Q (.int ((NumText.digitsVal (tl d) : Nat) : Int)) H
/-- a number, or None -/
def numV : Option Int → V
  | some n => .int n
  | none => .non
def sp_number_in : Sp := fun vs H Q _ => ∃ w : Str, vs = [.str w] ∧ w.length ≤ 63 ∧ Q (numV (numRead w)) H
theorem small_none : ∀ n : Nat, n < 65 → Builtin.Range.small (n : Int) (n : Int) 64 = true := by decide +kernel
theorem range_none {n : Int} (h0 : 0 ≤ n) (h1 : n ≤ 64) : RgC n n 64 0 := by
  obtain ⟨m, rfl⟩ : ∃ m : Nat, n = (m : Int) := ⟨n.toNat, by omega⟩
  refine ⟨by decide, by decide, small_none m (by omega), ?_⟩
  unfold Builtin.Range.rangeSize
  simp
theorem shareS {T : Str → Prop} {G : Prop} (C : Str → Prop) (h : (∀ g, C g → T g) → G) (t : ∀ g, C g → T g) : G := h t
theorem cut_all {d : Str} {n : Int} (h : n = (d.length : Int)) : cutS d none (some n) = d := by
  subst h
  refine ext_tl ?_
  have hl := len_tl d
  have e2 : HT.sIx d.length d.length (some (d.length : Int)) = d.length := by
    show (if ((d.length : Nat) : Int) < 0 then (((d.length : Nat) : Int) + (d.length : Int)).toNat else min ((d.length : Nat) : Int).toNat d.length) = d.length
    rw [if_neg (by omega)]
    omega
  unfold cutS
  show (((tl d).drop (HT.sIx d.length 0 none)).take (HT.sIx d.length d.length (some (d.length : Int)) - HT.sIx d.length 0 none)) = tl d
  rw [e2]
  show ((tl d).drop 0).take (d.length - 0) = tl d
  rw [List.drop_zero]
  exact List.take_of_length_le (by omega)
section
variable {P : Program} {w : World} {K : PySem.W.Frag} {mg : Str → Option Value} {base : Heap} {Z : Zs}
theorem ok_number_of (T : Txt K mg Z) : FnOk P w K mg base CX0 1 Z.f_number_of Z.d_number_of ["digits"] sp_number_of := by
  refine T.F_number_of.ok sc_number_of (fun vs H Q E h => ?_) (fun cdv A outer s H vs Q E hr h => ?_)
  · obtain ⟨d, rfl, _⟩ := h
    rfl
  · obtain ⟨d, rfl, hd, hl, k⟩ := h
    have sl : sizeLine = 16777216 := sizeLine_eq
    refine ⟨_, (pss_cons (ps_set (i := 1) sc_number_of.nd rfl (Or.inl rfl) (pe_op op_mod (pe_callB  call_len_str (by rfl) T.b_len (by decide +kernel) (pa_cons (pv 0) pa_nil)) (pe_glob (v := .int 64) rfl T.c__DIGITS ⟨_, rfl⟩)))
      (pss_cons (ps_set (i := 2) sc_number_of.nd rfl (Or.inl rfl) (pe_callTy call_int_str (by rfl) T.b_int (by decide +kernel) (pa_cons (pe_op op_add_str pe_str (pe_slice sl_str (pv 0) po_none (po_some (pv 1)))) pa_nil)))
      (pss_cons (ps_for PassesOwn.never rfl (pi_range3 rfl T.b_range (pa_cons (pv 1) (pa_cons (pe_callB  call_len_str (by rfl) T.b_len (by decide +kernel) (pa_cons (pv 0) pa_nil)) (pa_cons (pe_glob (v := .int 64) rfl T.c__DIGITS ⟨_, rfl⟩) pa_nil)))) (pg_name (i := 3) sc_number_of.nd rfl (Or.inl rfl)) (pss_one (ps_set (i := 2) sc_number_of.nd rfl (Or.inl rfl) (pe_op op_add (pe_op op_mul (pv 2) (pe_glob (v := .int 10000000000000000000000000000000000000000000000000000000000000000) rfl T.c__CHUNK ⟨_, rfl⟩)) (pe_callTy call_int_str (by rfl) T.b_int (by decide +kernel) (pa_cons (pe_slice sl_str (pv 0) (po_some (pv 3)) (po_some (pe_op op_add (pv 3) (pe_glob (v := .int 64) rfl T.c__DIGITS ⟨_, rfl⟩)))) pa_nil))))))
      (pss_one (ps_ret (pv 2)))))), ?_⟩
    refine ⟨_, rfl, _, rfl, by omega, _, _, rfl, rfl, by show (0 : Int) < 64; decide, ?_⟩
    have hm : ((d.length : Nat) : Int) % 64 = (d.length : Int) := by omega
    have l0 : (Str.ofString "0").length = 1 := by decide
    refine ⟨_, rfl, _, rfl, _, rfl, d, rfl, by omega, ?_⟩
    rw [cut_all hm]
    refine ⟨_, _, rfl, rfl, by omega, _, _, rfl, int_zero hd (by omega), by rw [Str.length_append]; omega, ?_⟩
    refine ⟨_, rfl, _, rfl, _, rfl, by omega, _, _, _, 0, rfl, by rw [hm]; exact range_none (by omega) (by omega), ?_⟩
    refine for_rangeC (n := 0) (fun _ σ H' => σ = [some (.str d), some (.int (((d.length : Nat) : Int) % 64)), some (.int ((NumText.digitsVal (tl d) : Nat) : Int)), none] ∧ H' = H) ⟨rfl, rfl⟩ (fun i σ H' hi => absurd hi (Nat.not_lt_zero i)) ?_
    rintro σ H' ⟨rfl, rfl⟩
    exact ⟨_, rfl, k⟩
theorem ok_number_in (T : Txt K mg Z) : FnOk P w K mg base CX0 2 Z.f_number_in Z.d_number_in ["word"] sp_number_in := by
  refine T.F_number_in.ok sc_number_in (fun vs H Q E h => ?_) (fun cdv A outer s H vs Q E hr h => ?_)
  · obtain ⟨d, rfl, _⟩ := h
    rfl
  · obtain ⟨d, rfl, hl, k⟩ := h
    have sl : sizeLine = 16777216 := sizeLine_eq
    refine ⟨_, (pss_cons (ps_set (i := 1) sc_number_in.nd rfl (Or.inl rfl) (pe_ifExp (pt_val (pe_m1 PySem.F.slot_str_startswith PySem.F.type_str_startswith mt_startswith (pv 0) pe_str)) (pe_slice sl_str (pv 0) (po_some pe_int) po_none) (pv 0)))
      (pss_cons (ps_if (PW.pt (pw_or (pt_not (pt_val (pe_m0 PySem.F.slot_str_isascii PySem.F.type_str_isascii mt_isascii (pv 1)))) (pw_or1 (pt_not (pt_val (pe_m0 PySem.F.slot_str_isdigit PySem.F.type_str_isdigit mt_isdigit (pv 1))))))) (pss_one (ps_ret pe_non)) pss_nil)
      (pss_cons (ps_if (PW.pt (pw_and (pt_val (pe_m1 PySem.F.slot_str_startswith PySem.F.type_str_startswith mt_startswith (pv 1) pe_str)) (pw_and1 (pt_cmpR op_ne (pv 0) pe_str (nomark _))))) (pss_one (ps_ret pe_non)) pss_nil)
      (pss_cons (ps_set (i := 2) sc_number_in.nd rfl (Or.inl rfl) (pe_call (ok_number_of T) (hr.mono (by decide)) rfl T.g_number_of T.k_number_of T.bn_number_of .nil pass0 (pa_cons (pv 1) pa_nil)))
      (pss_one (ps_ret (pe_ifExp (pt_cmpR op_eq (pv 1) (pv 0) (nomark _)) (pv 2) (pe_un un_neg (pv 2))))))))), ?_⟩
    have sm : Txt.startswith d (Str.ofString "-") = ((tl d).head? == some 45) := by
      rw [show Str.ofString "-" = ⟨#[45]⟩ by decide +kernel]
      exact starts_one d 45
    refine ⟨_, rfl, ⟨_, rfl⟩, _, _, rfl, rfl, _, rfl, ?_⟩
    refine' shareS (fun g => tl g = digs d) (fun tail => ite2 (fun c => ?b1) (fun c => ?b2)) ?b3
    case b1 =>
      rw [sm] at c
      refine ⟨_, rfl, _, rfl, d, rfl, by omega, ?_⟩
      obtain ⟨g, hg⟩ : ∃ g, g = cutS d (some 1) none := ⟨_, rfl⟩
      rw [← hg]
      refine tail g ?_
      rw [hg, cut_one]
      unfold digs
      rw [if_pos (by simpa using c)]
    case b2 =>
      rw [sm] at c
      refine ⟨_, rfl, tail d ?_⟩
      unfold digs
      rw [if_neg (by simpa using c)]
    case b3 =>
      intro g hg
      have hlg : g.length ≤ 63 := by
        rw [len_tl, hg]
        have := len_tl d
        unfold digs
        split
        · rw [List.length_drop]
          omega
        · omega
      have same : decide (V.str g = V.str d) = !decide ((tl d).head? = some 45) := by
        rw [str_eq_tl, hg]
        unfold digs
        by_cases c : (tl d).head? = some 45
        · rw [if_pos c, decide_eq_true c]
          rw [decide_eq_false]
          · rfl
          · intro z
            have := congrArg List.length z
            rw [List.length_drop] at this
            cases e : tl d with
            | nil => rw [e] at c; simp at c
            | cons a l => rw [e] at this; simp at this
        · rw [if_neg c, decide_eq_false c, decide_eq_true rfl]
          rfl
      refine ⟨_, rfl, ⟨_, rfl⟩, _, rfl, rfl, trivial, _, rfl, ?_⟩
      by_cases ad : allDig (tl g) = true
      case neg =>
        have nr : numRead d = none := by
          unfold numRead
          rw [← hg, if_neg ad]
        rw [nr] at k
        cases ha : Txt.isascii g with
        | false => exact iteT (iteT k)
        | true =>
          refine iteF ⟨_, rfl, ⟨_, rfl⟩, _, rfl, rfl, trivial, _, rfl, ?_⟩
          rw [isdigit_ascii g ha, show allDig (tl g) = false by simpa using ad]
          exact iteT k
      case pos =>
        rw [ascii_of ad]
        refine iteF ⟨_, rfl, ⟨_, rfl⟩, _, rfl, rfl, trivial, _, rfl, ?_⟩
        rw [isdigit_ascii g (ascii_of ad), ad]
        have s0 : Txt.startswith g (Str.ofString "0") = ((tl g).head? == some 48) := by
          rw [show Str.ofString "0" = ⟨#[48]⟩ by decide +kernel]
          exact starts_one g 48
        have e0 : decide (V.str d = V.str (Str.ofString "0")) = decide (tl d = [48]) := by
          rw [str_eq_tl]
          rfl
        refine iteF ⟨_, rfl, ⟨_, rfl⟩, _, _, rfl, rfl, _, rfl, ?_⟩
        rw [s0]
        have fin : ¬ ((digs d).head? = some 48 ∧ tl d ≠ [48]) → Q (.int (if (tl d).head? = some 45 then -((NumText.digitsVal (tl g) : Nat) : Int) else ((NumText.digitsVal (tl g) : Nat) : Int))) H := fun no => by
          unfold numRead at k
          rw [← hg, if_pos ad, if_neg (by rw [hg]; exact no)] at k
          exact k
        by_cases c45 : (tl d).head? = some 45
        all_goals
          have same' := same
          first
            | rw [decide_eq_true c45] at same'
            | rw [decide_eq_false c45] at same'
          first
            | rw [if_pos c45] at fin
            | rw [if_neg c45] at fin
          by_cases z : (tl g).head? = some 48
          · rw [show ((tl g).head? == some 48) = true by rw [z]; rfl]
            refine iteT ⟨_, rfl, rfl, _, rfl, ?_⟩
            rw [e0]
            by_cases z2 : tl d = [48]
            · rw [decide_eq_true z2]
              refine iteF ⟨_, rfl, g, rfl, ad, hlg, _, rfl, _, rfl, rfl, _, rfl, ?_⟩
              rw [same']
              first
                | exact iteF ⟨_, rfl, _, rfl, fin fun q => q.2 z2⟩
                | exact iteT ⟨_, rfl, fin fun q => q.2 z2⟩
            · rw [decide_eq_false z2]
              have nr : numRead d = none := by
                unfold numRead
                rw [← hg, if_pos ad, if_pos ⟨z, z2⟩]
              rw [nr] at k
              exact iteT k
          · rw [show ((tl g).head? == some 48) = false by simpa using z]
            refine iteF (iteF ⟨_, rfl, g, rfl, ad, hlg, _, rfl, _, rfl, rfl, _, rfl, ?_⟩)
            rw [same']
            first
              | exact iteF ⟨_, rfl, _, rfl, fin fun q => z (hg ▸ q.1)⟩
              | exact iteT ⟨_, rfl, fin fun q => z (hg ▸ q.1)⟩
end
end TT

set_option maxHeartbeats 4000000
namespace TT
open PySem PySem.Spec PyProof.Rows L2 LamX TL
/-! ### texts of ties read -/
def six (r : Row) (bk : Bool) : List V := [.int r.f, .int r.s, .int r.l, .int r.a, .bl r.d, .bl bk]
def wordsOf (r : Row) (bk : Bool) : List Str := [Str.ofString (toString r.f), Str.ofString (toString r.s), Str.ofString (toString r.l), way r.d, shownInt r.a] ++ (if bk = true then [Str.ofString "back"] else [])
def rowText (r : Row) (bk : Bool) : Str := Txt.join (Str.ofString " ") (wordsOf r bk)
theorem nat_of {n : Int} (h : 0 ≤ n) : ∃ m : Nat, n = (m : Int) := ⟨n.toNat, by omega⟩
theorem tl_int {n : Int} (h : 0 ≤ n) : tl (Str.ofString (toString n)) = numL n.toNat := by
  obtain ⟨m, rfl⟩ := nat_of h
  rw [tl_num] <;> rfl
theorem read_int {n : Int} (h : 0 ≤ n) : numRead (Str.ofString (toString n)) = some n := by
  obtain ⟨m, rfl⟩ := nat_of h
  exact numRead_nat m
theorem read_shown (n : Int) : numRead (shownInt n) = some n := by
  unfold shownInt
  split
  · obtain ⟨m, hm⟩ := nat_of (n := -n) (by omega)
    rw [hm, numRead_neg (by omega)]
    congr 1
    omega
  · exact read_int (by omega)
theorem shown_free {n : Int} {c : Nat} (h : c < 45 ∨ 57 < c) : c ∉ tl (shownInt n) := by
  unfold shownInt
  split
  · rw [tl_append, tl_int (by omega)]
    intro z
    rcases List.mem_append.mp z with z | z
    · have : tl (Str.ofString "-") = [45] := by decide +kernel
      rw [this] at z
      simp at z
      omega
    · exact numL_free (by omega) z
  · rw [tl_int (by omega)]
    exact numL_free (by omega)
theorem shown_len60 {n : Int} (h0 : -(10 ^ 60) < n) (h1 : n < 10 ^ 60) : (shownInt n).length ≤ 61 := by
  unfold shownInt
  split
  · have := toString_length_le (v := -n) (by omega) (k := 60) (by decide) (by omega)
    have e : (Str.ofString "-").length = 1 := by decide
    rw [Str.length_append]
    omega
  · have := toString_length_le (v := n) (by omega) (k := 60) (by decide) h1
    omega
theorem tieText_eq (r : Row) : tieText r = rowText r r.b := by
  refine ext_tl ?_
  unfold tieText rowText wordsOf backs
  rw [show Txt.join (Str.ofString " ") ([Str.ofString (toString r.f), Str.ofString (toString r.s), Str.ofString (toString r.l), way r.d, shownInt r.a] ++ (if r.b = true then [Str.ofString "back"] else [])) = _ from join_eq _ _, tl_join]
  have e0 : tl Str.empty = [] := rfl
  have e1 : tl (Str.ofString " back") = tl (Str.ofString " ") ++ tl (Str.ofString "back") := by decide +kernel
  cases r.b <;> simp [tl_append, joinL, e0, e1, show tl (Str.ofString "") = [] from rfl]
theorem word_free {r : Row} (ok : r.Ok) {bk : Bool} {c : Nat} (hc : c = 32 ∨ c = 10) : ∀ p ∈ wordsOf r bk, c ∉ tl p := by
  intro p hp
  have hf := ok.f0; have hs := ok.s0; have hl := ok.l0
  have fr : ∀ {n : Int}, 0 ≤ n → c ∉ tl (Str.ofString (toString n)) := fun h => by
    rw [tl_int h]
    exact numL_free (by omega)
  unfold wordsOf at hp
  rcases List.mem_append.mp hp with hp | hp
  · simp only [List.mem_cons, List.not_mem_nil, or_false] at hp
    rcases hp with rfl | rfl | rfl | rfl | rfl
    · exact fr hf
    · exact fr hs
    · exact fr (by omega)
    · unfold way
      split <;> rcases hc with rfl | rfl <;> decide +kernel
    · exact shown_free (by omega)
  · split at hp
    · rw [List.mem_singleton.mp hp]
      rcases hc with rfl | rfl <;> decide +kernel
    · cases hp
theorem sp_tl : tl (Str.ofString " ") = [32] := by decide +kernel
theorem split_row {r : Row} (ok : r.Ok) (bk : Bool) : Txt.split (rowText r bk) (Str.ofString " ") = wordsOf r bk :=
  split_join (s := 32) (S := []) sp_tl (by decide +kernel) (by unfold wordsOf; simp) (word_free ok (.inl rfl))
theorem row_len {r : Row} (ok : r.Ok) (bk : Bool) : (rowText r bk).length ≤ 200 := by
  have j := StrLaws.join_length_le (Str.ofString " ") (wordsOf r bk)
  have e : rowText r bk = (Str.ofString " ").join (wordsOf r bk) := join_eq _ _
  have hf := ok.f0; have hs := ok.s0; have hl := ok.l0; have hfe := ok.fe; have hse := ok.se
  have l30 : (10 : Int) ^ 30 < 10 ^ 31 := by decide +kernel
  have zf : (Str.ofString (toString r.f)).length ≤ 31 := toString_length_le hf (by decide) (by omega)
  have zs : (Str.ofString (toString r.s)).length ≤ 31 := toString_length_le hs (by decide) (by omega)
  have zl : (Str.ofString (toString r.l)).length ≤ 31 := toString_length_le (by omega) (by decide) (by omega)
  have za := shown_len60 ok.al ok.ah
  have zw : (way r.d).length ≤ 4 := by
    unfold way
    split <;> decide
  have z1 : (Str.ofString " ").length = 1 := by decide
  have zb : (Str.ofString "back").length = 4 := by decide
  rw [e]
  refine Nat.le_trans j ?_
  rw [z1]
  unfold wordsOf
  cases bk <;> simp only [Bool.false_eq_true, if_true, if_false, List.cons_append, List.nil_append, List.append_nil, List.map_cons, List.map_nil, List.sum_cons, List.sum_nil, List.length_cons, List.length_nil] <;> omega
section
variable {P : Program} {w : World} {K : PySem.W.Frag} {mg : Str → Option Value} {base : Heap} {Z : Zs}
end
end TT


set_option maxHeartbeats 4000000
namespace TT
open PySem PySem.Spec PyProof.Rows L2 LamX TL L2H HotX
/-! ### what any text tells -/
theorem val_lt : ∀ (n : Nat) (cs : List Nat), cs.length = n → NumText.AllDigits cs → NumText.digitsVal cs < 10 ^ n := by
  intro n
  induction n with
  | zero =>
    intro cs hl _
    rw [List.length_eq_zero_iff.mp hl]
    decide
  | succ n ih =>
    intro cs hl h
    have ne : cs ≠ [] := by
      rintro rfl
      cases hl
    have e := List.dropLast_concat_getLast ne
    have h0 := ih cs.dropLast (by rw [List.length_dropLast]; omega) (fun x hx => h x (List.dropLast_subset _ hx))
    have hc := h _ (List.getLast_mem ne)
    rw [← e, NumText.digitsVal_snoc, Nat.pow_succ]
    omega
/-- a raw row: backward as it is written -/
def quad (a b c d e : Str) (bk : Bool) : Option Row :=
  if d = Str.ofString "up" ∨ d = Str.ofString "down" then
    match numRead a, numRead b, numRead c, numRead e with
    | some f, some s, some l, some m => some ⟨f, s, l, m, decide (d = Str.ofString "down"), bk⟩
    | _, _, _, _ => none
  else none
def vals : List Str → Option Row
  | [a, b, c, d, e] => quad a b c d e false
  | [a, b, c, d, e, f] => if f = Str.ofString "back" then quad a b c d e true else none
  | _ => none
def NoStr (K : PySem.W.Frag) (H : Hp) (v : V) : Prop := ∃ t, TyX K H v t ∧ PySem.W.kitOne K t (.type "str") = some false
/-- a text that is read: not too long, nor its words -/
structure Fine (t : Str) : Prop where
  len : t.length ≤ 1000
  wd : ∀ p ∈ Txt.split t (Str.ofString " "), p.length ≤ 50
  ok : ∀ p ∈ Txt.split t (Str.ofString " "), PyData.strOk p = true
def sp_values_any (K : PySem.W.Frag) : Sp := fun vs H Q _ => ∃ v, vs = [v] ∧ ((∃ t, v = .str t ∧ Fine t ∧
  (∀ r, vals (Txt.split t (Str.ofString " ")) = some r → ∀ x H', H x = none → Same H H' → H' x = some (.tup r.vs) → Q (.ref x) H') ∧ (vals (Txt.split t (Str.ofString " ")) = none → ∀ H', Same H H' → Q .non H')) ∨ (NoStr K H v ∧ Q .non H))
theorem in_way (d : Str) : inV (V.str d) [V.str (Str.ofString "up"), V.str (Str.ofString "down")] = decide (d = Str.ofString "up" ∨ d = Str.ofString "down") := by
  have e : ∀ a b : Str, eqV (V.str a) (V.str b) = decide (b = a) := fun a b => by
    by_cases c : b = a
    · subst c
      simp [eqV]
    · rw [decide_eq_false c]
      simp [eqV]
      exact fun z => c z.symm
  simp [inV, List.any, e]
theorem shapes (ws : List Str) : (∃ a b c d e, ws = [a, b, c, d, e]) ∨ (∃ a b c d e f, ws = [a, b, c, d, e, f]) ∨ (ws.length ≠ 5 ∧ ws.length ≠ 6 ∧ vals ws = none) := by
  match ws with
  | [a, b, c, d, e] => exact .inl ⟨a, b, c, d, e, rfl⟩
  | [a, b, c, d, e, f] => exact .inr (.inl ⟨a, b, c, d, e, f, rfl⟩)
  | [] => exact .inr (.inr ⟨by decide, by decide, rfl⟩)
  | [_] => exact .inr (.inr ⟨by simp, by simp, rfl⟩)
  | [_, _] => exact .inr (.inr ⟨by simp, by simp, rfl⟩)
  | [_, _, _] => exact .inr (.inr ⟨by simp, by simp, rfl⟩)
  | [_, _, _, _] => exact .inr (.inr ⟨by simp, by simp, rfl⟩)
  | _ :: _ :: _ :: _ :: _ :: _ :: _ :: l => exact .inr (.inr ⟨by simp, by simp, rfl⟩)
section
variable {P : Program} {w : World} {K : PySem.W.Frag} {mg : Str → Option Value} {base : Heap} {Z : Zs}
theorem ok_E_initH (T : Txt K mg Z) : FnH P w K mg base CX0 1 Z.f_E_init Z.d_E_init ["self", "value"] (sp_E_init K Z) := by
  refine T.F_E_init.okH sc_E_init (fun vs H Q E h => ?_) (fun cdv A outer s H vs Q E p hot hr h => ?_)
  · obtain ⟨a, C, v, rfl, _⟩ := h
    rfl
  · obtain ⟨a, C, v, rfl, ha, X, k⟩ := h
    refine ⟨_, (pss_cons (ps_expr (pe_veinit rfl T.b_ValueError T.z_ve (pa_cons (pv 0) (pa_cons (pv 1) pa_nil))))
      (pss_one (ps_ost (pv 0) (pv 1)))), ?_⟩
    refine ⟨_, rfl, _, rfl, a, C, [v], rfl, by show 1 ≤ 1000; decide, X.ox, ha, ?_⟩
    refine ⟨_, rfl, _, rfl, a, C, rfl, X.ox, X.nv, .inl ⟨ha, fun d hd hne => ?_⟩⟩
    refine k d _ (fun b o n e => ?_) hd upd_same ?_
    · rw [upd_ne n, upd_ne (ne_of_none e hd)]
      exact e
    · rw [upd_ne hne]
      exact upd_same
theorem ok_values_in (T : Txt K mg Z) : FnOk P w K mg base CX0 3 Z.f_values_in Z.d_values_in ["text"] (sp_values_any K) := by
  refine T.F_values_in.ok sc_values_in (fun vs H Q E h => ?_) (fun cdv A outer s H vs Q E hr h => ?_)
  · obtain ⟨v, rfl, _⟩ := h
    rfl
  · obtain ⟨v, rfl, h⟩ := h
    have sl : sizeLine = 16777216 := sizeLine_eq
    refine ⟨_, (pss_cons (ps_if (pt_not (pt_val (pe_callB  call_isi (by rfl) T.b_isinstance (by decide +kernel) (pa_cons (pv 0) (pa_cons (pe_bltn (v := .ty "str") rfl T.b_str (by decide +kernel) rfl) pa_nil))))) (pss_one (ps_ret pe_non)) pss_nil)
      (pss_cons (ps_set (i := 1) sc_values_in.nd rfl (Or.inl rfl) (pe_split (pv 0) pe_str))
      (pss_cons (ps_set (i := 2) sc_values_in.nd rfl (Or.inl rfl) (pe_and (pe_cmpR op_eq (pe_callB  call_len (by rfl) T.b_len (by decide +kernel) (pa_cons (pv 1) pa_nil)) pe_int (nomark _)) (pe_one (pe_cmpR op_eq (pe_ix ix_list (pv 1) pe_int (fun _ _ => rfl)) pe_str (nomark _)))))
      (pss_cons (ps_if (PW.pt (pw_or (PW.pt (pw_and (pt_cmpR op_ne (pe_callB  call_len (by rfl) T.b_len (by decide +kernel) (pa_cons (pv 1) pa_nil)) pe_int (nomark _)) (pw_and1 (pt_not (pt_val (pv 2)))))) (pw_or1 (pt_cmpR op_notIn_seq (pe_ix ix_list (pv 1) pe_int (fun _ _ => rfl)) (pe_tup (pa_cons pe_str (pa_cons pe_str pa_nil))) (by with_unfolding_all rfl))))) (pss_one (ps_ret pe_non)) pss_nil)
      (pss_cons (ps_setLc (i := 3) (own := [("word", 4)]) rfl sc_values_in.nd rfl rfl (sw_true rfl rfl rfl (by decide +kernel)) (pi_tup (pe_tup (pa_cons (pe_ix ix_list (pv 1) pe_int (fun _ _ => rfl)) (pa_cons (pe_ix ix_list (pv 1) pe_int (fun _ _ => rfl)) (pa_cons (pe_ix ix_list (pv 1) pe_int (fun _ _ => rfl)) (pa_cons (pe_ix ix_list (pv 1) pe_int (fun _ _ => rfl)) pa_nil)))))) (blkOk_by (own := [("word", 4)]) (N := ["text", "words", "backward", "numbers", "word"]) (sc := defScope s_values_in) (by decide +kernel)) (fun _ _ _ _ _ => (pg_name (i := 4) sc_values_in.nd rfl (Or.inl rfl))) (fun _ _ _ _ _ => pts_nil) (fun _ _ _ _ _ => (pe_call (ok_number_in T) (hr.mono (by decide)) rfl T.g_number_in T.k_number_in T.bn_number_in .nil pass0 (pa_cons (pv 4) pa_nil))))
      (pss_cons (ps_if (pt_cmpR op_in_seq pe_non (pv 3) (by with_unfolding_all rfl)) (pss_one (ps_ret pe_non)) pss_nil)
      (pss_one (ps_ret (pe_tup (StX.pa_star (pv 3) (pa_cons (pe_cmpR op_eq (pe_ix ix_list (pv 1) pe_int (fun _ _ => rfl)) pe_str (nomark _)) (pa_cons (pv 2) pa_nil)))))))))))), ?_⟩
    rcases h with ⟨t, rfl, fine, some_, none_⟩ | ⟨⟨ty, ht, hk⟩, k⟩
    case inr => exact ⟨_, rfl, _, _, _, _, false, rfl, .ty "str", ht, hk, false, rfl, iteT k⟩
    refine ⟨_, rfl, _, _, _, _, true, rfl, .ty "str", .base (.str _), kit_ty (by decide +kernel), true, rfl, iteF ?_⟩
    have l1 : (Str.ofString " ").length = 1 := by decide
    have tl_ := fine.len
    refine ⟨_, rfl, ⟨_, rfl⟩, _, _, rfl, rfl, by decide, by omega, fun wl hwl => ?_⟩
    have wd := fine.wd
    generalize Txt.split t (Str.ofString " ") = ws at *
    have sW := Same.new (o := .lst (ws.map V.str)) (Same.refl H) hwl
    have atW : upd H wl (.lst (ws.map V.str)) wl = some (.lst (ws.map V.str)) := upd_same
    generalize upd H wl (.lst (ws.map V.str)) = H1 at sW atW ⊢
    have stop : ∀ {H' : Hp}, vals ws = none → Same H H' → Q .non H' := fun e s => none_ e _ s
    have b5 : ∀ n : Nat, n = 5 → V.bl (decide (V.int (n : Int) = V.int 6)) = V.bl false := fun n e => by subst e; decide
    have b6 : ∀ n : Nat, n = 6 → V.bl (decide (V.int (n : Int) = V.int 6)) = V.bl true := fun n e => by subst e; decide
    have c5 : ∀ n : Nat, n = 5 → (V.bl !decide (V.int (n : Int) = V.int 5)) = V.bl false := fun n e => by subst e; decide
    have c6 : ∀ n : Nat, n = 6 → (V.bl !decide (V.int (n : Int) = V.int 5)) = V.bl true := fun n e => by subst e; decide
    rcases shapes ws with ⟨a, b, c, d, e, rfl⟩ | ⟨a, b, c, d, e, f, rfl⟩ | ⟨n5, n6, nv⟩
    case inr.inr =>
      refine ⟨_, rfl, _, _, rfl, .inl ⟨_, SqL.of atW, rfl⟩, rfl, false, ?_, iteF ?_⟩
      · rw [List.length_map]
        exact congrArg V.bl (decide_eq_false fun e => n6 (by injection e with e; omega))
      refine ⟨_, rfl, _, _, rfl, .inl ⟨_, SqL.of atW, rfl⟩, rfl, true, ?_, iteT ⟨_, rfl, false, rfl, ?_⟩⟩
      · rw [List.length_map]
        refine congrArg V.bl ?_
        rw [decide_eq_false fun e => n5 (by injection e with e; omega)]
        rfl
      exact iteT (iteT (stop nv sW))
    -- five words of the form, or six
    case' inl =>
      have hv : vals [a, b, c, d, e] = quad a b c d e false := rfl
      refine ⟨_, rfl, _, _, rfl, .inl ⟨_, SqL.of atW, rfl⟩, rfl, false, b5 _ rfl, iteF ?_⟩
      refine ⟨_, rfl, _, _, rfl, .inl ⟨_, SqL.of atW, rfl⟩, rfl, false, c5 _ rfl, iteF ?_⟩
    case' inr.inl =>
      have hv : vals [a, b, c, d, e, f] = if f = Str.ofString "back" then quad a b c d e true else none := rfl
      refine ⟨_, rfl, _, _, rfl, .inl ⟨_, SqL.of atW, rfl⟩, rfl, true, b6 _ rfl, iteT ⟨_, rfl, wl, _, _, _, rfl, rfl, SqL.of atW, rfl, rfl, ?_⟩⟩
      by_cases cf : f = Str.ofString "back"
      case neg =>
        rw [if_neg cf] at hv
        rw [show decide (V.str f = V.str (Str.ofString "back")) = false from decide_eq_false fun z => cf (V.str.inj z)]
        refine ⟨_, rfl, _, _, rfl, .inl ⟨_, SqL.of atW, rfl⟩, rfl, true, c6 _ rfl, iteT ⟨_, rfl, false, rfl, ?_⟩⟩
        exact iteT (iteT (stop hv sW))
      rw [if_pos cf] at hv
      rw [show decide (V.str f = V.str (Str.ofString "back")) = true from decide_eq_true (by rw [cf])]
      refine ⟨_, rfl, _, _, rfl, .inl ⟨_, SqL.of atW, rfl⟩, rfl, true, c6 _ rfl, iteT ⟨_, rfl, true, rfl, ?_⟩⟩
      show if false = true then _ else _
      refine iteF ?_
    all_goals
      have za := wd a (by simp)
      have zb := wd b (by simp)
      have zc := wd c (by simp)
      have ze := wd e (by simp)
      refine ⟨_, rfl, wl, _, _, _, rfl, rfl, SqL.of atW, rfl, by show 2 ≤ sizeLine; decide, fun t0 ht0 => ⟨t0, _, rfl, .inr (SqT.of upd_same), rfl, rfl, !inV (V.str d) [V.str (Str.ofString "up"), V.str (Str.ofString "down")], rfl, ?_⟩⟩
      have s2 := Same.new (o := .tup [.str (Str.ofString "up"), .str (Str.ofString "down")]) (Same.refl H1) ht0
      rw [in_way]
      by_cases cd : d = Str.ofString "up" ∨ d = Str.ofString "down"
      case neg =>
        rw [decide_eq_false cd]
        exact iteT (stop (by rw [hv]; exact if_neg cd) (sW.trans s2))
      rw [decide_eq_true cd]
      refine iteF ?_
      have at2 := s2 _ _ atW
      generalize upd H1 t0 (.tup [.str (Str.ofString "up"), .str (Str.ofString "down")]) = H2 at s2 at2 ⊢
      refine ⟨_, rfl, wl, _, _, _, rfl, rfl, SqL.of at2, rfl, _, rfl, wl, _, _, _, rfl, rfl, SqL.of at2, rfl, _, rfl, wl, _, _, _, rfl, rfl, SqL.of at2, rfl, _, rfl, wl, _, _, _, rfl, rfl, SqL.of at2, rfl, by show 4 ≤ sizeLine; decide, fun t1 ht1 => ⟨t1, rfl, ⟨_, SqT.of upd_same⟩, fun D hD => ?_⟩⟩
      have s3 := Same.new (o := .tup [.str a, .str b, .str c, .str e]) (Same.refl H2) ht1
      have at3 : upd H2 t1 (.tup [.str a, .str b, .str c, .str e]) t1 = some (.tup [.str a, .str b, .str c, .str e]) := upd_same
      have hD' : upd H2 t1 (.tup [.str a, .str b, .str c, .str e]) D = none := hD
      clear hD
      generalize upd H2 t1 (.tup [.str a, .str b, .str c, .str e]) = H3 at s3 at3 hD' ⊢
      have sD := Same.new (o := .lst []) (Same.refl H3) hD'
      refine lc_tup (xs := [.str a, .str b, .str c, .str e]) (fun i H' => H' D = some (.lst ([numV (numRead a), numV (numRead b), numV (numRead c), numV (numRead e)].take i)) ∧ Same H3 H') ⟨upd_same, sD⟩ (fun i H' _ h => SqT.of (h.2 _ _ at3)) ?_ ?_
      · rintro i x H' hi ⟨hDi, sm⟩
        refine ⟨rfl, ?_⟩
        unfold tYes
        refine iteT ?_
        have i4 : i < 4 := (List.getElem?_eq_some_iff.mp hi).1
        have put : ∀ (o : HO) (b : Addr) (u : HO), H3 b = some u → upd H' D o b = some u := fun o b u eb => by
          rw [upd_ne (ne_of_none eb hD')]
          exact sm b u eb
        rcases i with _ | _ | _ | _ | i
        · obtain rfl := Option.some.inj hi
          exact ⟨_, rfl, _, rfl, by omega, _, hDi, by show 0 < sizeLine; decide, upd_same, put _⟩
        · obtain rfl := Option.some.inj hi
          exact ⟨_, rfl, _, rfl, by omega, _, hDi, by show 1 < sizeLine; decide, upd_same, put _⟩
        · obtain rfl := Option.some.inj hi
          exact ⟨_, rfl, _, rfl, by omega, _, hDi, by show 2 < sizeLine; decide, upd_same, put _⟩
        · obtain rfl := Option.some.inj hi
          exact ⟨_, rfl, _, rfl, by omega, _, hDi, by show 3 < sizeLine; decide, upd_same, put _⟩
        · omega
      · rintro H4 ⟨hD4, s4⟩
        have sN := ((sW.trans s2).trans s3).trans s4
        have at4 := s4 _ _ (s3 _ _ at2)
        cases ha : numRead a <;> cases hb : numRead b <;> cases hc : numRead c <;> cases he : numRead e <;> rw [ha, hb, hc, he] at hD4
        case some.some.some.some =>
          refine ⟨_, rfl, D, _, rfl, .inl (SqL.of hD4), rfl, rfl, false, rfl, iteF ?_⟩
          refine ⟨_, rfl, D, _, rfl, .inr (SqL.of hD4), _, rfl, wl, _, _, _, rfl, rfl, SqL.of at4, rfl, rfl, ?_⟩
          rw [show decide (V.str d = V.str (Str.ofString "down")) = decide (d = Str.ofString "down") by by_cases z : d = Str.ofString "down" <;> simp [z]]
          refine ⟨_, rfl, by show 6 ≤ sizeLine; decide, fun x hx => ?_⟩
          exact some_ _ (by rw [hv]; unfold quad; rw [if_pos cd, ha, hb, hc, he]) x _ (L2.Same.free sN hx) (Same.new sN hx) upd_same
        all_goals exact ⟨_, rfl, D, _, rfl, .inl (SqL.of hD4), rfl, rfl, true, rfl, iteT (stop (by rw [hv]; unfold quad; rw [if_pos cd, ha, hb, hc, he]) sN)⟩
end
end TT

set_option maxHeartbeats 4000000
namespace TT
open PySem PySem.Spec PyProof.Rows L2 LamX TL L2H HotX
/-! ### Tie.of, of any value -/
theorem Out.mono {E : XK} {C : Addr} {v : V} {H H1 : Hp} (o : Out E C v H) (s : Same H H1) : Out E C v H1 := fun d H' s' hd e => o d H' (s.trans s') (L2.Same.free s hd) e
def Row.Fits (r : Row) : Prop := 0 ≤ r.f ∧ 0 ≤ r.s ∧ 1 ≤ r.l ∧ (if r.s > r.f then r.s else r.f) + r.l ≤ 10 ^ 30
instance (r : Row) : Decidable r.Fits := by unfold Row.Fits; infer_instance
/-- the tie of a raw row -/
def Row.tied (r : Row) : Row := ⟨r.f, r.s, r.l, r.a, r.d, r.b && decide (1 < r.l)⟩
/-- the tie that a text tells -/
def tieOf (t : Str) : Option Row := match vals (Txt.split t (Str.ofString " ")) with
  | some r => if r.Fits then some r.tied else none
  | none => none
theorem numRead_bd {w : Str} {n : Int} (h : w.length ≤ 50) (e : numRead w = some n) : -(10 ^ 60) < n ∧ n < 10 ^ 60 := by
  unfold numRead at e
  by_cases a : allDig (digs w) = true
  · rw [if_pos a] at e
    by_cases b : (digs w).head? = some 48 ∧ tl w ≠ [48]
    · rw [if_pos b] at e
      cases e
    · rw [if_neg b] at e
      have hl : (digs w).length ≤ 50 := by
        have := len_tl w
        unfold digs
        split
        · rw [List.length_drop]
          omega
        · omega
      have v := val_lt _ (digs w) rfl (allDig_iff.mp a).2
      have v2 : NumText.digitsVal (digs w) < 10 ^ 50 := Nat.lt_of_lt_of_le v (Nat.pow_le_pow_right (by decide) hl)
      have e50 : ((10 ^ 50 : Nat) : Int) < 10 ^ 60 := by decide +kernel
      have v3 : ((NumText.digitsVal (digs w) : Nat) : Int) < ((10 ^ 50 : Nat) : Int) := Int.ofNat_lt.mpr v2
      have e := Option.some.inj e
      generalize ((10 ^ 50 : Nat) : Int) = m at *
      split at e <;> omega
  · rw [if_neg a] at e
    cases e
theorem quad_a {a b c d e : Str} {bk : Bool} {r : Row} (h : quad a b c d e bk = some r) : numRead e = some r.a := by
  unfold quad at h
  split at h
  · split at h
    · rename_i h4
      cases h
      exact h4
    · cases h
  · cases h
theorem vals_a {ws : List Str} {r : Row} (w : ∀ p ∈ ws, p.length ≤ 50) (h : vals ws = some r) : -(10 ^ 60) < r.a ∧ r.a < 10 ^ 60 := by
  rcases shapes ws with ⟨a, b, c, d, e, rfl⟩ | ⟨a, b, c, d, e, f, rfl⟩ | ⟨_, _, n⟩
  · have h' : quad a b c d e false = some r := h
    exact numRead_bd (w e (by simp)) (quad_a h')
  · have h' : (if f = Str.ofString "back" then quad a b c d e true else none) = some r := h
    split at h'
    · exact numRead_bd (w e (by simp)) (quad_a h')
    · cases h'
  · rw [n] at h
    cases h
theorem Row.tied_ok {r : Row} (h : r.Fits) (a : -(10 ^ 60) < r.a ∧ r.a < 10 ^ 60) : r.tied.Ok := by
  obtain ⟨h1, h2, h3, h4⟩ := h
  refine ⟨h1, h2, h3, ?_, ?_, a.1, a.2, fun b => ?_⟩
  · show r.f + r.l ≤ 10 ^ 30
    split at h4 <;> omega
  · show r.s + r.l ≤ 10 ^ 30
    split at h4 <;> omega
  · have b' : (r.b && decide (1 < r.l)) = true := b
    rw [Bool.and_eq_true] at b'
    exact of_decide_eq_true b'.2
theorem ver_raw (r : Row) : (ver (.int r.f) (.int r.s) (.int r.l) (.int r.a) (.bl r.d) (.bl r.b) = none ∧ r.Fits) ∨ (¬ r.Fits ∧ ∃ i j, ver (.int r.f) (.int r.s) (.int r.l) (.int r.a) (.bl r.d) (.bl r.b) = some (i, j) ∧ i < 2) := by
  unfold ver verP
  rw [from0_int, from0_int, from0_int]
  by_cases c1 : 0 ≤ r.f
  · rw [decide_eq_true c1, if_pos rfl]
    by_cases c2 : 0 ≤ r.s
    · rw [decide_eq_true c2, if_pos rfl]
      by_cases c3 : 1 ≤ r.l
      · rw [decide_eq_true c3, if_pos rfl]
        dsimp only
        by_cases c4 : (if r.s > r.f then r.s else r.f) + r.l > 10 ^ 30
        · rw [if_pos c4]
          exact .inr ⟨fun h => absurd h.2.2.2 (by omega), _, _, rfl, by decide⟩
        · rw [if_neg c4]
          exact .inl ⟨rfl, c1, c2, c3, by omega⟩
      · rw [decide_eq_false c3, if_neg Bool.false_ne_true]
        exact .inr ⟨fun h => c3 h.2.2.1, _, _, rfl, by decide⟩
    · rw [decide_eq_false c2, if_neg Bool.false_ne_true]
      exact .inr ⟨fun h => c2 h.2.1, _, _, rfl, by decide⟩
  · rw [decide_eq_false c1, if_neg Bool.false_ne_true]
    exact .inr ⟨fun h => c1 h.1, _, _, rfl, by decide⟩
theorem ExcT.exmNe {K : PySem.W.Frag} {cE fI C D : Addr} (a : ExcT K cE fI C) (b : ExcT K cE fI D) : ∃ x, PySem.W.exmOne K (.ref C) (.ref D) = some x ∧ (C = D → x = true) := by
  refine ⟨(Value.ref C :: chain cE C).contains (.ref D), PySem.W.exm_ref b.ox.exC b.xf.hdC b.ox.tyC (a.sub _), fun e => ?_⟩
  subst e
  simp
/-- caught by one of the two -/
theorem pair_caught {K : PySem.W.Frag} {cE fI C A B : Addr} (c : ExcT K cE fI C) (a : ExcT K cE fI A) (b : ExcT K cE fI B) (h : C = A ∨ C = B) : PySem.W.exmAny K (.ref C) [.ref A, .ref B] = some true := by
  obtain ⟨x, hx, ex⟩ := c.exmNe a
  obtain ⟨y, hy, ey⟩ := c.exmNe b
  show (match PySem.W.exmOne K (.ref C) (.ref A), (match PySem.W.exmOne K (.ref C) (.ref B), some false with | some b, some d => some (b || d) | _, _ => none) with | some b, some d => some (b || d) | _, _ => none) = some true
  rw [hx, hy]
  rcases h with h | h
  · rw [ex h]
    rfl
  · rw [ey h]
    cases x <;> rfl
def sp_T_of (K : PySem.W.Frag) (Z : Zs) : Sp := fun vs H Q E => ∃ v, vs = [v] ∧ ((∃ t, v = .str t ∧ Fine t ∧ (∀ r, tieOf t = some r → ∀ x H', H x = none → Same H H' → TieAt Z.cC H' x r → Q (.ref x) H') ∧ (tieOf t = none → Out E (Z.c 4) v H)) ∨ (NoStr K H v ∧ Out E (Z.c 4) v H))
section
variable {P : Program} {w : World} {K : PySem.W.Frag} {mg : Str → Option Value} {base : Heap} {Z : Zs}
theorem ok_T_of (T : Txt K mg Z) : FnOk P w K mg base (L2.CX P w) 9 Z.f_T_of Z.d_T_of ["text"] (sp_T_of K Z) := by
  refine T.F_T_of.okX sc_T_of (fun vs H Q E h => ?_) (fun cdv A outer s H vs Q E hr h => ?_)
  · obtain ⟨v, rfl, _⟩ := h
    rfl
  · obtain ⟨v, rfl, h⟩ := h
    obtain ⟨its, mv, kb⟩ := kb_tie T
    refine ⟨_, (pss_cons (ps_set (i := 1) sc_T_of.nd rfl (Or.inl rfl) (pe_call (ok_values_in T) (hr.mono (by decide)) rfl T.g_values_in T.k_values_in T.bn_values_in .nil pass0 (pa_cons (pv 0) pa_nil)))
      (pss_cons (ps_if (pt_cmpR op_isN (pv 1) pe_non (nomark _)) (pss_one (ps_raise rfl (takes_of rfl rfl rfl rfl) (pmk_oex (T.ex 4 (by decide)).ox (T.ex 4 (by decide)).ini T.t_E_init (ok_E_init T) (hr.mono (by decide)) T.bn_E_init .nil pass0 rfl T.g_BadText (pa_cons (pv 0) pa_nil)))) pss_nil)
      (pss_cons (ps_asg (pv 1) (pg_tup rfl (pgs_cons (pg_name (i := 2) sc_T_of.nd rfl (Or.inl rfl)) (pgs_cons (pg_name (i := 3) sc_T_of.nd rfl (Or.inl rfl)) (pgs_cons (pg_name (i := 4) sc_T_of.nd rfl (Or.inl rfl)) (pgs_cons (pg_name (i := 5) sc_T_of.nd rfl (Or.inl rfl)) (pgs_cons (pg_name (i := 6) sc_T_of.nd rfl (Or.inl rfl)) (pgs_cons (pg_name (i := 7) sc_T_of.nd rfl (Or.inl rfl)) pgs_nil))))))))
      (pss_cons (ps_try_pairX (c1 := .ref (Z.c 0)) (c2 := .ref (Z.c 1)) rfl rfl ⟨by rfl, by decide, .inl T.g_BadPlace⟩ ⟨by rfl, by decide, .inl T.g_BadLength⟩ (fun hd => passesAt_of rfl hd) (takes_of rfl rfl rfl rfl)
        (fun W pn xe tk _ _ => pss_one (ps_set (i := 8) sc_T_of.nd rfl (Or.inl rfl) (pe_makeKS (mkT T) (ok_T_initN T) (hr.mono (by decide)) rfl T.g_C kb (fun σ => L2N.passAt tk σ) (pa_cons (pv 2) (pa_cons (pv 3) (pa_cons (pv 4) (pa_cons (pv 5) pa_nil)))) (pk_cons (pv 6) (pk_cons (pv 7) pk_nil)))))
        (fun a oe cls d pn _ _ tk hot => pss_one (ps_raiseHN hot tk (pmk5_oexH (T.ex 4 (by decide)).ox (T.ex 4 (by decide)).ini T.t_E_init (ok_E_initH T) (roomH_mark (hr.mono (by decide)) _) hot T.bn_E_init pass0 rfl T.g_BadText (pa_cons (pv 0) pa_nil)))))
      (pss_one (ps_ret (pv 8))))))), ?_⟩
    have x4 := T.ex 4 (by decide)
    rcases h with ⟨t, rfl, fine, yes, no⟩ | ⟨ns, out⟩
    case inr => exact ⟨_, rfl, v, rfl, .inr ⟨ns, _, rfl, rfl, _, rfl, iteT ⟨_, rfl, mkR x4 out⟩⟩⟩
    refine ⟨_, rfl, .str t, rfl, .inl ⟨t, rfl, fine, fun r er x H1 nx s1 hx => ?_, fun en H1 s1 => ?_⟩⟩
    case refine_2 =>
      have e : tieOf t = none := by
        unfold tieOf
        rw [en]
      exact ⟨_, rfl, rfl, _, rfl, iteT ⟨_, rfl, mkR x4 ((no e).mono s1)⟩⟩
    have ab := vals_a fine.wd er
    refine ⟨_, rfl, rfl, _, rfl, iteF ?_⟩
    refine ⟨_, rfl, x, _, rfl, SqT.of hx, rfl, _, _, rfl, _, _, rfl, _, _, rfl, _, _, rfl, _, _, rfl, _, _, rfl, rfl, ?_⟩
    refine ⟨_, rfl, _, rfl, _, rfl, _, rfl, _, rfl, _, rfl, rfl, rfl, fun y dx ny nd ne => ?_⟩
    have ki : ∀ (H : Hp) (i : Int), Kn K H (.int i) := fun H i => (Odd.fl (p := y) (.int i)).kn
    have kb' : ∀ (H : Hp) (i : Bool), Kn K H (.bl i) := fun H i => (Odd.fl (p := y) (.bl i)).kn
    refine ⟨y, dx, _, _, _, _, _, _, rfl, upd_same, ki _ _, ki _ _, ki _ _, ki _ _, kb' _ _, kb' _ _, fun e => ?_, fun i j e => ?_⟩
    · have ft : r.Fits := by
        rcases ver_raw r with ⟨_, f⟩ | ⟨_, i, j, e2, _⟩
        · exact f
        · rw [e2] at e
          cases e
      refine ⟨r.tied, r.b, rfl, Row.tied_ok ft ab, rfl, fun H' hy kp => ⟨rfl, _, rfl, ?_⟩⟩
      have s2 : Same H1 H' := made ny nd kp
      exact yes _ (by unfold tieOf; rw [er]; exact if_pos ft) y H' (L2.Same.free s1 ny) (s1.trans s2) ⟨dx, hy⟩
    · obtain ⟨nf, i2⟩ : ¬ r.Fits ∧ i < 2 := by
        rcases ver_raw r with ⟨e2, _⟩ | ⟨nf, i', j', e2, l⟩
        · rw [e2] at e
          cases e
        · rw [e2] at e
          cases e
          exact ⟨nf, l⟩
      have o := no (by unfold tieOf; rw [er]; exact if_neg nf)
      intro d H' s' hd ed
      have sN : Same H H' := fun b u eb => by
        have e1 := s1 _ _ eb
        refine s' _ _ ?_
        rw [upd_ne (ne_of_none e1 ny), upd_ne (ne_of_none e1 nd)]
        exact e1
      refine ⟨true, pair_caught (T.ex i (by omega)) (T.ex 0 (by decide)) (T.ex 1 (by decide)) ?_, fun _ a ha => ⟨_, rfl, mkR x4 (o.mono sN)⟩, fun z => nomatch z⟩
      rcases i with _ | _ | i
      · exact .inl rfl
      · exact .inr rfl
      · omega
end
end TT

set_option maxHeartbeats 4000000
namespace TT
open PySem PySem.Spec PyProof.Rows L2 LamX TL
/-! ### the law's texts and figures -/
theorem lc_str {x : Str} {g : TG} {tt : TT} {te : TE} {vs : List Nat} {σ : L2.St} {H1 : Hp} {D : Addr} {Qd : Hp → Prop} (Pv : Nat → Hp → Prop) (h0 : Pv 0 (upd H1 D (.lst [])))
    (hs : ∀ i c H, x.cps[i]? = some c → Pv i H → g (.str ⟨#[c]⟩) (wipe σ vs) H fun σ2 H2 => wipe σ2 vs = wipe σ vs ∧ tt σ2 H2 fun b H3 =>
      if b = true then te σ2 H3 fun y H4 => ∃ acc, H4 D = some (.lst acc) ∧ acc.length < sizeLine ∧ Pv (i + 1) (upd H4 D (.lst (acc ++ [y]))) else Pv (i + 1) H3) (hd : ∀ H, Pv x.cps.size H → Qd H) :
    ∃ W : Nat → Nat → Hp → Prop, (∃ m, W 0 m (upd H1 D (.lst []))) ∧ ∀ i m H, W i m H →
      ((Its x).stop i H ∧ Qd H) ∨ ((Its x).go i H ∧ ∃ Nx : Hp → Prop, (∀ H', Nx H' → ∃ m', m' < m ∧ W (i + 1) m' H') ∧ ∀ y H', (Its x).yld i H y H' → g y (wipe σ vs) H' fun σ2 H2 => wipe σ2 vs = wipe σ vs ∧ tt σ2 H2 fun b H3 =>
        if b = true then te σ2 H3 fun y H4 => ∃ acc, H4 D = some (.lst acc) ∧ acc.length < sizeLine ∧ Nx (upd H4 D (.lst (acc ++ [y]))) else Nx H3) := by
  refine ⟨fun i m H => m = x.cps.size - i ∧ i ≤ x.cps.size ∧ Pv i H, ⟨x.cps.size, by simp, Nat.zero_le _, h0⟩, ?_⟩
  rintro i m H ⟨rfl, hi, p⟩
  by_cases hlt : i < x.cps.size
  · refine .inr ⟨hlt, Pv (i + 1), fun H' p' => ⟨x.cps.size - (i + 1), by omega, rfl, hlt, p'⟩, fun v H' y => ?_⟩
    obtain ⟨e, c, hc, ev⟩ := y
    subst e ev
    exact hs i c _ hc p
  · have e : i = x.cps.size := by omega
    subst e
    exact .inl ⟨Nat.le_refl _, hd _ p⟩
/-- str of any integer -/
theorem str_int (n : Int) : Str.ofString (toString n) = shownInt n := by
  unfold shownInt
  cases n with
  | ofNat m => exact (if_neg (show ¬ Int.ofNat m < 0 from Int.not_lt.mpr (Int.natCast_nonneg m))).symm
  | negSucc m =>
    rw [if_pos (Int.negSucc_lt_zero m)]
    refine ext_tl ?_
    rw [tl_append, tl_str, tl_str, tl_str]
    have e : -(Int.negSucc m) = ((m + 1 : Nat) : Int) := rfl
    rw [e]
    have e1 : toString (Int.negSucc m) = "-" ++ toString (m + 1) := rfl
    have e2 : toString (((m + 1 : Nat)) : Int) = toString (m + 1) := rfl
    rw [e1, e2, String.toList_append, List.map_append]
def sp_l_text_of : Sp := fun vs H Q _ => ∃ (q : Addr) (r : Row), vs = [.ref q] ∧ RowAt H q r ∧ r.Ok ∧ ∀ H', Same H H' → Q (.str (rowText r r.b)) H'
/-- the figure that Python writes as this word: the law's own reading -/
def sp_l_figure : Sp := fun vs H Q _ => ∃ w : Str, vs = [.str w] ∧ w.length ≤ 50 ∧ ∀ H', Same H H' → Q (numV (numRead w)) H'
theorem log_le {i : Int} (h0 : -(10 ^ 60) < i) (h1 : i < 10 ^ 60) : i.natAbs.log2 < 1920 := by
  have a : i.natAbs < 10 ^ 60 := by omega
  have b : 10 ^ 60 < 2 ^ 1920 := by decide +kernel
  by_cases z : i.natAbs = 0
  · rw [z]
    decide
  · exact (Nat.log2_lt z).mpr (Nat.lt_trans a b)
theorem words_sum {r : Row} (ok : r.Ok) (bk : Bool) : ((wordsOf r bk).map (·.length)).sum + (wordsOf r bk).length * (Str.ofString " ").length ≤ 300 := by
  have hf := ok.f0; have hs := ok.s0; have hl := ok.l0; have hfe := ok.fe; have hse := ok.se
  have l30 : (10 : Int) ^ 30 < 10 ^ 31 := by decide +kernel
  have zf : (Str.ofString (toString r.f)).length ≤ 31 := toString_length_le hf (by decide) (by omega)
  have zs : (Str.ofString (toString r.s)).length ≤ 31 := toString_length_le hs (by decide) (by omega)
  have zl : (Str.ofString (toString r.l)).length ≤ 31 := toString_length_le (by omega) (by decide) (by omega)
  have za := shown_len60 ok.al ok.ah
  have zw : (way r.d).length ≤ 4 := by
    unfold way
    split <;> decide
  have z1 : (Str.ofString " ").length = 1 := by decide
  have zb : (Str.ofString "back").length = 4 := by decide
  rw [z1]
  unfold wordsOf
  cases bk <;> simp only [Bool.false_eq_true, if_true, if_false, List.cons_append, List.nil_append, List.append_nil, List.map_cons, List.map_nil, List.sum_cons, List.sum_nil, List.length_cons, List.length_nil] <;> omega
theorem cut_to1 (w : Str) : tl (cutS w none (some 1)) = (tl w).take 1 := by
  have hl := len_tl w
  unfold cutS
  show (((tl w).drop (HT.sIx w.length 0 none)).take (HT.sIx w.length w.length (some 1) - HT.sIx w.length 0 none)) = _
  have e1 : HT.sIx w.length 0 none = 0 := rfl
  have e2 : HT.sIx w.length w.length (some 1) = min 1 w.length := by
    show (if (1 : Int) < 0 then ((1 : Int) + (w.length : Int)).toNat else min (1 : Int).toNat w.length) = _
    rw [if_neg (by decide)]
    rfl
  rw [e1, e2, List.drop_zero, Nat.sub_zero]
  by_cases c : w.length = 0
  · have : tl w = [] := List.length_eq_zero_iff.mp (by omega)
    rw [this]
    simp
  · rw [show min 1 w.length = 1 by omega]
theorem digits_in (c : Nat) : decide (c ∈ (Str.ofString "0123456789").cps.toList) = (decide (48 ≤ c) && decide (c ≤ 57)) := by
  have e : (Str.ofString "0123456789").cps.toList = [48, 49, 50, 51, 52, 53, 54, 55, 56, 57] := by decide +kernel
  rw [e, Bool.eq_iff_iff]
  simp only [List.mem_cons, List.not_mem_nil, or_false, decide_eq_true_eq, Bool.and_eq_true]
  omega
section
variable {P : Program} {w : World} {K : PySem.W.Frag} {mg : Str → Option Value} {base : Heap} {Z : Zs}
theorem ok_l_text_of (T : Txt K mg Z) : FnOk P w K mg base CX0 1 Z.f_l_text_of Z.d_l_text_of ["_law_row_here"] sp_l_text_of := by
  refine T.F_l_text_of.ok sc_l_text_of (fun vs H Q E h => ?_) (fun cdv A outer s H vs Q E hr h => ?_)
  · obtain ⟨q, r, rfl, _⟩ := h
    rfl
  · obtain ⟨q, r, rfl, hq, ok, k⟩ := h
    refine ⟨_, (pss_cons (ps_set (i := 1) sc_l_text_of.nd rfl (Or.inl rfl) (pe_lst (pa_cons (pe_callTy call_str_int (by rfl) T.b_str (by decide +kernel) (pa_cons (pe_ix ix_tup (pv 0) pe_int (fun _ _ => rfl)) pa_nil)) (pa_cons (pe_callTy call_str_int (by rfl) T.b_str (by decide +kernel) (pa_cons (pe_ix ix_tup (pv 0) pe_int (fun _ _ => rfl)) pa_nil)) (pa_cons (pe_callTy call_str_int (by rfl) T.b_str (by decide +kernel) (pa_cons (pe_ix ix_tup (pv 0) pe_int (fun _ _ => rfl)) pa_nil)) (pa_cons (pe_ifExp (pt_val (pe_ix ix_tup (pv 0) pe_int (fun _ _ => rfl))) pe_str pe_str) (pa_cons (pe_callTy call_str_int (by rfl) T.b_str (by decide +kernel) (pa_cons (pe_ix ix_tup (pv 0) pe_int (fun _ _ => rfl)) pa_nil)) pa_nil)))))))
      (pss_one (ps_ret (pe_join pe_str (pe_op op_cat (pv 1) (pe_ifExp (pt_val (pe_ix ix_tup (pv 0) pe_int (fun _ _ => rfl))) (pe_lst (pa_cons pe_str pa_nil)) (pe_lst pa_nil))))))), ?_⟩
    have sl : sizeLine = 16777216 := sizeLine_eq
    have rl := row_len ok r.b
    have h1 := ok.f0; have h2 := ok.s0; have h3 := ok.l0; have h4 := ok.fe; have h5 := ok.se
    have e60 : (10 : Int) ^ 30 < 10 ^ 60 := by decide +kernel
    have hq' : H q = some (.tup [.int r.f, .int r.s, .int r.l, .int r.a, .bl r.d, .bl r.b]) := hq
    have at_ := SqT.of (K := K) hq'
    refine ⟨_, rfl, q, _, _, _, rfl, rfl, at_, rfl, _, rfl, log_le (by omega) (by omega), _, rfl, q, _, _, _, rfl, rfl, at_, rfl, _, rfl, log_le (by omega) (by omega), _, rfl, q, _, _, _, rfl, rfl, at_, rfl, _, rfl, log_le (by omega) (by omega), ?_⟩
    have ws := words_sum ok r.b
    clear rl
    obtain ⟨rf, rs, rl, ra, rd, rb⟩ := r
    dsimp only at *
    have step : ∀ (H' : Hp), Same H H' → Q (.str (Txt.join (Str.ofString " ") (wordsOf ⟨rf, rs, rl, ra, rd, rb⟩ rb))) H' := k
    cases rd <;> cases rb
    all_goals
      refine ⟨_, rfl, q, _, _, _, rfl, rfl, at_, rfl, _, rfl, ?_⟩
      first
        | refine iteT ?_
        | refine iteF ?_
      refine ⟨_, rfl, q, _, _, _, rfl, rfl, at_, rfl, _, rfl, log_le ok.al ok.ah, ?_⟩
      rw [str_int ra]
      refine ⟨by show 5 ≤ sizeLine; decide, fun w hw => ⟨⟨_, rfl⟩, _, rfl, ?_⟩⟩
      have sw : ∀ o, Same H (upd H w o) := fun o => Same.new (Same.refl H) hw
      refine ⟨_, rfl, q, _, _, _, rfl, rfl, SqT.of (sw _ _ _ hq'), rfl, _, rfl, ?_⟩
      first
        | (refine iteT ⟨by show 1 ≤ sizeLine; decide, fun u hu => ⟨w, u, _, _, rfl, rfl, (by rw [upd_ne (ne_of_none upd_same hu)]; exact upd_same), upd_same, by show 5 + 1 ≤ sizeLine; decide, fun p hp => ⟨_, p, _, rfl, rfl, .inl (SqL.of upd_same), Nat.le_trans ws (by decide), step _ (Same.new (Same.new (sw _) hu) hp)⟩⟩⟩)
        | (refine iteF ⟨by show 0 ≤ sizeLine; decide, fun u hu => ⟨w, u, _, _, rfl, rfl, (by rw [upd_ne (ne_of_none upd_same hu)]; exact upd_same), upd_same, by show 5 + 0 ≤ sizeLine; decide, fun p hp => ⟨_, p, _, rfl, rfl, .inl (SqL.of upd_same), Nat.le_trans ws (by decide), step _ (Same.new (Same.new (sw _) hu) hp)⟩⟩⟩)
theorem ok_l_figure (T : Txt K mg Z) : FnOk P w K mg base CX0 1 Z.f_l_figure Z.d_l_figure ["_law_word"] sp_l_figure := by
  refine T.F_l_figure.ok sc_l_figure (fun vs H Q E h => ?_) (fun cdv A outer s H vs Q E hr h => ?_)
  · obtain ⟨w, rfl, _⟩ := h
    rfl
  · obtain ⟨w, rfl, hl, k⟩ := h
    refine ⟨_, (pss_cons (ps_set (i := 1) sc_l_figure.nd rfl (Or.inl rfl) (pe_ifExp (pt_cmpR op_eq (pe_slice sl_str (pv 0) po_none (po_some pe_int)) pe_str (nomark _)) (pe_slice sl_str (pv 0) (po_some pe_int) po_none) (pv 0)))
      (pss_cons (ps_if (PW.pt (pw_or (pt_cmpR op_eq (pv 1) pe_str (nomark _)) (pw_or (pt_not (pt_val (pe_callB  (cr_all rfl) (by rfl) T.b_all (by decide +kernel) (pa_cons (pe_lc (own := [("_law_sign", 2)]) rfl sc_l_figure.nd (pi_str (pv 1)) (blkOk_by (own := [("_law_sign", 2)]) (N := ["_law_word", "_law_size", "_law_sign"]) (sc := defScope s_l_figure) (by decide +kernel)) (fun _ _ _ _ _ => (pg_name (i := 2) sc_l_figure.nd rfl (Or.inl rfl))) (fun _ _ _ _ _ => pts_nil) (fun _ _ _ _ _ => (pe_cmpR op_in_sign (pv 2) pe_str (by with_unfolding_all rfl)))) pa_nil)))) (pw_or1 (PW.pt (pw_and (pt_cmpR op_eq (pe_ix ix_str (pv 1) pe_int (fun _ _ => rfl)) pe_str (nomark _)) (pw_and1 (pt_cmpR op_ne (pv 0) pe_str (nomark _))))))))) (pss_one (ps_ret pe_non)) pss_nil)
      (pss_one (ps_ret (pe_callTy call_int_str (by rfl) T.b_int (by decide +kernel) (pa_cons (pv 0) pa_nil)))))), ?_⟩
    have sl : sizeLine = 16777216 := sizeLine_eq
    have dash : Str.ofString "-" = ⟨#[45]⟩ := by decide +kernel
    have isd : decide (V.str (cutS w none (some 1)) = V.str (Str.ofString "-")) = decide ((tl w).head? = some 45) := by
      rw [str_eq_tl, cut_to1, dash]
      show decide ((tl w).take 1 = [45]) = _
      cases tl w <;> simp
    refine ⟨_, rfl, _, rfl, w, rfl, by omega, rfl, _, rfl, ?_⟩
    rw [isd]
    refine' shareS (fun g => tl g = digs w) (fun tail => ite2 (fun c => ?b1) (fun c => ?b2)) ?b3
    case b1 =>
      refine ⟨_, rfl, _, rfl, w, rfl, by omega, ?_⟩
      obtain ⟨g, hg⟩ : ∃ g, g = cutS w (some 1) none := ⟨_, rfl⟩
      rw [← hg]
      refine tail g ?_
      rw [hg, cut_one]
      unfold digs
      rw [if_pos (of_decide_eq_true c)]
    case b2 =>
      refine ⟨_, rfl, tail w ?_⟩
      unfold digs
      rw [if_neg (fun z => c (decide_eq_true z))]
    case b3 =>
      intro g hg
      have hlg : g.length ≤ 50 := by
        rw [len_tl, hg]
        have := len_tl w
        unfold digs
        split
        · rw [List.length_drop]
          omega
        · omega
      have em : decide (V.str g = V.str (Str.ofString "")) = decide (digs w = []) := by
        rw [str_eq_tl, hg]
        rfl
      refine ⟨_, rfl, rfl, _, rfl, ?_⟩
      rw [em]
      by_cases c0 : digs w = []
      · rw [decide_eq_true c0]
        refine iteT (iteT ?_)
        have e : numRead w = none := by
          unfold numRead
          rw [c0]
          rfl
        rw [e] at k
        exact k H (Same.refl H)
      rw [decide_eq_false c0]
      refine iteF ⟨_, rfl, g, rfl, fun D hD => ?_⟩
      refine lc_str (fun i H' => H' D = some (.lst (((tl g).take i).map fun c => V.bl (decide (48 ≤ c) && decide (c ≤ 57)))) ∧ ∀ b u, H b = some u → H' b = some u) ⟨upd_same, Same.new (Same.refl H) hD⟩ ?_ ?_
      · rintro i c H' hc ⟨hDi, sm⟩
        refine ⟨rfl, ?_⟩
        unfold tYes
        refine iteT ⟨_, rfl, c, _, rfl, rfl, _, hDi, ?_, ?_, fun b u eb => ?_⟩
        · rw [List.length_map, List.length_take]
          have := len_tl g
          omega
        · rw [digits_in, upd_same]
          have hc' : (tl g)[i]? = some c := by rw [← hc]; simp [tl]
          rw [List.take_add_one, hc', List.map_append]
          rfl
        · rw [upd_ne (ne_of_none eb hD)]
          exact sm b u eb
      · rintro H1 ⟨hD1, s1⟩
        have hD2 : H1 D = some (.lst (((tl g).map fun c => (decide (48 ≤ c) && decide (c ≤ 57))).map V.bl)) := by
          rw [hD1, List.map_map]
          have e : (tl g).take g.cps.size = tl g := List.take_of_length_le (by simp [tl])
          rw [e]
          rfl
        have k1 : ∀ {v : V}, numV (numRead w) = v → Q v H1 := fun e => by
          rw [← e]
          exact k H1 s1
        refine ⟨D, _, rfl, SqL.of hD2, _, rfl, ?_⟩
        have ea : ((tl g).map fun c => (decide (48 ≤ c) && decide (c ≤ 57))).all id = allDig (digs w) := by
          unfold allDig
          rw [hg, List.all_map]
          have : (digs w).isEmpty = false := by simpa using c0
          rw [this]
          rfl
        rw [ea]
        by_cases ad : allDig (digs w) = true
        case neg =>
          have ad' : allDig (digs w) = false := by simpa using ad
          rw [ad']
          refine iteT (iteT (k1 ?_))
          unfold numRead
          rw [if_neg ad]
          rfl
        rw [ad]
        refine iteF ?_
        have ds := (allDig_iff.mp ad).2
        have last : ¬ ((digs w).head? = some 48 ∧ tl w ≠ [48]) → ∃ a n, [V.str w] = [.str a] ∧ intText? a = some n ∧ a.length ≤ 640 ∧ Q (.int n) H1 := fun no => by
          have e : numRead w = some (if (tl w).head? = some 45 then -((NumText.digitsVal (digs w) : Nat) : Int) else ((NumText.digitsVal (digs w) : Nat) : Int)) := by
            unfold numRead
            rw [if_pos ad, if_neg no]
          refine ⟨w, _, rfl, ?_, by omega, k1 (by rw [e] <;> rfl)⟩
          by_cases c : (tl w).head? = some 45
          · rw [if_pos c]
            have dw : digs w = (tl w).drop 1 := if_pos c
            have hw : tl w = 45 :: digs w := by
              rw [dw]
              cases h : tl w with
              | nil => rw [h] at c; cases c
              | cons a l =>
                rw [h] at c
                cases c
                rfl
            exact intText_neg hw ds c0 (by omega)
          · rw [if_neg c]
            have dw : digs w = tl w := if_neg c
            rw [dw] at ds c0 ⊢
            exact intText_digits ds c0 (by omega)
        obtain ⟨c, cs, hc⟩ : ∃ c cs, digs w = c :: cs := by
          cases h : digs w with
          | nil => exact absurd h c0
          | cons c cs => exact ⟨c, cs, rfl⟩
        refine ⟨_, rfl, g, 0, c, rfl, rfl, by omega, ?_, rfl, _, rfl, ?_⟩
        · show atI (tl g) ((0 : Nat) : Int) = some c
          rw [hg, hc]
          exact atI_nat rfl
        have e0 : decide (V.str ⟨#[c]⟩ = V.str (Str.ofString "0")) = decide (c = 48) := by
          rw [str_eq_tl]
          show decide ([c] = [48]) = _
          simp
        rw [e0]
        by_cases z : c = 48
        · rw [decide_eq_true z]
          have e1 : decide (V.str w = V.str (Str.ofString "0")) = decide (tl w = [48]) := by
            rw [str_eq_tl]
            rfl
          refine iteT ⟨_, rfl, rfl, _, rfl, ?_⟩
          rw [e1]
          by_cases z2 : tl w = [48]
          · rw [decide_eq_true z2]
            exact iteF ⟨_, rfl, last fun q => q.2 z2⟩
          · rw [decide_eq_false z2]
            refine iteT (k1 ?_)
            unfold numRead
            rw [if_pos ad, if_pos ⟨by rw [hc, z]; rfl, z2⟩]
            rfl
        · rw [decide_eq_false z]
          refine iteF (iteF ⟨_, rfl, last fun q => z ?_⟩)
          have := q.1
          rw [hc] at this
          exact Option.some.inj this
end
end TT

set_option maxHeartbeats 4000000
namespace TT
open PySem PySem.Spec PyProof.Rows L2 LamX TL
/-! ### not in a pair of data -/
def rNotInD2 (K : PySem.W.Frag) : R2 := fun x y H Q => ∃ p u v d d1 d2, y = .ref p ∧ SqT K H p [u, v] ∧ Dp K H x d ∧ Dp K H u d1 ∧ Dp K H v d2 ∧ SeqAt.shaped d = true ∧ SeqAt.shaped d1 = true ∧ SeqAt.shaped d2 = true ∧ Q (.bl (!(PyData.eqv d1 d || PyData.eqv d2 d))) H
theorem op_notInD2 {X : Cx} (hu : X.A.in1.units + 64 < cLine) : OpR X (compareOp .NotIn) (rNotInD2 X.K) := by
  intro pins s σ H x y v u Q I rx ry h
  obtain ⟨p, a, b, d, d1, d2, rfl, hq, dx, da, db, sx, sa, sb, q⟩ := h
  obtain rfl : u = Value.ref p := ry
  obtain ⟨its, r, pl, hz⟩ := I.tuple hq
  obtain ⟨va, vb, rfl, ra, rb⟩ : ∃ va vb, its = [va, vb] ∧ RelV a va ∧ RelV b vb := by
    cases r with
    | cons r1 r =>
      cases r with
      | cons r2 r =>
        cases r
        exact ⟨_, _, rfl, r1, r2⟩
  obtain ⟨as, r0⟩ := Dp.reads I d x v dx rx
  obtain ⟨as1, r1⟩ := Dp.reads I d1 a va da ra
  obtain ⟨as2, r2⟩ := Dp.reads I d2 b vb db rb
  have c0 := SeqAt.canLay_of_shaped sx; have c1 := SeqAt.canLay_of_shaped sa; have c2 := SeqAt.canLay_of_shaped sb
  have e1 := SeqAt.eqAt_reads d1 d X.A.in1 s va v as1 as r1 r0 c1 c0 (SeqAt.room_of_shaped sa hu)
  have e2 := SeqAt.eqAt_reads d2 d X.A.in1 s vb v as2 as r2 r0 c2 c0 (SeqAt.room_of_shaped sb hu)
  refine SeqAt.notIn_tupleAt (fun w => if w = va then PyData.eqv d1 d else PyData.eqv d2 d) pl (fun w hw => ?_) ⟨.bl _, H, I, rfl, ?_⟩
  · have hw' : w = va ∨ w = vb := by simpa using hw
    by_cases c : w = va
    · rw [if_pos c, c]
      exact e1
    · rw [if_neg c, hw'.resolve_left c]
      exact e2
  · by_cases c : vb = va
    · subst c
      have := SeqAt.Reads.unique d1 d2 vb as1 as2 c1 r1 r2
      subst this
      simpa using q
    · simpa [c] using q
/-! ### what goes on behind an «if» -/
theorem seq_via {c : TT} {a a' b : TS} {D : _} {σ : L2.St} {H : Hp} (C : L2.St → Hp → Prop) (h : (∀ σ H, C σ H → b D σ H) → tSeq (tIfS c a a') b D σ H) (k : ∀ σ H, C σ H → b D σ H) : tSeq (tIfS c a a') b D σ H := h k
theorem name_via {c : TT} {a a' b : TS} {D : Ends} {rt : VK} {bk ct : L2.St → Hp → Prop} {i : Nat} {v : V} {σ : L2.St} {H : Hp} (C : L2.St → Hp → Prop) (h : (∀ σ H, C σ H → b D σ H) → gName i v σ H (Ends.nx { nx := tSeq (tIfS c a a') b D, rt := rt, bk := bk, ct := ct })) (k : ∀ σ H, C σ H → b D σ H) : gName i v σ H (Ends.nx { nx := tSeq (tIfS c a a') b D, rt := rt, bk := bk, ct := ct }) := h k
/-! ### a row told by the law itself -/
def sp_l_row_told (K : PySem.W.Frag) : Sp := fun vs H Q _ => ∃ v, vs = [v] ∧ ((∃ t, v = .str t ∧ Fine t ∧
  (∀ r, tieOf t = some r → ∀ x H', Same H H' → RowAt H' x r → Q (.ref x) H') ∧ (tieOf t = none → ∀ H', Same H H' → Q .non H')) ∨ (NoStr K H v ∧ ∀ H', Same H H' → Q .non H'))
section
variable {P : Program} {w : World} {K : PySem.W.Frag} {mg : Str → Option Value} {base : Heap} {Z : Zs}
theorem ok_l_row_told (T : Txt K mg Z) : FnOk P w K mg base CX0 3 Z.f_l_row_told Z.d_l_row_told ["_law_text"] (sp_l_row_told K) := by
  refine T.F_l_row_told.ok sc_l_row_told (fun vs H Q E h => ?_) (fun cdv A outer s H vs Q E hr h => ?_)
  · obtain ⟨v, rfl, _⟩ := h
    rfl
  · obtain ⟨v, rfl, h⟩ := h
    have sl : sizeLine = 16777216 := sizeLine_eq
    refine ⟨_, (pss_cons (ps_set (i := 1) sc_l_row_told.nd rfl (Or.inl rfl) (pe_ifExp (pt_val (pe_callB  call_isi (by rfl) T.b_isinstance (by decide +kernel) (pa_cons (pv 0) (pa_cons (pe_bltn (v := .ty "str") rfl T.b_str (by decide +kernel) rfl) pa_nil)))) (pe_split (pv 0) pe_str) (pe_lst pa_nil)))
      (pss_cons (ps_if (PW.pt (pw_or (pt_cmpR op_notIn_seq (pe_callB  call_len (by rfl) T.b_len (by decide +kernel) (pa_cons (pv 1) pa_nil)) (pe_tup (pa_cons pe_int (pa_cons pe_int pa_nil))) (by with_unfolding_all rfl)) (pw_or (pt_cmpR op_notIn_seq (pe_ix ix_list (pv 1) pe_int (fun _ _ => rfl)) (pe_tup (pa_cons pe_str (pa_cons pe_str pa_nil))) (by with_unfolding_all rfl)) (pw_or1 (pt_cmpR (op_notInD2 (by exact (hr.mono (j := 1) (by decide)).in1.units)) (pe_slice sl_list (pv 1) (po_some pe_int) po_none) (pe_tup (pa_cons (pe_lst pa_nil) (pa_cons (pe_lst (pa_cons pe_str pa_nil)) pa_nil))) (by with_unfolding_all rfl)))))) (pss_one (ps_ret pe_non)) pss_nil)
      (pss_cons (ps_setLc (i := 2) (own := [("_law_word", 3)]) rfl sc_l_row_told.nd rfl rfl (sw_true rfl rfl rfl (by decide +kernel)) (pi_list (pe_op op_cat (pe_slice sl_list (pv 1) po_none (po_some pe_int)) (pe_slice sl_list (pv 1) (po_some pe_int) (po_some pe_int)))) (blkOk_by (own := [("_law_word", 3)]) (N := ["_law_text", "_law_words", "_law_numbers", "_law_word"]) (sc := defScope s_l_row_told) (by decide +kernel)) (fun _ _ _ _ _ => (pg_name (i := 3) sc_l_row_told.nd rfl (Or.inl rfl))) (fun _ _ _ _ _ => pts_nil) (fun _ _ _ _ _ => (pe_call (ok_l_figure T) (hr.mono (by decide)) rfl T.g_l_figure T.k_l_figure T.bn_l_figure .nil pass0 (pa_cons (pv 3) pa_nil))))
      (pss_cons (ps_if (PW.pt (pw_or (pt_cmpR op_in_seq pe_non (pv 2) (by with_unfolding_all rfl)) (pw_or (pt_cmpR op_lt (pe_callB (cr_min rfl) (by rfl) T.b_min (by decide +kernel) (pa_cons (pe_slice sl_list (pv 2) po_none (po_some pe_int)) pa_nil)) pe_int (nomark _)) (pw_or (pt_cmpR op_lt (pe_ix ix_list (pv 2) pe_int (fun _ _ => rfl)) pe_int (nomark _)) (pw_or1 (pt_cmpR op_gt (pe_op op_add (pe_callB (cr_max rfl) (by rfl) T.b_max (by decide +kernel) (pa_cons (pe_slice sl_list (pv 2) po_none (po_some pe_int)) pa_nil)) (pe_ix ix_list (pv 2) pe_int (fun _ _ => rfl))) (pe_op op_powW pe_int pe_int) (nomark _))))))) (pss_one (ps_ret pe_non)) pss_nil)
      (pss_one (ps_ret (pe_tup (pa_cons (pe_ix ix_list (pv 2) pe_int (fun _ _ => rfl)) (pa_cons (pe_ix ix_list (pv 2) pe_int (fun _ _ => rfl)) (pa_cons (pe_ix ix_list (pv 2) pe_int (fun _ _ => rfl)) (pa_cons (pe_ix ix_list (pv 2) pe_int (fun _ _ => rfl)) (pa_cons (pe_cmpR op_eq (pe_ix ix_list (pv 1) pe_int (fun _ _ => rfl)) pe_str (nomark _)) (pa_cons (pe_and (pe_cmpR op_eq (pe_callB  call_len (by rfl) T.b_len (by decide +kernel) (pa_cons (pv 1) pa_nil)) pe_int (nomark _)) (pe_one (pe_cmpR op_gt (pe_ix ix_list (pv 2) pe_int (fun _ _ => rfl)) pe_int (nomark _)))) pa_nil))))))))))))), ?_⟩
    have y56 : ∀ n : Int, inV (V.int n) [V.int 5, V.int 6] = decide (n = 5 ∨ n = 6) := fun n => by
      simp [inV, eqV]
      by_cases c : n = 5
      · simp [c]
      · by_cases c2 : n = 6
        · simp [c2]
        · simp [c, c2, Ne.symm c, Ne.symm c2]
    rcases h with ⟨t, rfl, fine, yes, no⟩ | ⟨⟨ty, ht, hk⟩, k⟩
    case inr =>
      refine ⟨_, rfl, _, _, _, _, false, rfl, .ty "str", ht, hk, false, rfl, iteF ⟨by show 0 ≤ sizeLine; decide, fun w hw => ?_⟩⟩
      have s1 := Same.new (o := .lst []) (Same.refl H) hw
      refine ⟨_, rfl, _, _, rfl, .inl ⟨_, SqL.of upd_same, rfl⟩, by show 2 ≤ sizeLine; decide, fun t0 ht0 => ⟨t0, _, rfl, .inr (SqT.of upd_same), rfl, rfl, true, rfl, ?_⟩⟩
      exact iteT (iteT (k _ (Same.new s1 ht0)))
    have tl_ := fine.len
    have wd := fine.wd
    have wok := fine.ok
    have l1 : (Str.ofString " ").length = 1 := by decide
    refine ⟨_, rfl, _, _, _, _, true, rfl, .ty "str", .base (.str _), kit_ty (by decide +kernel), true, rfl, iteT ?_⟩
    refine ⟨_, rfl, ⟨_, rfl⟩, _, _, rfl, rfl, by decide, by omega, fun wl hwl => ?_⟩
    have tie_ : ∀ {ws : List Str}, Txt.split t (Str.ofString " ") = ws → tieOf t = (match vals ws with | some r => if r.Fits then some r.tied else none | none => none) := fun {ws} e => by
      unfold tieOf
      rw [e]
      all_goals (cases vals ws <;> rfl)
    obtain ⟨ws, ews⟩ : ∃ ws, Txt.split t (Str.ofString " ") = ws := ⟨_, rfl⟩
    have te := tie_ ews
    rw [ews] at wd wok
    rw [ews]
    clear tie_
    have sW := Same.new (o := .lst (ws.map V.str)) (Same.refl H) hwl
    have atW : upd H wl (.lst (ws.map V.str)) wl = some (.lst (ws.map V.str)) := upd_same
    generalize upd H wl (.lst (ws.map V.str)) = H1 at sW atW ⊢
    have stop : ∀ {H' : Hp}, vals ws = none → Same H H' → Q .non H' := fun e s => no (by rw [te, e]) _ s
    refine name_via (fun σ H' => ∃ a b c d e bk, σ = [some (.str t), some (.ref wl), none, none] ∧ Same H H' ∧ H' wl = some (.lst (ws.map V.str)) ∧ ((ws = [a, b, c, d, e] ∧ bk = false) ∨ (ws = [a, b, c, d, e, Str.ofString "back"] ∧ bk = true)) ∧ (d = Str.ofString "up" ∨ d = Str.ofString "down") ∧ vals ws = quad a b c d e bk) (fun tail => ?_) ?_
    · rcases shapes ws with ⟨a, b, c, d, e, rfl⟩ | ⟨a, b, c, d, e, f, rfl⟩ | ⟨n5, n6, nv⟩
      case inr.inr =>
        refine ⟨_, rfl, _, _, rfl, .inl ⟨_, SqL.of atW, rfl⟩, by show 2 ≤ sizeLine; decide, fun t0 ht0 => ⟨t0, _, rfl, .inr (SqT.of upd_same), rfl, rfl, true, ?_, ?_⟩⟩
        · rw [List.length_map]
          show V.bl (!inV (V.int _) [V.int 5, V.int 6]) = V.bl true
          rw [y56, decide_eq_false (by omega)]
          rfl
        exact iteT (iteT (stop nv (Same.new sW ht0)))
      all_goals
        refine ⟨_, rfl, _, _, rfl, .inl ⟨_, SqL.of atW, rfl⟩, by show 2 ≤ sizeLine; decide, fun t0 ht0 => ⟨t0, _, rfl, .inr (SqT.of upd_same), rfl, rfl, false, rfl, iteF ?_⟩⟩
        have s2 := Same.new (o := .tup [.int 5, .int 6]) (Same.refl H1) ht0
        have at2 := s2 _ _ atW
        generalize upd H1 t0 (.tup [.int 5, .int 6]) = H2 at s2 at2 ⊢
        refine ⟨_, rfl, wl, _, _, _, rfl, rfl, SqL.of at2, rfl, by show 2 ≤ sizeLine; decide, fun t1 ht1 => ⟨t1, _, rfl, .inr (SqT.of upd_same), rfl, rfl, !inV (V.str d) [V.str (Str.ofString "up"), V.str (Str.ofString "down")], rfl, ?_⟩⟩
        have s3 := Same.new (o := .tup [.str (Str.ofString "up"), .str (Str.ofString "down")]) (Same.refl H2) ht1
        have at3 := s3 _ _ at2
        generalize upd H2 t1 (.tup [.str (Str.ofString "up"), .str (Str.ofString "down")]) = H3 at s3 at3 ⊢
        have s03 := (sW.trans s2).trans s3
        rw [in_way]
        by_cases cd : d = Str.ofString "up" ∨ d = Str.ofString "down"
        case neg =>
          rw [decide_eq_false cd]
          refine iteT (iteT (stop ?_ s03))
          first
            | exact if_neg cd
            | (show (if f = Str.ofString "back" then quad a b c d e true else none) = none
               split
               · exact if_neg cd
               · rfl)
        rw [decide_eq_true cd]
        refine iteF ⟨_, rfl, _, rfl, wl, _, rfl, SqL.of at3, fun u hu => ⟨by show 0 ≤ sizeLine; decide, fun l0 h0 => ⟨by show 1 ≤ sizeLine; decide, fun l2 h2 => ⟨by show 2 ≤ sizeLine; decide, fun tp htp => ?_⟩⟩⟩⟩
      · have sa := Same.new (o := .lst []) (Same.refl H3) hu
        have sb := Same.new (o := .lst []) (Same.refl (upd H3 u (.lst []))) h0
        have sc := Same.new (o := .lst [.str (Str.ofString "back")]) (Same.refl _) h2
        have sd := Same.new (o := .tup [.ref l0, .ref l2]) (Same.refl _) htp
        have au := sd _ _ (sc _ _ (sb _ _ (show upd H3 u (.lst []) u = _ from upd_same)))
        have a0 := sd _ _ (sc _ _ (show upd (upd H3 u (.lst [])) l0 (.lst []) l0 = _ from upd_same))
        have a2 := sd _ _ (show upd (upd (upd H3 u (.lst [])) l0 (.lst [])) l2 (.lst [.str (Str.ofString "back")]) l2 = _ from upd_same)
        have sN := ((sa.trans sb).trans sc).trans sd
        refine ⟨tp, .ref l0, .ref l2, .list [], .list [], .list [.str (Str.ofString "back")], rfl, SqT.of upd_same, .lst (SqL.of au) .nil, .lst (SqL.of a0) .nil, .lst (SqL.of a2) (.cons (.str _) .nil), ?_, by decide +kernel, by decide +kernel, _, rfl, ?_⟩
        · simp [SeqAt.shaped, PyData.canLay0, PyData.canLayAll0, PyData.depth, PyData.depthAll]
        rw [show (!(PyData.eqv (.list []) (.list []) || PyData.eqv (.list [.str (Str.ofString "back")]) (.list []))) = false by decide +kernel]
        exact iteF (tail _ _ ⟨a, b, c, d, e, false, rfl, s03.trans sN, sN _ _ at3, .inl ⟨rfl, rfl⟩, cd, rfl⟩)
      · have sa := Same.new (o := .lst [.str f]) (Same.refl H3) hu
        have sb := Same.new (o := .lst []) (Same.refl (upd H3 u (.lst [.str f]))) h0
        have sc := Same.new (o := .lst [.str (Str.ofString "back")]) (Same.refl _) h2
        have sd := Same.new (o := .tup [.ref l0, .ref l2]) (Same.refl _) htp
        have au := sd _ _ (sc _ _ (sb _ _ (show upd H3 u (.lst [.str f]) u = _ from upd_same)))
        have a0 := sd _ _ (sc _ _ (show upd (upd H3 u (.lst [.str f])) l0 (.lst []) l0 = _ from upd_same))
        have a2 := sd _ _ (show upd (upd (upd H3 u (.lst [.str f])) l0 (.lst [])) l2 (.lst [.str (Str.ofString "back")]) l2 = _ from upd_same)
        have sN := ((sa.trans sb).trans sc).trans sd
        refine ⟨tp, .ref l0, .ref l2, .list [.str f], .list [], .list [.str (Str.ofString "back")], rfl, SqT.of upd_same, .lst (SqL.of au) (.cons (.str _) .nil), .lst (SqL.of a0) .nil, .lst (SqL.of a2) (.cons (.str _) .nil), ?_, by decide +kernel, by decide +kernel, _, rfl, ?_⟩
        · simp [SeqAt.shaped, PyData.canLay0, PyData.canLayAll0, PyData.depth, PyData.depthAll, wok f (by simp)]
        by_cases cf : f = Str.ofString "back"
        · subst cf
          rw [show (!(PyData.eqv (.list []) (.list [.str (Str.ofString "back")]) || PyData.eqv (.list [.str (Str.ofString "back")]) (.list [.str (Str.ofString "back")]))) = false by decide +kernel]
          exact iteF (tail _ _ ⟨a, b, c, d, e, true, rfl, s03.trans sN, sN _ _ at3, .inr ⟨rfl, rfl⟩, cd, by show (if Str.ofString "back" = Str.ofString "back" then quad a b c d e true else none) = _; rw [if_pos rfl]⟩)
        · have e1 : (Str.ofString "back" == f) = false := by simpa using fun z => cf z.symm
          rw [show (!(PyData.eqv (.list []) (.list [.str f]) || PyData.eqv (.list [.str (Str.ofString "back")]) (.list [.str f]))) = true by simp [PyData.eqv, PyData.eqvAll, e1]]
          exact iteT (stop (if_neg cf) (s03.trans sN))
    · rintro σ H2 ⟨a, b, c, d, e, bk, rfl, s02, at2, sh, cd, hv⟩
      have dn : decide (V.str d = V.str (Str.ofString "down")) = decide (d = Str.ofString "down") := by by_cases z : d = Str.ofString "down" <;> simp [z]
      have Q4 : ∀ {bk : Bool} {f s' l m : Int}, numRead a = some f → numRead b = some s' → numRead c = some l → numRead e = some m → quad a b c d e bk = some ⟨f, s', l, m, decide (d = Str.ofString "down"), bk⟩ := fun ha hb hc he => by
        unfold quad
        rw [if_pos cd, ha, hb, hc, he]
      rcases sh with ⟨rfl, rfl⟩ | ⟨rfl, rfl⟩
      all_goals
        have za := wd a (by simp)
        have zb := wd b (by simp)
        have zc := wd c (by simp)
        have ze := wd e (by simp)
        refine ⟨_, rfl, _, rfl, wl, _, rfl, SqL.of at2, fun u1 hu1 => ?_⟩
        have s1 := Same.new (o := .lst [.str a, .str b, .str c]) (Same.refl H2) hu1
        refine ⟨_, rfl, _, rfl, _, rfl, wl, _, rfl, SqL.of (s1 _ _ at2), fun u2 hu2 => ?_⟩
        have s2 := Same.new (o := .lst [.str e]) (Same.refl (upd H2 u1 (.lst [.str a, .str b, .str c]))) hu2
        refine ⟨u1, u2, [.str a, .str b, .str c], [.str e], rfl, rfl, s2 _ _ upd_same, upd_same, by show 3 + 1 ≤ sizeLine; decide, fun u3 hu3 => ⟨u3, rfl, ⟨_, SqL.of upd_same⟩, fun D hD => ?_⟩⟩
        have s3 := Same.new (o := .lst [.str a, .str b, .str c, .str e]) ((s1.trans s2)) hu3
        have at3 : upd (upd (upd H2 u1 (.lst [.str a, .str b, .str c])) u2 (.lst [.str e])) u3 (.lst [.str a, .str b, .str c, .str e]) u3 = _ := upd_same
        have hD' : upd (upd (upd H2 u1 (.lst [.str a, .str b, .str c])) u2 (.lst [.str e])) u3 (.lst [.str a, .str b, .str c, .str e]) D = none := hD
        clear hD
        show ∃ W : Nat → Nat → Hp → Prop, (∃ m, W 0 m (upd (upd (upd (upd H2 u1 (.lst [.str a, .str b, .str c])) u2 (.lst [.str e])) u3 (.lst [.str a, .str b, .str c, .str e])) D (.lst []))) ∧ _
        generalize upd (upd (upd H2 u1 (.lst [.str a, .str b, .str c])) u2 (.lst [.str e])) u3 (.lst [.str a, .str b, .str c, .str e]) = H3 at s3 at3 hD' ⊢
        have sD := Same.new (o := .lst []) (Same.refl H3) hD'
        refine lc_list (xs := [.str a, .str b, .str c, .str e]) (fun i H' => H' D = some (.lst ([numV (numRead a), numV (numRead b), numV (numRead c), numV (numRead e)].take i)) ∧ Same H3 H') ⟨upd_same, sD⟩ (fun i H' _ h => SqL.of (h.2 _ _ at3)) ?_ ?_
        · rintro i x H' hi ⟨hDi, sm⟩
          refine ⟨rfl, ?_⟩
          unfold tYes
          refine iteT ?_
          have i4 : i < 4 := (List.getElem?_eq_some_iff.mp hi).1
          have put : ∀ (H6 : Hp), Same H' H6 → ∀ (o : HO) (b : Addr) (u : HO), H3 b = some u → upd H6 D o b = some u := fun H6 s6 o b u eb => by
            rw [upd_ne (ne_of_none eb hD')]
            exact s6 _ _ (sm b u eb)
          rcases i with _ | _ | _ | _ | i
          · obtain rfl := Option.some.inj hi
            exact ⟨_, rfl, _, rfl, za, fun H6 s6 => ⟨_, s6 _ _ hDi, by show 0 < sizeLine; decide, upd_same, put H6 s6 _⟩⟩
          · obtain rfl := Option.some.inj hi
            exact ⟨_, rfl, _, rfl, zb, fun H6 s6 => ⟨_, s6 _ _ hDi, by show 1 < sizeLine; decide, upd_same, put H6 s6 _⟩⟩
          · obtain rfl := Option.some.inj hi
            exact ⟨_, rfl, _, rfl, zc, fun H6 s6 => ⟨_, s6 _ _ hDi, by show 2 < sizeLine; decide, upd_same, put H6 s6 _⟩⟩
          · obtain rfl := Option.some.inj hi
            exact ⟨_, rfl, _, rfl, ze, fun H6 s6 => ⟨_, s6 _ _ hDi, by show 3 < sizeLine; decide, upd_same, put H6 s6 _⟩⟩
          · omega
        · rintro H4 ⟨hD4, s4⟩
          have s04 := (s02.trans s3).trans s4
          have at4 := s4 _ _ (s3 _ _ at2)
          cases ha : numRead a <;> cases hb : numRead b <;> cases hc : numRead c <;> cases he : numRead e <;> rw [ha, hb, hc, he] at hD4
          case some.some.some.some f s' l m =>
            have hv' := hv.trans (Q4 ha hb hc he)
            rw [hv'] at te
            have nofit : ∀ {H' : Hp}, ¬ (0 ≤ f ∧ 0 ≤ s' ∧ 1 ≤ l ∧ (if s' > f then s' else f) + l ≤ 10 ^ 30) → Same H4 H' → Q .non H' := fun n s5 => no (te.trans (if_neg n)) _ (s04.trans s5)
            refine ⟨_, rfl, D, _, rfl, .inl (SqL.of hD4), rfl, rfl, false, rfl, iteF ?_⟩
            refine ⟨_, rfl, _, rfl, D, _, rfl, SqL.of hD4, fun u4 hu4 => ⟨u4, [f, s'], rfl, SqL.of upd_same, by show 0 < 2; decide, fun mn hmn hle => ⟨_, _, rfl, rfl, _, rfl, ?_⟩⟩⟩
            have s5 := Same.new (o := .lst [.int f, .int s']) (Same.refl H4) hu4
            have b1 := hle f (by simp)
            have b2 := hle s' (by simp)
            have hmn' : mn = f ∨ mn = s' := by simpa using hmn
            by_cases c1 : mn < 0
            · rw [decide_eq_true c1]
              exact iteT (iteT (nofit (fun h => by omega) s5))
            rw [decide_eq_false c1]
            have hD5 := s5 _ _ hD4
            have at5 := s5 _ _ at4
            refine iteF ⟨_, rfl, D, _, _, _, rfl, rfl, SqL.of hD5, rfl, _, _, rfl, rfl, _, rfl, ?_⟩
            by_cases c2 : l < 1
            · rw [decide_eq_true c2]
              exact iteT (iteT (nofit (fun h => by omega) s5))
            rw [decide_eq_false c2]
            refine iteF ⟨_, rfl, _, rfl, D, _, rfl, SqL.of hD5, fun u5 hu5 => ⟨u5, [f, s'], rfl, SqL.of upd_same, by show 0 < 2; decide, fun mx hmx hge => ?_⟩⟩
            have s6 := Same.new (o := .lst [.int f, .int s']) s5 hu5
            have hD6 := s6 _ _ hD4
            have at6 := s6 _ _ at4
            have g1 := hge f (by simp)
            have g2 := hge s' (by simp)
            have hmx' : mx = f ∨ mx = s' := by simpa using hmx
            have emx : mx = if s' > f then s' else f := by split <;> omega
            refine ⟨_, rfl, D, _, _, _, rfl, rfl, SqL.of hD6, rfl, _, _, rfl, rfl, _, _, rfl, rfl, ⟨by decide, by decide +kernel⟩, _, _, rfl, rfl, _, rfl, ?_⟩
            have t30 : (10 : Int) ^ Int.toNat 30 = 10 ^ 30 := rfl
            rw [t30]
            by_cases c3 : 10 ^ 30 < mx + l
            · rw [decide_eq_true c3]
              exact iteT (nofit (fun h => by rw [← emx] at h; omega) s6)
            rw [decide_eq_false c3]
            have ht := te.trans (if_pos (show (0 ≤ f ∧ 0 ≤ s' ∧ 1 ≤ l ∧ (if s' > f then s' else f) + l ≤ 10 ^ 30) from ⟨by omega, by omega, by omega, by rw [← emx]; omega⟩))
            refine iteF ⟨_, rfl, D, _, _, _, rfl, rfl, SqL.of hD6, rfl, _, rfl, D, _, _, _, rfl, rfl, SqL.of hD6, rfl, _, rfl, D, _, _, _, rfl, rfl, SqL.of hD6, rfl, _, rfl, D, _, _, _, rfl, rfl, SqL.of hD6, rfl, _, rfl, wl, _, _, _, rfl, rfl, SqL.of at6, rfl, rfl, ?_⟩
            rw [dn]
            first
              | exact ⟨_, rfl, _, _, rfl, .inl ⟨_, SqL.of at6, rfl⟩, rfl, false, rfl, iteF ⟨by show 6 ≤ sizeLine; decide, fun x hx => yes _ ht x _ (Same.new (s04.trans s6) hx) upd_same⟩⟩
              | exact ⟨_, rfl, _, _, rfl, .inl ⟨_, SqL.of at6, rfl⟩, rfl, true, rfl, iteT ⟨_, rfl, D, _, _, _, rfl, rfl, SqL.of hD6, rfl, _, _, rfl, rfl, by show 6 ≤ sizeLine; decide, fun x hx => yes _ ht x _ (Same.new (s04.trans s6) hx) upd_same⟩⟩
          all_goals
            refine ⟨_, rfl, D, _, rfl, .inl (SqL.of hD4), rfl, rfl, true, rfl, iteT (iteT (no ?_ _ s04))⟩
            rw [te, hv]
            unfold quad
            rw [if_pos cd, ha, hb, hc, he]
end
end TT

set_option maxHeartbeats 4000000
namespace TT
open PySem PySem.Spec PyProof.Rows L2 LamX TL
/-! ### texts of plain signs -/
/-- plain signs, none a new line -/
def Asc (t : Str) : Prop := ∀ c ∈ tl t, c < 128 ∧ c ≠ 10
theorem Asc.add {a b : Str} (h : Asc a) (g : Asc b) : Asc (a ++ b) := fun c hc => by
  rw [tl_append] at hc
  rcases List.mem_append.mp hc with hc | hc
  · exact h c hc
  · exact g c hc
theorem Asc.cut {a : Str} (h : Asc a) (lo hi : Option Int) : Asc (cutS a lo hi) := fun c hc => by
  unfold cutS at hc
  exact h c (List.mem_of_mem_drop (List.mem_of_mem_take (show c ∈ (((tl a).drop _).take _) from hc)))
theorem cut_len (a : Str) (lo hi : Option Int) : (cutS a lo hi).length ≤ a.length := by
  rw [len_tl, len_tl]
  unfold cutS
  show (((tl a).drop _).take _).length ≤ _
  rw [List.length_take, List.length_drop]
  omega
theorem joinL_mem {s : List Nat} : ∀ {ys : List (List Nat)} {c : Nat}, c ∈ joinL s ys → c ∈ s ∨ ∃ p ∈ ys, c ∈ p
  | [], _, h => by cases h
  | [y], _, h => .inr ⟨y, List.mem_cons_self, h⟩
  | y :: z :: ys, c, h => by
    have h' : c ∈ y ++ (s ++ joinL s (z :: ys)) := by simpa [joinL] using h
    rcases List.mem_append.mp h' with h | h
    · exact .inr ⟨y, List.mem_cons_self, h⟩
    · rcases List.mem_append.mp h with h | h
      · exact .inl h
      · rcases joinL_mem h with h | ⟨p, hp, hc⟩
        · exact .inl h
        · exact .inr ⟨p, List.mem_cons_of_mem _ hp, hc⟩
theorem mem_joinL {s : List Nat} : ∀ {ys : List (List Nat)} {p : List Nat} {c : Nat}, p ∈ ys → c ∈ p → c ∈ joinL s ys
  | [], _, _, h, _ => by cases h
  | [y], p, c, h, hc => by
    rw [List.mem_singleton.mp h] at hc
    exact hc
  | y :: z :: ys, p, c, h, hc => by
    show c ∈ joinL s (y :: z :: ys)
    have e : joinL s (y :: z :: ys) = y ++ (s ++ joinL s (z :: ys)) := by simp [joinL]
    rw [e]
    rcases List.mem_cons.mp h with h | h
    · subst h
      exact List.mem_append_left _ hc
    · exact List.mem_append_right _ (List.mem_append_right _ (mem_joinL h hc))
theorem joinL_len {s : List Nat} (hs : s.length = 1) : ∀ ys : List (List Nat), ys ≠ [] → (joinL s ys).length + 1 = (ys.map List.length).sum + ys.length
  | [], h => absurd rfl h
  | [y], _ => by simp [joinL]
  | y :: z :: ys, _ => by
    have e : joinL s (y :: z :: ys) = y ++ (s ++ joinL s (z :: ys)) := by simp [joinL]
    have ih := joinL_len hs (z :: ys) (by simp)
    rw [e, List.length_append, List.length_append, hs]
    simp only [List.map_cons, List.sum_cons, List.length_cons] at ih ⊢
    omega
theorem Asc.join {ys : List Str} (h : ∀ p ∈ ys, Asc p) : Asc (Txt.join (Str.ofString " ") ys) := fun c hc => by
  rw [show Txt.join (Str.ofString " ") ys = _ from join_eq _ _, tl_join] at hc
  rcases joinL_mem hc with h1 | ⟨q, hq, hc⟩
  · rw [sp_tl] at h1
    rw [List.mem_singleton.mp h1]
    decide
  · obtain ⟨p, hp, rfl⟩ := List.mem_map.mp hq
    exact h p hp c hc
theorem split_eq (t : Str) : joinL [32] ((Txt.split t (Str.ofString " ")).map tl) = tl t := by
  have e := congrArg tl (StrLaws.join_split t (Str.ofString " "))
  rw [tl_join, sp_tl] at e
  exact e
theorem Asc.split {t : Str} (h : Asc t) : ∀ p ∈ Txt.split t (Str.ofString " "), Asc p := fun p hp c hc => h c (by
  rw [← split_eq t]
  exact mem_joinL (List.mem_map_of_mem hp) hc)
theorem words_ne (t : Str) : Txt.split t (Str.ofString " ") ≠ [] := by
  intro e
  have h := split_eq t
  rw [e] at h
  have e2 : Txt.split (Txt.join (Str.ofString " ") [t]) (Str.ofString " ") = [t] := split_join (s := 32) (S := []) sp_tl (by decide +kernel) (by simp) (fun p hp => by
    rw [List.mem_singleton.mp hp, ← h]
    simp [joinL])
  have e3 : Txt.join (Str.ofString " ") [t] = t := by
    refine ext_tl ?_
    rw [show Txt.join (Str.ofString " ") [t] = _ from join_eq _ _, tl_join]
    rfl
  rw [e3, e] at e2
  cases e2
/-- how much stands in these words -/
def amt (ys : List Str) : Nat := (ys.map (·.length)).sum + ys.length
theorem amt_add (a b : List Str) : amt (a ++ b) = amt a + amt b := by
  unfold amt
  rw [List.map_append, List.sum_append, List.length_append]
  omega
theorem amt_take (ws : List Str) (i : Nat) : amt (ws.take i) + amt (ws.drop i) = amt ws := by rw [← amt_add, List.take_append_drop]
theorem amt_drop (ws : List Str) {i j : Nat} (h : i ≤ j) : amt (ws.drop j) ≤ amt (ws.drop i) := by
  have := amt_take (ws.drop i) (j - i)
  rw [List.drop_drop, show i + (j - i) = j by omega] at this
  omega
theorem words_amt (t : Str) : amt (Txt.split t (Str.ofString " ")) = t.length + 1 := by
  have h := joinL_len (s := [32]) rfl ((Txt.split t (Str.ofString " ")).map tl) (by simpa using words_ne t)
  rw [split_eq, List.map_map, List.length_map] at h
  rw [len_tl, h]
  unfold amt
  have e : (Txt.split t (Str.ofString " ")).map (·.length) = (Txt.split t (Str.ofString " ")).map (List.length ∘ tl) := List.map_congr_left fun p _ => len_tl p
  rw [e]
theorem join_len (ys : List Str) : (Txt.join (Str.ofString " ") ys).length ≤ amt ys := by
  have := StrLaws.join_length_le (Str.ofString " ") ys
  rw [show (Str.ofString " ").length = 1 from by decide] at this
  have e : Txt.join (Str.ofString " ") ys = (Str.ofString " ").join ys := join_eq _ _
  rw [e]
  unfold amt
  omega
theorem amt_mem {ws : List Str} {x : Str} (h : x ∈ ws) : x.length + 1 ≤ amt ws := by
  unfold amt
  induction ws with
  | nil => cases h
  | cons y ys ih =>
    simp only [List.map_cons, List.sum_cons, List.length_cons]
    rcases List.mem_cons.mp h with h | h
    · subst h
      omega
    · have := ih h
      omega
theorem cutV_to (xs : List V) {i : Int} (h : 0 ≤ i) : cutV xs none (some i) = xs.take i.toNat := by
  unfold cutV
  have e1 : HT.sIx xs.length 0 none = 0 := rfl
  have e2 : HT.sIx xs.length xs.length (some i) = min i.toNat xs.length := by
    show (if i < 0 then (i + (xs.length : Int)).toNat else min i.toNat xs.length) = _
    rw [if_neg (by omega)]
  rw [e1, e2, List.drop_zero, Nat.sub_zero]
  by_cases c : i.toNat ≤ xs.length
  · rw [Nat.min_eq_left c]
  · rw [Nat.min_eq_right (by omega), List.take_of_length_le (Nat.le_refl _), List.take_of_length_le (by omega)]
theorem cutV_from (xs : List V) {i : Int} (h : 0 ≤ i) : cutV xs (some i) none = xs.drop i.toNat := by
  unfold cutV
  have e1 : HT.sIx xs.length xs.length none = xs.length := rfl
  have e2 : HT.sIx xs.length 0 (some i) = min i.toNat xs.length := by
    show (if i < 0 then (i + (xs.length : Int)).toNat else min i.toNat xs.length) = _
    rw [if_neg (by omega)]
  rw [e1, e2]
  by_cases c : i.toNat ≤ xs.length
  · rw [Nat.min_eq_left c, List.take_of_length_le (by rw [List.length_drop]; omega)]
  · rw [Nat.min_eq_right (by omega), List.drop_of_length_le (Nat.le_refl _), List.drop_of_length_le (by omega)]
    simp
/-- what joined words are -/
theorem joined {ys : List Str} {m : Nat} (h : ∀ p ∈ ys, Asc p) (a : amt ys ≤ m) : Asc (Txt.join (Str.ofString " ") ys) ∧ (Txt.join (Str.ofString " ") ys).length ≤ m := ⟨Asc.join h, Nat.le_trans (join_len ys) a⟩
def signs : List Str := [Str.ofString "0", Str.ofString "1", Str.ofString "9", Str.ofString "-", Str.ofString " ", Str.ofString "a", Str.ofString "+", Str.ofString "_", Str.ofString "up", Str.ofString "back", Str.ofString "A"]
def tails : List Str := [Str.ofString " back", Str.ofString " ", Str.ofString " 0", Str.ofString " up"]
theorem asc_of {t : Str} (h : (tl t).all (fun c => decide (c < 128) && decide (c ≠ 10)) = true) : Asc t := fun c hc => by
  have := List.all_eq_true.mp h c hc
  simpa using this
theorem signs_ok : ∀ t ∈ signs ++ tails, Asc t ∧ t.length ≤ 5 := fun t ht => by
  have h : (signs ++ tails).all (fun t => (tl t).all (fun c => decide (c < 128) && decide (c ≠ 10)) && decide (t.length ≤ 5)) = true := by decide +kernel
  have := List.all_eq_true.mp h t ht
  rw [Bool.and_eq_true] at this
  exact ⟨asc_of this.1, of_decide_eq_true this.2⟩
def sp_l_bent_line : Sp := fun vs H Q _ => ∃ (p : Addr) (n : Nat) (line : Str), vs = [.ref p, .str line] ∧ Pot H p n ∧ n + 6 < 1000000 ∧ Asc line ∧ line.length ≤ 500 ∧
  ∀ (t : Str) (n' : Nat) (H' : Hp), Asc t → t.length ≤ 2 * line.length + 50 → n' ≤ n + 6 → Pot H' p n' → Keep p H H' → Q (.str t) H'
section
variable {P : Program} {w : World} {K : PySem.W.Frag} {mg : Str → Option Value} {base : Heap} {Z : Zs}
theorem ok_l_bent_line (T : Txt K mg Z) : FnOk P w K mg base CX0 4 Z.f_l_bent_line Z.d_l_bent_line ["_law_pot_here", "_law_line"] sp_l_bent_line := by
  refine T.F_l_bent_line.ok sc_l_bent_line (fun vs H Q E h => ?_) (fun cdv A outer s H vs Q E hr h => ?_)
  · obtain ⟨p, n, line, rfl, _⟩ := h
    rfl
  · obtain ⟨p, n, line, rfl, hp, hn, asc, len, k⟩ := h
    have sl : sizeLine = 16777216 := sizeLine_eq
    refine ⟨_, (pss_cons (ps_par (i := 2) (j := 3) (by rfl) sc_l_bent_line.nd rfl rfl (by decide) rfl rfl (pa_cons (pe_split (pv 1) pe_str) (pa_cons (pe_call (ok_l_take T) (hr.mono (by decide)) rfl T.g_l_take T.k_l_take T.bn_l_take .nil pass0 (pa_cons (pv 0) (pa_cons pe_int pa_nil))) pa_nil)) (by rfl))
      (pss_cons (ps_par (i := 4) (j := 5) (by rfl) sc_l_bent_line.nd rfl rfl (by decide) rfl rfl (pa_cons (pe_call (ok_l_take T) (hr.mono (by decide)) rfl T.g_l_take T.k_l_take T.bn_l_take .nil pass0 (pa_cons (pv 0) (pa_cons (pe_callB  call_len (by rfl) T.b_len (by decide +kernel) (pa_cons (pv 2) pa_nil)) pa_nil))) (pa_cons (pe_call (ok_l_take T) (hr.mono (by decide)) rfl T.g_l_take T.k_l_take T.bn_l_take .nil pass0 (pa_cons (pv 0) (pa_cons (pe_op op_add (pe_callB  call_len (by rfl) T.b_len (by decide +kernel) (pa_cons (pv 1) pa_nil)) pe_int) pa_nil))) pa_nil)) (by rfl))
      (pss_cons (ps_set (i := 6) sc_l_bent_line.nd rfl (Or.inl rfl) (pe_call (ok_l_of T) (hr.mono (by decide)) rfl T.g_l_of T.k_l_of T.bn_l_of .nil pass0 (pa_cons (pv 0) (pa_cons (pe_lst (pa_cons pe_str (pa_cons pe_str (pa_cons pe_str (pa_cons pe_str (pa_cons pe_str (pa_cons pe_str (pa_cons pe_str (pa_cons pe_str (pa_cons pe_str (pa_cons pe_str (pa_cons pe_str pa_nil)))))))))))) pa_nil))))
      (pss_cons (ps_if (pt_cmpR op_eq (pv 3) pe_int (nomark _)) (pss_one (ps_ret (pe_join pe_str (pe_op op_cat (pe_slice sl_list (pv 2) po_none (po_some (pv 4))) (pe_slice sl_list (pv 2) (po_some (pe_op op_add (pv 4) pe_int)) po_none))))) pss_nil)
      (pss_cons (ps_if (pt_cmpR op_eq (pv 3) pe_int (nomark _)) (pss_one (ps_ret (pe_join pe_str (pe_op op_cat (pe_op op_cat (pe_slice sl_list (pv 2) po_none (po_some (pv 4))) (pe_lst (pa_cons (pe_ix ix_list (pv 2) (pv 4) (fun _ _ => rfl)) pa_nil))) (pe_slice sl_list (pv 2) (po_some (pv 4)) po_none))))) pss_nil)
      (pss_cons (ps_if (pt_cmpR op_eq (pv 3) pe_int (nomark _)) (pss_one (ps_ret (pe_join pe_str (pe_op op_cat (pe_op op_cat (pe_slice sl_list (pv 2) po_none (po_some (pv 4))) (pe_lst (pa_cons (pv 6) pa_nil))) (pe_slice sl_list (pv 2) (po_some (pe_op op_add (pv 4) pe_int)) po_none))))) pss_nil)
      (pss_cons (ps_if (pt_cmpR op_lt (pv 3) pe_int (nomark _)) (pss_one (ps_ret (pe_op op_add_str (pe_op op_add_str (pe_slice sl_str (pv 1) po_none (po_some (pv 5))) (pv 6)) (pe_slice sl_str (pv 1) (po_some (pe_op op_add (pv 5) (pe_callTy call_int1 (by rfl) T.b_int (by decide +kernel) (pa_cons (pe_cmpR op_eq (pv 3) pe_int (nomark _)) pa_nil)))) po_none)))) pss_nil)
      (pss_one (ps_ret (pe_ifExp (pt_cmpR op_eq (pv 3) pe_int (nomark _)) (pe_op op_add_str (pe_slice sl_str (pv 1) po_none (po_some (pv 5))) (pe_slice sl_str (pv 1) (po_some (pe_op op_add (pv 5) pe_int)) po_none)) (pe_op op_add_str (pv 1) (pe_call (ok_l_of T) (hr.mono (by decide)) rfl T.g_l_of T.k_l_of T.bn_l_of .nil pass0 (pa_cons (pv 0) (pa_cons (pe_lst (pa_cons pe_str (pa_cons pe_str (pa_cons pe_str (pa_cons pe_str pa_nil))))) pa_nil)))))))))))))), ?_⟩
    have l1 : (Str.ofString " ").length = 1 := by decide
    have am := words_amt line
    have wa := asc.split
    have wn := words_ne line
    refine ⟨_, rfl, ⟨_, rfl⟩, _, _, rfl, rfl, by decide, by omega, fun wl hwl => ?_⟩
    generalize Txt.split line (Str.ofString " ") = ws at *
    have sW := Same.new (o := .lst (ws.map V.str)) (Same.refl H) hwl
    have atW : upd H wl (.lst (ws.map V.str)) wl = some (.lst (ws.map V.str)) := upd_same
    have nwp : wl ≠ p := (hp.ne hwl).symm
    have hp1 := hp.same sW
    generalize upd H wl (.lst (ws.map V.str)) = H1 at sW atW hp1 ⊢
    refine ⟨_, rfl, p, n, 7, rfl, hp1, by omega, by decide, by decide +kernel, fun way n2 H2 w0 w1 hn2 hp2 k2 => ?_⟩
    have at2 := k2 _ _ nwp atW
    have wl0 : 0 < ws.length := List.length_pos_iff.mpr wn
    have wl1 : ws.length ≤ 501 := by
      unfold amt at am
      omega
    have e60 : (1000 : Int) < 10 ^ 60 := by decide +kernel
    refine ⟨_, _, rfl, _, rfl, _, rfl, _, _, rfl, .inl ⟨_, SqL.of at2, rfl⟩, p, n2, _, rfl, hp2, by omega, ?_, ?_, fun at_ n3 H3 a0 a1 hn3 hp3 k3 => ?_⟩
    · rw [List.length_map]
      omega
    · rw [List.length_map]
      omega
    have at3 := k3 _ _ nwp at2
    rw [List.length_map] at a1
    refine ⟨_, rfl, _, rfl, _, _, rfl, ⟨by omega, rfl⟩, _, _, rfl, rfl, p, n3, _, rfl, hp3, by omega, by omega, by omega, fun spot n4 H4 p0 p1 hn4 hp4 k4 => ⟨_, _, rfl, ?_⟩⟩
    have at4 := k4 _ _ nwp at3
    refine ⟨_, rfl, by show 11 ≤ sizeLine; decide, fun a ha => ⟨p, a, n4, _, rfl, hp4.new ha, by omega, upd_same, (hp4.ne ha).symm, by show 0 < 11; decide, by show 11 ≤ 1000; decide, fun v n5 H5 hv hn5 hp5 k5 => ?_⟩⟩
    have at5 := k5 _ _ nwp (Same.new (o := .lst (signs.map V.str)) (Same.refl H4) ha _ _ at4)
    obtain ⟨sg, hsg, rfl⟩ : ∃ sg, sg ∈ signs ∧ v = .str sg := by
      have hv' : v ∈ signs.map V.str := hv
      obtain ⟨sg, h1, h2⟩ := List.mem_map.mp hv'
      exact ⟨sg, h1, h2.symm⟩
    obtain ⟨sga, sgl⟩ := signs_ok sg (List.mem_append_left _ hsg)
    have kp : Keep p H H5 := ((((Keep.of sW).trans k2).trans k3).trans k4).trans ((Keep.rfl'.new ha).trans k5)
    have fin : ∀ (ys : List Str) (q : Addr) (H' : Hp), Same H5 H' → H' q = some (.lst (ys.map V.str)) → (∀ p ∈ ys, Asc p) → amt ys ≤ 2 * line.length + 50 → ∃ a p', ∃ zs : List Str, V.str (Str.ofString " ") = .str a ∧ [V.ref q] = [.ref p'] ∧ (SqL K H' p' (zs.map V.str) ∨ SqT K H' p' (zs.map V.str)) ∧ (zs.map (·.length)).sum + zs.length * a.length ≤ 16777216 ∧ Q (.str (Txt.join a zs)) H' := fun ys q H' s' hq ya ym => by
      obtain ⟨j1, j2⟩ := joined ya ym
      refine ⟨_, q, ys, rfl, rfl, .inl (SqL.of hq), ?_, k _ n5 H' j1 j2 (by omega) (hp5.same s') (kp.same s')⟩
      rw [l1]
      unfold amt at ym
      omega
    have tk := amt_take ws at_.toNat
    have dr := amt_drop ws (show at_.toNat ≤ (at_ + 1).toNat by omega)
    refine ⟨_, rfl, rfl, _, rfl, ?_⟩
    by_cases c0 : way = 0
    · rw [decide_eq_true (by rw [c0])]
      refine iteT ⟨⟨_, rfl⟩, _, rfl, _, rfl, _, rfl, wl, _, rfl, SqL.of at5, fun u1 hu1 => ?_⟩
      rw [cutV_to _ a0, ← List.map_take]
      have s1 := Same.new (o := .lst ((ws.take at_.toNat).map V.str)) (Same.refl H5) hu1
      have b1 : upd H5 u1 (.lst ((ws.take at_.toNat).map V.str)) u1 = _ := upd_same
      generalize upd H5 u1 (.lst ((ws.take at_.toNat).map V.str)) = H6 at s1 b1 ⊢
      refine ⟨_, rfl, _, rfl, _, _, rfl, rfl, _, rfl, wl, _, rfl, SqL.of (s1 _ _ at5), fun u2 hu2 => ?_⟩
      rw [cutV_from _ (show 0 ≤ at_ + 1 by omega), ← List.map_drop]
      refine ⟨u1, u2, _, _, rfl, rfl, (by rw [upd_ne (ne_of_none b1 hu2)]; exact b1), upd_same, by rw [List.length_map, List.length_map, List.length_take, List.length_drop]; omega, fun u3 hu3 => ?_⟩
      refine fin (ws.take at_.toNat ++ ws.drop (at_ + 1).toNat) u3 _ (Same.new (Same.new s1 hu2) hu3) (by rw [List.map_append]; exact upd_same) (fun x hx => ?_) (by rw [amt_add]; omega)
      rcases List.mem_append.mp hx with hx | hx
      · exact wa x (List.mem_of_mem_take hx)
      · exact wa x (List.mem_of_mem_drop hx)
    rw [decide_eq_false (fun z => c0 (V.int.inj z))]
    refine iteF ⟨_, rfl, rfl, _, rfl, ?_⟩
    obtain ⟨x, hx⟩ : ∃ x, ws[at_.toNat]? = some x := ⟨ws[at_.toNat]'(by omega), List.getElem?_eq_getElem (by omega)⟩
    have xm := amt_mem (List.mem_of_getElem? hx)
    have xa := wa x (List.mem_of_getElem? hx)
    by_cases c1 : way = 1
    · rw [decide_eq_true (by rw [c1])]
      refine iteT ⟨⟨_, rfl⟩, _, rfl, _, rfl, _, rfl, wl, _, rfl, SqL.of at5, fun u1 hu1 => ?_⟩
      rw [cutV_to _ a0, ← List.map_take]
      have s1 := Same.new (o := .lst ((ws.take at_.toNat).map V.str)) (Same.refl H5) hu1
      have b1 : upd H5 u1 (.lst ((ws.take at_.toNat).map V.str)) u1 = _ := upd_same
      generalize upd H5 u1 (.lst ((ws.take at_.toNat).map V.str)) = H6 at s1 b1 ⊢
      refine ⟨_, rfl, _, rfl, wl, _, at_, .str x, rfl, rfl, SqL.of (s1 _ _ at5), ?_, by show 1 ≤ sizeLine; decide, fun um hum => ?_⟩
      · obtain ⟨m, rfl⟩ : ∃ m : Nat, at_ = (m : Int) := ⟨at_.toNat, by omega⟩
        exact atI_nat (by rw [List.getElem?_map]; rw [show ((m : Int)).toNat = m from rfl] at hx; rw [hx]; rfl)
      have s2 := Same.new (o := .lst [.str x]) (Same.refl H6) hum
      refine ⟨u1, um, _, _, rfl, rfl, s2 _ _ b1, upd_same, by rw [List.length_map, List.length_take]; show _ + 1 ≤ _; omega, fun uc huc => ?_⟩
      have s3 := Same.new (o := .lst ((ws.take at_.toNat).map V.str ++ [.str x])) s2 huc
      have b3 : upd (upd H6 um (.lst [.str x])) uc (.lst ((ws.take at_.toNat).map V.str ++ [.str x])) uc = _ := upd_same
      generalize upd (upd H6 um (.lst [.str x])) uc (.lst ((ws.take at_.toNat).map V.str ++ [.str x])) = H7 at s3 b3 ⊢
      refine ⟨_, rfl, _, rfl, _, rfl, wl, _, rfl, SqL.of (s3 _ _ (s1 _ _ at5)), fun u2 hu2 => ?_⟩
      rw [cutV_from _ a0, ← List.map_drop]
      refine ⟨uc, u2, _, _, rfl, rfl, (by rw [upd_ne (ne_of_none b3 hu2)]; exact b3), upd_same, by rw [List.length_append, List.length_map, List.length_map, List.length_take, List.length_drop]; show _ + 1 + _ ≤ _; omega, fun u3 hu3 => ?_⟩
      refine fin (ws.take at_.toNat ++ [x] ++ ws.drop at_.toNat) u3 _ (Same.new (Same.new (s1.trans s3) hu2) hu3) (by rw [List.map_append, List.map_append]; exact upd_same) (fun y hy => ?_) (by rw [amt_add, amt_add]; show _ + (x.length + 0 + 1) + _ ≤ _; omega)
      rcases List.mem_append.mp hy with hy | hy
      · rcases List.mem_append.mp hy with hy | hy
        · exact wa y (List.mem_of_mem_take hy)
        · rw [List.mem_singleton.mp hy]
          exact xa
      · exact wa y (List.mem_of_mem_drop hy)
    rw [decide_eq_false (fun z => c1 (V.int.inj z))]
    refine iteF ⟨_, rfl, rfl, _, rfl, ?_⟩
    by_cases c2 : way = 2
    · rw [decide_eq_true (by rw [c2])]
      refine iteT ⟨⟨_, rfl⟩, _, rfl, _, rfl, _, rfl, wl, _, rfl, SqL.of at5, fun u1 hu1 => ?_⟩
      rw [cutV_to _ a0, ← List.map_take]
      have s1 := Same.new (o := .lst ((ws.take at_.toNat).map V.str)) (Same.refl H5) hu1
      have b1 : upd H5 u1 (.lst ((ws.take at_.toNat).map V.str)) u1 = _ := upd_same
      generalize upd H5 u1 (.lst ((ws.take at_.toNat).map V.str)) = H6 at s1 b1 ⊢
      refine ⟨_, rfl, by show 1 ≤ sizeLine; decide, fun um hum => ?_⟩
      have s2 := Same.new (o := .lst [.str sg]) (Same.refl H6) hum
      refine ⟨u1, um, _, _, rfl, rfl, s2 _ _ b1, upd_same, by rw [List.length_map, List.length_take]; show _ + 1 ≤ _; omega, fun uc huc => ?_⟩
      have s3 := Same.new (o := .lst ((ws.take at_.toNat).map V.str ++ [.str sg])) s2 huc
      have b3 : upd (upd H6 um (.lst [.str sg])) uc (.lst ((ws.take at_.toNat).map V.str ++ [.str sg])) uc = _ := upd_same
      generalize upd (upd H6 um (.lst [.str sg])) uc (.lst ((ws.take at_.toNat).map V.str ++ [.str sg])) = H7 at s3 b3 ⊢
      refine ⟨_, rfl, _, rfl, _, _, rfl, rfl, _, rfl, wl, _, rfl, SqL.of (s3 _ _ (s1 _ _ at5)), fun u2 hu2 => ?_⟩
      rw [cutV_from _ (show 0 ≤ at_ + 1 by omega), ← List.map_drop]
      refine ⟨uc, u2, _, _, rfl, rfl, (by rw [upd_ne (ne_of_none b3 hu2)]; exact b3), upd_same, by rw [List.length_append, List.length_map, List.length_map, List.length_take, List.length_drop]; show _ + 1 + _ ≤ _; omega, fun u3 hu3 => ?_⟩
      refine fin (ws.take at_.toNat ++ [sg] ++ ws.drop (at_ + 1).toNat) u3 _ (Same.new (Same.new (s1.trans s3) hu2) hu3) (by rw [List.map_append, List.map_append]; exact upd_same) (fun y hy => ?_) (by rw [amt_add, amt_add]; show _ + (sg.length + 0 + 1) + _ ≤ _; omega)
      rcases List.mem_append.mp hy with hy | hy
      · rcases List.mem_append.mp hy with hy | hy
        · exact wa y (List.mem_of_mem_take hy)
        · rw [List.mem_singleton.mp hy]
          exact sga
      · exact wa y (List.mem_of_mem_drop hy)
    rw [decide_eq_false (fun z => c2 (V.int.inj z))]
    refine iteF ⟨_, rfl, _, _, rfl, rfl, _, rfl, ?_⟩
    have out : ∀ (t : Str), Asc t → t.length ≤ 2 * line.length + 50 → Q (.str t) H5 := fun t h1 h2 => k t n5 H5 h1 h2 (by omega) hp5 kp
    have c1' := cut_len line none (some spot)
    by_cases c5 : way < 5
    · rw [decide_eq_true c5]
      refine iteT ⟨_, rfl, _, rfl, _, rfl, line, rfl, by omega, _, rfl, _, _, rfl, rfl, by omega, ?_⟩
      refine ⟨_, rfl, _, rfl, _, rfl, rfl, .inr ⟨_, rfl, _, _, rfl, rfl, _, rfl, line, rfl, by omega, ?_⟩⟩
      have c6 := cut_len line (some (spot + (if decide (V.int way = V.int 4) = true then 1 else 0))) none
      refine ⟨_, _, rfl, rfl, by rw [Str.length_append]; omega, out _ (((asc.cut _ _).add sga).add (asc.cut _ _)) ?_⟩
      rw [Str.length_append, Str.length_append]
      omega
    · rw [decide_eq_false c5]
      refine iteF ⟨_, rfl, rfl, _, rfl, ?_⟩
      by_cases c7 : way = 5
      · rw [decide_eq_true (by rw [c7])]
        refine iteT ⟨_, rfl, _, rfl, _, rfl, line, rfl, by omega, ?_⟩
        refine ⟨_, rfl, _, rfl, _, _, rfl, rfl, _, rfl, line, rfl, by omega, ?_⟩
        have c6 := cut_len line (some (spot + 1)) none
        refine ⟨_, _, rfl, rfl, by omega, out _ ((asc.cut _ _).add (asc.cut _ _)) ?_⟩
        rw [Str.length_append]
        omega
      · rw [decide_eq_false (fun z => c7 (V.int.inj z))]
        refine iteF ⟨_, rfl, _, rfl, by show 4 ≤ sizeLine; decide, fun a2 ha2 => ⟨p, a2, n5, _, rfl, hp5.new ha2, by omega, upd_same, (hp5.ne ha2).symm, by show 0 < 4; decide, by show 4 ≤ 1000; decide, fun v n6 H6 hv6 hn6 hp6 k6 => ?_⟩⟩
        obtain ⟨tt, htt, rfl⟩ : ∃ tt, tt ∈ tails ∧ v = .str tt := by
          have hv' : v ∈ tails.map V.str := hv6
          obtain ⟨tt, h1, h2⟩ := List.mem_map.mp hv'
          exact ⟨tt, h1, h2.symm⟩
        obtain ⟨ta, tl_⟩ := signs_ok tt (List.mem_append_right _ htt)
        exact ⟨_, _, rfl, rfl, by omega, k _ n6 H6 (asc.add ta) (by rw [Str.length_append]; omega) (by omega) hp6 (kp.trans ((Keep.rfl'.new ha2).trans k6))⟩
end
end TT

set_option maxHeartbeats 4000000
namespace TT
open PySem PySem.Spec PyProof.Rows L2 LamX TL
/-! ### any line read -/
theorem cut_tail (x : V) (xs : List V) : cutV (x :: xs) (some 1) none = xs := by
  unfold cutV
  have e1 : HT.sIx (x :: xs).length 0 (some 1) = 1 := by
    show (if (1 : Int) < 0 then ((1 : Int) + ((x :: xs).length : Int)).toNat else min (1 : Int).toNat (x :: xs).length) = 1
    rw [if_neg (by decide), List.length_cons]
    show min 1 (xs.length + 1) = 1
    omega
  have e2 : HT.sIx (x :: xs).length (x :: xs).length none = (x :: xs).length := rfl
  rw [e1, e2, List.length_cons, List.drop_one, List.tail_cons]
  exact List.take_of_length_le (by omega)
theorem at_head {x : V} {xs : List V} : atI (x :: xs) 0 = some x := atI_nat (j := 0) rfl
theorem take_snoc {α : Type} {l : List α} {i : Nat} {x : α} (h : l[i]? = some x) : l.take (i + 1) = l.take i ++ [x] := by
  rw [List.take_add_one, h]
  rfl
theorem spl32_free : ∀ (l acc : List Nat), 32 ∉ acc → ∀ p ∈ spl [32] 0 acc l, 32 ∉ p
  | [], acc, h, p, hp => by
    rw [spl_nil, List.mem_singleton] at hp
    rw [hp]
    exact h
  | c :: r, acc, h, p, hp => by
    by_cases e : pre [32] (c :: r) = true
    · rw [spl_hit e] at hp
      rcases List.mem_cons.mp hp with rfl | hp
      · exact h
      · exact spl32_free r [] (fun z => nomatch z) p hp
    · have e' : pre [32] (c :: r) = false := by cases hh : pre [32] (c :: r) with
        | true => exact absurd hh e
        | false => rfl
      rw [spl_miss e'] at hp
      refine spl32_free r (acc ++ [c]) (fun z => ?_) p hp
      rcases List.mem_append.mp z with z | z
      · exact h z
      · have : c = 32 := (List.mem_singleton.mp z).symm
        subst this
        have : pre [32] (32 :: r) = true := by simp [pre]
        rw [this] at e'
        cases e'
theorem split_free (t : Str) : ∀ p ∈ Txt.split t (Str.ofString " "), 32 ∉ tl p := fun p hp => by
  have h := split_spl t (Str.ofString " ") (by rw [sp_tl]; simp) (kind_ok (by decide +kernel))
  rw [sp_tl] at h
  exact spl32_free _ [] (fun z => nomatch z) _ (by rw [← h]; exact List.mem_map_of_mem hp)
/-- a line cut at its first blank -/
theorem part_line {line w0 : Str} {ws : List Str} (h : Txt.split line (Str.ofString " ") = w0 :: ws) :
    ∃ sep text, Txt.partition line (Str.ofString " ") = (w0, sep, text) ∧ (ws ≠ [] → Txt.split text (Str.ofString " ") = ws) ∧ (ws = [] → text = Str.empty) := by
  have fr : ∀ p ∈ w0 :: ws, 32 ∉ tl p := fun p hp => split_free line p (by rw [h]; exact hp)
  have ej := StrLaws.join_split line (Str.ofString " ")
  rw [h] at ej
  cases ws with
  | nil =>
    have e : line = w0 := by
      rw [← ej]
      refine ext_tl ?_
      rw [tl_join]
      rfl
    rw [e]
    exact ⟨_, _, partition_none (s := 32) (S := []) sp_tl (fr w0 (List.mem_cons_self ..)), fun z => absurd rfl z, fun _ => rfl⟩
  | cons w1 us =>
    have e : line = w0 ++ Str.ofString " " ++ Txt.join (Str.ofString " ") (w1 :: us) := by
      rw [← ej]
      refine ext_tl ?_
      rw [tl_join, tl_append, tl_append]
      rw [show Txt.join (Str.ofString " ") (w1 :: us) = _ from join_eq _ _, tl_join, sp_tl]
      simp [joinL]
    rw [e]
    exact ⟨_, _, partition_app (s := 32) (S := []) sp_tl (fr w0 (List.mem_cons_self ..)), fun _ => split_join (s := 32) (S := []) sp_tl (by decide +kernel) (by simp) fun p hp => fr p (List.mem_cons_of_mem _ hp), fun z => by cases z⟩
/-- a line of a word and so many integers -/
def IsNums (line word : Str) (m : Nat) (is : List Int) : Prop := ∃ ws, Txt.split line (Str.ofString " ") = word :: ws ∧ ws.length = m ∧ ws.map numRead = is.map some
theorem numV_flat (o : Option Int) : flatV (numV o) = true := by cases o <;> rfl
theorem nums_flat (os : List (Option Int)) : (os.map numV).all flatV = true := by
  induction os with
  | nil => rfl
  | cons a t ih => rw [List.map_cons, List.all_cons, ih, numV_flat] <;> rfl
theorem nums_in (os : List (Option Int)) : inV .non (os.map numV) = os.any Option.isNone := by
  induction os with
  | nil => rfl
  | cons a t ih =>
    unfold inV at ih ⊢
    rw [List.map_cons, List.any_cons, ih, List.any_cons]
    cases a <;> rfl
theorem all_some : ∀ {os : List (Option Int)}, os.any Option.isNone = false → ∃ is : List Int, os = is.map some
  | [], _ => ⟨[], rfl⟩
  | none :: t, h => by simp at h
  | some a :: t, h => by
    rw [List.any_cons] at h
    obtain ⟨is, e⟩ := all_some (os := t) (by simpa using h)
    exact ⟨a :: is, by rw [e]; rfl⟩
def sp_numbers_any : Sp := fun vs H Q _ => ∃ (line word : Str) (m : Nat), vs = [.str line, .str word, .int (m : Int)] ∧ Fine line ∧ m ≤ 100 ∧
  (∀ is : List Int, IsNums line word m is → ∀ x H', H x = none → Same H H' → H' x = some (.tup (is.map V.int)) → Q (.ref x) H') ∧ ((¬ ∃ is, IsNums line word m is) → ∀ H', Same H H' → Q .non H')
def IsSize (line : Str) (z : Int) : Prop := IsNums line (Str.ofString "size") 1 [z] ∧ 1 ≤ z ∧ z ≤ 10 ^ 30
def IsNote (line : Str) (z a b : Int) : Prop := IsNums line (Str.ofString "note") 2 [a, b] ∧ 0 ≤ a ∧ a < z
def sp_size_any : Sp := fun vs H Q _ => ∃ line : Str, vs = [.str line] ∧ Fine line ∧ (∀ z, IsSize line z → ∀ H', Same H H' → Q (.int z) H') ∧ ((¬ ∃ z, IsSize line z) → ∀ H', Same H H' → Q .non H')
def sp_note_any : Sp := fun vs H Q _ => ∃ (line : Str) (z : Int), vs = [.str line, .int z] ∧ Fine line ∧ (∀ a b, IsNote line z a b → ∀ x H', H x = none → Same H H' → H' x = some (.tup [.int a, .int b]) → Q (.ref x) H') ∧ ((¬ ∃ a b, IsNote line z a b) → ∀ H', Same H H' → Q .non H')
def sp_is_tie_within (C : Addr) : Sp := fun vs H Q _ => (∃ (q : Addr) (r : Row) (z : Int), vs = [.ref q, .int z] ∧ TieAt C H q r ∧ Q (.bl (decide ((if r.s > r.f then r.s else r.f) + r.l ≤ z))) H) ∨ ∃ z : Int, vs = [.non, .int z] ∧ Q (.bl false) H
section
variable {P : Program} {w : World} {K : PySem.W.Frag} {mg : Str → Option Value} {base : Heap} {Z : Zs}
theorem ok_numbers_behind (T : Txt K mg Z) : FnOk P w K mg base CX0 3 Z.f_numbers_behind Z.d_numbers_behind ["line", "word", "many"] sp_numbers_any := by
  refine T.F_numbers_behind.ok sc_numbers_behind (fun vs H Q E h => ?_) (fun cdv A outer s H vs Q E hr h => ?_)
  · obtain ⟨l, w, m, rfl, _⟩ := h
    rfl
  · obtain ⟨line, word, m, rfl, fi, hm, ky, kn⟩ := h
    have sl : sizeLine = 16777216 := sizeLine_eq
    have hl := fi.len
    refine ⟨_, (pss_cons (ps_set (i := 3) sc_numbers_behind.nd rfl (Or.inl rfl) (pe_split (pv 0) pe_str))
      (pss_cons (ps_if (PW.pt (pw_or (pt_cmpR op_ne (pe_callB  call_len (by rfl) T.b_len (by decide +kernel) (pa_cons (pv 3) pa_nil)) (pe_op op_add (pv 2) pe_int) (nomark _)) (pw_or1 (pt_cmpR op_ne (pe_ix ix_list (pv 3) pe_int (fun _ _ => rfl)) (pv 1) (nomark _))))) (pss_one (ps_ret pe_non)) pss_nil)
      (pss_cons (ps_setLc (i := 4) (own := [("one", 5)]) rfl sc_numbers_behind.nd rfl rfl (sw_true rfl rfl rfl (by decide +kernel)) (pi_list (pe_slice sl_list (pv 3) (po_some pe_int) po_none)) (blkOk_by (own := [("one", 5)]) (N := ["line", "word", "many", "words", "numbers", "one"]) (sc := defScope s_numbers_behind) (by decide +kernel)) (fun _ _ _ _ _ => (pg_name (i := 5) sc_numbers_behind.nd rfl (Or.inl rfl))) (fun _ _ _ _ _ => pts_nil) (fun _ _ _ _ _ => (pe_call (ok_number_in T) (hr.mono (by decide)) rfl T.g_number_in T.k_number_in T.bn_number_in .nil pass0 (pa_cons (pv 5) pa_nil))))
      (pss_one (ps_ret (pe_ifExp (pt_cmpR op_in_seq pe_non (pv 4) (by with_unfolding_all rfl)) pe_non (pe_callTy call_tuple_of (by rfl) T.b_tuple (by decide +kernel) (pa_cons (pv 4) pa_nil)))))))), ?_⟩
    refine ⟨_, rfl, ⟨_, rfl⟩, _, _, rfl, rfl, by decide, by omega, fun wl hwl => ?_⟩
    obtain ⟨w0, ws, hs⟩ : ∃ w0 ws, Txt.split line (Str.ofString " ") = w0 :: ws := by
      cases h : Txt.split line (Str.ofString " ") with
      | nil => exact absurd h (words_ne line)
      | cons a t => exact ⟨a, t, rfl⟩
    have wf : ∀ p ∈ w0 :: ws, p.length ≤ 50 := fun p hp => (fi.wd p (by rw [hs]; exact hp))
    have no : ∀ {C : Prop}, C → (C → ¬ ∃ is, IsNums line word m is) → ∀ H', Same H H' → Q .non H' := fun c f => kn (f c)
    rw [hs]
    have sW := Same.new (o := .lst ((w0 :: ws).map V.str)) (Same.refl H) hwl
    have atW : upd H wl (.lst ((w0 :: ws).map V.str)) wl = some (.lst (V.str w0 :: ws.map V.str)) := upd_same
    generalize upd H wl (.lst ((w0 :: ws).map V.str)) = H1 at sW atW ⊢
    refine ⟨_, rfl, _, _, rfl, .inl ⟨_, SqL.of atW, rfl⟩, _, rfl, _, _, rfl, rfl, rfl, !decide (ws.length = m), ?_, ?_⟩
    · rw [List.length_cons, List.length_map]
      by_cases e : ws.length = m
      · rw [decide_eq_true e, decide_eq_true (by rw [← e]; rfl)]
      · rw [decide_eq_false e, decide_eq_false fun z => e (by have := V.int.inj z; omega)]
    by_cases e : ws.length = m
    case neg =>
      rw [decide_eq_false e]
      exact iteT (iteT (no e (fun e ⟨is, us, h1, h2, _⟩ => by rw [hs] at h1; injection h1 with _ h1; rw [h1] at e; exact e h2) _ sW))
    rw [decide_eq_true e]
    refine iteF ?_
    refine ⟨_, rfl, wl, _, _, _, rfl, rfl, SqL.of atW, at_head, _, rfl, rfl, !decide (w0 = word), ?_, ?_⟩
    · by_cases e : w0 = word
      · rw [e, decide_eq_true rfl, decide_eq_true rfl]
      · rw [decide_eq_false e, decide_eq_false fun z => e (V.str.inj z)]
    by_cases e2 : w0 = word
    case neg =>
      rw [decide_eq_false e2]
      exact iteT (no e2 (fun e2 ⟨is, us, h1, h2, _⟩ => by rw [hs] at h1; injection h1 with h1 _; exact e2 h1) _ sW)
    rw [decide_eq_true e2]
    refine iteF ?_
    subst e2
    refine ⟨_, rfl, _, rfl, wl, _, rfl, SqL.of atW, fun w2 hw2 => ⟨w2, rfl, ⟨_, SqL.of upd_same⟩, fun D hD => ?_⟩⟩
    rw [cut_tail] at hD ⊢
    have s2 := Same.new (o := .lst (ws.map V.str)) (Same.refl H1) hw2
    have at2 : upd H1 w2 (.lst (ws.map V.str)) w2 = some (.lst (ws.map V.str)) := upd_same
    generalize upd H1 w2 (.lst (ws.map V.str)) = H2 at s2 at2 hD ⊢
    have sD := Same.new (o := .lst []) (Same.refl H2) hD
    refine lc_list (xs := ws.map V.str) (fun i H' => H' D = some (.lst (((ws.map numRead).map numV).take i)) ∧ Same H2 H') ⟨upd_same, sD⟩ (fun i H' _ h => SqL.of (h.2 _ _ at2)) ?_ ?_
    · rintro i x H' hi ⟨hDi, sm⟩
      refine ⟨rfl, ?_⟩
      unfold tYes
      refine iteT ?_
      rw [List.getElem?_map] at hi
      obtain ⟨v, hv, rfl⟩ := Option.map_eq_some_iff.mp hi
      have hvl := wf v (List.mem_cons_of_mem _ (List.mem_of_getElem? hv))
      have il := (List.getElem?_eq_some_iff.mp hv).1
      refine ⟨_, rfl, v, rfl, by omega, ?_⟩
      have tl' := List.length_take_le i ((ws.map numRead).map numV)
      refine ⟨_, hDi, by omega, ?_, fun b u e => ?_⟩
      · rw [upd_same, take_snoc (x := numV (numRead v)) (by rw [List.getElem?_map, List.getElem?_map, hv] <;> rfl)]
      · rw [upd_ne (ne_of_none e hD)]
        exact sm b u e
    · rintro H4 ⟨hD4, s4⟩
      rw [List.take_of_length_le (by rw [List.length_map, List.length_map, List.length_map]; omega)] at hD4
      have sN := (sW.trans s2).trans s4
      refine ⟨_, rfl, D, _, rfl, .inl (SqL.of hD4), rfl, nums_flat _, (ws.map numRead).any Option.isNone, by rw [nums_in] <;> rfl, ?_⟩
      cases hb : (ws.map numRead).any Option.isNone with
      | true =>
        refine iteT (no hb (fun hb ⟨is, us, h1, h2, h3⟩ => ?_) _ sN)
        rw [hs] at h1
        injection h1 with _ h1
        rw [h1, h3] at hb
        simp at hb
      | false =>
        obtain ⟨is, ei⟩ := all_some hb
        refine iteF ?_
        have e3 : (ws.map numRead).map numV = is.map V.int := by rw [ei, List.map_map]; rfl
        rw [e3] at hD4
        exact ⟨_, rfl, D, _, rfl, .inl ⟨SqL.of hD4, fun l hl => ky is ⟨ws, hs, e, ei⟩ l _ (L2.Same.free sN hl) (Same.new sN hl) upd_same⟩⟩
theorem IsNums.one {line word : Str} {is : List Int} (h : IsNums line word 1 is) : ∃ z, is = [z] := by
  obtain ⟨ws, _, l, e⟩ := h
  have := congrArg List.length e
  rw [List.length_map, List.length_map, l] at this
  exact List.length_eq_one_iff.mp this.symm
theorem IsNums.two {line word : Str} {is : List Int} (h : IsNums line word 2 is) : ∃ a b, is = [a, b] := by
  obtain ⟨ws, _, l, e⟩ := h
  have := congrArg List.length e
  rw [List.length_map, List.length_map, l] at this
  cases is with
  | nil => simp at this
  | cons a t => cases t with
    | nil => simp at this
    | cons b t => cases t with
      | nil => exact ⟨a, b, rfl⟩
      | cons c t => simp at this
theorem IsNums.uniq {line word : Str} {m : Nat} {is js : List Int} (h : IsNums line word m is) (g : IsNums line word m js) : is = js := by
  obtain ⟨ws, h1, _, h3⟩ := h
  obtain ⟨us, g1, _, g3⟩ := g
  rw [h1] at g1
  injection g1 with _ g1
  rw [g1, g3] at h3
  exact ((List.map_inj_right fun _ _ => Option.some.inj).mp h3).symm
theorem ok_size_in (T : Txt K mg Z) : FnOk P w K mg base CX0 4 Z.f_size_in Z.d_size_in ["line"] sp_size_any := by
  refine T.F_size_in.ok sc_size_in (fun vs H Q E h => ?_) (fun cdv A outer s H vs Q E hr h => ?_)
  · obtain ⟨z, rfl, _⟩ := h
    rfl
  · obtain ⟨line, rfl, fi, ky, kn⟩ := h
    refine ⟨_, (pss_cons (ps_set (i := 1) sc_size_in.nd rfl (Or.inl rfl) (pe_call (ok_numbers_behind T) (hr.mono (by decide)) rfl T.g_numbers_behind T.k_numbers_behind T.bn_numbers_behind .nil pass0 (pa_cons (pv 0) (pa_cons pe_str (pa_cons pe_int pa_nil)))))
      (pss_one (ps_ret (pe_ifExp (PW.pt (pw_and (pt_cmpR op_notN (pv 1) pe_non (nomark _)) (pw_and1 (pt_val (pe_call (ok_is_between T) (hr.mono (by decide)) rfl T.g_is_between T.k_is_between T.bn_is_between .nil pass0 (pa_cons (pe_ix ix_tup (pv 1) pe_int (fun _ _ => rfl)) (pa_cons pe_int (pa_cons (pe_glob (v := .int 1000000000000000000000000000000) rfl T.c_GREATEST ⟨_, rfl⟩) pa_nil)))))))) (pe_ix ix_tup (pv 1) pe_int (fun _ _ => rfl)) pe_non)))), ?_⟩
    refine ⟨_, rfl, line, Str.ofString "size", 1, rfl, fi, by decide, fun is h x H1 nx s1 hx => ?_, fun no H1 s1 => ?_⟩
    · obtain ⟨z, rfl⟩ := h.one
      refine ⟨_, rfl, rfl, true, rfl, iteT ?_⟩
      by_cases c : 1 ≤ z ∧ z ≤ 10 ^ 30
      · refine ⟨_, rfl, x, _, _, _, rfl, rfl, SqT.of hx, rfl, .inl ⟨z, 1, _, rfl, true, ?_, iteT ?_⟩⟩
        · rw [decide_eq_true c.1, decide_eq_true (show z ≤ 1000000000000000000000000000000 by omega)] <;> rfl
        exact ⟨_, rfl, x, _, _, _, rfl, rfl, SqT.of hx, rfl, ky z ⟨h, c.1, c.2⟩ H1 s1⟩
      · refine ⟨_, rfl, x, _, _, _, rfl, rfl, SqT.of hx, rfl, .inl ⟨z, 1, _, rfl, false, ?_, iteF ?_⟩⟩
        · by_cases d : 1 ≤ z
          · rw [decide_eq_true d, decide_eq_false (show ¬ z ≤ 1000000000000000000000000000000 by omega)] <;> rfl
          · rw [decide_eq_false d] <;> rfl
        refine kn (fun ⟨y, hy, y0, y1⟩ => ?_) H1 s1
        obtain rfl : z = y := by have := h.uniq hy; injection this
        exact c ⟨y0, y1⟩
    · exact ⟨_, rfl, rfl, false, rfl, iteF (iteF (kn (fun ⟨y, hy, _⟩ => no ⟨_, hy⟩) H1 s1))⟩
theorem ok_note_in (T : Txt K mg Z) : FnOk P w K mg base CX0 4 Z.f_note_in Z.d_note_in ["line", "size"] sp_note_any := by
  refine T.F_note_in.ok sc_note_in (fun vs H Q E h => ?_) (fun cdv A outer s H vs Q E hr h => ?_)
  · obtain ⟨l, z, rfl, _⟩ := h
    rfl
  · obtain ⟨line, z, rfl, fi, ky, kn⟩ := h
    refine ⟨_, (pss_cons (ps_set (i := 2) sc_note_in.nd rfl (Or.inl rfl) (pe_call (ok_numbers_behind T) (hr.mono (by decide)) rfl T.g_numbers_behind T.k_numbers_behind T.bn_numbers_behind .nil pass0 (pa_cons (pv 0) (pa_cons pe_str (pa_cons pe_int pa_nil)))))
      (pss_one (ps_ret (pe_ifExp (PW.pt (pw_and (pt_cmpR op_notN (pv 2) pe_non (nomark _)) (pw_and1 (pt_val (pe_call (ok_is_between T) (hr.mono (by decide)) rfl T.g_is_between T.k_is_between T.bn_is_between .nil pass0 (pa_cons (pe_ix ix_tup (pv 2) pe_int (fun _ _ => rfl)) (pa_cons pe_int (pa_cons (pe_op op_sub (pv 1) pe_int) pa_nil)))))))) (pv 2) pe_non)))), ?_⟩
    refine ⟨_, rfl, line, Str.ofString "note", 2, rfl, fi, by decide, fun is h x H1 nx s1 hx => ?_, fun no H1 s1 => ?_⟩
    · obtain ⟨a, b, rfl⟩ := h.two
      refine ⟨_, rfl, rfl, true, rfl, iteT ?_⟩
      by_cases c : 0 ≤ a ∧ a < z
      · refine ⟨_, rfl, x, _, _, _, rfl, rfl, SqT.of hx, rfl, _, rfl, _, _, rfl, rfl, .inl ⟨a, 0, z - 1, rfl, true, ?_, iteT ?_⟩⟩
        · rw [decide_eq_true c.1, decide_eq_true (by omega)] <;> rfl
        exact ⟨_, rfl, ky a b ⟨h, c.1, c.2⟩ x H1 nx s1 hx⟩
      · refine ⟨_, rfl, x, _, _, _, rfl, rfl, SqT.of hx, rfl, _, rfl, _, _, rfl, rfl, .inl ⟨a, 0, z - 1, rfl, false, ?_, iteF ?_⟩⟩
        · by_cases d : 0 ≤ a
          · rw [decide_eq_true d, decide_eq_false (by omega)] <;> rfl
          · rw [decide_eq_false d] <;> rfl
        refine kn (fun ⟨y, y', hy, y0, y1⟩ => ?_) H1 s1
        have e := h.uniq hy
        injection e with e _
        subst e
        exact c ⟨y0, y1⟩
    · exact ⟨_, rfl, rfl, false, rfl, iteF (iteF (kn (fun ⟨y, y', hy, _⟩ => no ⟨_, hy⟩) H1 s1))⟩
theorem ok_is_tie_within (T : Txt K mg Z) : FnOk P w K mg base CX0 1 Z.f_is_tie_within Z.d_is_tie_within ["value", "size"] (sp_is_tie_within Z.cC) := by
  refine T.F_is_tie_within.ok sc_is_tie_within (fun vs H Q E h => ?_) (fun cdv A outer s H vs Q E hr h => ?_)
  · rcases h with ⟨q, r, z, rfl, _⟩ | ⟨z, rfl, _⟩ <;> rfl
  · refine ⟨_, (pss_one (ps_ret (pe_and (pe_callB  call_isi (by rfl) T.b_isinstance (by decide +kernel) (pa_cons (pv 0) (pa_cons (pe_glob (v := .ref Z.cC) rfl T.g_C rfl) pa_nil))) (pe_one (pe_cmpR op_le (pe_op op_add (pe_callB  (call_max2 rfl) (by rfl) T.b_max (by decide +kernel) (pa_cons (pe_fld (pv 0) rfl) (pa_cons (pe_fld (pv 0) rfl) pa_nil))) (pe_fld (pv 0) rfl)) (pv 1) (nomark _)))))), ?_⟩
    rcases h with ⟨q, r, z, rfl, ⟨dx, hq⟩, k⟩ | ⟨z, rfl, k⟩
    · refine ⟨_, rfl, _, _, _, _, true, rfl, .own Z.cC, .base (.ins hq T.cl T.z_cls T.z_get T.z_tk T.z_mro), T.z_kit, true, rfl, iteT ?_⟩
      exact ⟨_, rfl, q, _, dx, _, _, rfl, hq, T.cl, T.n_first, tfs_first r, _, rfl, q, _, dx, _, _, rfl, hq, T.cl, T.n_second, tfs_second r, _, _, rfl, _, rfl, q, _, dx, _, _, rfl, hq, T.cl, T.n_length, tfs_length r, _, _, rfl, rfl, _, rfl, _, _, rfl, rfl, k⟩
    · exact ⟨_, rfl, _, _, _, _, false, rfl, .own Z.cC, .base .non, T.z_kitN, false, rfl, iteF k⟩
end
end TT

set_option maxHeartbeats 4000000
namespace TT
open PySem PySem.Spec PyProof.Rows L2 LamX TL
/-! ### ties read of any line; how many lines of a book can stand -/
def tieVals (ws : List Str) : Option Row := match vals ws with
  | some r => if r.Fits then some r.tied else none
  | none => none
theorem tieOf_vals (t : Str) : tieOf t = tieVals (Txt.split t (Str.ofString " ")) := rfl
def IsTieB (l : Str) (r : Row) : Prop := ∃ ws, Txt.split l (Str.ofString " ") = Str.ofString "tie" :: ws ∧ tieVals ws = some r
def IsTie (l : Str) (z : Int) (r : Row) : Prop := IsTieB l r ∧ (if r.s > r.f then r.s else r.f) + r.l ≤ z
theorem empty_words : Txt.split Str.empty (Str.ofString " ") = [Str.empty] := by decide +kernel
theorem part_fine {line w0 : Str} {ws : List Str} (f : Fine line) (h : Txt.split line (Str.ofString " ") = w0 :: ws) :
    ∃ sep text, Txt.partition line (Str.ofString " ") = (w0, sep, text) ∧ Fine text ∧ tieOf text = tieVals ws := by
  obtain ⟨sep, text, hp, h1, h2⟩ := part_line h
  refine ⟨sep, text, hp, ?_, ?_⟩
  · cases ws with
    | nil =>
      rw [h2 rfl]
      refine ⟨by decide, fun p hp => ?_, fun p hp => ?_⟩
      · rw [empty_words] at hp
        rw [List.mem_singleton.mp hp]
        decide
      · rw [empty_words] at hp
        rw [List.mem_singleton.mp hp]
        decide +kernel
    | cons w1 us =>
      have e := h1 (by simp)
      have a := words_amt line
      have b := words_amt text
      rw [h] at a
      rw [e] at b
      have c : amt (w0 :: w1 :: us) = amt [w0] + amt (w1 :: us) := amt_add [w0] (w1 :: us)
      have := f.len
      refine ⟨by omega, fun p hp => f.wd p ?_, fun p hp => f.ok p ?_⟩
      · rw [h]
        rw [e] at hp
        exact List.mem_cons_of_mem _ hp
      · rw [h]
        rw [e] at hp
        exact List.mem_cons_of_mem _ hp
  · cases ws with
    | nil =>
      rw [h2 rfl, tieOf_vals, empty_words]
      rfl
    | cons w1 us => rw [tieOf_vals, h1 (by simp)]
theorem IsTieB.uniq {l : Str} {r q : Row} (h : IsTieB l r) (g : IsTieB l q) : r = q := by
  obtain ⟨ws, h1, h2⟩ := h
  obtain ⟨us, g1, g2⟩ := g
  rw [h1] at g1
  injection g1 with _ g1
  subst g1
  rw [h2] at g2
  exact Option.some.inj g2
theorem IsNote.uniq {l : Str} {z a b c d : Int} (h : IsNote l z a b) (g : IsNote l z c d) : a = c ∧ b = d := by
  have e := h.1.uniq g.1
  injection e with e1 e2
  injection e2 with e2 _
  exact ⟨e1, e2⟩
theorem IsSize.uniq {l : Str} {z y : Int} (h : IsSize l z) (g : IsSize l y) : z = y := by
  have e := h.1.uniq g.1
  injection e
theorem note_not_tie {l : Str} {z a b : Int} (h : IsNote l z a b) : ¬ ∃ r, IsTie l z r := fun ⟨r, ⟨ws, e, _⟩, _⟩ => by
  obtain ⟨us, g, _⟩ := h.1
  rw [e] at g
  injection g with g _
  exact absurd g (by decide +kernel)
theorem drop_cons {α : Type} {ls : List α} {i : Nat} {l : α} (h : ls[i]? = some l) : ls.drop i = l :: ls.drop (i + 1) := by
  obtain ⟨hi, e⟩ := List.getElem?_eq_some_iff.mp h
  rw [← e]
  exact List.drop_eq_getElem_cons hi
open Classical in
/-- so many ties stand at the beginning of these lines, behind so many -/
noncomputable def nT (z : Int) : Nat → List Str → Nat
  | _, [] => 0
  | t, l :: ls => if (∃ r, IsTie l z r) ∧ t < 12 then nT z (t + 1) ls + 1 else 0
open Classical in
/-- so many notes stand at the beginning of these lines, behind those of these places -/
noncomputable def nN (z : Int) : List Int → List Str → Nat
  | _, [] => 0
  | ps, l :: ls => if h : (∃ a, (∃ b, IsNote l z a b) ∧ a ∉ ps) ∧ ps.length < 12 then nN z (ps ++ [h.1.choose]) ls + 1 else 0
theorem nT_yes {z : Int} {t : Nat} {l : Str} {ls : List Str} {r : Row} (h : IsTie l z r) (ht : t < 12) : nT z t (l :: ls) = nT z (t + 1) ls + 1 := if_pos ⟨⟨r, h⟩, ht⟩
theorem nT_no {z : Int} {t : Nat} {l : Str} {ls : List Str} (h : ¬ ((∃ r, IsTie l z r) ∧ t < 12)) : nT z t (l :: ls) = 0 := if_neg h
theorem nN_yes {z : Int} {ps : List Int} {l : Str} {ls : List Str} {a b : Int} (h : IsNote l z a b) (hn : a ∉ ps) (hl : ps.length < 12) : nN z ps (l :: ls) = nN z (ps ++ [a]) ls + 1 := by
  have c : (∃ a, (∃ b, IsNote l z a b) ∧ a ∉ ps) ∧ ps.length < 12 := ⟨⟨a, ⟨b, h⟩, hn⟩, hl⟩
  have e : nN z ps (l :: ls) = nN z (ps ++ [c.1.choose]) ls + 1 := dif_pos c
  obtain ⟨⟨d, hd⟩, _⟩ := c.1.choose_spec
  rw [e, (hd.uniq h).1]
theorem nN_no {z : Int} {ps : List Int} {l : Str} {ls : List Str} (h : ¬ ((∃ a, (∃ b, IsNote l z a b) ∧ a ∉ ps) ∧ ps.length < 12)) : nN z ps (l :: ls) = 0 := dif_neg h
theorem nT_le (z : Int) : ∀ (ls : List Str) (t : Nat), nT z t ls ≤ ls.length
  | [], _ => Nat.le_refl _
  | l :: ls, t => by
    unfold nT
    split
    · have := nT_le z ls (t + 1)
      rw [List.length_cons]
      omega
    · omega
theorem nN_le (z : Int) : ∀ (ls : List Str) (ps : List Int), nN z ps ls ≤ ls.length
  | [], _ => Nat.le_refl _
  | l :: ls, ps => by
    unfold nN
    split
    · rename_i c
      have := nN_le z ls (ps ++ [c.1.choose])
      rw [List.length_cons]
      omega
    · omega
/-- so many of these lines stand, behind so many ties and notes of these places -/
noncomputable def tot (z : Int) (t : Nat) (ps : List Int) (ls : List Str) : Nat := if ps = [] then nT z t ls + nN z [] (ls.drop (nT z t ls)) else nN z ps ls
theorem tot_nil (z : Int) (t : Nat) (ps : List Int) : tot z t ps [] = 0 := by
  unfold tot
  split <;> simp [nT, nN]
theorem tot_le (z : Int) (t : Nat) (ps : List Int) (ls : List Str) : tot z t ps ls ≤ ls.length := by
  unfold tot
  have a := nT_le z ls t
  have b := nN_le z (ls.drop (nT z t ls)) []
  have c := nN_le z ls ps
  rw [List.length_drop] at b
  split <;> omega
theorem tot_tie {z : Int} {t : Nat} {l : Str} {ls : List Str} {r : Row} (h : IsTie l z r) (ht : t < 12) : tot z t [] (l :: ls) = tot z (t + 1) [] ls + 1 := by
  unfold tot
  rw [if_pos rfl, if_pos rfl, nT_yes h ht, List.drop_succ_cons]
  omega
theorem tot_note {z : Int} {t : Nat} {ps : List Int} {l : Str} {ls : List Str} {a b : Int} (h : IsNote l z a b) (hn : a ∉ ps) (hl : ps.length < 12) : tot z t ps (l :: ls) = tot z t (ps ++ [a]) ls + 1 := by
  unfold tot
  rw [if_neg (show ¬ (ps ++ [a] = []) by simp)]
  by_cases c : ps = []
  · subst c
    rw [if_pos rfl, nT_no (fun q => note_not_tie h q.1), List.drop_zero, nN_yes h hn hl]
    omega
  · rw [if_neg c, nN_yes h hn hl]
theorem tot_no {z : Int} {t : Nat} {ps : List Int} {l : Str} {ls : List Str} (h1 : ¬ ((∃ r, IsTie l z r) ∧ ps = [] ∧ t < 12)) (h2 : ¬ ((∃ a, (∃ b, IsNote l z a b) ∧ a ∉ ps) ∧ ps.length < 12)) : tot z t ps (l :: ls) = 0 := by
  unfold tot
  by_cases c : ps = []
  · subst c
    rw [if_pos rfl, nT_no (fun q => h1 ⟨q.1, rfl, q.2⟩), List.drop_zero, nN_no h2]
  · rw [if_neg c, nN_no h2]
/-- the number of the first line that cannot stand there, 0 for none -/
def Verd (ls : List Str) (n : Nat) : Prop := ∃ l0 r, ls = l0 :: r ∧ (((¬ ∃ z, IsSize l0 z) ∧ n = 1) ∨ ∃ z, IsSize l0 z ∧ ((tot z 0 [] r < r.length ∧ n = tot z 0 [] r + 2) ∨ (tot z 0 [] r = r.length ∧ n = 0)))
theorem verd_ex {ls : List Str} (h : ls ≠ []) : ∃ n, Verd ls n := by
  cases ls with
  | nil => exact absurd rfl h
  | cons l0 r =>
    by_cases c : ∃ z, IsSize l0 z
    · obtain ⟨z, hz⟩ := c
      have := tot_le z 0 [] r
      by_cases d : tot z 0 [] r < r.length
      · exact ⟨_, l0, r, rfl, .inr ⟨z, hz, .inl ⟨d, rfl⟩⟩⟩
      · exact ⟨_, l0, r, rfl, .inr ⟨z, hz, .inr ⟨by omega, rfl⟩⟩⟩
    · exact ⟨_, l0, r, rfl, .inl ⟨c, rfl⟩⟩
end TT

set_option maxHeartbeats 4000000
namespace TT
open PySem PySem.Spec PyProof.Rows L2 LamX TL
/-! ### ties read of any line -/
def sp_tie_behind_any (C : Addr) : Sp := fun vs H Q _ => ∃ line : Str, vs = [.str line, .str (Str.ofString "tie")] ∧ Fine line ∧ (∀ r, IsTieB line r → ∀ x H', H x = none → Same H H' → TieAt C H' x r → Q (.ref x) H') ∧ ((¬ ∃ r, IsTieB line r) → ∀ H', Same H H' → Q .non H')
def sp_tie_any (C : Addr) : Sp := fun vs H Q _ => ∃ (line : Str) (z : Int), vs = [.str line, .int z] ∧ Fine line ∧ (∀ r, IsTie line z r → ∀ x H', H x = none → Same H H' → TieAt C H' x r → Q (.ref x) H') ∧ ((¬ ∃ r, IsTie line z r) → ∀ H', Same H H' → Q .non H')
theorem takes_never {X : Cx} : Takes X (fun _ _ _ _ => False) := fun u s' ⟨_, _, _, _, _, _, _, _, _, _, _, _, _, _, _, _, w⟩ => w.elim
theorem ExcT.exmSelf {K : PySem.W.Frag} {cE fI C : Addr} (b : ExcT K cE fI C) : PySem.W.exmOne K (.ref C) (.ref C) = some true := by
  refine PySem.W.exm_ref b.ox.exC b.xf.hdC b.ox.tyC ?_
  rw [b.sub]
  congr 1
  simp
section
variable {P : Program} {w : World} {K : PySem.W.Frag} {mg : Str → Option Value} {base : Heap} {Z : Zs}
theorem ok_tie_behind (T : Txt K mg Z) : FnOk P w K mg base CX0 11 Z.f_tie_behind Z.d_tie_behind ["line", "word"] (sp_tie_behind_any Z.cC) := by
  refine T.F_tie_behind.ok sc_tie_behind (fun vs H Q E h => ?_) (fun cdv A outer s H vs Q E hr h => ?_)
  · obtain ⟨l, rfl, _⟩ := h
    rfl
  · obtain ⟨line, rfl, fi, ky, kn⟩ := h
    have sl : sizeLine = 16777216 := sizeLine_eq
    have hl := fi.len
    refine ⟨_, (pss_cons (ps_asg (pe_m1 PySem.F.slot_str_partition PySem.F.type_str_partition mt_partition (pv 0) pe_str) (pg_tup rfl (pgs_cons (pg_name (i := 2) sc_tie_behind.nd rfl (Or.inl rfl)) (pgs_cons (pg_name (i := 3) sc_tie_behind.nd rfl (Or.inl rfl)) (pgs_cons (pg_name (i := 4) sc_tie_behind.nd rfl (Or.inl rfl)) pgs_nil)))))
      (pss_cons (ps_if (pt_cmpR op_ne (pv 2) (pv 1) (nomark _)) (pss_one (ps_ret pe_non)) pss_nil)
      (pss_cons (ps_try_only (c := .ref (Z.c 4)) rfl rfl ⟨by rfl, by decide, .inl T.g_BadText⟩ takes_never (fun W pn xe tk _ => pss_one (ps_set (i := 5) sc_tie_behind.nd rfl (Or.inl rfl) (pe_statS (mc := .type "type") (pe_glob (v := .ref Z.cC) rfl T.g_C rfl) T.z_read T.z_sta (ok_T_of T) (hr.mono (by decide)) T.bn_T_of (fun σ => passAt tk σ) (pa_cons (pv 4) pa_nil)))) (fun a oe cls d pn _ _ => pss_one (ps_ret pe_non)))
      (pss_one (ps_ret (pv 5)))))), ?_⟩
    obtain ⟨w0, ws, hs⟩ : ∃ w0 ws, Txt.split line (Str.ofString " ") = w0 :: ws := by
      cases h : Txt.split line (Str.ofString " ") with
      | nil => exact absurd h (words_ne line)
      | cons a t => exact ⟨a, t, rfl⟩
    obtain ⟨sep, text, hp, ft, et⟩ := part_fine fi hs
    refine ⟨_, rfl, ⟨_, rfl⟩, _, _, rfl, rfl, by decide, by omega, fun t ht => ?_⟩
    rw [hp]
    refine ⟨t, _, rfl, SqT.of upd_same, rfl, _, _, rfl, _, _, rfl, _, _, rfl, rfl, ?_⟩
    have s1 := Same.new (o := .tup [.str w0, .str sep, .str text]) (Same.refl H) ht
    generalize upd H t (.tup [.str w0, .str sep, .str text]) = H1 at s1 ⊢
    refine ⟨_, rfl, _, rfl, rfl, !decide (w0 = Str.ofString "tie"), ?_, ?_⟩
    · by_cases e : w0 = Str.ofString "tie"
      · rw [e, decide_eq_true rfl, decide_eq_true rfl]
      · rw [decide_eq_false e, decide_eq_false fun z => e (V.str.inj z)]
    by_cases e : w0 = Str.ofString "tie"
    case neg =>
      rw [decide_eq_false e]
      exact iteT (kn (fun ⟨r, us, h1, _⟩ => by rw [hs] at h1; injection h1 with h1 _; exact e h1) H1 s1)
    rw [decide_eq_true e]
    subst e
    refine iteF ?_
    refine ⟨rfl, _, rfl, .str text, rfl, .inl ⟨text, rfl, ft, fun r er x H2 nx s2 hx => ⟨_, rfl, ky r ⟨ws, hs, et ▸ er⟩ x H2 (L2.Same.free s1 nx) (s1.trans s2) hx⟩, fun en d H2 s2 hd ed => ⟨true, (T.ex 4 (by decide)).exmSelf, fun _ a ha => kn (fun ⟨r, us, h1, h2⟩ => ?_) H2 (s1.trans s2), fun z => nomatch z⟩⟩⟩
    rw [hs] at h1
    injection h1 with _ h1
    rw [et, h1, h2] at en
    cases en
theorem ok_tie_in (T : Txt K mg Z) : FnOk P w K mg base CX0 12 Z.f_tie_in Z.d_tie_in ["line", "size"] (sp_tie_any Z.cC) := by
  refine T.F_tie_in.ok sc_tie_in (fun vs H Q E h => ?_) (fun cdv A outer s H vs Q E hr h => ?_)
  · obtain ⟨l, z, rfl, _⟩ := h
    rfl
  · obtain ⟨line, z, rfl, fi, ky, kn⟩ := h
    refine ⟨_, (pss_cons (ps_set (i := 2) sc_tie_in.nd rfl (Or.inl rfl) (pe_call (ok_tie_behind T) (hr.mono (by decide)) rfl T.g_tie_behind T.k_tie_behind T.bn_tie_behind .nil pass0 (pa_cons (pv 0) (pa_cons pe_str pa_nil))))
      (pss_one (ps_ret (pe_ifExp (pt_val (pe_call (ok_is_tie_within T) (hr.mono (by decide)) rfl T.g_is_tie_within T.k_is_tie_within T.bn_is_tie_within .nil pass0 (pa_cons (pv 2) (pa_cons (pv 1) pa_nil)))) (pv 2) pe_non)))), ?_⟩
    refine ⟨_, rfl, line, rfl, fi, fun r hr' x H1 nx s1 hx => ?_, fun no H1 s1 => ?_⟩
    · by_cases c : (if r.s > r.f then r.s else r.f) + r.l ≤ z
      · exact ⟨_, rfl, _, rfl, .inl ⟨x, r, z, rfl, hx, true, by rw [decide_eq_true c], iteT ⟨_, rfl, ky r ⟨hr', c⟩ x H1 nx s1 hx⟩⟩⟩
      · exact ⟨_, rfl, _, rfl, .inl ⟨x, r, z, rfl, hx, false, by rw [decide_eq_false c], iteF (kn (fun ⟨q, hq, c2⟩ => c (by rw [hr'.uniq hq]; exact c2)) H1 s1)⟩⟩
    · exact ⟨_, rfl, _, rfl, .inr ⟨z, rfl, false, rfl, iteF (kn (fun ⟨q, hq, _⟩ => no ⟨q, hq⟩) H1 s1)⟩⟩
end
end TT

set_option maxHeartbeats 4000000
namespace TT
open PySem PySem.Spec PyProof.Rows L2 LamX TL
/-! ### books, by what they tell -/
structure Lore where
  z : Int
  ts : List Row
  ns : List (Int × Int)
def sizeL (z : Int) : Str := Str.ofString "size " ++ Str.ofString (toString z)
def tieL (r : Row) : Str := Str.ofString "tie " ++ rowText r r.b
def noteL (p : Int × Int) : Str := Str.ofString "note " ++ Str.ofString (toString p.1) ++ Str.ofString " " ++ shownInt p.2
def Lore.lines (b : Lore) : List Str := sizeL b.z :: (b.ts.map tieL ++ b.ns.map noteL)
def Lore.text (b : Lore) : Str := Txt.join (Str.ofString "\n") b.lines
/-- a tie of a book of this size -/
structure Row.In (r : Row) (z : Int) : Prop where
  ok : r.Ok
  fz : r.f + r.l ≤ z
  sz : r.s + r.l ≤ z
  lo : -(10 ^ 36) < r.a
  hi : r.a < 10 ^ 36
/-- a note of a book of this size -/
structure NoteIn (p : Int × Int) (z : Int) : Prop where
  p0 : 0 ≤ p.1
  pz : p.1 < z
  lo : -(10 ^ 60) < p.2
  hi : p.2 < 10 ^ 60
  lo3 : -(10 ^ 36) < p.2
  hi3 : p.2 < 10 ^ 36
/-- numbers that can be written -/
structure Lore.Fine (b : Lore) : Prop where
  z0 : 1 ≤ b.z
  z1 : b.z ≤ 10 ^ 30
  ts : ∀ r ∈ b.ts, r.In b.z
  ns : ∀ p ∈ b.ns, NoteIn p b.z
structure Lore.Ok (b : Lore) : Prop where
  fine : b.Fine
  tn : b.ts.length ≤ 12
  nn : b.ns.length ≤ 12
  nd : (b.ns.map (·.1)).Nodup
theorem nl_tl : tl (Str.ofString "\n") = [10] := by decide +kernel
theorem num_free {n : Int} (h : 0 ≤ n) {c : Nat} (hc : c < 48 ∨ 57 < c) : c ∉ tl (Str.ofString (toString n)) := by
  rw [tl_int h]
  exact numL_free hc
theorem rowText_free {r : Row} (ok : r.Ok) (bk : Bool) : 10 ∉ tl (rowText r bk) := by
  unfold rowText
  rw [show Txt.join (Str.ofString " ") (wordsOf r bk) = _ from join_eq _ _, tl_join]
  have w := word_free ok (bk := bk) (c := 10) (.inr rfl)
  have e1 : tl (Str.ofString " ") = [32] := sp_tl
  rw [e1]
  intro h
  have key : ∀ l : List Str, (∀ p ∈ l, 10 ∉ tl p) → 10 ∉ joinL [32] (l.map tl) := by
    intro l
    induction l with
    | nil => intro _ z; simp [joinL] at z
    | cons a t ih =>
      intro hl z
      cases t with
      | nil => exact hl a (by simp) (by simpa [joinL] using z)
      | cons b t =>
        have z' : 10 ∈ tl a ++ ([32] ++ joinL [32] ((b :: t).map tl)) := z
        rcases List.mem_append.mp z' with z' | z'
        · exact hl a (by simp) z'
        · rcases List.mem_append.mp z' with z' | z'
          · simp at z'
          · exact ih (fun p hp => hl p (List.mem_cons_of_mem _ hp)) z'
  exact key _ w h
theorem line_free {b : Lore} (h : b.Fine) : ∀ p ∈ b.lines, 10 ∉ tl p := by
  intro p hp
  unfold Lore.lines at hp
  have es : 10 ∉ tl (Str.ofString "size ") := by decide +kernel
  have et : 10 ∉ tl (Str.ofString "tie ") := by decide +kernel
  have en : 10 ∉ tl (Str.ofString "note ") := by decide +kernel
  have eb : 10 ∉ tl (Str.ofString " ") := by decide +kernel
  rcases List.mem_cons.mp hp with rfl | hp
  · unfold sizeL
    rw [tl_append, List.mem_append]
    rintro (z | z)
    · exact es z
    · exact num_free (by have := h.z0; omega) (.inl (by decide)) z
  · rcases List.mem_append.mp hp with hp | hp
    · obtain ⟨r, hr, rfl⟩ := List.mem_map.mp hp
      unfold tieL
      rw [tl_append, List.mem_append]
      rintro (z | z)
      · exact et z
      · exact rowText_free (h.ts r hr).ok _ z
    · obtain ⟨r, hr, rfl⟩ := List.mem_map.mp hp
      unfold noteL
      rw [tl_append, tl_append, tl_append]
      simp only [List.mem_append]
      rintro (((z | z) | z) | z)
      · exact en z
      · exact num_free (h.ns r hr).p0 (.inl (by decide)) z
      · exact eb z
      · exact shown_free (.inl (by decide)) z
theorem split_text {b : Lore} (h : b.Fine) : Txt.split b.text (Str.ofString "\n") = b.lines :=
  split_join (s := 10) (S := []) nl_tl (by decide +kernel) (by unfold Lore.lines; simp) (line_free h)
theorem num_len {n : Int} (h0 : 0 ≤ n) (h1 : n ≤ 10 ^ 30) : (Str.ofString (toString n)).length ≤ 31 := by
  have l30 : (10 : Int) ^ 30 < 10 ^ 31 := by decide +kernel
  exact toString_length_le h0 (by decide) (by omega)
theorem size_len {b : Lore} (h : b.Fine) : (sizeL b.z).length ≤ 40 := by
  unfold sizeL
  have z0 := h.z0
  have := num_len (n := b.z) (by omega) h.z1
  have e : (Str.ofString "size ").length = 5 := by decide
  rw [Str.length_append]
  omega
theorem tie_len {r : Row} (h : r.Ok) : (tieL r).length ≤ 210 := by
  unfold tieL
  have := row_len h r.b
  have e : (Str.ofString "tie ").length = 4 := by decide
  rw [Str.length_append]
  omega
theorem note_len {p : Int × Int} {z : Int} (h : NoteIn p z) (hz : z ≤ 10 ^ 30) : (noteL p).length ≤ 210 := by
  unfold noteL
  have p1 := h.pz
  have := num_len h.p0 (by omega)
  have := shown_len60 h.lo h.hi
  have e : (Str.ofString "note ").length = 5 := by decide
  have e2 : (Str.ofString " ").length = 1 := by decide
  rw [Str.length_append, Str.length_append, Str.length_append]
  omega
theorem lines_each {b : Lore} (h : b.Fine) : ∀ p ∈ b.lines, p.length ≤ 210 := by
  intro p hp
  unfold Lore.lines at hp
  rcases List.mem_cons.mp hp with rfl | hp
  · have := size_len h
    omega
  · rcases List.mem_append.mp hp with hp | hp
    · obtain ⟨r, hr, rfl⟩ := List.mem_map.mp hp
      exact tie_len (h.ts r hr).ok
    · obtain ⟨r, hr, rfl⟩ := List.mem_map.mp hp
      exact note_len (h.ns r hr) h.z1
theorem sum_le {l : List Str} {k : Nat} (h : ∀ p ∈ l, p.length ≤ k) : (l.map (·.length)).sum ≤ l.length * k := by
  induction l with
  | nil => simp
  | cons a t ih =>
    have h1 := h a (by simp)
    have h2 := ih fun p hp => h p (List.mem_cons_of_mem _ hp)
    simp only [List.map_cons, List.sum_cons, List.length_cons, Nat.succ_mul]
    omega
theorem lines_sum {b : Lore} (h : b.Ok) : b.lines.length ≤ 25 ∧ (b.lines.map (·.length)).sum + b.lines.length * (Str.ofString "\n").length ≤ 6000 := by
  have n : b.lines.length ≤ 25 := by
    unfold Lore.lines
    rw [List.length_cons, List.length_append, List.length_map, List.length_map]
    have := h.tn
    have := h.nn
    omega
  refine ⟨n, ?_⟩
  have s := sum_le (lines_each h.fine)
  have e : (Str.ofString "\n").length = 1 := by decide
  rw [e]
  omega
theorem text_len {b : Lore} (h : b.Ok) : b.text.length ≤ 6000 := by
  have j := StrLaws.join_length_le (Str.ofString "\n") b.lines
  have e : b.text = (Str.ofString "\n").join b.lines := join_eq _ _
  obtain ⟨_, s⟩ := lines_sum h
  have e1 : (Str.ofString "\n").length = 1 := by decide
  rw [e]
  refine Nat.le_trans j (Nat.le_trans ?_ s)
  first | exact Nat.le_refl _ | (rw [e1]; omega) | omega
/-! the words of the lines -/
theorem cat_join2 (a b : Str) : a ++ Str.ofString " " ++ b = Txt.join (Str.ofString " ") [a, b] := by
  refine ext_tl ?_
  rw [show Txt.join (Str.ofString " ") [a, b] = _ from join_eq _ _, tl_join]
  simp [tl_append, joinL]
theorem cat_join3 (a b c : Str) : a ++ Str.ofString " " ++ b ++ Str.ofString " " ++ c = Txt.join (Str.ofString " ") [a, b, c] := by
  refine ext_tl ?_
  rw [show Txt.join (Str.ofString " ") [a, b, c] = _ from join_eq _ _, tl_join]
  simp [tl_append, joinL]
theorem size_split {z : Int} (h : 0 ≤ z) : Txt.split (sizeL z) (Str.ofString " ") = [Str.ofString "size", Str.ofString (toString z)] := by
  have e : sizeL z = Txt.join (Str.ofString " ") [Str.ofString "size", Str.ofString (toString z)] := by
    rw [← cat_join2]
    unfold sizeL
    refine ext_tl ?_
    have e1 : tl (Str.ofString "size ") = tl (Str.ofString "size") ++ tl (Str.ofString " ") := by decide +kernel
    rw [tl_append, tl_append, tl_append, e1]
  rw [e]
  refine split_join (s := 32) (S := []) sp_tl (by decide +kernel) (by simp) fun p hp => ?_
  simp only [List.mem_cons, List.not_mem_nil, or_false] at hp
  rcases hp with rfl | rfl
  · decide +kernel
  · exact num_free h (.inl (by decide))
theorem note_split {p : Int × Int} (h : 0 ≤ p.1) : Txt.split (noteL p) (Str.ofString " ") = [Str.ofString "note", Str.ofString (toString p.1), shownInt p.2] := by
  have e : noteL p = Txt.join (Str.ofString " ") [Str.ofString "note", Str.ofString (toString p.1), shownInt p.2] := by
    rw [← cat_join3]
    unfold noteL
    refine ext_tl ?_
    have e1 : tl (Str.ofString "note ") = tl (Str.ofString "note") ++ tl (Str.ofString " ") := by decide +kernel
    simp only [tl_append, e1]
  rw [e]
  refine split_join (s := 32) (S := []) sp_tl (by decide +kernel) (by simp) fun q hq => ?_
  simp only [List.mem_cons, List.not_mem_nil, or_false] at hq
  rcases hq with rfl | rfl | rfl
  · decide +kernel
  · exact num_free h (.inl (by decide))
  · exact shown_free (.inl (by decide))
theorem tie_parts (r : Row) : Txt.partition (tieL r) (Str.ofString " ") = (Str.ofString "tie", Str.ofString " ", rowText r r.b) := by
  have e : tieL r = Str.ofString "tie" ++ Str.ofString " " ++ rowText r r.b := by
    unfold tieL
    refine ext_tl ?_
    have e1 : tl (Str.ofString "tie ") = tl (Str.ofString "tie") ++ tl (Str.ofString " ") := by decide +kernel
    simp only [tl_append, e1]
  rw [e]
  exact partition_app (s := 32) (S := []) sp_tl (by decide +kernel)
theorem note_parts (p : Int × Int) : Txt.partition (noteL p) (Str.ofString " ") = (Str.ofString "note", Str.ofString " ", Str.ofString (toString p.1) ++ Str.ofString " " ++ shownInt p.2) := by
  have e : noteL p = Str.ofString "note" ++ Str.ofString " " ++ (Str.ofString (toString p.1) ++ Str.ofString " " ++ shownInt p.2) := by
    unfold noteL
    refine ext_tl ?_
    have e1 : tl (Str.ofString "note ") = tl (Str.ofString "note") ++ tl (Str.ofString " ") := by decide +kernel
    simp only [tl_append, e1, List.append_assoc]
  rw [e]
  exact partition_app (s := 32) (S := []) sp_tl (by decide +kernel)
/-! ### where they stand -/
/-- ties stand, by their rows -/
def Ties (C : Addr) (H : Hp) : List V → List Row → Prop := Paired fun v r => ∃ q, v = V.ref q ∧ TieAt C H q r
/-- notes stand -/
def NoteAt (H : Hp) (q : Addr) (p : Int × Int) : Prop := H q = some (.tup [.int p.1, .int p.2])
def Notes (H : Hp) : List V → List (Int × Int) → Prop := Paired fun v p => ∃ q, v = V.ref q ∧ NoteAt H q p
/-- rows stand as tuples -/
def RowsAt (H : Hp) : List V → List Row → Prop := Paired fun v r => ∃ q, v = V.ref q ∧ RowAt H q r
theorem Paired.imp {α β : Type} {F G : α → β → Prop} (f : ∀ a b, F a b → G a b) : ∀ {xs : List α} {ys : List β}, Paired F xs ys → Paired G xs ys
  | _, _, .nil => .nil
  | _, _, .cons r t => .cons (f _ _ r) (Paired.imp f t)
theorem Paired.snoc {α β : Type} {F : α → β → Prop} {a : α} {b : β} (h : F a b) : ∀ {xs : List α} {ys : List β}, Paired F xs ys → Paired F (xs ++ [a]) (ys ++ [b])
  | _, _, .nil => .cons h .nil
  | _, _, .cons r t => .cons r (Paired.snoc h t)
theorem Paired.app {α β : Type} {F : α → β → Prop} {zs : List α} {ws : List β} (h : Paired F zs ws) : ∀ {xs : List α} {ys : List β}, Paired F xs ys → Paired F (xs ++ zs) (ys ++ ws)
  | _, _, .nil => h
  | _, _, .cons r t => .cons r (Paired.app h t)
theorem Paired.at {α β : Type} {F : α → β → Prop} : ∀ {xs : List α} {ys : List β}, Paired F xs ys → ∀ {i : Nat} {x : α}, xs[i]? = some x → ∃ y, ys[i]? = some y ∧ F x y
  | _, _, .nil, i, x, e => by simp at e
  | _, _, .cons r t, 0, x, e => by
    simp at e
    subst e
    exact ⟨_, rfl, r⟩
  | _, _, .cons r t, i + 1, x, e => by
    obtain ⟨y, e1, e2⟩ := Paired.at t (i := i) (x := x) (by simpa using e)
    exact ⟨y, by simpa using e1, e2⟩
theorem Paired.len {α β : Type} {F : α → β → Prop} : ∀ {xs : List α} {ys : List β}, Paired F xs ys → xs.length = ys.length
  | _, _, .nil => rfl
  | _, _, .cons _ t => by rw [List.length_cons, List.length_cons, Paired.len t]
theorem Ties.same {C : Addr} {H H' : Hp} (s : Same H H') {xs : List V} {ts : List Row} (h : Ties C H xs ts) : Ties C H' xs ts := Paired.imp (fun _ _ ⟨q, e, t⟩ => ⟨q, e, Same.tie s t⟩) h
theorem Notes.same {H H' : Hp} (s : Same H H') {xs : List V} {ns : List (Int × Int)} (h : Notes H xs ns) : Notes H' xs ns := Paired.imp (fun _ _ ⟨q, e, t⟩ => ⟨q, e, s _ _ t⟩) h
theorem RowsAt.same {H H' : Hp} (s : Same H H') {xs : List V} {ts : List Row} (h : RowsAt H xs ts) : RowsAt H' xs ts := Paired.imp (fun _ _ ⟨q, e, t⟩ => ⟨q, e, s _ _ t⟩) h
/-- the attributes of a book, in the sequence in which __init__ stores them -/
def bfs1 (t : Str) : List (Str × V) := putF "text" (.str t) []
def bfs2 (t : Str) (z : Int) : List (Str × V) := putF "size" (.int z) (bfs1 t)
def bfs3 (t : Str) (z : Int) (ta : Addr) : List (Str × V) := putF "ties" (.ref ta) (bfs2 t z)
def bfs (t : Str) (z : Int) (ta na : Addr) : List (Str × V) := putF "notes" (.ref na) (bfs3 t z ta)
theorem bfs_lookup (t : Str) (z : Int) (ta na : Addr) (g : Str) : (bfs t z ta na).lookup g = if g = "notes" then some (.ref na) else if g = "ties" then some (.ref ta) else if g = "size" then some (.int z) else if g = "text" then some (.str t) else none := by
  unfold bfs bfs3 bfs2 bfs1
  rw [lookup_putF, lookup_putF, lookup_putF, lookup_putF]
  rfl
theorem bfs_notes (t : Str) (z : Int) (ta na : Addr) : (bfs t z ta na).lookup ("notes" : Str) = some (.ref na) := by rw [bfs_lookup, if_pos rfl]
theorem bfs_ties (t : Str) (z : Int) (ta na : Addr) : (bfs t z ta na).lookup ("ties" : Str) = some (.ref ta) := by rw [bfs_lookup, if_neg (by decide +kernel), if_pos rfl]
theorem bfs_size (t : Str) (z : Int) (ta na : Addr) : (bfs t z ta na).lookup ("size" : Str) = some (.int z) := by rw [bfs_lookup, if_neg (by decide +kernel), if_neg (by decide +kernel), if_pos rfl]
theorem bfs_text (t : Str) (z : Int) (ta na : Addr) : (bfs t z ta na).lookup ("text" : Str) = some (.str t) := by rw [bfs_lookup, if_neg (by decide +kernel), if_neg (by decide +kernel), if_neg (by decide +kernel), if_pos rfl]
/-- a book that tells b stands at q; its text is t -/
structure BookIs (C B : Addr) (H : Hp) (q : Addr) (t : Str) (b : Lore) (dx ta na : Addr) (tr nr : List V) : Prop where
  ins : H q = some (.ins B dx (bfs t b.z ta na))
  ties : H ta = some (.tup tr)
  notes : H na = some (.tup nr)
  ts : Ties C H tr b.ts
  ns : Notes H nr b.ns
def BookAt (C B : Addr) (H : Hp) (q : Addr) (t : Str) (b : Lore) : Prop := ∃ dx ta na tr nr, BookIs C B H q t b dx ta na tr nr
theorem BookAt.same {C B : Addr} {H H' : Hp} (s : Same H H') {q : Addr} {t : Str} {b : Lore} (h : BookAt C B H q t b) : BookAt C B H' q t b := by
  obtain ⟨dx, ta, na, tr, nr, h⟩ := h
  exact ⟨dx, ta, na, tr, nr, s _ _ h.ins, s _ _ h.ties, s _ _ h.notes, h.ts.same s, h.ns.same s⟩
end TT

set_option maxHeartbeats 4000000
namespace TT
open PySem PySem.Spec PyProof.Rows L2 LamX TL
/-! ### a book's text read -/
theorem TieAt.put {C D x : Addr} {H : Hp} {xs : List V} {o : HO} {r : Row} (hD : H D = some (.lst xs)) (h : TieAt C H x r) : TieAt C (upd H D o) x r := by
  obtain ⟨dx, e⟩ := h
  exact ⟨dx, by rw [upd_ne (ne_of e hD fun z => nomatch z)]; exact e⟩
theorem Ties.put {C D : Addr} {H : Hp} {xs : List V} {o : HO} (hD : H D = some (.lst xs)) {tr : List V} {ts : List Row} (h : Ties C H tr ts) : Ties C (upd H D o) tr ts := Paired.imp (fun _ _ ⟨q, e, t⟩ => ⟨q, e, t.put hD⟩) h
theorem Notes.put {D : Addr} {H : Hp} {xs : List V} {o : HO} (hD : H D = some (.lst xs)) {tr : List V} {ns : List (Int × Int)} (h : Notes H tr ns) : Notes (upd H D o) tr ns :=
  Paired.imp (fun _ _ ⟨q, e, t⟩ => ⟨q, e, (upd_ne (ne_of t hD fun z => nomatch z)).trans t⟩) h
theorem same_put {D : Addr} {H H1 : Hp} {o : HO} (s : Same H H1) (hD : H D = none) : Same H (upd H1 D o) := fun b u e => by
  rw [upd_ne (ne_of_none e hD)]
  exact s b u e
theorem in_firsts {p : Int} (ns : List (Int × Int)) : inV (.int p) (ns.map fun q => V.int q.1) = decide (p ∈ ns.map (·.1)) := by
  induction ns with
  | nil => rfl
  | cons a t ih =>
    unfold inV at ih ⊢
    rw [List.map_cons, List.any_cons, ih, List.map_cons]
    show ((a.1 == p) || _) = _
    by_cases c : a.1 = p
    · subst c
      simp
    · have c' : ¬ p = a.1 := fun e => c e.symm
      rw [beq_eq_false_iff_ne.mpr c]
      simp [c']
theorem firsts_flat (ns : List (Int × Int)) : (ns.map fun q => V.int q.1).all flatV = true := by
  induction ns with
  | nil => rfl
  | cons a t ih =>
    rw [List.map_cons, List.all_cons, ih]
    rfl
def sp_has_note : Sp := fun vs H Q _ => ∃ (a : Addr) (p : Int) (nr : List V) (ns : List (Int × Int)), vs = [.ref a, .int p] ∧ H a = some (.lst nr) ∧ Notes H nr ns ∧ nr.length ≤ 1000 ∧ ∀ H', Same H H' → Q (.bl (decide (p ∈ ns.map (·.1)))) H'
section
variable {P : Program} {w : World} {K : PySem.W.Frag} {mg : Str → Option Value} {base : Heap} {Z : Zs}
theorem ok_has_note (T : Txt K mg Z) : FnOk P w K mg base CX0 1 Z.f_has_note Z.d_has_note ["notes", "place"] sp_has_note := by
  refine T.F_has_note.ok sc_has_note (fun vs H Q E h => ?_) (fun cdv A outer s H vs Q E hr h => ?_)
  · obtain ⟨a, p, nr, ns, rfl, _⟩ := h
    rfl
  · obtain ⟨a, p, nr, ns, rfl, ha, hns, hl, k⟩ := h
    have sl : sizeLine = 16777216 := sizeLine_eq
    refine ⟨_, (pss_one (ps_ret (pe_cmpR op_in_seq (pv 1) (pe_lc (own := [("told", 2), ("_", 3)]) rfl sc_has_note.nd (pi_list (pv 0)) (blkOk_by (own := [("told", 2), ("_", 3)]) (N := ["notes", "place", "told", "_"]) (sc := defScope s_has_note) (by decide +kernel)) (fun _ _ _ _ _ => (show PG _ _ (gTup K 2 _) from (pg_tup rfl (pgs_cons (pg_name (i := 2) sc_has_note.nd rfl (Or.inl rfl)) (pgs_cons (pg_name (i := 3) sc_has_note.nd rfl (Or.inl rfl)) pgs_nil))))) (fun _ _ _ _ _ => pts_nil) (fun _ _ _ _ _ => (pv 2))) (by with_unfolding_all rfl)))), ?_⟩
    refine ⟨_, rfl, _, rfl, a, rfl, ⟨_, SqL.of ha⟩, fun D hD => ?_⟩
    have ne := Paired.len hns
    refine lc_list (xs := nr) (fun i H' => H' D = some (.lst ((ns.map fun q => V.int q.1).take i)) ∧ Same H H') ⟨upd_same, Same.new (Same.refl H) hD⟩ (fun i H' _ h => SqL.of (h.2 _ _ ha)) ?_ ?_
    · rintro i x H' hi ⟨hDi, sm⟩
      obtain ⟨q, hq, y, rfl, hy⟩ := Paired.at hns hi
      have il : i < ns.length := (List.getElem?_eq_some_iff.mp hq).1
      refine ⟨y, _, rfl, SqT.of (sm _ _ hy), rfl, _, _, rfl, _, _, rfl, rfl, rfl, ?_⟩
      unfold tYes
      refine iteT ⟨_, rfl, _, hDi, ?_, ?_, same_put sm hD⟩
      · have := List.length_take_le i (ns.map fun q => V.int q.1)
        omega
      · rw [upd_same, take_snoc (x := V.int q.1) (by rw [List.getElem?_map, hq] <;> rfl)]
    · rintro H4 ⟨hD4, s4⟩
      rw [List.take_of_length_le (by rw [List.length_map]; omega)] at hD4
      refine ⟨D, _, rfl, .inl (SqL.of hD4), rfl, firsts_flat ns, ?_⟩
      rw [in_firsts]
      exact k H4 s4
end
end TT


set_option maxHeartbeats 4000000
namespace TT
open PySem PySem.Spec PyProof.Rows L2 LamX TL
/-! ### a book's text of any lines, or refused -/
def sp_first_ties_any : Sp := fun vs H Q _ => ∃ (a : Addr) (z : Int) (ls : List Str), vs = [.ref a, .int z] ∧ H a = some (.lst (ls.map V.str)) ∧ (∀ l ∈ ls, Fine l) ∧ ls.length ≤ 1000 ∧
  ∀ x tr H', H x = none → Same H H' → H' x = some (.lst tr) → tr.length = nT z 0 ls → Q (.ref x) H'
def sp_first_notes_any : Sp := fun vs H Q _ => ∃ (a : Addr) (z : Int) (ls : List Str), vs = [.ref a, .int z] ∧ H a = some (.lst (ls.map V.str)) ∧ (∀ l ∈ ls, Fine l) ∧ ls.length ≤ 1000 ∧
  ∀ x nr H', H x = none → Same H H' → H' x = some (.lst nr) → nr.length = nN z [] ls → Q (.ref x) H'
/-- a text that is read by lines -/
structure Lns (t : Str) (ls : List Str) : Prop where
  split : Txt.split t (Str.ofString "\n") = ls
  len : t.length ≤ 1000000
  fine : ∀ l ∈ ls, Fine l
  cnt : ls.length ≤ 1000
def sp_contents_any (K : PySem.W.Frag) (Z : Zs) : Sp := fun vs H Q E => ∃ v, vs = [v] ∧ ((∃ t ls n, v = .str t ∧ Lns t ls ∧ Verd ls n ∧ (n = 0 → ∀ x z ta na H', Same H H' → H' x = some (.tup [.int z, .ref ta, .ref na]) → Q (.ref x) H') ∧ (n ≠ 0 → Out E (Z.c 5) (.int n) H)) ∨ (NoStr K H v ∧ Out E (Z.c 5) (.int 0) H))
def sp_B_init_any (K : PySem.W.Frag) (Z : Zs) : Sp := fun vs H Q E => ∃ (p dx : Addr) (v : V), vs = [.ref p, v] ∧ H p = some (.ins Z.cB dx []) ∧ ((∃ t ls n, v = .str t ∧ Lns t ls ∧ Verd ls n ∧ (n = 0 → ∀ H', Keep p H H' → Q .non H') ∧ (n ≠ 0 → Out E (Z.c 5) (.int n) H)) ∨ (NoStr K H v ∧ Out E (Z.c 5) (.int 0) H))
section
variable {P : Program} {w : World} {K : PySem.W.Frag} {mg : Str → Option Value} {base : Heap} {Z : Zs}
theorem ok_first_ties (T : Txt K mg Z) : FnOk P w K mg base CX0 13 Z.f_first_ties Z.d_first_ties ["lines", "size"] sp_first_ties_any := by
  refine T.F_first_ties.ok sc_first_ties (fun vs H Q E h => ?_) (fun cdv A outer s H vs Q E hr h => ?_)
  · obtain ⟨a, z, ls, rfl, _⟩ := h
    rfl
  · obtain ⟨a, z, ls, rfl, ha, hf, hc, k⟩ := h
    have sl : sizeLine = 16777216 := sizeLine_eq
    refine ⟨_, (pss_cons (ps_set (i := 2) sc_first_ties.nd rfl (Or.inl rfl) (pe_lst pa_nil))
      (pss_cons (ps_for PassesOwn.never rfl (pi_list (pv 0)) (pg_name (i := 3) sc_first_ties.nd rfl (Or.inl rfl)) (pss_cons (ps_set (i := 4) sc_first_ties.nd rfl (Or.inl rfl) (pe_call (ok_tie_in T) (hr.mono (by decide)) rfl T.g_tie_in T.k_tie_in T.bn_tie_in .nil pass0 (pa_cons (pv 3) (pa_cons (pv 1) pa_nil))))
      (pss_cons (ps_if (PW.pt (pw_or (pt_cmpR op_isN (pv 4) pe_non (nomark _)) (pw_or1 (pt_cmpR op_eq (pe_callB  call_len (by rfl) T.b_len (by decide +kernel) (pa_cons (pv 2) pa_nil)) (pe_glob (v := .int 12) rfl T.c_MOST ⟨_, rfl⟩) (nomark _))))) (pss_one ps_break) pss_nil)
      (pss_one (ps_expr (pe_bm PySem.F.plainAttrs_list PySem.F.slot_list_append PySem.F.type_list_append mt_append (pv 2) (pa_cons (pv 4) pa_nil)))))))
      (pss_one (ps_ret (pv 2))))), ?_⟩
    refine ⟨by show 0 ≤ sizeLine; exact Nat.zero_le _, fun D hD => ?_⟩
    have sD := Same.new (o := .lst []) (Same.refl H) hD
    refine ⟨_, rfl, a, rfl, ⟨_, SqL.of (sD _ _ ha)⟩, for_list (xs := ls.map V.str) (fun i σ H' => ∃ v3 v4 tr, i ≤ 12 ∧ σ = [some (.ref a), some (.int z), some (.ref D), v3, v4] ∧ H' D = some (.lst tr) ∧ tr.length = i ∧ i + nT z i (ls.drop i) = nT z 0 ls ∧ Same H H') ⟨_, _, [], Nat.zero_le _, rfl, upd_same, rfl, by rw [List.drop_zero, Nat.zero_add], sD⟩ (fun i σ H' _ ⟨_, _, _, _, _, _, _, _, s⟩ => SqL.of (s _ _ ha)) ?_ ?_⟩
    · rintro i x σ H1 hi ⟨v3, v4, tr, i12, rfl, hD1, lt, inv, s1⟩
      rw [List.getElem?_map] at hi
      obtain ⟨l, hl, rfl⟩ := Option.map_eq_some_iff.mp hi
      rw [drop_cons hl] at inv
      refine ⟨_, rfl, _, rfl, l, z, rfl, hf l (List.mem_of_getElem? hl), fun r hr' y H2 ny s2 hy => ?_, fun no H2 s2 => ?_⟩
      · have hD2 := s2 _ _ hD1
        refine ⟨_, rfl, rfl, false, rfl, iteF ?_⟩
        refine ⟨_, rfl, _, _, rfl, .inl ⟨_, SqL.of hD2, rfl⟩, rfl, decide (i = 12), ?_, ?_⟩
        · by_cases c : i = 12
          · rw [decide_eq_true c, decide_eq_true (by rw [lt, c]; rfl)]
          · rw [decide_eq_false c, decide_eq_false fun e => c (by have := V.int.inj e; omega)]
        by_cases c : i = 12
        · rw [decide_eq_true c]
          rw [nT_no (fun q => by omega)] at inv
          exact iteT ⟨_, rfl, k D tr H2 hD (s1.trans s2) hD2 (by omega)⟩
        rw [decide_eq_false c]
        refine iteF ?_
        rw [nT_yes hr' (by omega)] at inv
        refine ⟨_, rfl, .inl ⟨rfl, _, SqL.of hD2⟩, _, rfl, D, _, _, rfl, rfl, hD2, by omega, ?_⟩
        exact ⟨_, _, tr ++ [.ref y], by omega, rfl, upd_same, by rw [List.length_append, lt] <;> rfl, by omega, same_put (s1.trans s2) hD⟩
      · refine ⟨_, rfl, rfl, true, rfl, iteT ?_⟩
        rw [nT_no (fun q => no q.1)] at inv
        exact ⟨_, rfl, k D tr H2 hD (s1.trans s2) (s2 _ _ hD1) (by omega)⟩
    · rintro σ H1 ⟨v3, v4, tr, _, rfl, hD1, lt, inv, s1⟩
      have e : ls.drop (ls.map V.str).length = [] := List.drop_of_length_le (by rw [List.length_map]; exact Nat.le_refl _)
      rw [e] at inv
      have inv : (ls.map V.str).length + 0 = nT z 0 ls := inv
      exact ⟨_, rfl, k D tr H1 hD s1 hD1 (by omega)⟩
theorem ok_first_notes (T : Txt K mg Z) : FnOk P w K mg base CX0 5 Z.f_first_notes Z.d_first_notes ["lines", "size"] sp_first_notes_any := by
  refine T.F_first_notes.ok sc_first_notes (fun vs H Q E h => ?_) (fun cdv A outer s H vs Q E hr h => ?_)
  · obtain ⟨a, z, ns, rfl, _⟩ := h
    rfl
  · obtain ⟨a, z, ls, rfl, ha, hf, hc, k⟩ := h
    have sl : sizeLine = 16777216 := sizeLine_eq
    refine ⟨_, (pss_cons (ps_set (i := 2) sc_first_notes.nd rfl (Or.inl rfl) (pe_lst pa_nil))
      (pss_cons (ps_for PassesOwn.never rfl (pi_list (pv 0)) (pg_name (i := 3) sc_first_notes.nd rfl (Or.inl rfl)) (pss_cons (ps_set (i := 4) sc_first_notes.nd rfl (Or.inl rfl) (pe_call (ok_note_in T) (hr.mono (by decide)) rfl T.g_note_in T.k_note_in T.bn_note_in .nil pass0 (pa_cons (pv 3) (pa_cons (pv 1) pa_nil))))
      (pss_cons (ps_if (PW.pt (pw_or (pt_cmpR op_isN (pv 4) pe_non (nomark _)) (pw_or (pt_val (pe_call (ok_has_note T) (hr.mono (by decide)) rfl T.g_has_note T.k_has_note T.bn_has_note .nil pass0 (pa_cons (pv 2) (pa_cons (pe_ix ix_tup (pv 4) pe_int (fun _ _ => rfl)) pa_nil)))) (pw_or1 (pt_cmpR op_eq (pe_callB  call_len (by rfl) T.b_len (by decide +kernel) (pa_cons (pv 2) pa_nil)) (pe_glob (v := .int 12) rfl T.c_MOST ⟨_, rfl⟩) (nomark _)))))) (pss_one ps_break) pss_nil)
      (pss_one (ps_expr (pe_bm PySem.F.plainAttrs_list PySem.F.slot_list_append PySem.F.type_list_append mt_append (pv 2) (pa_cons (pv 4) pa_nil)))))))
      (pss_one (ps_ret (pv 2))))), ?_⟩
    refine ⟨by show 0 ≤ sizeLine; exact Nat.zero_le _, fun D hD => ?_⟩
    have sD := Same.new (o := .lst []) (Same.refl H) hD
    refine ⟨_, rfl, a, rfl, ⟨_, SqL.of (sD _ _ ha)⟩, for_list (xs := ls.map V.str) (fun i σ H' => ∃ v3 v4 nr ns, i ≤ 12 ∧ σ = [some (.ref a), some (.int z), some (.ref D), v3, v4] ∧ H' D = some (.lst nr) ∧ Notes H' nr ns ∧ ns.length = i ∧ i + nN z (ns.map (·.1)) (ls.drop i) = nN z [] ls ∧ Same H H') ⟨_, _, [], [], Nat.zero_le _, rfl, upd_same, .nil, rfl, by rw [List.drop_zero, Nat.zero_add] <;> rfl, sD⟩ (fun i σ H' _ ⟨_, _, _, _, _, _, _, _, _, _, s⟩ => SqL.of (s _ _ ha)) ?_ ?_⟩
    · rintro i x σ H1 hi ⟨v3, v4, nr, ns, i12, rfl, hD1, hnr, ln, inv, s1⟩
      rw [List.getElem?_map] at hi
      obtain ⟨l, hl, rfl⟩ := Option.map_eq_some_iff.mp hi
      rw [drop_cons hl] at inv
      have lr := Paired.len hnr
      refine ⟨_, rfl, _, rfl, l, z, rfl, hf l (List.mem_of_getElem? hl), fun a b hn y H2 ny s2 hy => ?_, fun no H2 s2 => ?_⟩
      · have hD2 := s2 _ _ hD1
        refine ⟨_, rfl, rfl, false, rfl, iteF ?_⟩
        refine ⟨_, rfl, _, rfl, y, _, _, _, rfl, rfl, SqT.of hy, rfl, D, a, nr, ns, rfl, hD2, hnr.same s2, by omega, fun H3 s3 => ?_⟩
        have hD3 := s3 _ _ hD2
        refine ⟨_, rfl, ?_⟩
        have first : ∀ b', IsNote l z a b' ↔ b' = b := fun b' => ⟨fun h => (h.uniq hn).2, fun e => e ▸ hn⟩
        by_cases ci : a ∈ ns.map (·.1)
        · rw [decide_eq_true ci]
          rw [nN_no (fun ⟨⟨c, ⟨d, hd⟩, q⟩, _⟩ => q (by rw [(hd.uniq hn).1]; exact ci))] at inv
          exact iteT ⟨_, rfl, k D nr H3 hD ((s1.trans s2).trans s3) hD3 (by omega)⟩
        rw [decide_eq_false ci]
        refine iteF ?_
        refine ⟨_, rfl, _, _, rfl, .inl ⟨_, SqL.of hD3, rfl⟩, rfl, decide (i = 12), ?_, ?_⟩
        · by_cases c : i = 12
          · rw [decide_eq_true c, decide_eq_true (by rw [lr, ln, c]; rfl)]
          · rw [decide_eq_false c, decide_eq_false fun e => c (by have := V.int.inj e; omega)]
        by_cases c : i = 12
        · rw [decide_eq_true c]
          rw [nN_no (fun q => by have := q.2; rw [List.length_map] at this; omega)] at inv
          exact iteT ⟨_, rfl, k D nr H3 hD ((s1.trans s2).trans s3) hD3 (by omega)⟩
        rw [decide_eq_false c]
        refine iteF ?_
        rw [nN_yes hn ci (by rw [List.length_map]; omega)] at inv
        refine ⟨_, rfl, .inl ⟨rfl, _, SqL.of hD3⟩, _, rfl, D, _, _, rfl, rfl, hD3, by omega, ?_⟩
        refine ⟨_, _, nr ++ [.ref y], ns ++ [(a, b)], by omega, rfl, upd_same, ?_, by rw [List.length_append, ln] <;> rfl, by rw [List.map_append]; show _ + 1 + nN z (ns.map (·.1) ++ [a]) _ = _; omega, same_put ((s1.trans s2).trans s3) hD⟩
        have hy3 := s3 _ _ hy
        exact Paired.snoc ⟨y, rfl, (upd_ne (ne_of hy3 hD3 fun z => nomatch z)).trans hy3⟩ (((hnr.same s2).same s3).put hD3)
      · refine ⟨_, rfl, rfl, true, rfl, iteT ?_⟩
        rw [nN_no (fun ⟨⟨c, ⟨d, hd⟩, _⟩, _⟩ => no ⟨c, d, hd⟩)] at inv
        exact ⟨_, rfl, k D nr H2 hD (s1.trans s2) (s2 _ _ hD1) (by omega)⟩
    · rintro σ H1 ⟨v3, v4, nr, ns, _, rfl, hD1, hnr, ln, inv, s1⟩
      have lr := Paired.len hnr
      have e : ls.drop (ls.map V.str).length = [] := List.drop_of_length_le (by rw [List.length_map]; exact Nat.le_refl _)
      rw [e] at inv
      have inv : (ls.map V.str).length + 0 = nN z [] ls := inv
      exact ⟨_, rfl, k D nr H1 hD s1 hD1 (by omega)⟩
theorem ok_contents (T : Txt K mg Z) : FnOk P w K mg base (L2.CX P w) 14 Z.f_contents Z.d_contents ["text"] (sp_contents_any K Z) := by
  refine T.F_contents.okX sc_contents (fun vs H Q E h => ?_) (fun cdv A outer s H vs Q E hr h => ?_)
  · obtain ⟨v, rfl, _⟩ := h
    rfl
  · obtain ⟨v, rfl, h⟩ := h
    have sl : sizeLine = 16777216 := sizeLine_eq
    have x5 := T.ex 5 (by decide)
    refine ⟨_, (pss_cons (ps_if (pt_not (pt_val (pe_callB  call_isi (by rfl) T.b_isinstance (by decide +kernel) (pa_cons (pv 0) (pa_cons (pe_bltn (v := .ty "str") rfl T.b_str (by decide +kernel) rfl) pa_nil))))) (pss_one (ps_raise rfl (takes_of rfl rfl rfl rfl) (pmk_oex (T.ex 5 (by decide)).ox (T.ex 5 (by decide)).ini T.t_E_init (ok_E_init T) (hr.mono (by decide)) T.bn_E_init .nil pass0 rfl T.g_BadBook (pa_cons pe_int pa_nil)))) pss_nil)
      (pss_cons (ps_set (i := 1) sc_contents.nd rfl (Or.inl rfl) (pe_split (pv 0) pe_str))
      (pss_cons (ps_set (i := 2) sc_contents.nd rfl (Or.inl rfl) (pe_call (ok_size_in T) (hr.mono (by decide)) rfl T.g_size_in T.k_size_in T.bn_size_in .nil pass0 (pa_cons (pe_ix ix_list (pv 1) pe_int (fun _ _ => rfl)) pa_nil)))
      (pss_cons (ps_if (pt_cmpR op_isN (pv 2) pe_non (nomark _)) (pss_one (ps_raise rfl (takes_of rfl rfl rfl rfl) (pmk_oex (T.ex 5 (by decide)).ox (T.ex 5 (by decide)).ini T.t_E_init (ok_E_init T) (hr.mono (by decide)) T.bn_E_init .nil pass0 rfl T.g_BadBook (pa_cons pe_int pa_nil)))) pss_nil)
      (pss_cons (ps_set (i := 3) sc_contents.nd rfl (Or.inl rfl) (pe_call (ok_first_ties T) (hr.mono (by decide)) rfl T.g_first_ties T.k_first_ties T.bn_first_ties .nil pass0 (pa_cons (pe_slice sl_list (pv 1) (po_some pe_int) po_none) (pa_cons (pv 2) pa_nil))))
      (pss_cons (ps_set (i := 4) sc_contents.nd rfl (Or.inl rfl) (pe_call (ok_first_notes T) (hr.mono (by decide)) rfl T.g_first_notes T.k_first_notes T.bn_first_notes .nil pass0 (pa_cons (pe_slice sl_list (pv 1) (po_some (pe_op op_add pe_int (pe_callB  call_len (by rfl) T.b_len (by decide +kernel) (pa_cons (pv 3) pa_nil)))) po_none) (pa_cons (pv 2) pa_nil))))
      (pss_cons (ps_set (i := 5) sc_contents.nd rfl (Or.inl rfl) (pe_op op_add (pe_op op_add pe_int (pe_callB  call_len (by rfl) T.b_len (by decide +kernel) (pa_cons (pv 3) pa_nil))) (pe_callB  call_len (by rfl) T.b_len (by decide +kernel) (pa_cons (pv 4) pa_nil))))
      (pss_cons (ps_if (pt_cmpR op_lt (pv 5) (pe_callB  call_len (by rfl) T.b_len (by decide +kernel) (pa_cons (pv 1) pa_nil)) (nomark _)) (pss_one (ps_raise rfl (takes_of rfl rfl rfl rfl) (pmk_oex (T.ex 5 (by decide)).ox (T.ex 5 (by decide)).ini T.t_E_init (ok_E_init T) (hr.mono (by decide)) T.bn_E_init .nil pass0 rfl T.g_BadBook (pa_cons (pe_op op_add (pv 5) pe_int) pa_nil)))) pss_nil)
      (pss_one (ps_ret (pe_tup (pa_cons (pv 2) (pa_cons (pe_callTy call_tuple_of (by rfl) T.b_tuple (by decide +kernel) (pa_cons (pv 3) pa_nil)) (pa_cons (pe_callTy call_tuple_of (by rfl) T.b_tuple (by decide +kernel) (pa_cons (pv 4) pa_nil)) pa_nil)))))))))))))), ?_⟩
    rcases h with ⟨t, ls, n, rfl, L, V0, ky, kn⟩ | ⟨⟨ty, ht, hk⟩, out⟩
    case inr => exact ⟨_, rfl, _, _, _, _, false, rfl, .ty "str", ht, hk, false, rfl, iteT (mkR x5 out)⟩
    obtain ⟨l0, r, rfl, V1⟩ := V0
    have tlen := L.len
    have cnt := L.cnt
    have fine := L.fine
    rw [List.length_cons] at cnt
    refine ⟨_, rfl, _, _, _, _, true, rfl, .ty "str", .base (.str _), kit_ty (by decide +kernel), true, rfl, iteF ?_⟩
    refine ⟨_, rfl, ⟨_, rfl⟩, _, _, rfl, rfl, by decide, by omega, fun l hl => ?_⟩
    rw [L.split]
    have s1 := Same.new (o := .lst ((l0 :: r).map V.str)) (Same.refl H) hl
    have at1 : upd H l (.lst ((l0 :: r).map V.str)) l = some (.lst (V.str l0 :: r.map V.str)) := upd_same
    generalize upd H l (.lst ((l0 :: r).map V.str)) = H1 at s1 at1 ⊢
    refine ⟨_, rfl, l, _, _, _, rfl, rfl, SqL.of at1, at_head, l0, rfl, fine l0 (List.mem_cons_self ..), fun z hz H2 s2 => ?_, fun no H2 s2 => ?_⟩
    case refine_2 =>
      have e : n = 1 := by
        rcases V1 with ⟨_, e⟩ | ⟨z, hz, _⟩
        · exact e
        · exact absurd ⟨z, hz⟩ no
      subst e
      exact ⟨_, rfl, rfl, _, rfl, iteT (mkR x5 ((kn (by decide)).mono (s1.trans s2)))⟩
    have V2 : (tot z 0 [] r < r.length ∧ n = tot z 0 [] r + 2) ∨ (tot z 0 [] r = r.length ∧ n = 0) := by
      rcases V1 with ⟨no, _⟩ | ⟨y, hy, e⟩
      · exact absurd ⟨z, hz⟩ no
      · rw [hz.uniq hy]
        exact e
    refine ⟨_, rfl, rfl, _, rfl, iteF ?_⟩
    have at2 := s2 _ _ at1
    refine ⟨_, rfl, _, rfl, l, _, rfl, SqL.of at2, fun l2 hl2 => ?_⟩
    rw [cut_tail]
    have s3 := Same.new (o := .lst (r.map V.str)) (Same.refl H2) hl2
    refine ⟨_, rfl, l2, z, r, rfl, upd_same, fun y hy => fine y (List.mem_cons_of_mem _ hy), by omega, fun x tr H3 nx s4 hx lt => ?_⟩
    have s24 := s3.trans s4
    have at3 := s24 _ _ at2
    refine ⟨_, rfl, _, rfl, _, _, rfl, .inl ⟨_, SqL.of hx, rfl⟩, _, _, rfl, rfl, _, rfl, l, _, rfl, SqL.of at3, fun l3 hl3 => ?_⟩
    rw [cutV_from _ (show (0 : Int) ≤ 1 + (tr.length : Int) by omega), show (1 + (tr.length : Int)).toNat = tr.length + 1 by omega, List.drop_succ_cons, ← List.map_drop]
    have s5 := Same.new (o := .lst ((r.drop tr.length).map V.str)) (Same.refl H3) hl3
    refine ⟨_, rfl, l3, z, r.drop tr.length, rfl, upd_same, fun y hy => fine y (List.mem_cons_of_mem _ (List.mem_of_mem_drop hy)), by rw [List.length_drop]; omega, fun y nr H4 ny s6 hy ln => ?_⟩
    have s36 := s5.trans s6
    have at4 := s36 _ _ at3
    have hx4 := s36 _ _ hx
    have et : tot z 0 [] r = tr.length + nr.length := by
      unfold tot
      rw [if_pos rfl, ← lt, ← ln]
    refine ⟨_, rfl, _, _, rfl, .inl ⟨_, SqL.of hx4, rfl⟩, _, _, rfl, rfl, _, rfl, _, _, rfl, .inl ⟨_, SqL.of hy, rfl⟩, _, _, rfl, rfl, ?_⟩
    refine ⟨_, rfl, _, rfl, _, _, rfl, .inl ⟨_, SqL.of at4, rfl⟩, _, _, rfl, rfl, _, rfl, ?_⟩
    have sN := ((s1.trans s2).trans s24).trans s36
    rcases V2 with ⟨c, rfl⟩ | ⟨c, rfl⟩
    · rw [decide_eq_true (by rw [List.length_cons, List.length_map]; omega)]
      have e : (1 + (tr.length : Int) + (nr.length : Int) + 1) = ((tot z 0 [] r + 2 : Nat) : Int) := by omega
      have out := (kn (by omega)).mono sN
      rw [← e] at out
      exact iteT ⟨_, rfl, _, _, rfl, rfl, mkR x5 out⟩
    rw [decide_eq_false (by rw [List.length_cons, List.length_map]; omega)]
    refine iteF ⟨_, rfl, _, rfl, x, _, rfl, .inl ⟨SqL.of hx4, fun ta hta => ?_⟩⟩
    have s7 := Same.new (o := .tup tr) (Same.refl H4) hta
    have hy7 := s7 _ _ hy
    generalize upd H4 ta (.tup tr) = H5 at s7 hy7 ⊢
    refine ⟨_, rfl, y, _, rfl, .inl ⟨SqL.of hy7, fun na hna => ?_⟩⟩
    have s8 := Same.new (o := .tup nr) (Same.refl H5) hna
    refine ⟨by show 3 ≤ sizeLine; decide, fun u hu => ?_⟩
    have s9 := Same.new (o := .tup [.int z, .ref ta, .ref na]) s8 hu
    exact ky rfl u z ta na _ (sN.trans (s7.trans s9)) upd_same
theorem mkB (T : Txt K mg Z) : Mk K Z.cB Z.f_B_init := ⟨T.mkBc, T.a_B_init, T.i_B_init, T.kB⟩
theorem ok_B_init (T : Txt K mg Z) : FnOk P w K mg base (L2.CX P w) 15 Z.f_B_init Z.d_B_init ["self", "text"] (sp_B_init_any K Z) := by
  refine T.F_B_init.okX sc_B_init (fun vs H Q E h => ?_) (fun cdv A outer s H vs Q E hr h => ?_)
  · obtain ⟨p, dx, b, rfl, _⟩ := h
    rfl
  · obtain ⟨p, dx, v, rfl, hp, h⟩ := h
    refine ⟨_, (pss_cons (ps_asg (pe_call (ok_contents T) (hr.mono (by decide)) rfl T.g_contents T.k_contents T.bn_contents .nil (passes_call (takes_of rfl rfl rfl rfl) (fun _ _ _ _ h => h)) (pa_cons (pv 1) pa_nil)) (pg_tup rfl (pgs_cons (pg_name (i := 2) sc_B_init.nd rfl (Or.inl rfl)) (pgs_cons (pg_name (i := 3) sc_B_init.nd rfl (Or.inl rfl)) (pgs_cons (pg_name (i := 4) sc_B_init.nd rfl (Or.inl rfl)) pgs_nil)))))
      (pss_cons (ps_fld (pv 0) (pv 1) rfl)
      (pss_cons (ps_fld (pv 0) (pv 2) rfl)
      (pss_cons (ps_fld (pv 0) (pv 3) rfl)
      (pss_one (ps_fld (pv 0) (pv 4) rfl)))))), ?_⟩
    rcases h with ⟨t, ls, n, rfl, L, V0, ky, kn⟩ | ⟨ns, out⟩
    case inr => exact ⟨_, rfl, v, rfl, .inr ⟨ns, out⟩⟩
    refine ⟨_, rfl, .str t, rfl, .inl ⟨t, ls, n, rfl, L, V0, fun e x z ta na H1 s1 hx => ?_, kn⟩⟩
    have hp1 := s1 _ _ hp
    refine ⟨x, _, rfl, SqT.of hx, rfl, _, _, rfl, _, _, rfl, _, _, rfl, rfl, ?_⟩
    have l1 : (bfs1 t).length ≤ 1 := len_putF (Nat.le_refl 0)
    have l2 : (bfs2 t z).length ≤ 2 := len_putF l1
    have l3 : (bfs3 t z ta).length ≤ 3 := len_putF l2
    refine ⟨_, rfl, _, rfl, p, _, dx, _, rfl, hp1, T.clB, T.nB_text, (by decide : 0 < 1000), ?_⟩
    refine ⟨_, rfl, _, rfl, p, _, dx, _, rfl, upd_same, T.clB, T.nB_size, Nat.lt_of_le_of_lt l1 (by decide), ?_⟩
    refine ⟨_, rfl, _, rfl, p, _, dx, _, rfl, upd_same, T.clB, T.nB_ties, Nat.lt_of_le_of_lt l2 (by decide), ?_⟩
    refine ⟨_, rfl, _, rfl, p, _, dx, _, rfl, upd_same, T.clB, T.nB_notes, Nat.lt_of_le_of_lt l3 (by decide), ?_⟩
    exact ky e _ fun q o n e => by
      rw [upd_ne n, upd_ne n, upd_ne n, upd_ne n]
      exact s1 _ _ e
end
end TT

set_option maxHeartbeats 4000000
namespace TT
open PySem PySem.Spec PyProof.Rows L2 LamX TL
/-! ### the law's own reading of a book's text -/
theorem cut_to4 (w : Str) : tl (cutS w none (some 4)) = (tl w).take 4 := by
  have hl := len_tl w
  unfold cutS
  show (((tl w).drop (HT.sIx w.length 0 none)).take (HT.sIx w.length w.length (some 4) - HT.sIx w.length 0 none)) = _
  have e1 : HT.sIx w.length 0 none = 0 := rfl
  have e2 : HT.sIx w.length w.length (some 4) = min 4 w.length := by
    show (if (4 : Int) < 0 then ((4 : Int) + (w.length : Int)).toNat else min (4 : Int).toNat w.length) = _
    rw [if_neg (by decide)]
    rfl
  rw [e1, e2, List.drop_zero, Nat.sub_zero]
  by_cases c : 4 ≤ w.length
  · rw [Nat.min_eq_left c]
  · rw [List.take_of_length_le (by omega), List.take_of_length_le (by omega)]
theorem cut_from4 (w : Str) : tl (cutS w (some 4) none) = (tl w).drop 4 := by
  have hl := len_tl w
  unfold cutS
  show (((tl w).drop (HT.sIx w.length 0 (some 4))).take (HT.sIx w.length w.length none - HT.sIx w.length 0 (some 4))) = _
  have e1 : HT.sIx w.length w.length none = w.length := rfl
  have e2 : HT.sIx w.length 0 (some 4) = min 4 w.length := by
    show (if (4 : Int) < 0 then ((4 : Int) + (w.length : Int)).toNat else min (4 : Int).toNat w.length) = _
    rw [if_neg (by decide)]
    rfl
  rw [e1, e2]
  by_cases c : 4 ≤ w.length
  · rw [Nat.min_eq_left c]
    exact List.take_of_length_le (by rw [List.length_drop]; omega)
  · rw [List.drop_of_length_le (by omega), List.drop_of_length_le (by omega)]
    exact List.take_nil
theorem tie_tl : tl (Str.ofString "tie ") = tl (Str.ofString "tie") ++ [32] := by decide +kernel
/-- what stands behind « tie » -/
theorem tie_cut {line : Str} (h : cutS line none (some 4) = Str.ofString "tie ") : ∃ ws, Txt.split line (Str.ofString " ") = Str.ofString "tie" :: ws ∧ Txt.split (cutS line (some 4) none) (Str.ofString " ") = ws := by
  refine ⟨_, ?_, rfl⟩
  have e : line = Txt.join (Str.ofString " ") (Str.ofString "tie" :: Txt.split (cutS line (some 4) none) (Str.ofString " ")) := by
    refine ext_tl ?_
    rw [show Txt.join (Str.ofString " ") (Str.ofString "tie" :: Txt.split (cutS line (some 4) none) (Str.ofString " ")) = _ from join_eq _ _, tl_join, sp_tl, List.map_cons]
    have a := split_eq (cutS line (some 4) none)
    have n := words_ne (cutS line (some 4) none)
    obtain ⟨x, xs, hx⟩ : ∃ x xs, (Txt.split (cutS line (some 4) none) (Str.ofString " ")).map tl = x :: xs := by
      cases h : (Txt.split (cutS line (some 4) none) (Str.ofString " ")).map tl with
      | nil => exact absurd h (by simpa using n)
      | cons x xs => exact ⟨x, xs, rfl⟩
    rw [hx] at a ⊢
    have b : joinL [32] (tl (Str.ofString "tie") :: x :: xs) = tl (Str.ofString "tie") ++ ([32] ++ joinL [32] (x :: xs)) := by simp [joinL]
    rw [b, a, cut_from4, ← List.append_assoc, ← tie_tl, ← h, cut_to4, List.take_append_drop]
  exact (congrArg (fun t => Txt.split t (Str.ofString " ")) e).trans (split_join (s := 32) (S := []) sp_tl (by decide +kernel) (by simp) fun p hp => by
    rcases List.mem_cons.mp hp with rfl | hp
    · decide +kernel
    · exact split_free _ p hp)
theorem tie_uncut {line : Str} (h : ¬ cutS line none (some 4) = Str.ofString "tie ") : ¬ ∃ r, IsTieB line r := fun ⟨r, ws, e, hv⟩ => by
  cases ws with
  | nil => cases hv
  | cons w ws =>
    refine h (ext_tl ?_)
    have a := split_eq line
    rw [e, List.map_cons, List.map_cons] at a
    have b : joinL [32] (tl (Str.ofString "tie") :: tl w :: ws.map tl) = tl (Str.ofString "tie") ++ ([32] ++ joinL [32] (tl w :: ws.map tl)) := by simp [joinL]
    rw [cut_to4, ← a, b, tie_tl, ← List.append_assoc]
    have l : (tl (Str.ofString "tie") ++ [32]).length = 4 := by decide +kernel
    rw [← l, List.take_left]
theorem Fine.tail {line : Str} {w0 : Str} (f : Fine line) (h : Txt.split line (Str.ofString " ") = w0 :: Txt.split (cutS line (some 4) none) (Str.ofString " ")) : Fine (cutS line (some 4) none) :=
  ⟨Nat.le_trans (cut_len _ _ _) f.len, fun p hp => f.wd p (by rw [h]; exact List.mem_cons_of_mem _ hp), fun p hp => f.ok p (by rw [h]; exact List.mem_cons_of_mem _ hp)⟩
section
variable {P : Program} {w : World} {K : PySem.W.Frag} {mg : Str → Option Value} {base : Heap} {Z : Zs}
theorem ok_l_note_told (T : Txt K mg Z) : FnOk P w K mg base CX0 2 Z.f_l_note_told Z.d_l_note_told ["_law_line", "_law_size"] sp_note_any := by
  refine T.F_l_note_told.ok sc_l_note_told (fun vs H Q E h => ?_) (fun cdv A outer s H vs Q E hr h => ?_)
  · obtain ⟨l, z, rfl, _⟩ := h
    rfl
  · obtain ⟨line, z, rfl, fi, ky, kn⟩ := h
    have sl : sizeLine = 16777216 := sizeLine_eq
    have hl := fi.len
    refine ⟨_, (pss_cons (ps_set (i := 2) sc_l_note_told.nd rfl (Or.inl rfl) (pe_split (pv 0) pe_str))
      (pss_cons (ps_if (PW.pt (pw_or (pt_cmpR op_ne (pe_callB  call_len (by rfl) T.b_len (by decide +kernel) (pa_cons (pv 2) pa_nil)) pe_int (nomark _)) (pw_or1 (pt_cmpR op_ne (pe_ix ix_list (pv 2) pe_int (fun _ _ => rfl)) pe_str (nomark _))))) (pss_one (ps_ret pe_non)) pss_nil)
      (pss_cons (ps_par (i := 3) (j := 4) (by rfl) sc_l_note_told.nd rfl rfl (by decide) rfl rfl (pa_cons (pe_call (ok_l_figure T) (hr.mono (by decide)) rfl T.g_l_figure T.k_l_figure T.bn_l_figure .nil pass0 (pa_cons (pe_ix ix_list (pv 2) pe_int (fun _ _ => rfl)) pa_nil)) (pa_cons (pe_call (ok_l_figure T) (hr.mono (by decide)) rfl T.g_l_figure T.k_l_figure T.bn_l_figure .nil pass0 (pa_cons (pe_ix ix_list (pv 2) pe_int (fun _ _ => rfl)) pa_nil)) pa_nil)) (by rfl))
      (pss_one (ps_ret (pe_ifExp (PW.pt (pw_and (pt_cmpR op_notN (pv 3) pe_non (nomark _)) (pw_and (pt_cmpR op_notN (pv 4) pe_non (nomark _)) (pw_and1 (pt_chain op_le op_lt pe_int (pv 3) (pv 1)))))) (pe_tup (pa_cons (pv 3) (pa_cons (pv 4) pa_nil))) pe_non)))))), ?_⟩
    refine ⟨_, rfl, ⟨_, rfl⟩, _, _, rfl, rfl, by decide, by omega, fun wl hwl => ?_⟩
    obtain ⟨w0, ws, hs⟩ : ∃ w0 ws, Txt.split line (Str.ofString " ") = w0 :: ws := by
      cases h : Txt.split line (Str.ofString " ") with
      | nil => exact absurd h (words_ne line)
      | cons a t => exact ⟨a, t, rfl⟩
    have wf : ∀ p ∈ w0 :: ws, p.length ≤ 50 := fun p hp => (fi.wd p (by rw [hs]; exact hp))
    have no : ∀ {C : Prop}, C → (C → ¬ ∃ is, IsNums line (Str.ofString "note") 2 is) → ∀ H', Same H H' → Q .non H' := fun c f => kn fun ⟨a, b, h, _⟩ => f c ⟨_, h⟩
    rw [hs]
    have sW := Same.new (o := .lst ((w0 :: ws).map V.str)) (Same.refl H) hwl
    have atW : upd H wl (.lst ((w0 :: ws).map V.str)) wl = some (.lst (V.str w0 :: ws.map V.str)) := upd_same
    generalize upd H wl (.lst ((w0 :: ws).map V.str)) = H1 at sW atW ⊢
    refine ⟨_, rfl, _, _, rfl, .inl ⟨_, SqL.of atW, rfl⟩, rfl, !decide (ws.length = 2), ?_, ?_⟩
    · rw [List.length_cons, List.length_map]
      by_cases e : ws.length = 2
      · rw [decide_eq_true e, decide_eq_true (by rw [e]; rfl)]
      · rw [decide_eq_false e, decide_eq_false fun z => e (by have := V.int.inj z; omega)]
    by_cases e : ws.length = 2
    case neg =>
      rw [decide_eq_false e]
      exact iteT (iteT (no e (fun e ⟨is, us, h1, h2, _⟩ => by rw [hs] at h1; injection h1 with _ h1; rw [h1] at e; exact e h2) _ sW))
    rw [decide_eq_true e]
    refine iteF ?_
    refine ⟨_, rfl, wl, _, _, _, rfl, rfl, SqL.of atW, at_head, rfl, !decide (w0 = Str.ofString "note"), ?_, ?_⟩
    · by_cases e : w0 = Str.ofString "note"
      · rw [e, decide_eq_true rfl, decide_eq_true rfl]
      · rw [decide_eq_false e, decide_eq_false fun z => e (V.str.inj z)]
    by_cases e2 : w0 = Str.ofString "note"
    case neg =>
      rw [decide_eq_false e2]
      exact iteT (no e2 (fun e2 ⟨is, us, h1, h2, _⟩ => by rw [hs] at h1; injection h1 with h1 _; exact e2 h1) _ sW)
    rw [decide_eq_true e2]
    refine iteF ?_
    subst e2
    obtain ⟨x, y, rfl⟩ : ∃ x y, ws = [x, y] := by
      match ws, e with
      | [x, y], _ => exact ⟨x, y, rfl⟩
    refine ⟨_, rfl, wl, _, 1, .str x, rfl, rfl, SqL.of atW, rfl, x, rfl, wf x (by simp), fun H2 s2 => ?_⟩
    refine ⟨_, rfl, wl, _, 2, .str y, rfl, rfl, SqL.of (s2 _ _ atW), rfl, y, rfl, wf y (by simp), fun H3 s3 => ⟨_, _, rfl, ?_⟩⟩
    have sN := (sW.trans s2).trans s3
    have key : ∀ is, IsNums line (Str.ofString "note") 2 is ↔ [numRead x, numRead y] = is.map some := fun is => ⟨fun ⟨us, h1, _, h3⟩ => by
      rw [hs] at h1
      injection h1 with _ h1
      rw [← h1] at h3
      exact h3, fun h => ⟨[x, y], hs, rfl, h⟩⟩
    cases hx : numRead x with
    | none =>
      refine ⟨_, rfl, rfl, false, rfl, iteF (iteF (no hx (fun hx ⟨is, h⟩ => ?_) H3 sN))⟩
      have := (key is).mp h
      rw [hx] at this
      cases is <;> simp at this
    | some a =>
    refine ⟨_, rfl, rfl, true, rfl, iteT ?_⟩
    cases hy : numRead y with
    | none =>
      refine ⟨_, rfl, rfl, false, rfl, iteF (iteF (no hy (fun hy ⟨is, h⟩ => ?_) H3 sN))⟩
      have := (key is).mp h
      rw [hx, hy] at this
      cases is with
      | nil => simp at this
      | cons i t => cases t <;> simp at this
    | some b =>
    refine ⟨_, rfl, rfl, true, rfl, iteT ?_⟩
    have nn : IsNums line (Str.ofString "note") 2 [a, b] := (key _).mpr (by rw [hx, hy]; rfl)
    refine ⟨_, rfl, 0, a, rfl, rfl, _, rfl, ?_⟩
    by_cases c0 : 0 ≤ a
    · rw [decide_eq_true c0]
      refine iteT ⟨_, rfl, a, z, rfl, rfl, _, rfl, ?_⟩
      by_cases c1 : a < z
      · rw [decide_eq_true c1]
        exact iteT ⟨_, rfl, _, rfl, by show 2 ≤ sizeLine; decide, fun x hx => ky a b ⟨nn, c0, c1⟩ x _ (L2.Same.free sN hx) (Same.new sN hx) upd_same⟩
      · rw [decide_eq_false c1]
        exact iteF (kn (fun ⟨c, d, h⟩ => c1 (by have e := nn.uniq h.1; injection e with e _; have := h.2.2; omega)) H3 sN)
    · rw [decide_eq_false c0]
      exact iteF ⟨_, rfl, iteF (kn (fun ⟨c, d, h⟩ => c0 (by have e := nn.uniq h.1; injection e with e _; have := h.2.1; omega)) H3 sN)⟩
end
end TT

set_option maxHeartbeats 4000000
namespace TT
open PySem PySem.Spec PyProof.Rows L2 LamX TL
/-! ### texts of lines with one thing otherwise -/
/-- t stands in these lines, of so many signs each, so many of them -/
structure Txs (m c : Nat) (t : Str) (ls : List Str) : Prop where
  ne : ls ≠ []
  each : ∀ l ∈ ls, Asc l ∧ l.length ≤ m
  cnt : ls.length ≤ c
  text : t = Txt.join (Str.ofString "\n") ls
theorem asc_no10 {l : Str} (h : Asc l) : 10 ∉ tl l := fun z => (h 10 z).2 rfl
theorem Txs.split {m c : Nat} {t : Str} {ls : List Str} (h : Txs m c t ls) : Txt.split t (Str.ofString "\n") = ls := by
  rw [h.text]
  exact split_join (s := 10) (S := []) nl_tl (by decide +kernel) h.ne fun p hp => asc_no10 (h.each p hp).1
theorem tl_joinN (ls : List Str) : tl (Txt.join (Str.ofString "\n") ls) = joinL [10] (ls.map tl) := by
  rw [show Txt.join (Str.ofString "\n") ls = _ from join_eq _ _, tl_join, nl_tl]
theorem amt_le {ls : List Str} {m : Nat} (h : ∀ l ∈ ls, l.length ≤ m) : amt ls ≤ ls.length * (m + 1) := by
  have := sum_le h
  unfold amt
  rw [Nat.mul_succ]
  omega
theorem joinN_len (ys : List Str) : (Txt.join (Str.ofString "\n") ys).length ≤ amt ys := by
  have := StrLaws.join_length_le (Str.ofString "\n") ys
  rw [show (Str.ofString "\n").length = 1 from by decide] at this
  have e : Txt.join (Str.ofString "\n") ys = (Str.ofString "\n").join ys := join_eq _ _
  rw [e]
  unfold amt
  omega
theorem Txs.len {m c : Nat} {t : Str} {ls : List Str} (h : Txs m c t ls) : t.length ≤ c * (m + 1) := by
  rw [h.text]
  exact Nat.le_trans (joinN_len ls) (Nat.le_trans (amt_le fun l hl => (h.each l hl).2) (Nat.mul_le_mul_right _ h.cnt))
theorem joinL_more (s : List Nat) : ∀ (l : List (List Nat)) (y : List Nat), l ≠ [] → joinL s (l ++ [y]) = joinL s l ++ (s ++ y)
  | [], _, h => absurd rfl h
  | [a], y, _ => by simp [joinL]
  | a :: b :: l, y, _ => by
    have := joinL_more s (b :: l) y (by simp)
    simp only [List.cons_append, joinL] at this ⊢
    rw [this]
    simp
theorem joinL_last (s : List Nat) : ∀ (l : List (List Nat)) (y x : List Nat), joinL s (l ++ [y]) ++ x = joinL s (l ++ [y ++ x])
  | [], y, x => by simp [joinL]
  | [a], y, x => by simp [joinL]
  | a :: b :: l, y, x => by
    have := joinL_last s (b :: l) y x
    simp only [List.cons_append, joinL] at this ⊢
    rw [← this]
    simp
theorem empty_asc : Asc Str.empty := fun c hc => by cases hc
theorem joinN_nil : Txt.join (Str.ofString "\n") [] = Txt.join (Str.ofString "\n") [Str.empty] := by decide +kernel
/-- lines joined: none is one that is empty -/
theorem Txs.of {m c : Nat} {ls : List Str} (h : ∀ l ∈ ls, Asc l ∧ l.length ≤ m) (hc : ls.length ≤ c) (c1 : 1 ≤ c) : ∃ ls', Txs m c (Txt.join (Str.ofString "\n") ls) ls' := by
  cases ls with
  | nil => exact ⟨[Str.empty], by simp, fun l hl => by rw [List.mem_singleton.mp hl]; exact ⟨empty_asc, Nat.zero_le _⟩, c1, joinN_nil⟩
  | cons a t => exact ⟨a :: t, by simp, h, hc, rfl⟩
theorem Txs.more {m c : Nat} {t x : Str} {ls : List Str} (h : Txs m c t ls) (hx : Asc x) (lx : x.length ≤ m) : Txs m (c + 1) (t ++ Str.ofString "\n" ++ x) (ls ++ [x]) := by
  refine ⟨by simp, fun l hl => ?_, by rw [List.length_append]; have := h.cnt; simp; omega, ext_tl ?_⟩
  · rcases List.mem_append.mp hl with hl | hl
    · exact h.each l hl
    · rw [List.mem_singleton.mp hl]
      exact ⟨hx, lx⟩
  · rw [tl_append, tl_append, h.text, tl_joinN, tl_joinN, List.map_append, nl_tl]
    show _ = joinL [10] (ls.map tl ++ [tl x])
    rw [joinL_more _ _ _ (by simpa using h.ne), List.append_assoc]
theorem Txs.last {m c k : Nat} {t x : Str} {ls : List Str} (h : Txs m c t ls) (hx : Asc x) (lx : x.length ≤ k) : ∃ ls', Txs (m + k) c (t ++ x) ls' := by
  obtain ⟨l, y, e⟩ : ∃ l y, ls = l ++ [y] := ⟨_, _, (List.dropLast_concat_getLast h.ne).symm⟩
  subst e
  refine ⟨l ++ [y ++ x], by simp, fun q hq => ?_, by have := h.cnt; simpa using this, ext_tl ?_⟩
  · rcases List.mem_append.mp hq with hq | hq
    · have := h.each q (List.mem_append_left _ hq)
      exact ⟨this.1, by omega⟩
    · have := h.each y (List.mem_append_right _ (by simp))
      rw [List.mem_singleton.mp hq]
      exact ⟨this.1.add hx, by rw [Str.length_append]; omega⟩
  · rw [tl_append, h.text, tl_joinN, tl_joinN, List.map_append, List.map_append]
    show joinL [10] (l.map tl ++ [tl y]) ++ _ = joinL [10] (l.map tl ++ [tl (y ++ x)])
    rw [joinL_last, tl_append]
theorem Txs.up {m c m' c' : Nat} {t : Str} {ls : List Str} (h : Txs m c t ls) (hm : m ≤ m') (hc : c ≤ c') : Txs m' c' t ls := ⟨h.ne, fun l hl => ⟨(h.each l hl).1, Nat.le_trans (h.each l hl).2 hm⟩, Nat.le_trans h.cnt hc, h.text⟩
def somes : List Str := [Str.ofString "", Str.ofString "tie 0 0 1 up 0", Str.ofString "note 0 1", Str.ofString "size 3", Str.ofString "tie", Str.ofString "note 0", Str.ofString "tie 0 1 1 up 2 back", Str.ofString "note 99 0"]
def ends : List Str := [Str.ofString "\n", Str.ofString " ", Str.ofString "\n\n", Str.ofString "\nnote 1 1"]
theorem somes_ok : ∀ t ∈ somes, Asc t ∧ t.length ≤ 20 := fun t ht => by
  have h : somes.all (fun t => (tl t).all (fun c => decide (c < 128) && decide (c ≠ 10)) && decide (t.length ≤ 20)) = true := by decide +kernel
  have := List.all_eq_true.mp h t ht
  rw [Bool.and_eq_true] at this
  exact ⟨asc_of this.1, of_decide_eq_true this.2⟩
theorem ends_ok {m c : Nat} {t x : Str} {ls : List Str} (h : Txs m c t ls) (m20 : 20 ≤ m) (hx : x ∈ ends) : ∃ ls', Txs (m + 1) (c + 2) (t ++ x) ls' := by
  simp only [ends, List.mem_cons, List.not_mem_nil, or_false] at hx
  have n1 : Asc (Str.ofString "note 1 1") ∧ (Str.ofString "note 1 1").length ≤ 20 := ⟨asc_of (by decide +kernel), by decide⟩
  rcases hx with rfl | rfl | rfl | rfl
  · have q := h.more empty_asc (Nat.zero_le _)
    have e : t ++ Str.ofString "\n" ++ Str.empty = t ++ Str.ofString "\n" := ext_tl (by rw [tl_append]; show _ ++ [] = _; rw [List.append_nil])
    rw [e] at q
    exact ⟨_, q.up (by omega) (by omega)⟩
  · obtain ⟨ls', q⟩ := h.last (x := Str.ofString " ") (k := 1) (asc_of (by decide +kernel)) (by decide)
    exact ⟨ls', q.up (by omega) (by omega)⟩
  · have q := (h.more empty_asc (Nat.zero_le _)).more empty_asc (Nat.zero_le _)
    have e : t ++ Str.ofString "\n" ++ Str.empty ++ Str.ofString "\n" ++ Str.empty = t ++ Str.ofString "\n\n" := ext_tl (by
      simp only [tl_append]
      rw [show tl (Str.ofString "\n\n") = tl (Str.ofString "\n") ++ tl (Str.ofString "\n") by decide +kernel, show tl Str.empty = [] from rfl]
      simp)
    rw [e] at q
    exact ⟨_, q.up (by omega) (by omega)⟩
  · have q := h.more n1.1 (Nat.le_trans n1.2 m20)
    have e : t ++ Str.ofString "\n" ++ Str.ofString "note 1 1" = t ++ Str.ofString "\nnote 1 1" := ext_tl (by
      simp only [tl_append]
      rw [show tl (Str.ofString "\nnote 1 1") = tl (Str.ofString "\n") ++ tl (Str.ofString "note 1 1") by decide +kernel]
      simp)
    rw [e] at q
    exact ⟨_, q.up (by omega) (by omega)⟩
def sp_l_bent_text : Sp := fun vs H Q _ => ∃ (p : Addr) (n m c : Nat) (t : Str) (ls : List Str), vs = [.ref p, .str t] ∧ Pot H p n ∧ n + 12 < 1000000 ∧ Txs m c t ls ∧ 20 ≤ m ∧ m ≤ 500 ∧ c ≤ 100 ∧
  ∀ (t' : Str) (ls' : List Str) (n' : Nat) (H' : Hp), Txs (2 * m + 50) (c + 2) t' ls' → n' ≤ n + 12 → Pot H' p n' → Keep p H H' → Q (.str t') H'
end TT

set_option maxHeartbeats 4000000
namespace TT
open PySem PySem.Spec PyProof.Rows L2 LamX TL
/-! ### the first wrong line, as the law reads it -/
theorem note_not_tieB {l : Str} {z a b : Int} (h : IsNote l z a b) : ¬ ∃ r, IsTieB l r := fun ⟨r, ws, e, _⟩ => by
  obtain ⟨us, g, _⟩ := h.1
  rw [e] at g
  injection g with g _
  exact absurd g (by decide +kernel)
theorem asg_via {te : TE} {g : TG} {u : TS} {D : Ends} {σ : L2.St} {H : Hp} (C : V → Hp → Prop) (h : (∀ v H1, C v H1 → g v σ H1 (u D)) → tSeq (tAsg te g) u D σ H) (k : ∀ v H1, C v H1 → g v σ H1 (u D)) : tSeq (tAsg te g) u D σ H := h k
theorem gasg_via {te : TE} {g : TG} {u : TS} {D : Ends} {rt : VK} {bk ct : L2.St → Hp → Prop} {j : Nat} {y : V} {σ : L2.St} {H : Hp} (C : V → Hp → Prop) (h : (∀ v H1, C v H1 → g v (σ.set j (some y)) H1 (u D)) → gName j y σ H (Ends.nx { nx := tSeq (tAsg te g) u D, rt := rt, bk := bk, ct := ct })) (k : ∀ v H1, C v H1 → g v (σ.set j (some y)) H1 (u D)) : gName j y σ H (Ends.nx { nx := tSeq (tAsg te g) u D, rt := rt, bk := bk, ct := ct }) := h k
theorem ints_flat (is : List Int) : (is.map V.int).all flatV = true := by
  induction is with
  | nil => rfl
  | cons a t ih =>
    rw [List.map_cons, List.all_cons, ih]
    rfl
theorem in_ints {p : Int} (ns : List Int) : inV (.int p) (ns.map V.int) = decide (p ∈ ns) := by
  have h := in_firsts (p := p) (ns.map fun x => (x, (0 : Int)))
  rw [List.map_map, List.map_map] at h
  have e1 : ((fun q : Int × Int => V.int q.1) ∘ fun x : Int => (x, (0 : Int))) = V.int := rfl
  have e2 : ((fun x : Int × Int => x.1) ∘ fun x : Int => (x, (0 : Int))) = id := rfl
  rw [e1, e2, List.map_id] at h
  exact h
theorem ints_dp {K : PySem.W.Frag} {H : Hp} : ∀ ps : List Int, DpAll K H (ps.map V.int) (ps.map PyData.int)
  | [] => .nil
  | a :: t => .cons (.int a) (ints_dp t)
theorem ints_shaped (ps : List Int) : SeqAt.shaped (.list (ps.map PyData.int)) = true := by
  have h1 : ∀ ps : List Int, PyData.canLayAll0 (ps.map PyData.int) = true := fun ps => by
    induction ps with
    | nil => rfl
    | cons a t ih => simp [PyData.canLayAll0, PyData.canLay0, ih]
  have h2 : ∀ ps : List Int, PyData.depthAll (ps.map PyData.int) ≤ 1 := fun ps => by
    induction ps with
    | nil => simp [PyData.depthAll]
    | cons a t ih =>
      simp [PyData.depthAll, PyData.depth]
      omega
  have := h2 ps
  unfold SeqAt.shaped
  rw [show PyData.canLay0 (.list (ps.map PyData.int)) = PyData.canLayAll0 (ps.map PyData.int) from by simp [PyData.canLay0], h1, decide_eq_true (by simp only [PyData.depth]; omega)]
  rfl
theorem ints_nil (ps : List Int) : PyData.eqv (.list (ps.map PyData.int)) (.list []) = decide (ps = []) := by
  cases ps <;> simp [PyData.eqv, PyData.eqvAll]
def sp_l_first_wrong : Sp := fun vs H Q _ => ∃ (t : Str) (ls : List Str), vs = [.str t] ∧ Lns t ls ∧ ∀ (n : Nat) (H' : Hp), Verd ls n → Same H H' → Q (.int n) H'
section
variable {P : Program} {w : World} {K : PySem.W.Frag} {mg : Str → Option Value} {base : Heap} {Z : Zs}
theorem ok_l_first_wrong (T : Txt K mg Z) : FnOk P w K mg base CX0 6 Z.f_l_first_wrong Z.d_l_first_wrong ["_law_text"] sp_l_first_wrong := by
  refine T.F_l_first_wrong.ok sc_l_first_wrong (fun vs H Q E h => ?_) (fun cdv A outer s H vs Q E hr h => ?_)
  · obtain ⟨t, ls, rfl, _⟩ := h
    rfl
  · obtain ⟨t, ls, rfl, L, k⟩ := h
    have sl : sizeLine = 16777216 := sizeLine_eq
    have tlen := L.len
    have cnt := L.cnt
    have fine := L.fine
    refine ⟨_, (pss_cons (ps_set (i := 1) sc_l_first_wrong.nd rfl (Or.inl rfl) (pe_split (pv 0) pe_str))
      (pss_cons (ps_set (i := 2) sc_l_first_wrong.nd rfl (Or.inl rfl) (pe_split (pe_ix ix_list (pv 1) pe_int (fun _ _ => rfl)) pe_str))
      (pss_cons (ps_set (i := 3) sc_l_first_wrong.nd rfl (Or.inl rfl) (pe_ifExp (PW.pt (pw_and (pt_cmpR op_eq (pe_callB  call_len (by rfl) T.b_len (by decide +kernel) (pa_cons (pv 2) pa_nil)) pe_int (nomark _)) (pw_and1 (pt_cmpR op_eq (pe_ix ix_list (pv 2) pe_int (fun _ _ => rfl)) pe_str (nomark _))))) (pe_call (ok_l_figure T) (hr.mono (by decide)) rfl T.g_l_figure T.k_l_figure T.bn_l_figure .nil pass0 (pa_cons (pe_ix ix_list (pv 2) pe_int (fun _ _ => rfl)) pa_nil)) pe_non))
      (pss_cons (ps_if (PW.pt (pw_or (pt_cmpR op_isN (pv 3) pe_non (nomark _)) (pw_or1 (pt_not (pt_chain op_le op_le pe_int (pv 3) (pe_op op_powW pe_int pe_int)))))) (pss_one (ps_ret pe_int)) pss_nil)
      (pss_cons (ps_par (i := 4) (j := 5) (by rfl) sc_l_first_wrong.nd rfl rfl (by decide) rfl rfl (pa_cons pe_int (pa_cons (pe_lst pa_nil) pa_nil)) (by rfl))
      (pss_cons (ps_for PassesOwn.never rfl (pi_enum (by rfl) T.b_enumerate (pa_cons (pe_slice sl_list (pv 1) (po_some pe_int) po_none) pa_nil)) (pg_tup rfl (pgs_cons (pg_name (i := 6) sc_l_first_wrong.nd rfl (Or.inl rfl)) (pgs_cons (pg_name (i := 7) sc_l_first_wrong.nd rfl (Or.inl rfl)) pgs_nil))) (pss_cons (ps_set (i := 8) sc_l_first_wrong.nd rfl (Or.inl rfl) (pe_ifExp (pt_cmpR op_eq (pe_slice sl_str (pv 7) po_none (po_some pe_int)) pe_str (nomark _)) (pe_call (ok_l_row_told T) (hr.mono (by decide)) rfl T.g_l_row_told T.k_l_row_told T.bn_l_row_told .nil pass0 (pa_cons (pe_slice sl_str (pv 7) (po_some pe_int) po_none) pa_nil)) pe_non))
      (pss_cons (ps_set (i := 9) sc_l_first_wrong.nd rfl (Or.inl rfl) (pe_call (ok_l_note_told T) (hr.mono (by decide)) rfl T.g_l_note_told T.k_l_note_told T.bn_l_note_told .nil pass0 (pa_cons (pv 7) (pa_cons (pv 3) pa_nil))))
      (pss_one (ps_if (PW.pt (pw_and (pt_cmpR op_notN (pv 8) pe_non (nomark _)) (pw_and (pt_cmpR op_le (pe_op op_add (pe_callB (cr_maxT2 rfl (by exact hr.units)) (by rfl) T.b_max (by decide +kernel) (pa_cons (pe_slice sl_tupA (pv 8) po_none (po_some pe_int)) pa_nil)) (pe_ix ix_tup (pv 8) pe_int (fun _ _ => rfl))) (pv 3) (nomark _)) (pw_and (pt_cmpR (op_eqD (by exact hr.units)) (pv 5) (pe_lst pa_nil) (nomark _)) (pw_and1 (pt_cmpR op_lt (pv 4) pe_int (nomark _))))))) (pss_one (ps_set (i := 4) sc_l_first_wrong.nd rfl (Or.inl rfl) (pe_op op_add (pv 4) pe_int))) (pss_one (ps_if (PW.pt (pw_and (pt_cmpR op_notN (pv 9) pe_non (nomark _)) (pw_and (pt_cmpR op_notIn_seq (pe_ix ix_tup (pv 9) pe_int (fun _ _ => rfl)) (pv 5) (by with_unfolding_all rfl)) (pw_and1 (pt_cmpR op_lt (pe_callB  call_len (by rfl) T.b_len (by decide +kernel) (pa_cons (pv 5) pa_nil)) pe_int (nomark _)))))) (pss_one (ps_expr (pe_bm PySem.F.plainAttrs_list PySem.F.slot_list_append PySem.F.type_list_append mt_append (pv 5) (pa_cons (pe_ix ix_tup (pv 9) pe_int (fun _ _ => rfl)) pa_nil)))) (pss_one (ps_ret (pe_op op_add (pv 6) pe_int))))))))))
      (pss_one (ps_ret pe_int)))))))), ?_⟩
    refine ⟨_, rfl, ⟨_, rfl⟩, _, _, rfl, rfl, by decide, by omega, fun l hl => ?_⟩
    rw [L.split]
    obtain ⟨l0, r, rfl⟩ : ∃ l0 r, ls = l0 :: r := by
      cases ls with
      | nil =>
        have := L.split
        exact absurd this (by
          intro e
          have j := StrLaws.join_split t (Str.ofString "\n")
          rw [e] at j
          have e2 : t = Str.empty := j.symm
          rw [e2] at e
          exact absurd e (by decide +kernel))
      | cons a b => exact ⟨a, b, rfl⟩
    have s1 := Same.new (o := .lst ((l0 :: r).map V.str)) (Same.refl H) hl
    have at1 : upd H l (.lst ((l0 :: r).map V.str)) l = some (.lst (V.str l0 :: r.map V.str)) := upd_same
    generalize upd H l (.lst ((l0 :: r).map V.str)) = H1 at s1 at1 ⊢
    have f0 := fine l0 (List.mem_cons_self ..)
    have l0l := f0.len
    obtain ⟨w0, ws, hs⟩ : ∃ w0 ws, Txt.split l0 (Str.ofString " ") = w0 :: ws := by
      cases h : Txt.split l0 (Str.ofString " ") with
      | nil => exact absurd h (words_ne l0)
      | cons a t => exact ⟨a, t, rfl⟩
    have wf : ∀ p ∈ w0 :: ws, p.length ≤ 50 := fun p hp => (f0.wd p (by rw [hs]; exact hp))
    refine ⟨_, rfl, l, _, _, _, rfl, rfl, SqL.of at1, at_head, ⟨_, rfl⟩, _, _, rfl, rfl, by decide, by omega, fun wl hwl => ?_⟩
    rw [hs]
    have s2 := s1.trans (Same.new (o := .lst ((w0 :: ws).map V.str)) (Same.refl H1) hwl)
    have at2 := (Same.new (o := .lst ((w0 :: ws).map V.str)) (Same.refl H1) hwl) _ _ at1
    have atW : upd H1 wl (.lst ((w0 :: ws).map V.str)) wl = some (.lst (V.str w0 :: ws.map V.str)) := upd_same
    generalize upd H1 wl (.lst ((w0 :: ws).map V.str)) = H2 at s2 at2 atW ⊢
    -- the size, if there is one
    refine gasg_via (fun v H' => Same H2 H' ∧ ∃ o : Option Int, v = numV o ∧ ∀ z, IsNums l0 (Str.ofString "size") 1 [z] ↔ o = some z) (fun tail => ?_) ?_
    · have stop : (¬ ∃ z, IsNums l0 (Str.ofString "size") 1 [z]) → ∀ z, IsNums l0 (Str.ofString "size") 1 [z] ↔ none = some z := fun h z => ⟨fun g => absurd ⟨z, g⟩ h, fun g => nomatch g⟩
      refine ⟨_, rfl, _, _, rfl, .inl ⟨_, SqL.of atW, rfl⟩, rfl, decide (ws.length = 1), ?_, ?_⟩
      · rw [List.length_cons, List.length_map]
        by_cases e : ws.length = 1
        · rw [decide_eq_true e, decide_eq_true (by rw [e]; rfl)]
        · rw [decide_eq_false e, decide_eq_false fun z => e (by have := V.int.inj z; omega)]
      by_cases e : ws.length = 1
      case neg =>
        rw [decide_eq_false e]
        refine iteF (iteF (tail .non H2 ⟨Same.refl H2, none, rfl, stop fun ⟨z, us, h1, h2, _⟩ => ?_⟩))
        rw [hs] at h1
        injection h1 with _ h1
        rw [h1] at e
        exact e h2
      rw [decide_eq_true e]
      refine iteT ?_
      refine ⟨_, rfl, wl, _, _, _, rfl, rfl, SqL.of atW, at_head, rfl, decide (w0 = Str.ofString "size"), ?_, ?_⟩
      · by_cases e : w0 = Str.ofString "size"
        · rw [e, decide_eq_true rfl, decide_eq_true rfl]
        · rw [decide_eq_false e, decide_eq_false fun z => e (V.str.inj z)]
      by_cases e2 : w0 = Str.ofString "size"
      case neg =>
        rw [decide_eq_false e2]
        refine iteF (tail .non H2 ⟨Same.refl H2, none, rfl, stop fun ⟨z, us, h1, h2, _⟩ => ?_⟩)
        rw [hs] at h1
        injection h1 with h1 _
        exact e2 h1
      rw [decide_eq_true e2]
      subst e2
      obtain ⟨x, rfl⟩ : ∃ x, ws = [x] := List.length_eq_one_iff.mp e
      refine iteT ⟨_, rfl, wl, _, 1, .str x, rfl, rfl, SqL.of atW, rfl, x, rfl, wf x (by simp), fun H3 s3 => ?_⟩
      refine tail (numV (numRead x)) H3 ⟨s3, _, rfl, fun z => ⟨fun ⟨us, h1, _, h3⟩ => ?_, fun h => ⟨[x], hs, rfl, by rw [List.map_cons, h] <;> rfl⟩⟩⟩
      rw [hs] at h1
      injection h1 with _ h1
      rw [← h1] at h3
      injection h3
    rintro v H3 ⟨s3, o, rfl, ho⟩
    have s03 := s2.trans s3
    have bad : (¬ ∃ z, IsSize l0 z) → Q (.int 1) H3 := fun h => k 1 H3 ⟨l0, r, rfl, .inl ⟨h, rfl⟩⟩ s03
    cases o with
    | none => exact ⟨_, rfl, rfl, true, rfl, iteT (iteT (bad (fun ⟨z, hz, _⟩ => by have := (ho z).mp hz; cases this)))⟩
    | some z =>
    have hz := (ho z).mpr rfl
    have nots : ¬ (1 ≤ z ∧ z ≤ 10 ^ 30) → Q (.int 1) H3 := fun h => bad fun ⟨y, hy, y0, y1⟩ => h (by have e := hz.uniq hy; injection e with e _; subst e; exact ⟨y0, y1⟩)
    refine ⟨_, rfl, rfl, false, rfl, iteF ?_⟩
    refine ⟨_, rfl, 1, z, rfl, rfl, _, rfl, ?_⟩
    by_cases z0 : 1 ≤ z
    case neg =>
      rw [decide_eq_false z0]
      exact iteF ⟨_, rfl, iteT (nots fun h => z0 h.1)⟩
    rw [decide_eq_true z0]
    refine iteT ⟨10, 30, rfl, rfl, ⟨by decide, by decide +kernel⟩, z, _, rfl, rfl, _, rfl, ?_⟩
    have t30 : (10 : Int) ^ Int.toNat 30 = 10 ^ 30 := rfl
    rw [t30]
    by_cases z1 : z ≤ 10 ^ 30
    case neg =>
      rw [decide_eq_false z1]
      exact iteT (nots fun h => z1 h.2)
    rw [decide_eq_true z1]
    refine iteF ?_
    have hsz : IsSize l0 z := ⟨hz, z0, z1⟩
    have at3 := s3 _ _ at2
    clear bad nots ho
    refine ⟨by show 0 ≤ sizeLine; exact Nat.zero_le _, fun D hD => ⟨_, _, rfl, ?_⟩⟩
    have sD := Same.new (o := .lst []) (Same.refl H3) hD
    refine ⟨_, rfl, _, rfl, l, _, rfl, SqL.of (sD _ _ at3), fun l2 hl2 => ?_⟩
    rw [cut_tail]
    have s4 := Same.new (o := .lst (r.map V.str)) (Same.refl (upd H3 D (.lst []))) hl2
    have hD4 := s4 _ _ (show upd H3 D (.lst []) D = some (.lst []) from upd_same)
    have at4 : upd (upd H3 D (.lst [])) l2 (.lst (r.map V.str)) l2 = some (.lst (r.map V.str)) := upd_same
    have s04 := (s03.trans sD).trans s4
    have nlD : l2 ≠ D := (ne_of_none (show upd H3 D (.lst []) D = some (.lst []) from upd_same) hl2).symm
    have fD : H D = none := L2.Same.free s03 hD
    refine ⟨l2, _, rfl, SqL.of at4, ?_⟩
    generalize upd (upd H3 D (.lst [])) l2 (.lst (r.map V.str)) = H4 at s4 hD4 at4 s04 ⊢
    rw [List.length_cons] at cnt
    refine for_it (walk_enum (xs := r.map V.str)) (fun i σ H' => ∃ (n : Nat) (ps : List Int) (v6 v7 v8 v9 : Option V), σ = [some (.str t), some (.ref l), some (.ref wl), some (.int z), some (.int (n : Int)), some (.ref D), v6, v7, v8, v9] ∧ n ≤ 12 ∧ ps.length ≤ 12 ∧ H' D = some (.lst (ps.map V.int)) ∧ H' l2 = some (.lst (r.map V.str)) ∧
        i + tot z n ps (r.drop i) = tot z 0 [] r ∧ Same H H') ⟨0, [], _, _, _, _, rfl, by decide, by decide, hD4, at4, by rw [List.drop_zero, Nat.zero_add], s04⟩ (fun i σ H' _ ⟨_, _, _, _, _, _, _, _, _, _, h, _⟩ => SqL.of h) ?_ ?_
    · rintro i y0 σ H5 H6 hi ⟨n, ps, v6, v7, v8, v9, rfl, n12, p12, hD5, at5, inv, s5⟩ ⟨T4, x1, x2, rfl, nT4, rfl, e1, e2⟩
      obtain rfl := Option.some.inj e1
      have e2 : (r.map V.str)[i]? = some x2 := e2
      rw [List.getElem?_map] at e2
      obtain ⟨line, hln, rfl⟩ := Option.map_eq_some_iff.mp e2
      rw [drop_cons hln] at inv
      have fl := fine line (List.mem_cons_of_mem _ (List.mem_of_getElem? hln))
      have ll := fl.len
      have s6 := Same.new (o := .tup [.int (i : Nat), .str line]) (Same.refl H5) nT4
      have aT : upd H5 T4 (.tup [.int (i : Nat), .str line]) T4 = some (.tup [.int (i : Nat), .str line]) := upd_same
      have hD6 := s6 _ _ hD5
      have at6 := s6 _ _ at5
      have s06 := s5.trans s6
      refine ⟨T4, _, rfl, SqT.of aT, rfl, _, _, rfl, _, _, rfl, rfl, ?_⟩
      generalize upd H5 T4 (.tup [.int (i : Nat), .str line]) = H6 at hD6 at6 s06 ⊢
      clear aT s6 e2
      -- the row, if there is one
      refine asg_via (fun v H' => Same H6 H' ∧ ((∃ x q, v = .ref x ∧ RowAt H' x q ∧ IsTieB line q) ∨ (v = .non ∧ ¬ ∃ q, IsTieB line q))) (fun tail => ?_) ?_
      · refine ⟨_, rfl, _, rfl, line, rfl, by omega, rfl, decide (cutS line none (some 4) = Str.ofString "tie "), ?_, ?_⟩
        · by_cases c : cutS line none (some 4) = Str.ofString "tie "
          · rw [c, decide_eq_true rfl, decide_eq_true rfl]
          · rw [decide_eq_false c, decide_eq_false fun z => c (V.str.inj z)]
        by_cases c : cutS line none (some 4) = Str.ofString "tie "
        case neg =>
          rw [decide_eq_false c]
          exact iteF (tail .non H6 ⟨Same.refl H6, .inr ⟨rfl, tie_uncut c⟩⟩)
        rw [decide_eq_true c]
        obtain ⟨us, hu1, hu2⟩ := tie_cut c
        refine iteT ⟨_, rfl, _, rfl, line, rfl, by omega, _, rfl, .inl ⟨_, rfl, fl.tail (by rw [hu2]; exact hu1), fun q hq x H' s' hx => tail _ H' ⟨s', .inl ⟨x, q, rfl, hx, us, hu1, ?_⟩⟩, fun hn H' s' => tail _ H' ⟨s', .inr ⟨rfl, fun ⟨q, ws', g1, g2⟩ => ?_⟩⟩⟩⟩
        · rw [← hu2]
          exact hq
        · rw [hu1] at g1
          injection g1 with _ g1
          rw [tieOf_vals, hu2, g1, g2] at hn
          cases hn
      rintro v H7 ⟨s7, hv⟩
      have s07 := s06.trans s7
      have hD7 := s7 _ _ hD6
      have at7 := s7 _ _ at6
      refine ⟨_, rfl, _, rfl, line, z, rfl, fl, fun a b hn x H8 nx s8 hx => ?_, fun hno H8 s8 => ?_⟩
      all_goals
        have s08 := s07.trans s8
        have hD8 := s8 _ _ hD7
        have at8 := s8 _ _ at7
      · -- a note
        obtain rfl : v = .non := by
          rcases hv with ⟨_, q, _, _, h⟩ | ⟨e, _⟩
          · exact absurd ⟨q, h⟩ (note_not_tieB hn)
          · exact e
        refine ⟨_, rfl, rfl, false, rfl, iteF (iteF ?_)⟩
        have stop : tot z n ps (line :: r.drop (i + 1)) = 0 → Q (.int ((i : Int) + 2)) H8 := fun e => by
          have il := (List.getElem?_eq_some_iff.mp hln).1
          have ei : (i : Int) + 2 = ((tot z 0 [] r + 2 : Nat) : Int) := by omega
          rw [ei]
          exact k _ H8 ⟨l0, r, rfl, .inr ⟨z, hsz, .inl ⟨by omega, rfl⟩⟩⟩ s08
        have notie : ¬ ((∃ r, IsTie line z r) ∧ ps = [] ∧ n < 12) := fun h => note_not_tie hn h.1
        refine ⟨_, rfl, rfl, true, rfl, iteT ?_⟩
        refine ⟨_, rfl, x, _, 0, .int a, rfl, rfl, SqT.of hx, rfl, _, rfl, D, _, rfl, .inl (SqL.of hD8), rfl, ints_flat ps, !decide (a ∈ ps), by rw [in_ints] <;> rfl, ?_⟩
        by_cases ci : a ∈ ps
        · rw [decide_eq_true ci]
          exact iteF (iteF ⟨_, rfl, _, _, rfl, rfl, stop (tot_no notie fun ⟨⟨c, ⟨d, hd⟩, q⟩, _⟩ => q (by rw [(hd.uniq hn).1]; exact ci))⟩)
        rw [decide_eq_false ci]
        refine iteT ⟨_, rfl, _, _, rfl, .inl ⟨_, SqL.of hD8, rfl⟩, _, _, rfl, rfl, decide (ps.length < 12), ?_, ?_⟩
        · rw [List.length_map]
          exact congrArg V.bl (decide_eq_decide.mpr (by omega))
        by_cases cl : ps.length < 12
        case neg =>
          rw [decide_eq_false cl]
          exact iteF ⟨_, rfl, _, _, rfl, rfl, stop (tot_no notie fun q => cl q.2)⟩
        rw [decide_eq_true cl]
        rw [tot_note hn ci cl] at inv
        refine iteT ⟨_, rfl, .inl ⟨rfl, _, SqL.of hD8⟩, _, rfl, x, _, 0, .int a, rfl, rfl, SqT.of hx, rfl, D, _, _, rfl, rfl, hD8, by rw [List.length_map]; omega, ?_⟩
        exact ⟨n, ps ++ [a], _, _, _, _, rfl, n12, by rw [List.length_append]; show ps.length + 1 ≤ 12; omega, by rw [upd_same, List.map_append] <;> rfl, (upd_ne nlD).trans at8, by omega, same_put s08 fD⟩
      · -- no note
        have nonote : ¬ ((∃ a, (∃ b, IsNote line z a b) ∧ a ∉ ps) ∧ ps.length < 12) := fun ⟨⟨a, ⟨b, h⟩, _⟩, _⟩ => hno ⟨a, b, h⟩
        have stop : ∀ H9, Same H8 H9 → ¬ ((∃ r, IsTie line z r) ∧ ps = [] ∧ n < 12) → Q (.int ((i : Int) + 2)) H9 := fun H9 s9 h => by
          rw [tot_no h nonote] at inv
          have il := (List.getElem?_eq_some_iff.mp hln).1
          have ei : (i : Int) + 2 = ((tot z 0 [] r + 2 : Nat) : Int) := by omega
          rw [ei]
          exact k _ H9 ⟨l0, r, rfl, .inr ⟨z, hsz, .inl ⟨by omega, rfl⟩⟩⟩ (s08.trans s9)
        rcases hv with ⟨x, q, rfl, hx, hq⟩ | ⟨rfl, nq⟩
        case inr =>
          refine ⟨_, rfl, rfl, false, rfl, iteF (iteF ?_)⟩
          exact ⟨_, rfl, rfl, false, rfl, iteF (iteF ⟨_, rfl, _, _, rfl, rfl, stop H8 (Same.refl H8) fun ⟨⟨r, h, _⟩, _⟩ => nq ⟨r, h⟩⟩)⟩
        have hx8 := Same.row s8 hx
        refine ⟨_, rfl, rfl, true, rfl, iteT ?_⟩
        refine ⟨_, rfl, _, rfl, x, _, rfl, SqT.of hx8, fun c => absurd (show (2 : Nat) = 6 from c.2) (by decide), fun _ u hu => ?_⟩
        have sU := Same.new (o := .tup (cutV q.vs none (some 2))) (Same.refl H8) hu
        have hx9 := sU _ _ hx8
        have hD9 := sU _ _ hD8
        have at9 := sU _ _ at8
        have atu : upd H8 u (.tup (cutV q.vs none (some 2))) u = some (.tup [.int q.f, .int q.s]) := upd_same
        generalize upd H8 u (.tup (cutV q.vs none (some 2))) = H9 at sU hx9 hD9 at9 atu ⊢
        refine ⟨u, q.f, q.s, rfl, SqT.of atu, _, rfl, x, _, 2, .int q.l, rfl, rfl, SqT.of hx9, rfl, _, _, rfl, rfl, _, rfl, _, _, rfl, rfl, _, rfl, ?_⟩
        have last : ∀ H' : Hp, Same H9 H' → ¬ ((∃ r, IsTie line z r) ∧ ps = [] ∧ n < 12) → Q (.int ((i : Int) + 2)) H' := fun H' s' => stop H' (sU.trans s')
        by_cases c1 : (if q.s > q.f then q.s else q.f) + q.l ≤ z
        case neg =>
          rw [decide_eq_false c1]
          exact iteF (iteF ⟨_, rfl, rfl, false, rfl, iteF (iteF ⟨_, rfl, _, _, rfl, rfl, last H9 (Same.refl H9) fun ⟨⟨r, h, h2⟩, _⟩ => c1 (by rw [hq.uniq h]; exact h2)⟩)⟩)
        rw [decide_eq_true c1]
        refine iteT ⟨_, rfl, by show 0 ≤ sizeLine; exact Nat.zero_le _, fun e he => ?_⟩
        have s10 := Same.new (o := .lst []) (Same.refl H9) he
        have ate : upd H9 e (.lst []) e = some (.lst []) := upd_same
        have hD10 := s10 _ _ hD9
        have at10 := s10 _ _ at9
        generalize upd H9 e (.lst []) = H10 at s10 ate hD10 at10 ⊢
        refine ⟨_, _, .lst (SqL.of hD10) (ints_dp ps), .lst (SqL.of ate) .nil, ints_shaped ps, by decide +kernel, _, rfl, ?_⟩
        rw [ints_nil]
        by_cases c2 : ps = []
        case neg =>
          rw [decide_eq_false c2]
          exact iteF (iteF ⟨_, rfl, rfl, false, rfl, iteF (iteF ⟨_, rfl, _, _, rfl, rfl, last H10 s10 fun h => c2 h.2.1⟩)⟩)
        rw [decide_eq_true c2]
        refine iteT ⟨_, rfl, _, _, rfl, rfl, decide (n < 12), congrArg V.bl (decide_eq_decide.mpr (by omega)), ?_⟩
        by_cases c3 : n < 12
        case neg =>
          rw [decide_eq_false c3]
          exact iteF ⟨_, rfl, rfl, false, rfl, iteF (iteF ⟨_, rfl, _, _, rfl, rfl, last H10 s10 fun h => c3 h.2.2⟩)⟩
        rw [decide_eq_true c3]
        subst c2
        rw [tot_tie ⟨hq, c1⟩ c3] at inv
        exact iteT ⟨_, rfl, _, _, rfl, rfl, n + 1, [], _, _, _, _, rfl, by omega, by decide, hD10, at10, by omega, (s08.trans sU).trans s10⟩
    · rintro σ H5 ⟨n, ps, v6, v7, v8, v9, rfl, n12, p12, hD5, at5, inv, s5⟩
      rw [List.drop_of_length_le (by rw [List.length_map]; exact Nat.le_refl _), tot_nil, List.length_map] at inv
      exact k 0 H5 ⟨l0, r, rfl, .inr ⟨z, hsz, .inr ⟨by omega, rfl⟩⟩⟩ s5
end
end TT

set_option maxHeartbeats 4000000
namespace TT
open PySem PySem.Spec PyProof.Rows L2 LamX TL
/-! ### texts with one thing otherwise -/
theorem set_map {α β : Type} (f : α → β) : ∀ (l : List α) (k : Nat) (x : α), (l.map f).set k (f x) = (l.set k x).map f
  | [], _, _ => rfl
  | _ :: _, 0, _ => rfl
  | a :: l, k + 1, x => by
    show f a :: (l.map f).set k (f x) = f a :: (l.set k x).map f
    rw [set_map f l k x]
theorem set_mem {α : Type} : ∀ {l : List α} {k : Nat} {x y : α}, y ∈ l.set k x → y ∈ l ∨ y = x
  | [], _, _, _, h => .inl h
  | a :: l, 0, x, y, h => by
    rcases List.mem_cons.mp (show y ∈ x :: l from h) with h | h
    · exact .inr h
    · exact .inl (List.mem_cons_of_mem _ h)
  | a :: l, k + 1, x, y, h => by
    rcases List.mem_cons.mp (show y ∈ a :: l.set k x from h) with h | h
    · exact .inl (h ▸ List.mem_cons_self ..)
    · exact (set_mem h).imp (List.mem_cons_of_mem _) id
theorem ixN_at {n j : Nat} (hj : j < n) : ixN n (j : Int) = some j := by
  unfold ixN
  rw [if_pos (by omega), if_pos (by omega)]
  simp
theorem ends_len : ∀ t ∈ ends, t.length ≤ 20 := fun t ht => of_decide_eq_true (List.all_eq_true.mp (show ends.all (fun t => decide (t.length ≤ 20)) = true by decide +kernel) t ht)
section
variable {P : Program} {w : World} {K : PySem.W.Frag} {mg : Str → Option Value} {base : Heap} {Z : Zs}
theorem ok_l_bent_text (T : Txt K mg Z) : FnOk P w K mg base CX0 6 Z.f_l_bent_text Z.d_l_bent_text ["_law_pot_here", "_law_text"] sp_l_bent_text := by
  refine T.F_l_bent_text.ok sc_l_bent_text (fun vs H Q E h => ?_) (fun cdv A outer s H vs Q E hr h => ?_)
  · obtain ⟨p, n, m, c, t, ls, rfl, _⟩ := h
    rfl
  · obtain ⟨p, n, m, c, t, ls, rfl, hp, hn, X, m20, m500, c100, k⟩ := h
    have sl : sizeLine = 16777216 := sizeLine_eq
    have tlen : t.length ≤ 100 * 501 := Nat.le_trans X.len (Nat.mul_le_mul c100 (by omega))
    refine ⟨_, (pss_cons (ps_par (i := 2) (j := 3) (by rfl) sc_l_bent_text.nd rfl rfl (by decide) rfl rfl (pa_cons (pe_split (pv 1) pe_str) (pa_cons (pe_call (ok_l_take T) (hr.mono (by decide)) rfl T.g_l_take T.k_l_take T.bn_l_take .nil pass0 (pa_cons (pv 0) (pa_cons pe_int pa_nil))) pa_nil)) (by rfl))
      (pss_cons (ps_par (i := 4) (j := 5) (by rfl) sc_l_bent_text.nd rfl rfl (by decide) rfl rfl (pa_cons (pe_call (ok_l_take T) (hr.mono (by decide)) rfl T.g_l_take T.k_l_take T.bn_l_take .nil pass0 (pa_cons (pv 0) (pa_cons (pe_callB  call_len (by rfl) T.b_len (by decide +kernel) (pa_cons (pv 2) pa_nil)) pa_nil))) (pa_cons (pe_call (ok_l_take T) (hr.mono (by decide)) rfl T.g_l_take T.k_l_take T.bn_l_take .nil pass0 (pa_cons (pv 0) (pa_cons (pe_callB  call_len (by rfl) T.b_len (by decide +kernel) (pa_cons (pv 2) pa_nil)) pa_nil))) pa_nil)) (by rfl))
      (pss_cons (ps_set (i := 6) sc_l_bent_text.nd rfl (Or.inl rfl) (pe_lst (pa_cons pe_str (pa_cons pe_str (pa_cons pe_str (pa_cons pe_str (pa_cons pe_str (pa_cons pe_str (pa_cons pe_str (pa_cons pe_str pa_nil))))))))))
      (pss_cons (ps_expr (pe_bm PySem.F.plainAttrs_list PySem.F.slot_list_append PySem.F.type_list_append mt_append (pv 6) (pa_cons (pe_ix ix_list (pv 2) (pv 5) (fun _ _ => rfl)) pa_nil)))
      (pss_cons (ps_if (pt_cmpR op_eq (pv 3) pe_int (nomark _)) (pss_one (ps_ret (pe_join pe_str (pe_op op_cat (pe_slice sl_list (pv 2) po_none (po_some (pv 4))) (pe_slice sl_list (pv 2) (po_some (pe_op op_add (pv 4) pe_int)) po_none))))) pss_nil)
      (pss_cons (ps_if (pt_cmpR op_eq (pv 3) pe_int (nomark _)) (pss_one (ps_ret (pe_join pe_str (pe_op op_cat (pe_op op_cat (pe_slice sl_list (pv 2) po_none (po_some (pv 4))) (pe_lst (pa_cons (pe_call (ok_l_of T) (hr.mono (by decide)) rfl T.g_l_of T.k_l_of T.bn_l_of .nil pass0 (pa_cons (pv 0) (pa_cons (pv 6) pa_nil))) pa_nil))) (pe_slice sl_list (pv 2) (po_some (pv 4)) po_none))))) pss_nil)
      (pss_cons (ps_if (pt_cmpR op_eq (pv 3) pe_int (nomark _)) (pss_one (ps_asg (pe_tup (pa_cons (pe_ix ix_list (pv 2) (pv 5) (fun _ _ => rfl)) (pa_cons (pe_ix ix_list (pv 2) (pv 4) (fun _ _ => rfl)) pa_nil))) (pg_tup rfl (pgs_cons (pg_sub (pv 2) (pv 4) set_list) (pgs_cons (pg_sub (pv 2) (pv 5) set_list) pgs_nil))))) (pss_one (ps_if (pt_cmpR op_eq (pv 3) pe_int (nomark _)) (pss_one (ps_ret (pe_op op_add_str (pv 1) (pe_call (ok_l_of T) (hr.mono (by decide)) rfl T.g_l_of T.k_l_of T.bn_l_of .nil pass0 (pa_cons (pv 0) (pa_cons (pe_lst (pa_cons pe_str (pa_cons pe_str (pa_cons pe_str (pa_cons pe_str pa_nil))))) pa_nil)))))) (pss_one (ps_asg (pe_call (ok_l_bent_line T) (hr.mono (by decide)) rfl T.g_l_bent_line T.k_l_bent_line T.bn_l_bent_line .nil pass0 (pa_cons (pv 0) (pa_cons (pe_ix ix_list (pv 2) (pv 4) (fun _ _ => rfl)) pa_nil))) (pg_sub (pv 2) (pv 4) set_list))))))
      (pss_one (ps_ret (pe_join pe_str (pv 2))))))))))), ?_⟩
    have l1 : (Str.ofString "\n").length = 1 := by decide
    have e60 : (1000 : Int) < 10 ^ 60 := by decide +kernel
    have cn := X.cnt
    have ln0 : 0 < ls.length := List.length_pos_iff.mpr X.ne
    have each := X.each
    refine ⟨_, rfl, ⟨_, rfl⟩, _, _, rfl, rfl, by decide, by omega, fun l hl => ?_⟩
    rw [X.split]
    have sL := Same.new (o := .lst (ls.map V.str)) (Same.refl H) hl
    have atL : upd H l (.lst (ls.map V.str)) l = some (.lst (ls.map V.str)) := upd_same
    have nlp : l ≠ p := (hp.ne hl).symm
    have hp1 := hp.same sL
    generalize upd H l (.lst (ls.map V.str)) = H1 at sL atL hp1 ⊢
    refine ⟨_, rfl, p, n, 7, rfl, hp1, by omega, by decide, by decide +kernel, fun way n2 H2 w0 w1 hn2 hp2 k2 => ?_⟩
    have at2 := k2 _ _ nlp atL
    refine ⟨_, _, rfl, _, rfl, _, rfl, _, _, rfl, .inl ⟨_, SqL.of at2, rfl⟩, p, n2, _, rfl, hp2, by omega, ?_, ?_, fun at_ n3 H3 a0 a1 hn3 hp3 k3 => ?_⟩
    · rw [List.length_map]
      omega
    · rw [List.length_map]
      omega
    have at3 := k3 _ _ nlp at2
    rw [List.length_map] at a1
    refine ⟨_, rfl, _, rfl, _, _, rfl, .inl ⟨_, SqL.of at3, rfl⟩, p, n3, _, rfl, hp3, by omega, ?_, ?_, fun ot n4 H4 o0 o1 hn4 hp4 k4 => ⟨_, _, rfl, ?_⟩⟩
    · rw [List.length_map]
      omega
    · rw [List.length_map]
      omega
    have at4 := k4 _ _ nlp at3
    rw [List.length_map] at o1
    have kp4 : Keep p H H4 := (((Keep.of sL).trans k2).trans k3).trans k4
    refine ⟨by show 8 ≤ sizeLine; decide, fun a ha => ?_⟩
    have s5 := Same.new (o := .lst (somes.map V.str)) (Same.refl H4) ha
    have ata : upd H4 a (.lst (somes.map V.str)) a = some (.lst (somes.map V.str)) := upd_same
    have at5 := s5 _ _ at4
    have nap : a ≠ p := (hp4.ne ha).symm
    have nal : l ≠ a := ne_of_none at4 ha
    have hp5 := hp4.same s5
    have fa : H a = none := free_of kp4 hp ha hp4
    change tSeq _ _ _ _ (upd H4 a (.lst (somes.map V.str)))
    have kp5 := kp4.same s5
    generalize upd H4 a (.lst (somes.map V.str)) = H5 at s5 ata at5 hp5 kp5 ⊢
    obtain ⟨y, hy⟩ : ∃ y, ls[ot.toNat]? = some y := ⟨ls[ot.toNat]'(by omega), List.getElem?_eq_getElem (by omega)⟩
    obtain ⟨x, hx⟩ : ∃ x, ls[at_.toNat]? = some x := ⟨ls[at_.toNat]'(by omega), List.getElem?_eq_getElem (by omega)⟩
    have iy : atI (ls.map V.str) ot = some (.str y) := by
      obtain ⟨q, rfl⟩ : ∃ q : Nat, ot = (q : Int) := ⟨ot.toNat, by omega⟩
      exact atI_nat (by rw [List.getElem?_map]; rw [show ((q : Int)).toNat = q from rfl] at hy; rw [hy]; rfl)
    have ix : atI (ls.map V.str) at_ = some (.str x) := by
      obtain ⟨q, rfl⟩ : ∃ q : Nat, at_ = (q : Int) := ⟨at_.toNat, by omega⟩
      exact atI_nat (by rw [List.getElem?_map]; rw [show ((q : Int)).toNat = q from rfl] at hx; rw [hx]; rfl)
    have nx : ixN (ls.map V.str).length at_ = some at_.toNat := by
      obtain ⟨q, rfl⟩ : ∃ q : Nat, at_ = (q : Int) := ⟨at_.toNat, by omega⟩
      exact ixN_at (by rw [List.length_map]; omega)
    refine ⟨_, rfl, .inl ⟨rfl, _, SqL.of ata⟩, _, rfl, _, rfl, l, _, ot, .str y, rfl, rfl, SqL.of at5, iy, a, _, _, rfl, rfl, ata, by show 8 < sizeLine; decide, ?_⟩
    have at6 : upd H5 a (.lst (somes.map V.str ++ [.str y])) l = some (.lst (ls.map V.str)) := (upd_ne nal).trans at5
    have ata6 : upd H5 a (.lst (somes.map V.str ++ [.str y])) a = some (.lst ((somes ++ [y]).map V.str)) := by rw [upd_same, List.map_append] <;> rfl
    have hp6 : Pot (upd H5 a (.lst (somes.map V.str ++ [.str y]))) p n4 := by
      obtain ⟨x1, x2, e1, e2⟩ := hp5
      exact ⟨x1, x2, (upd_ne nap.symm).trans e1, e2⟩
    have kp6 : Keep p H (upd H5 a (.lst (somes.map V.str ++ [.str y]))) := fun b o nb e => (upd_ne (ne_of_none e fa)).trans (kp5 b o nb e)
    generalize upd H5 a (.lst (somes.map V.str ++ [.str y])) = H6 at at6 ata6 hp6 kp6 ⊢
    clear s5 ata at5 hp5 kp5 kp4 ha at4 at3 at2 atL hp1 hp2 hp3 hp4 k2 k3 k4
    have ym := each y (List.mem_of_getElem? hy)
    have somesOk : ∀ z ∈ somes ++ [y], Asc z ∧ z.length ≤ m := fun z hz => by
      rcases List.mem_append.mp hz with hz | hz
      · have := somes_ok z hz
        exact ⟨this.1, by omega⟩
      · rw [List.mem_singleton.mp hz]
        exact ym
    have fin : ∀ (ys : List Str) (q : Addr) (n' : Nat) (H' : Hp), H' q = some (.lst (ys.map V.str)) → (∀ p ∈ ys, Asc p ∧ p.length ≤ 2 * m + 50) → ys.length ≤ c + 2 → n' ≤ n + 12 → Pot H' p n' → Keep p H H' → ∃ a p', ∃ zs : List Str, V.str (Str.ofString "\n") = .str a ∧ [V.ref q] = [.ref p'] ∧ (SqL K H' p' (zs.map V.str) ∨ SqT K H' p' (zs.map V.str)) ∧ (zs.map (·.length)).sum + zs.length * a.length ≤ 16777216 ∧ Q (.str (Txt.join a zs)) H' := fun ys q n' H' hq ya yl hn' hp' kp' => by
      obtain ⟨ls', Xj⟩ := Txs.of ya yl (by omega)
      refine ⟨_, q, ys, rfl, rfl, .inl (SqL.of hq), ?_, k _ ls' n' H' Xj hn' hp' kp'⟩
      have b1 : amt ys ≤ ys.length * (2 * m + 50 + 1) := amt_le fun l hl => (ya l hl).2
      have b2 : ys.length * (2 * m + 50 + 1) ≤ 102 * 1051 := Nat.mul_le_mul (by omega) (by omega)
      rw [l1]
      unfold amt at b1
      omega
    have put1 : ∀ {H' : Hp} {n' : Nat} (o : HO), Pot H' p n' → Pot (upd H' l o) p n' := fun o ⟨x1, x2, e1, e2⟩ => ⟨x1, x2, (upd_ne nlp.symm).trans e1, e2⟩
    have put2 : ∀ {H' : Hp} {n' : Nat} (o o' : HO), Pot H' p n' → Pot (upd (upd H' l o) l o') p n' := fun o o' h => put1 o' (put1 o h)
    have kput1 : ∀ {H' : Hp} (o : HO), Keep p H H' → Keep p H (upd H' l o) := fun o h b u nb e => (upd_ne (ne_of_none e hl)).trans (h b u nb e)
    have kput2 : ∀ {H' : Hp} (o o' : HO), Keep p H H' → Keep p H (upd (upd H' l o) l o') := fun o o' h => kput1 o' (kput1 o h)
    refine ⟨_, rfl, rfl, _, rfl, ?_⟩
    by_cases c0 : way = 0
    · rw [decide_eq_true (by rw [c0])]
      refine iteT ⟨⟨_, rfl⟩, _, rfl, _, rfl, _, rfl, l, _, rfl, SqL.of at6, fun u1 hu1 => ?_⟩
      rw [cutV_to _ a0, ← List.map_take]
      have s1 := Same.new (o := .lst ((ls.take at_.toNat).map V.str)) (Same.refl H6) hu1
      have b1 : upd H6 u1 (.lst ((ls.take at_.toNat).map V.str)) u1 = _ := upd_same
      generalize upd H6 u1 (.lst ((ls.take at_.toNat).map V.str)) = H7 at s1 b1 ⊢
      refine ⟨_, rfl, _, rfl, _, _, rfl, rfl, _, rfl, l, _, rfl, SqL.of (s1 _ _ at6), fun u2 hu2 => ?_⟩
      rw [cutV_from _ (show 0 ≤ at_ + 1 by omega), ← List.map_drop]
      refine ⟨u1, u2, _, _, rfl, rfl, (by rw [upd_ne (ne_of_none b1 hu2)]; exact b1), upd_same, by rw [List.length_map, List.length_map, List.length_take, List.length_drop]; omega, fun u3 hu3 => ?_⟩
      have sN := Same.new (o := .lst ((ls.take at_.toNat).map V.str ++ (ls.drop (at_ + 1).toNat).map V.str)) (Same.new (o := .lst ((ls.drop (at_ + 1).toNat).map V.str)) s1 hu2) hu3
      refine fin (ls.take at_.toNat ++ ls.drop (at_ + 1).toNat) u3 n4 _ (by rw [List.map_append]; exact upd_same) (fun z hz => ?_) (by rw [List.length_append, List.length_take, List.length_drop]; omega) (by omega) (hp6.same sN) (kp6.same sN)
      have : z ∈ ls := by
        rcases List.mem_append.mp hz with hz | hz
        · exact List.mem_of_mem_take hz
        · exact List.mem_of_mem_drop hz
      exact ⟨(each z this).1, by have := (each z this).2; omega⟩
    rw [decide_eq_false (fun z => c0 (V.int.inj z))]
    refine iteF ⟨_, rfl, rfl, _, rfl, ?_⟩
    by_cases c1 : way = 1
    · rw [decide_eq_true (by rw [c1])]
      refine iteT ⟨⟨_, rfl⟩, _, rfl, _, rfl, _, rfl, l, _, rfl, SqL.of at6, fun u1 hu1 => ?_⟩
      rw [cutV_to _ a0, ← List.map_take]
      have s1 := Same.new (o := .lst ((ls.take at_.toNat).map V.str)) (Same.refl H6) hu1
      have b1 : upd H6 u1 (.lst ((ls.take at_.toNat).map V.str)) u1 = _ := upd_same
      have np1 : u1 ≠ p := (hp6.ne hu1).symm
      generalize upd H6 u1 (.lst ((ls.take at_.toNat).map V.str)) = H7 at s1 b1 ⊢
      refine ⟨_, rfl, _, rfl, p, a, n4, _, rfl, hp6.same s1, by omega, s1 _ _ ata6, nap, by show 0 < 9; decide, by show 9 ≤ 1000; decide, fun v n5 H8 hv hn5 hp8 k8 => ?_⟩
      obtain ⟨z, hz, rfl⟩ : ∃ z, z ∈ somes ++ [y] ∧ v = .str z := by
        have hv' : v ∈ (somes ++ [y]).map V.str := hv
        obtain ⟨z, h1, h2⟩ := List.mem_map.mp hv'
        exact ⟨z, h1, h2.symm⟩
      have b8 := k8 _ _ np1 b1
      have at8 := k8 _ _ nlp (s1 _ _ at6)
      have kp8 := (kp6.same s1).trans k8
      refine ⟨by show 1 ≤ sizeLine; decide, fun um hum => ?_⟩
      have s2 := Same.new (o := .lst [.str z]) (Same.refl H8) hum
      refine ⟨u1, um, _, _, rfl, rfl, s2 _ _ b8, upd_same, by rw [List.length_map, List.length_take]; show _ + 1 ≤ _; omega, fun uc huc => ?_⟩
      have s3 := Same.new (o := .lst ((ls.take at_.toNat).map V.str ++ [.str z])) s2 huc
      have b3 : upd (upd H8 um (.lst [.str z])) uc (.lst ((ls.take at_.toNat).map V.str ++ [.str z])) uc = _ := upd_same
      generalize upd (upd H8 um (.lst [.str z])) uc (.lst ((ls.take at_.toNat).map V.str ++ [.str z])) = H9 at s3 b3 ⊢
      refine ⟨_, rfl, _, rfl, _, rfl, l, _, rfl, SqL.of (s3 _ _ at8), fun u2 hu2 => ?_⟩
      rw [cutV_from _ a0, ← List.map_drop]
      refine ⟨uc, u2, _, _, rfl, rfl, (by rw [upd_ne (ne_of_none b3 hu2)]; exact b3), upd_same, by rw [List.length_append, List.length_map, List.length_map, List.length_take, List.length_drop]; show _ + 1 + _ ≤ _; omega, fun u3 hu3 => ?_⟩
      have sN := Same.new (o := .lst ((ls.take at_.toNat).map V.str ++ [.str z] ++ (ls.drop at_.toNat).map V.str)) (Same.new (o := .lst ((ls.drop at_.toNat).map V.str)) s3 hu2) hu3
      refine fin (ls.take at_.toNat ++ [z] ++ ls.drop at_.toNat) u3 n5 _ (by rw [List.map_append, List.map_append]; exact upd_same) (fun q hq => ?_) (by rw [List.length_append, List.length_append, List.length_take, List.length_drop]; show _ + 1 + _ ≤ _; omega) (by omega) (hp8.same sN) (kp8.same sN)
      rcases List.mem_append.mp hq with hq | hq
      · rcases List.mem_append.mp hq with hq | hq
        · exact ⟨(each q (List.mem_of_mem_take hq)).1, by have := (each q (List.mem_of_mem_take hq)).2; omega⟩
        · rw [List.mem_singleton.mp hq]
          exact ⟨(somesOk z hz).1, by have := (somesOk z hz).2; omega⟩
      · exact ⟨(each q (List.mem_of_mem_drop hq)).1, by have := (each q (List.mem_of_mem_drop hq)).2; omega⟩
    rw [decide_eq_false (fun z => c1 (V.int.inj z))]
    refine iteF ⟨_, rfl, rfl, _, rfl, ?_⟩
    by_cases c2 : way = 2
    · rw [decide_eq_true (by rw [c2])]
      refine iteT ⟨_, rfl, _, rfl, l, _, ot, .str y, rfl, rfl, SqL.of at6, iy, _, rfl, _, rfl, l, _, at_, .str x, rfl, rfl, SqL.of at6, ix, by show 2 ≤ sizeLine; decide, fun u hu => ?_⟩
      have su := Same.new (o := .tup [.str y, .str x]) (Same.refl H6) hu
      have atu : upd H6 u (.tup [.str y, .str x]) u = _ := upd_same
      have at7 := su _ _ at6
      have hpu := hp6.same su
      have kpu := kp6.same su
      generalize upd H6 u (.tup [.str y, .str x]) = H7 at su atu at7 hpu kpu ⊢
      refine ⟨u, _, rfl, SqT.of atu, rfl, _, _, rfl, _, rfl, _, rfl, l, _, at_, _, rfl, rfl, at7, nx, ?_⟩
      have ex1 : (ls.map V.str).set at_.toNat (.str y) = (ls.set at_.toNat y).map V.str := set_map _ _ _ _
      rw [ex1]
      have ny : ixN ((ls.set at_.toNat y).map V.str).length ot = some ot.toNat := by
        obtain ⟨q, rfl⟩ : ∃ q : Nat, ot = (q : Int) := ⟨ot.toNat, by omega⟩
        exact ixN_at (by rw [List.length_map, List.length_set]; omega)
      refine ⟨_, _, rfl, _, rfl, _, rfl, l, _, ot, _, rfl, rfl, upd_same, ny, rfl, ?_⟩
      have ex2 : ((ls.set at_.toNat y).map V.str).set ot.toNat (.str x) = ((ls.set at_.toNat y).set ot.toNat x).map V.str := set_map _ _ _ _
      rw [ex2]
      refine ⟨⟨_, rfl⟩, _, rfl, fin ((ls.set at_.toNat y).set ot.toNat x) l n4 _ upd_same (fun q hq => ?_) (by rw [List.length_set, List.length_set]; omega) (by omega) (put2 _ _ hpu) (kput2 _ _ kpu)⟩
      have xm := each x (List.mem_of_getElem? hx)
      rcases set_mem hq with hq | rfl
      · rcases set_mem hq with hq | rfl
        · exact ⟨(each q hq).1, by have := (each q hq).2; omega⟩
        · exact ⟨ym.1, by omega⟩
      · exact ⟨xm.1, by omega⟩
    rw [decide_eq_false (fun z => c2 (V.int.inj z))]
    refine iteF ⟨_, rfl, rfl, _, rfl, ?_⟩
    by_cases c3 : way = 3
    · rw [decide_eq_true (by rw [c3])]
      refine iteT ⟨_, rfl, _, rfl, by show 4 ≤ sizeLine; decide, fun b hb => ⟨p, b, n4, _, rfl, hp6.new hb, by omega, upd_same, (hp6.ne hb).symm, by show 0 < 4; decide, by show 4 ≤ 1000; decide, fun v n5 H8 hv hn5 hp8 k8 => ?_⟩⟩
      obtain ⟨z, hz, rfl⟩ : ∃ z, z ∈ ends ∧ v = .str z := by
        have hv' : v ∈ ends.map V.str := hv
        obtain ⟨z, h1, h2⟩ := List.mem_map.mp hv'
        exact ⟨z, h1, h2.symm⟩
      have zl := ends_len z hz
      obtain ⟨ls', Xe⟩ := ends_ok X m20 hz
      exact ⟨_, _, rfl, rfl, by omega, k _ ls' n5 H8 (Xe.up (by omega) (by omega)) (by omega) hp8 (kp6.trans ((Keep.rfl'.new hb).trans k8))⟩
    rw [decide_eq_false (fun z => c3 (V.int.inj z))]
    refine iteF ?_
    have xm := each x (List.mem_of_getElem? hx)
    refine ⟨_, rfl, _, rfl, _, rfl, l, _, at_, .str x, rfl, rfl, SqL.of at6, ix, p, n4, x, rfl, hp6, by omega, xm.1, by omega, fun z n5 H8 za zl hn5 hp8 k8 => ?_⟩
    have at8 := k8 _ _ nlp at6
    refine ⟨_, rfl, _, rfl, l, _, at_, _, rfl, rfl, at8, nx, ?_⟩
    have ex1 : (ls.map V.str).set at_.toNat (.str z) = (ls.set at_.toNat z).map V.str := set_map _ _ _ _
    rw [ex1]
    refine ⟨⟨_, rfl⟩, _, rfl, fin (ls.set at_.toNat z) l n5 _ upd_same (fun q hq => ?_) (by rw [List.length_set]; omega) (by omega) (put1 _ hp8) (kput1 _ (kp6.trans k8))⟩
    rcases set_mem hq with hq | rfl
    · exact ⟨(each q hq).1, by have := (each q hq).2; omega⟩
    · exact ⟨za, by omega⟩
end
end TT

set_option maxHeartbeats 4000000
namespace TT
open PySem PySem.Spec PyProof.Rows L2 LamX TL
/-! ### short words -/
theorem repl_nl : ∀ l : List Nat, StrLaws.replL [10] [32] l = l.map fun c => if c = 10 then 32 else c
  | [] => rfl
  | c :: r => by
    by_cases h : c = 10
    · subst h
      rw [StrLaws.replL_hit (by simp) rfl]
      show [32] ++ StrLaws.replL [10] [32] r = _
      rw [repl_nl r]
      rfl
    · rw [StrLaws.replL_miss (by simpa using h), repl_nl r, List.map_cons, if_neg h]
theorem map_no (l : List Nat) (h : 10 ∉ l) : (l.map fun c => if c = 10 then 32 else c) = l := by
  induction l with
  | nil => rfl
  | cons a t ih =>
    rw [List.map_cons, ih fun z => h (List.mem_cons_of_mem _ z), if_neg (fun e : a = 10 => h (by rw [← e]; exact List.mem_cons_self ..))]
theorem map_joinN : ∀ (ls : List (List Nat)), (∀ l ∈ ls, 10 ∉ l) → ((joinL [10] ls).map fun c => if c = 10 then 32 else c) = joinL [32] ls
  | [], _ => rfl
  | [a], h => map_no a (h a (by simp))
  | a :: b :: t, h => by
    have e := map_joinN (b :: t) fun l hl => h l (List.mem_cons_of_mem _ hl)
    simp only [joinL, List.map_append] at e ⊢
    rw [e, map_no a (h a (by simp))]
    simp
theorem joinL_two (s : List Nat) (b : List (List Nat)) (hb : b ≠ []) : ∀ a : List (List Nat), a ≠ [] → joinL s (a ++ b) = joinL s a ++ (s ++ joinL s b)
  | [], h => absurd rfl h
  | [x], _ => by
    cases b with
    | nil => exact absurd rfl hb
    | cons y t => simp [joinL]
  | x :: y :: t, _ => by
    have e := joinL_two s b hb (y :: t) (by simp)
    simp only [List.cons_append, joinL] at e ⊢
    rw [e]
    simp
theorem joinL_flat : ∀ ls : List (List (List Nat)), (∀ l ∈ ls, l ≠ []) → joinL [32] (ls.map (joinL [32])) = joinL [32] ls.flatten
  | [], _ => rfl
  | [a], _ => by simp [joinL]
  | a :: b :: t, h => by
    have e := joinL_flat (b :: t) fun l hl => h l (List.mem_cons_of_mem _ hl)
    have hb : (b :: t).flatten ≠ [] := by
      rw [List.flatten_cons]
      intro z
      exact h b (by simp) (List.append_eq_nil_iff.mp z).1
    rw [List.flatten_cons, joinL_two [32] _ hb a (h a (by simp)), ← e]
    simp [joinL]
/-- the words of a text are those of its lines -/
theorem short_words {m c : Nat} {t : Str} {ls : List Str} (X : Txs m c t ls) : Txt.split (Txt.replace t (Str.ofString "\n") (Str.ofString " ")) (Str.ofString " ") = (ls.map fun l => Txt.split l (Str.ofString " ")).flatten := by
  have e : Txt.replace t (Str.ofString "\n") (Str.ofString " ") = Txt.join (Str.ofString " ") (ls.map fun l => Txt.split l (Str.ofString " ")).flatten := by
    refine ext_tl ?_
    have r := StrLaws.replace_list (x := t) (y := Str.ofString "\n") (z := Str.ofString " ") (by decide)
    have n1 : (Str.ofString "\n").cps.toList = [10] := nl_tl
    have n2 : (Str.ofString " ").cps.toList = [32] := sp_tl
    rw [n1, n2, repl_nl] at r
    rw [show Txt.join (Str.ofString " ") (ls.map fun l => Txt.split l (Str.ofString " ")).flatten = _ from join_eq _ _, tl_join, sp_tl]
    refine r.trans ?_
    show (tl t).map _ = _
    rw [X.text, tl_joinN, map_joinN _ fun l hl => by
      obtain ⟨q, hq, rfl⟩ := List.mem_map.mp hl
      exact asc_no10 (X.each q hq).1]
    have f := joinL_flat (ls.map fun l => (Txt.split l (Str.ofString " ")).map tl) fun l hl => by
      obtain ⟨q, _, rfl⟩ := List.mem_map.mp hl
      simpa using words_ne q
    rw [List.map_map] at f
    have g : (ls.map (joinL [32] ∘ fun l => (Txt.split l (Str.ofString " ")).map tl)) = ls.map tl := List.map_congr_left fun l _ => split_eq l
    rw [g] at f
    rw [f, List.map_flatten, List.map_map]
    rfl
  rw [e]
  refine split_join (s := 32) (S := []) sp_tl (by decide +kernel) ?_ fun p hp => ?_
  · intro z
    obtain ⟨l, hl⟩ := List.exists_mem_of_ne_nil _ X.ne
    have := List.flatten_eq_nil_iff.mp z _ (List.mem_map_of_mem hl)
    exact words_ne l this
  · obtain ⟨ws, hws, hp⟩ := List.mem_flatten.mp hp
    obtain ⟨l, _, rfl⟩ := List.mem_map.mp hws
    exact split_free l p hp
def shortB (ls : List Str) : Bool := ls.all fun l => (Txt.split l (Str.ofString " ")).all fun w => decide (w.length < 41)
def sp_l_is_short : Sp := fun vs H Q _ => ∃ (m c : Nat) (t : Str) (ls : List Str), vs = [.str t] ∧ Txs m c t ls ∧ m ≤ 1500 ∧ c ≤ 110 ∧ ∀ H', Same H H' → Q (.bl (shortB ls)) H'
section
variable {P : Program} {w : World} {K : PySem.W.Frag} {mg : Str → Option Value} {base : Heap} {Z : Zs}
theorem ok_l_is_short (T : Txt K mg Z) : FnOk P w K mg base CX0 1 Z.f_l_is_short Z.d_l_is_short ["_law_text"] sp_l_is_short := by
  obtain ⟨oc, od, kV, doc, pm, an, cdv, ct, osl, efd, lk, hcd⟩ := T.F_l_is_short.ex
  rw [efd] at lk ⊢
  refine fn_ofT lk hcd sc_l_is_short (by decide +kernel) (by decide) (fun vs H Q E h => ?_) fun A outer s H vs Q E hr h => ?_
  · obtain ⟨m, c, t, ls, rfl, _⟩ := h
    rfl
  · obtain ⟨m, c, t, ls, rfl, X, m5, c1, k⟩ := h
    have sl : sizeLine = 16777216 := sizeLine_eq
    have tlen : t.length ≤ 110 * 1501 := Nat.le_trans X.len (Nat.mul_le_mul c1 (by omega))
    have one : (Str.ofString " ").length = 1 := by decide
    refine ⟨_, CwR.psst_one (CwR.pst_ret (pet_allStr (f := fun w => decide ((w.length : Int) < 41)) (Pw := fun w => w.length ≤ sizeLine) rfl rfl T.b_all (by decide +kernel) (by decide +kernel) rfl (by decide +kernel) (by decide +kernel)
      (pet_m1 PySem.F.slot_str_split PySem.F.type_str_split mt_split (CwR.pet_replC (pv 0)) pe_str)
      (fun pins σ H1 s1 I C z tk s2 m2 E' pz hns hx keep => elt_len I T.b_len rfl (by decide +kernel) (by decide +kernel) rfl pz hns hx keep))), ?_⟩
    have lr : (Txt.replace t (Str.ofString "\n") (Str.ofString " ")).length = t.length := by
      have r := StrLaws.replace_list (x := t) (y := Str.ofString "\n") (z := Str.ofString " ") (by decide)
      have n1 : (Str.ofString "\n").cps.toList = [10] := nl_tl
      have n2 : (Str.ofString " ").cps.toList = [32] := sp_tl
      rw [n1, n2, repl_nl] at r
      have e := congrArg List.length r
      rw [List.length_map] at e
      rw [len_tl, len_tl]
      exact e
    refine ⟨_, rfl, t, rfl, by rw [one]; omega, ⟨_, rfl⟩, _, _, rfl, rfl, by decide, by omega, fun wl hwl => ⟨wl, _, rfl, SqL.of upd_same, fun z hz => ?_, ?_⟩⟩
    · have a := amt_mem hz
      rw [words_amt] at a
      omega
    · have e : ((Txt.split (Txt.replace t (Str.ofString "\n") (Str.ofString " ")) (Str.ofString " ")).all fun w => decide ((w.length : Int) < 41)) = shortB ls := by
        rw [short_words X, List.all_flatten, List.all_map]
        unfold shortB
        refine congrArg (fun f => ls.all f) (funext fun l => ?_)
        refine congrArg (fun f => (Txt.split l (Str.ofString " ")).all f) (funext fun w => ?_)
        exact decide_eq_decide.mpr (by omega)
      rw [e]
      exact k _ (Same.new (Same.refl H) hwl)
end
end TT

namespace TT
open PySem PySem.Spec PyProof.Rows L2 LamX
/-! ### heaps in which tables may have grown, and the pot drawn from -/
/-- all but the pot and the tables stays -/
def KeepN (p : Addr) (H H' : Hp) : Prop := ∀ b o, b ≠ p → H b = some o → (∀ ps, o ≠ .tbl ps) → H' b = some o
theorem KeepN.of {p : Addr} {H H' : Hp} (k : Keep p H H') : KeepN p H H' := fun b o n e _ => k b o n e
theorem KeepN.then {p : Addr} {H H1 H2 : Hp} (a : KeepN p H H1) (b : KeepN p H1 H2) : KeepN p H H2 := fun c o n e t => b c o n (a c o n e t) t
theorem KeepN.ext {p : Addr} {H H1 : Hp} (e : ExtN H H1) : KeepN p H H1 := fun c o _ h t => e c o h t
theorem Tabs.keep {p : Addr} {n : Nat} {T : List (Addr × Str)} {H H' : Hp} (k : Keep p H H') (hp : Pot H p n) (t : Tabs T H) : Tabs T H' := fun q hq => by
  obtain ⟨own, mix, hpp, _⟩ := hp
  obtain ⟨ps, h1, h2, h3⟩ := t q hq
  refine ⟨ps, k _ _ (ne_of h1 hpp fun z => by cases z) h1, h2, fun pos cv hc => ?_⟩
  obtain ⟨c, e1, e2⟩ := h3 pos cv hc
  exact ⟨c, e1, k _ _ (ne_of e2 hpp fun z => by unfold CodeO at z; cases z) e2⟩
/-- a list's object is written: the tables stay -/
theorem Tabs.lst {T : List (Addr × Str)} {H : Hp} {D : Addr} {xs : List V} {o : HO} (hD : H D = some (.lst xs)) (t : Tabs T H) : Tabs T (upd H D o) := fun q hq => by
  obtain ⟨ps, h1, h2, h3⟩ := t q hq
  refine ⟨ps, by rw [upd_ne (ne_of h1 hD fun z => by cases z)]; exact h1, h2, fun pos cv hc => ?_⟩
  obtain ⟨c, e1, e2⟩ := h3 pos cv hc
  exact ⟨c, e1, by rw [upd_ne (ne_of e2 hD fun z => by unfold CodeO at z; cases z)]; exact e2⟩
theorem Pot.extN {H H' : Hp} {p : Addr} {n : Nat} (e : ExtN H H') (hp : Pot H p n) : Pot H' p n := by
  obtain ⟨own, mix, h, r⟩ := hp
  exact ⟨own, mix, e _ _ h (fun ps z => nomatch z), r⟩
theorem shareT {T : Addr → Hp → Prop} {G : Prop} (C : Addr → Hp → Prop) (h : (∀ q H, C q H → T q H) → G) (t : ∀ q H, C q H → T q H) : G := h t
theorem shareB {T : Bool → Prop} {G : Prop} (C : Bool → Prop) (h : (∀ b, C b → T b) → G) (t : ∀ b, C b → T b) : G := h t
theorem Row.Ok.far {r : Row} (h : r.Ok) {z : Int} (z0 : 0 ≤ z) (hf : r.f + z + r.l ≤ 10 ^ 30) (hs : r.s + z + r.l ≤ 10 ^ 30) : Row.Ok { r with f := r.f + z, s := r.s + z } :=
  ⟨by show 0 ≤ r.f + z; have := h.f0; omega, by show 0 ≤ r.s + z; have := h.s0; omega, h.l0, hf, hs, h.al, h.ah, h.bk⟩
theorem Pot.off {H : Hp} {p q : Addr} {n : Nat} {o : HO} (hp : Pot H p n) (hq : H q = some o) (h : ∀ xs, o ≠ .lst xs) : q ≠ p := by
  rintro rfl
  obtain ⟨a, m, e, _⟩ := hp
  rw [hq] at e
  exact h _ (Option.some.inj e)
theorem rg_mem {a b : Int} {x : V} (h : x ∈ rgV a b) : ∃ z : Int, x = .int z ∧ a ≤ z ∧ z < b := by
  unfold rgV at h
  obtain ⟨j, hj, rfl⟩ := List.mem_map.mp h
  have := List.mem_range.mp hj
  exact ⟨a + (j : Int), rfl, by omega, by omega⟩
/-- the error that is met, since H -/
def Caught (H : Hp) (C : Addr) (v : V) : VK := fun u H2 => ∃ a, u = V.ref a ∧ Same H H2 ∧ Met H2 a C [("value", v)]
/-- what look's reading is asked, so that met_error gives G -/
def met (K : PySem.W.Frag) (CE : Addr) (tl : XK → Hp → VK → Prop) (H : Hp) (G : VK) : Prop := tl (fun cls dd H' => PySem.W.exmOne K cls (.ref CE) = some true ∧ ∀ a, H' a = none → G (.ref a) (upd H' a (exk a cls dd))) H (fun _ H' => G .non H')
end TT

set_option maxHeartbeats 4000000
namespace TT
open PySem PySem.Spec PyProof.Rows L2 LamX TL
/-! ### the law's lore -/
def loreK (z : Int) (ta na : Addr) : List (Key × V) := [(Sum.inr "size", .int z), (Sum.inr "ties", .ref ta), (Sum.inr "notes", .ref na)]
theorem merge_lore (z : Int) (ta na : Addr) : mergeK [] (loreK z ta na) = loreK z ta na := by
  unfold mergeK loreK putK
  have h1 : ¬ (Str.ofString "size" = Str.ofString "ties") := by decide +kernel
  have h2 : ¬ (Str.ofString "size" = Str.ofString "notes") := by decide +kernel
  have h3 : ¬ (Str.ofString "ties" = Str.ofString "notes") := by decide +kernel
  simp [h1, h2, h3]
theorem get_size {H : Hp} {d : Addr} {z : Int} {ta na : Addr} (h : H d = some (.dK (loreK z ta na))) : DGet H d (.str "size") (some (.int z)) := by
  refine .inl ⟨_, Sum.inr "size", .inl h, rfl, ?_⟩
  unfold loreK
  rw [valV_pos rfl]
theorem get_ties {H : Hp} {d : Addr} {z : Int} {ta na : Addr} (h : H d = some (.dK (loreK z ta na))) : DGet H d (.str "ties") (some (.ref ta)) := by
  refine .inl ⟨_, Sum.inr "ties", .inl h, rfl, ?_⟩
  unfold loreK
  rw [valV_neg (fun e => absurd (Sum.inr.inj e) (by decide +kernel)), valV_pos rfl]
theorem get_notes {H : Hp} {d : Addr} {z : Int} {ta na : Addr} (h : H d = some (.dK (loreK z ta na))) : DGet H d (.str "notes") (some (.ref na)) := by
  refine .inl ⟨_, Sum.inr "notes", .inl h, rfl, ?_⟩
  unfold loreK
  rw [valV_neg (fun e => absurd (Sum.inr.inj e) (by decide +kernel)), valV_neg (fun e => absurd (Sum.inr.inj e) (by decide +kernel)), valV_pos rfl]
theorem put_size {H : Hp} {d : Addr} {z y : Int} {ta na : Addr} (h : H d = some (.dK (loreK z ta na))) : DPut H d (.str "size") (.int y) (upd H d (.dK (loreK y ta na))) := by
  have h1 : ¬ (Str.ofString "ties" = Str.ofString "size") := by decide +kernel
  have h2 : ¬ (Str.ofString "notes" = Str.ofString "size") := by decide +kernel
  have e : putK (loreK z ta na) (Sum.inr (Str.ofString "size")) (.int y) = loreK y ta na := by
    unfold loreK putK
    simp [h1, h2]
  exact .inl ⟨_, Sum.inr "size", h, rfl, by show 3 < sizeLine; decide, by rw [← e]⟩
structure LoreIs (H : Hp) (p d : Addr) (b : Lore) (ta na : Addr) (tr nr : List V) : Prop where
  dic : H d = some (.dK (loreK b.z ta na))
  ties : H ta = some (.lst tr)
  notes : H na = some (.lst nr)
  tp : ta ≠ p
  np : na ≠ p
  ts : RowsAt H tr b.ts
  ns : Notes H nr b.ns
def LoreAt (H : Hp) (p d : Addr) (b : Lore) : Prop := ∃ ta na tr nr, LoreIs H p d b ta na tr nr
theorem RowsAt.keep {H H' : Hp} {p : Addr} {n : Nat} (k : Keep p H H') (hp : Pot H p n) {xs : List V} {ts : List Row} (h : RowsAt H xs ts) : RowsAt H' xs ts := Paired.imp (fun _ _ ⟨q, e, t⟩ => ⟨q, e, k.row hp t⟩) h
theorem Notes.keep {H H' : Hp} {p : Addr} {n : Nat} (k : Keep p H H') (hp : Pot H p n) {xs : List V} {ns : List (Int × Int)} (h : Notes H xs ns) : Notes H' xs ns :=
  Paired.imp (fun _ _ ⟨q, e, t⟩ => ⟨q, e, k _ _ (hp.off t fun _ z => nomatch z) t⟩) h
theorem RowsAt.put {D : Addr} {H : Hp} {xs : List V} {o : HO} (hD : H D = some (.lst xs)) {tr : List V} {ts : List Row} (h : RowsAt H tr ts) : RowsAt (upd H D o) tr ts :=
  Paired.imp (fun _ _ ⟨q, e, t⟩ => ⟨q, e, (upd_ne (ne_of t hD fun z => nomatch z)).trans t⟩) h
theorem RowsAt.dput {D : Addr} {H : Hp} {kvs : List (Key × V)} {o : HO} (hD : H D = some (.dK kvs)) {tr : List V} {ts : List Row} (h : RowsAt H tr ts) : RowsAt (upd H D o) tr ts :=
  Paired.imp (fun _ _ ⟨q, e, t⟩ => ⟨q, e, (upd_ne (ne_of t hD fun z => nomatch z)).trans t⟩) h
theorem Notes.dput {D : Addr} {H : Hp} {kvs : List (Key × V)} {o : HO} (hD : H D = some (.dK kvs)) {tr : List V} {ns : List (Int × Int)} (h : Notes H tr ns) : Notes (upd H D o) tr ns :=
  Paired.imp (fun _ _ ⟨q, e, t⟩ => ⟨q, e, (upd_ne (ne_of t hD fun z => nomatch z)).trans t⟩) h
theorem LoreAt.keep {H H' : Hp} {p d : Addr} {n : Nat} {b : Lore} (k : Keep p H H') (hp : Pot H p n) (h : LoreAt H p d b) : LoreAt H' p d b := by
  obtain ⟨ta, na, tr, nr, h⟩ := h
  exact ⟨ta, na, tr, nr, k _ _ (hp.off h.dic fun _ z => nomatch z) h.dic, k _ _ h.tp h.ties, k _ _ h.np h.notes, h.tp, h.np, h.ts.keep k hp, h.ns.keep k hp⟩
theorem LoreAt.same {H H' : Hp} {p d : Addr} {b : Lore} (s : Same H H') (h : LoreAt H p d b) : LoreAt H' p d b := by
  obtain ⟨ta, na, tr, nr, h⟩ := h
  exact ⟨ta, na, tr, nr, s _ _ h.dic, s _ _ h.ties, s _ _ h.notes, h.tp, h.np, h.ts.same s, h.ns.same s⟩
theorem Pot.put {H : Hp} {p D : Addr} {n : Nat} {o : HO} (hp : Pot H p n) (ne : p ≠ D) : Pot (upd H D o) p n := by
  obtain ⟨a, m, e, r⟩ := hp
  exact ⟨a, m, (upd_ne ne).trans e, r⟩
theorem Pot.ne' {H : Hp} {p q : Addr} {n : Nat} (hp : Pot H p n) (hq : H q = none) : p ≠ q := by
  obtain ⟨_, _, e, _⟩ := hp
  exact ne_of_none e hq
def sp_l_lore : Sp := fun vs H Q _ => ∃ (p : Addr) (n : Nat) (mz mt mn : Int), vs = [.ref p, .int mz, .int mt, .int mn] ∧ Pot H p n ∧ n + 200 < 1000000 ∧ 1 ≤ mz ∧ mz ≤ 100 ∧ 0 ≤ mt ∧ mt ≤ 12 ∧ 0 ≤ mn ∧ mn ≤ 12 ∧
  ∀ (d : Addr) (b : Lore) (n' : Nat) (H' : Hp), b.Fine → b.z ≤ mz → (b.ts.length : Int) ≤ mt → (b.ns.length : Int) ≤ mn → (b.ns.map (·.1)).Nodup → n' ≤ n + 140 → Pot H' p n' → Keep p H H' → H d = none → LoreAt H' p d b → Q (.ref d) H'
theorem ix_in {i : Int} {n : Nat} (h0 : 0 ≤ i) (h1 : i < n) : seqIndex? i n = some i.toNat := by
  unfold seqIndex?
  simp only [if_neg (show ¬ i < 0 by omega)]
  simp [h0, h1]
theorem rg_ints (z : Int) : rgV 0 z = ((List.range z.toNat).map fun j => ((j : Nat) : Int)).map V.int := by
  unfold rgV
  rw [List.map_map, Int.sub_zero]
  refine List.map_congr_left fun j _ => ?_
  show V.int (0 + (j : Int)) = V.int (j : Int)
  rw [Int.zero_add]
theorem erase_map {α β : Type} (f : α → β) : ∀ (l : List α) (k : Nat), (l.map f).eraseIdx k = (l.eraseIdx k).map f
  | [], _ => rfl
  | _ :: _, 0 => rfl
  | a :: l, k + 1 => by
    show f a :: (l.map f).eraseIdx k = f a :: (l.eraseIdx k).map f
    rw [erase_map f l k]
theorem erase_mem {α : Type} : ∀ {l : List α} {k : Nat} {y : α}, y ∈ l.eraseIdx k → y ∈ l
  | [], _, _, h => h
  | _ :: _, 0, _, h => List.mem_cons_of_mem _ h
  | a :: l, k + 1, y, h => by
    rcases List.mem_cons.mp (show y ∈ a :: l.eraseIdx k from h) with rfl | h
    · exact List.mem_cons_self ..
    · exact List.mem_cons_of_mem _ (erase_mem h)
theorem erase_nodup {α : Type} : ∀ {l : List α} {k : Nat} {x : α}, l.Nodup → l[k]? = some x → (l.eraseIdx k).Nodup ∧ x ∉ l.eraseIdx k ∧ (l.eraseIdx k).length + 1 = l.length
  | [], _, _, _, h => by simp at h
  | a :: l, 0, x, nd, h => by
    simp at h
    subst h
    obtain ⟨n1, n2⟩ := List.nodup_cons.mp nd
    exact ⟨n2, n1, rfl⟩
  | a :: l, k + 1, x, nd, h => by
    obtain ⟨n1, n2⟩ := List.nodup_cons.mp nd
    obtain ⟨e1, e2, e3⟩ := erase_nodup n2 (show l[k]? = some x by simpa using h)
    refine ⟨List.nodup_cons.mpr ⟨fun m => n1 (erase_mem m), e1⟩, fun m => ?_, by show (l.eraseIdx k).length + 1 + 1 = l.length + 1; omega⟩
    rcases List.mem_cons.mp (show x ∈ a :: l.eraseIdx k from m) with rfl | m
    · exact n1 (List.mem_of_getElem? (show l[k]? = some x by simpa using h))
    · exact e2 m
section
variable {P : Program} {w : World} {K : PySem.W.Frag} {mg : Str → Option Value} {base : Heap} {Z : Zs}
theorem ok_l_lore (T : Txt K mg Z) : FnOk P w K mg base CX0 5 Z.f_l_lore Z.d_l_lore ["_law_pot_here", "_law_most", "_law_ties", "_law_notes"] sp_l_lore := by
  refine T.F_l_lore.ok sc_l_lore (fun vs H Q E h => ?_) (fun cdv A outer s H vs Q E hr h => ?_)
  · obtain ⟨p, n, mz, mt, mn, rfl, _⟩ := h
    rfl
  · obtain ⟨p, n, mz, mt, mn, rfl, hp, hn, z0, z1, t0, t1, n0, n1, k⟩ := h
    have sl : sizeLine = 16777216 := sizeLine_eq
    have big : (1000 : Int) < 10 ^ 60 := by decide
    refine ⟨_, (pss_cons (ps_set (i := 4) sc_l_lore.nd rfl (Or.inl rfl) (pe_disp (pps_cons pe_str (pe_op op_add pe_int (pe_call (ok_l_take T) (hr.mono (by decide)) rfl T.g_l_take T.k_l_take T.bn_l_take .nil pass0 (pa_cons (pv 0) (pa_cons (pv 1) pa_nil)))) (pps_cons pe_str (pe_lst pa_nil) (pps_cons pe_str (pe_lst pa_nil) pps_nil))) (by rfl) (by rfl) (fun z => by cases z) (by decide)))
      (pss_cons (ps_for PassesOwn.never rfl (pi_range1 rfl T.b_range (pa_cons (pe_call (ok_l_take T) (hr.mono (by decide)) rfl T.g_l_take T.k_l_take T.bn_l_take .nil pass0 (pa_cons (pv 0) (pa_cons (pe_op op_add (pv 2) pe_int) pa_nil))) pa_nil)) (pg_name (i := 5) sc_l_lore.nd rfl (Or.inl rfl)) (pss_one (ps_expr (pe_bm PySem.F.plainAttrs_list PySem.F.slot_list_append PySem.F.type_list_append mt_append (pe_dget (hu_of hr) (pv 4) pe_str (fun _ _ => rfl)) (pa_cons (pe_call (ok_l_row T) (hr.mono (by decide)) rfl T.g_l_row T.k_l_row T.bn_l_row .nil pass0 (pa_cons (pv 0) (pa_cons (pe_dget (hu_of hr) (pv 4) pe_str (fun _ _ => rfl)) pa_nil))) pa_nil)))))
      (pss_cons (ps_set (i := 6) sc_l_lore.nd rfl (Or.inl rfl) (pe_listRg rfl rfl T.b_list (prg_1 rfl T.b_range (pe_dget (hu_of hr) (pv 4) pe_str (fun _ _ => rfl)))))
      (pss_cons (ps_for PassesOwn.never rfl (pi_range1 rfl T.b_range (pa_cons (pe_callB  (call_min2 rfl) (by rfl) T.b_min (by decide +kernel) (pa_cons (pe_callB  call_len (by rfl) T.b_len (by decide +kernel) (pa_cons (pv 6) pa_nil)) (pa_cons (pe_call (ok_l_take T) (hr.mono (by decide)) rfl T.g_l_take T.k_l_take T.bn_l_take .nil pass0 (pa_cons (pv 0) (pa_cons (pe_op op_add (pv 3) pe_int) pa_nil))) pa_nil))) pa_nil)) (pg_name (i := 5) sc_l_lore.nd rfl (Or.inl rfl)) (pss_one (ps_expr (pe_bm PySem.F.plainAttrs_list PySem.F.slot_list_append PySem.F.type_list_append mt_append (pe_dget (hu_of hr) (pv 4) pe_str (fun _ _ => rfl)) (pa_cons (pe_tup (pa_cons (pe_bm PySem.F.plainAttrs_list PySem.F.slot_list_pop PySem.F.type_list_pop mt_popAt (pv 6) (pa_cons (pe_call (ok_l_take T) (hr.mono (by decide)) rfl T.g_l_take T.k_l_take T.bn_l_take .nil pass0 (pa_cons (pv 0) (pa_cons (pe_callB  call_len (by rfl) T.b_len (by decide +kernel) (pa_cons (pv 6) pa_nil)) pa_nil))) pa_nil)) (pa_cons (pe_call (ok_l_amount T) (hr.mono (by decide)) rfl T.g_l_amount T.k_l_amount T.bn_l_amount .nil pass0 (pa_cons (pv 0) pa_nil)) pa_nil))) pa_nil)))))
      (pss_one (ps_ret (pv 4))))))), ?_⟩
    refine fun D hD => ?_
    have npD := hp.ne' hD
    refine ⟨_, rfl, _, rfl, p, n, mz, rfl, hp.new hD, by omega, by omega, by omega, fun dz m1 H1 dz0 dz1 hm1 hp1 k1 => ⟨_, _, rfl, rfl, ?_⟩⟩
    refine ⟨by show 0 ≤ sizeLine; exact Nat.zero_le _, fun ta hta => ⟨by show 0 ≤ sizeLine; exact Nat.zero_le _, fun na hna => ?_⟩⟩
    have hD1 : H1 D = some (.dK []) := k1 _ _ npD.symm upd_same
    have npt := hp1.ne' hta
    have s1 := Same.new (o := .lst []) (Same.refl H1) hta
    have s2 := Same.new (o := .lst []) (Same.refl _) hna
    have ta2 : upd (upd H1 ta (.lst [])) na (.lst []) ta = some (.lst []) := s2 _ _ upd_same
    have na2 : upd (upd H1 ta (.lst [])) na (.lst []) na = some (.lst []) := upd_same
    have nta : ta ≠ na := ne_of_none upd_same hna
    have hp2 := hp1.same (s1.trans s2)
    have npn : p ≠ na := (hp1.same s1).ne' hna
    have hD2 := s2 _ _ (s1 _ _ hD1)
    have k2 : Keep p H (upd (upd H1 ta (.lst [])) na (.lst [])) := ((Keep.rfl'.new hD).trans k1).same (s1.trans s2)
    have fta : H ta = none := free_of ((Keep.rfl'.new hD).trans k1) hp hta hp1
    have fna : H na = none := free_of (((Keep.rfl'.new hD).trans k1).same s1) hp hna (hp1.same s1)
    generalize upd (upd H1 ta (.lst [])) na (.lst []) = H2 at s2 ta2 na2 hp2 hD2 k2 ⊢
    clear s1 s2
    refine ⟨hD2, loreK (1 + dz) ta na, rfl, by show 3 ≤ 15; decide, ?_⟩
    rw [merge_lore]
    obtain ⟨z, hz⟩ : ∃ z, z = 1 + dz := ⟨_, rfl⟩
    rw [← hz]
    have zz : 1 ≤ z ∧ z ≤ mz := by omega
    have hp3 : Pot (upd H2 D (.dK (loreK z ta na))) p m1 := hp2.put npD
    have ta3 : upd H2 D (.dK (loreK z ta na)) ta = some (.lst []) := (upd_ne (ne_of ta2 hD2 fun z => nomatch z)).trans ta2
    have na3 : upd H2 D (.dK (loreK z ta na)) na = some (.lst []) := (upd_ne (ne_of na2 hD2 fun z => nomatch z)).trans na2
    have hD3 : upd H2 D (.dK (loreK z ta na)) D = some (.dK (loreK z ta na)) := upd_same
    have k3 : Keep p H (upd H2 D (.dK (loreK z ta na))) := fun b o nb e => (upd_ne (ne_of_none e hD)).trans (k2 b o nb e)
    generalize upd H2 D (.dK (loreK z ta na)) = H3 at hp3 ta3 na3 hD3 k3 ⊢
    clear ta2 na2 hp2 hD2 k2 hD1 hta hna hp1 k1
    -- the ties
    refine ⟨_, rfl, _, rfl, _, _, rfl, rfl, p, m1, mt + 1, rfl, hp3, by omega, by omega, by omega, fun dt m2 H4 dt0 dt1 hm2 hp4 k4 => ?_⟩
    refine ⟨_, rfl, by omega, by omega, ?_⟩
    have ntp := npt.symm; have nnp := npn.symm
    refine for_range (n := dt.toNat) (fun i σ H' => ∃ n' v5 tr ts, σ = [some (.ref p), some (.int mz), some (.int mt), some (.int mn), some (.ref D), v5, none] ∧ n' ≤ n + 2 + 6 * i ∧ Pot H' p n' ∧ Keep p H H' ∧ H' D = some (.dK (loreK z ta na)) ∧ H' ta = some (.lst tr) ∧ H' na = some (.lst []) ∧ RowsAt H' tr ts ∧ ts.length = i ∧ ∀ r ∈ ts, r.In z)
      ⟨m2, _, [], [], rfl, by omega, hp4, k3.trans k4, k4 _ _ npD.symm hD3, k4 _ _ ntp ta3, k4 _ _ nnp na3, .nil, rfl, fun _ h => nomatch h⟩ ?_ ?_
    · rintro i σ H5 hi ⟨n', v5, tr, ts, rfl, hn', hp5, k5, hD5, ta5, na5, rows, lts, ins⟩
      refine ⟨_, rfl, D, _, rfl, get_ties hD5, .inl ⟨rfl, _, SqL.of ta5⟩, ?_⟩
      refine ⟨_, rfl, _, rfl, D, _, rfl, get_size hD5, p, n', z, rfl, hp5, by omega, by omega, by omega, fun r q n6 H6 ok fz sz lo hi' hn6 hp6 k6 hq nq => ?_⟩
      have lr := Paired.len rows
      have ta6 := k6 _ _ ntp ta5
      refine ⟨ta, _, _, rfl, rfl, ta6, by omega, ?_⟩
      refine ⟨n6, _, tr ++ [.ref q], ts ++ [r], rfl, by omega, hp6.put npt, fun b o nb e => (upd_ne (ne_of_none e fta)).trans ((k5.trans k6) b o nb e), ?_, upd_same, ?_, ?_, by rw [List.length_append, lts] <;> rfl, fun r' hr' => ?_⟩
      · have hD6 := k6 _ _ npD.symm hD5
        exact (upd_ne (ne_of hD6 ta6 fun z => nomatch z)).trans hD6
      · exact (upd_ne nta.symm).trans (k6 _ _ nnp na5)
      · exact Paired.snoc ⟨q, rfl, (upd_ne (ne_of hq ta6 fun z => nomatch z)).trans hq⟩ ((rows.keep k6 hp5).put ta6)
      · rcases List.mem_append.mp hr' with h | h
        · exact ins r' h
        · rw [List.mem_singleton.mp h]
          exact ⟨ok, fz, sz, lo, hi'⟩
    rintro σ H5 ⟨n', v5, tr, ts, rfl, hn', hp5, k5, hD5, ta5, na5, rows, lts, ins⟩
    clear hp3 ta3 na3 hD3 k3 hp4 k4
    -- the places that are left
    refine ⟨_, rfl, D, _, rfl, get_size hD5, _, rfl, RgOk.of_le (by decide) (by omega) (by decide) (by omega), fun L hL => ?_⟩
    have s6 := Same.new (o := .lst (rgV 0 z)) (Same.refl H5) hL
    have hL6 : upd H5 L (.lst (rgV 0 z)) L = some (.lst (((List.range z.toNat).map fun j => ((j : Nat) : Int)).map V.int)) := by rw [upd_same, rg_ints]
    have npL := hp5.ne' hL
    have fL : H L = none := free_of k5 hp hL hp5
    have ntL : ta ≠ L := ne_of_none ta5 hL
    have nnL : na ≠ L := ne_of_none na5 hL
    have hp6 := hp5.same s6
    have k6 := k5.same s6
    have hD6 := s6 _ _ hD5
    have ta6 := s6 _ _ ta5
    have na6 := s6 _ _ na5
    have rows6 := rows.same s6
    generalize upd H5 L (.lst (rgV 0 z)) = H6 at hL6 hp6 k6 hD6 ta6 na6 rows6 ⊢
    clear s6 hL hp5 k5 hD5 ta5 na5 rows
    obtain ⟨pl, epl⟩ : ∃ pl : List Int, pl = (List.range z.toNat).map fun j => ((j : Nat) : Int) := ⟨_, rfl⟩
    rw [← epl] at hL6
    have plen : pl.length = z.toNat := by rw [epl, List.length_map, List.length_range]
    have pnd : pl.Nodup := by
      rw [epl]
      unfold List.Nodup
      rw [List.pairwise_map]
      exact List.Pairwise.imp (fun h e => h (by omega)) (List.nodup_range (n := z.toNat))
    have pin : ∀ x ∈ pl, 0 ≤ x ∧ x < z := fun x hx => by
      rw [epl] at hx
      obtain ⟨j, hj, rfl⟩ := List.mem_map.mp hx
      have := List.mem_range.mp hj
      omega
    clear epl
    have dtm : dt.toNat ≤ 12 := by omega
    refine ⟨_, rfl, _, _, rfl, .inl ⟨_, SqL.of hL6, rfl⟩, ?_⟩
    refine ⟨_, rfl, _, rfl, _, _, rfl, rfl, p, n', mn + 1, rfl, hp6, by omega, by omega, by omega, fun dn m7 H7 dn0 dn1 hm7 hp7 k7 => ?_⟩
    refine ⟨_, _, rfl, _, rfl, ?_, ?_, ?_⟩
    · split <;> omega
    · rw [List.length_map]
      split <;> omega
    have jn : (if dn < ((pl.map V.int).length : Int) then dn else ((pl.map V.int).length : Int)).toNat ≤ pl.length ∧ (if dn < ((pl.map V.int).length : Int) then dn else ((pl.map V.int).length : Int)).toNat ≤ dn.toNat := by
      rw [List.length_map]
      constructor <;> split <;> omega
    generalize (if dn < ((pl.map V.int).length : Int) then dn else ((pl.map V.int).length : Int)).toNat = j at jn ⊢
    obtain ⟨j1, j2⟩ := jn
    refine for_range (n := j) (fun i σ H' => ∃ n2 v5 nr ns ls, σ = [some (.ref p), some (.int mz), some (.int mt), some (.int mn), some (.ref D), v5, some (.ref L)] ∧ n2 ≤ n + 76 + 2 * i ∧ Pot H' p n2 ∧ Keep p H H' ∧ H' D = some (.dK (loreK z ta na)) ∧ H' ta = some (.lst tr) ∧ RowsAt H' tr ts ∧
        H' na = some (.lst nr) ∧ Notes H' nr ns ∧ ns.length = i ∧ H' L = some (.lst (ls.map V.int)) ∧ ls.length + i = pl.length ∧ ls.Nodup ∧ (∀ x ∈ ls, x ∈ pl ∧ x ∉ ns.map (·.1)) ∧ (ns.map (·.1)).Nodup ∧ ∀ q ∈ ns, NoteIn q z)
      ⟨m7, _, [], [], pl, rfl, by omega, hp7, k6.trans k7, k7 _ _ npD.symm hD6, k7 _ _ ntp ta6, rows6.keep k7 hp6, k7 _ _ nnp na6, .nil, rfl, k7 _ _ npL.symm hL6, rfl, pnd, fun x hx => ⟨hx, fun h => nomatch h⟩, List.nodup_nil, fun _ h => nomatch h⟩ ?_ ?_
    · rintro i σ H8 hi ⟨n2, v5, nr, ns, ls, rfl, hn2, hp8, k8, hD8, ta8, rows8, na8, nts, lns, hL8, lls, lnd, lin, nnd, nin⟩
      have lpos : 0 < ls.length := by omega
      have lnr := Paired.len nts
      refine ⟨_, rfl, D, _, rfl, get_notes hD8, .inl ⟨rfl, _, SqL.of na8⟩, ?_⟩
      refine ⟨_, rfl, .inl ⟨rfl, _, SqL.of hL8⟩, ?_⟩
      refine ⟨_, rfl, _, rfl, _, _, rfl, .inl ⟨_, SqL.of hL8, rfl⟩, p, n2, _, rfl, hp8, by omega, by rw [List.length_map]; omega, by rw [List.length_map]; omega, fun x n9 H9 x0 x1 hn9 hp9 k9 => ?_⟩
      rw [List.length_map] at x1
      have hL9 := k9 _ _ npL.symm hL8
      obtain ⟨y, hy⟩ : ∃ y, ls[x.toNat]? = some y := ⟨_, List.getElem?_eq_getElem (by omega)⟩
      obtain ⟨e1, e2, e3⟩ := erase_nodup lnd hy
      have ym := List.mem_of_getElem? hy
      refine ⟨L, _, x, x.toNat, .int y, rfl, rfl, hL9, by omega, by omega, ix_in x0 (by rw [List.length_map]; exact x1), by rw [List.getElem?_map, hy] <;> rfl, ?_⟩
      rw [erase_map]
      have hpA : Pot (upd H9 L (.lst ((ls.eraseIdx x.toNat).map V.int))) p n9 := hp9.put npL
      refine ⟨_, rfl, p, n9, rfl, hpA, by omega, fun v nB HB v0 v1 hnB hpB kB => ?_⟩
      refine ⟨by show 2 ≤ sizeLine; decide, fun t ht => ?_⟩
      have sC := Same.new (o := .tup [.int y, .int v]) (Same.refl HB) ht
      have kA : Keep p H (upd H9 L (.lst ((ls.eraseIdx x.toNat).map V.int))) := fun b o nb e => (upd_ne (ne_of_none e fL)).trans ((k8.trans k9) b o nb e)
      have naA : upd H9 L (.lst ((ls.eraseIdx x.toNat).map V.int)) na = some (.lst nr) := (upd_ne nnL).trans (k9 _ _ nnp na8)
      have naC := sC _ _ (kB _ _ nnp naA)
      refine ⟨na, _, _, rfl, rfl, naC, by omega, ?_⟩
      have hDA : upd H9 L (.lst ((ls.eraseIdx x.toNat).map V.int)) D = some (.dK (loreK z ta na)) := by
        have := k9 _ _ npD.symm hD8
        exact (upd_ne (ne_of this hL9 fun z => nomatch z)).trans this
      have hDC := sC _ _ (kB _ _ npD.symm hDA)
      have taC := sC _ _ (kB _ _ ntp ((upd_ne ntL).trans (k9 _ _ ntp ta8)))
      have hLC := sC _ _ (kB _ _ npL.symm (upd_same (H := H9) (a := L) (o := .lst ((ls.eraseIdx x.toNat).map V.int))))
      have rowsC := (((rows8.keep k9 hp8).put hL9).keep kB hpA).same sC
      have ntsC := (((nts.keep k9 hp8).put hL9).keep kB hpA).same sC
      have yin := pin y (lin y ym).1
      refine ⟨nB, _, nr ++ [.ref t], ns ++ [(y, v)], ls.eraseIdx x.toNat, rfl, by omega, (hpB.same sC).put npn, fun b o nb e => (upd_ne (ne_of_none e fna)).trans (((kA.trans kB).same sC) b o nb e), (upd_ne (ne_of hDC naC fun z => nomatch z)).trans hDC, (upd_ne nta).trans taC, rowsC.put naC, upd_same, ?_, by rw [List.length_append, lns] <;> rfl,
        (upd_ne nnL.symm).trans hLC, by omega, e1, fun x' hx' => ⟨(lin x' (erase_mem hx')).1, ?_⟩, ?_, fun q hq => ?_⟩
      · exact Paired.snoc ⟨t, rfl, (upd_ne (ne_of upd_same naC fun z => nomatch z)).trans upd_same⟩ (ntsC.put naC)
      · rw [List.map_append, List.mem_append]
        rintro (h | h)
        · exact (lin x' (erase_mem hx')).2 h
        · have : x' = y := by simpa using h
          rw [this] at hx'
          exact e2 hx'
      · rw [List.map_append, List.nodup_append]
        refine ⟨nnd, by simp, fun a ha b hb => ?_⟩
        have : b = y := by simpa using hb
        rw [this]
        rintro rfl
        exact (lin a ym).2 ha
      · rcases List.mem_append.mp hq with h | h
        · exact nin q h
        · rw [List.mem_singleton.mp h]
          exact ⟨yin.1, yin.2, by show -(10 ^ 60) < v; omega, by show v < 10 ^ 60; omega, by show -(10 ^ 36) < v; omega, by show v < 10 ^ 36; omega⟩
    · rintro σ H8 ⟨n2, v5, nr, ns, ls, rfl, hn2, hp8, k8, hD8, ta8, rows8, na8, nts, lns, hL8, lls, lnd, lin, nnd, nin⟩
      have e30 : (100 : Int) ≤ 10 ^ 30 := by decide
      exact ⟨_, rfl, k D ⟨z, ts, ns⟩ n2 H8 ⟨by show 1 ≤ z; omega, by show z ≤ 10 ^ 30; omega, ins, nin⟩ (by show z ≤ mz; omega) (by show (ts.length : Int) ≤ mt; omega) (by show (ns.length : Int) ≤ mn; omega) nnd (by omega) hp8 k8 hD ⟨ta, na, tr, nr, hD8, ta8, na8, ntp, nnp, rows8, nts⟩⟩
end
end TT

set_option maxHeartbeats 4000000
namespace TT
open PySem PySem.Spec PyProof.Rows L2 LamX TL
theorem takeN {α β : Type} {f : α → β} {l : List α} {i : Nat} {x : α} (h : l[i]? = some x) : (l.take (i + 1)).map f = (l.take i).map f ++ [f x] := by
  rw [take_snoc h, List.map_append]
  rfl
end TT
set_option maxHeartbeats 4000000
namespace TT
open PySem PySem.Spec PyProof.Rows L2 LamX TL
/-! ### the law's lines and books -/
def sp_l_lines : Sp := fun vs H Q _ => ∃ (p d : Addr) (b : Lore), vs = [.ref d] ∧ LoreAt H p d b ∧ b.Fine ∧ b.ts.length ≤ 1000 ∧ b.ns.length ≤ 1000 ∧ ∀ x H', H x = none → Same H H' → H' x = some (.lst (b.lines.map V.str)) → Q (.ref x) H'
section
variable {P : Program} {w : World} {K : PySem.W.Frag} {mg : Str → Option Value} {base : Heap} {Z : Zs}
theorem ok_l_lines (T : Txt K mg Z) : FnOk P w K mg base CX0 2 Z.f_l_lines Z.d_l_lines ["_law_lore_here"] sp_l_lines := by
  refine T.F_l_lines.ok sc_l_lines (fun vs H Q E h => ?_) (fun cdv A outer s H vs Q E hr h => ?_)
  · obtain ⟨p, d, b, rfl, _⟩ := h
    rfl
  · obtain ⟨p, d, b, rfl, ⟨ta, na, tr, nr, hd⟩, fine, tn, nn, k⟩ := h
    have sl : sizeLine = 16777216 := sizeLine_eq
    have z0 := fine.z0; have z1 := fine.z1
    have lt := Paired.len hd.ts; have ln := Paired.len hd.ns
    have nl := num_len (n := b.z) (by omega) z1
    have l5 : (Str.ofString "size ").length = 5 := by decide
    have l4 : (Str.ofString "tie ").length = 4 := by decide
    have l6 : (Str.ofString "note ").length = 5 := by decide
    have l1 : (Str.ofString " ").length = 1 := by decide
    have e60 : (10 : Int) ^ 30 < 10 ^ 60 := by decide +kernel
    refine ⟨_, (pss_cons (ps_set (i := 1) sc_l_lines.nd rfl (Or.inl rfl) (pe_op op_cat (pe_lst (pa_cons (pe_op op_add_str pe_str (pe_callTy call_str_int (by rfl) T.b_str (by decide +kernel) (pa_cons (pe_dget (hu_of hr) (pv 0) pe_str (fun _ _ => rfl)) pa_nil))) pa_nil)) (pe_lc (own := [("_law_row_here", 2)]) rfl sc_l_lines.nd (pi_list (pe_dget (hu_of hr) (pv 0) pe_str (fun _ _ => rfl))) (blkOk_by (own := [("_law_row_here", 2)]) (N := ["_law_lore_here", "_law_lines_here", "_law_row_here", "_law_place", "_law_note"]) (sc := defScope s_l_lines) (by decide +kernel)) (fun _ _ _ _ _ => (pg_name (i := 2) sc_l_lines.nd rfl (Or.inl rfl))) (fun _ _ _ _ _ => pts_nil) (fun _ _ _ _ _ => (pe_op op_add_str pe_str (pe_call (ok_l_text_of T) (hr.mono (by decide)) rfl T.g_l_text_of T.k_l_text_of T.bn_l_text_of .nil pass0 (pa_cons (pv 2) pa_nil)))))))
      (pss_one (ps_ret (pe_op op_cat (pv 1) (pe_lc (own := [("_law_place", 3), ("_law_note", 4)]) rfl sc_l_lines.nd (pi_list (pe_dget (hu_of hr) (pv 0) pe_str (fun _ _ => rfl))) (blkOk_by (own := [("_law_place", 3), ("_law_note", 4)]) (N := ["_law_lore_here", "_law_lines_here", "_law_row_here", "_law_place", "_law_note"]) (sc := defScope s_l_lines) (by decide +kernel)) (fun _ _ _ _ _ => (show PG _ _ (gTup K 2 _) from (pg_tup rfl (pgs_cons (pg_name (i := 3) sc_l_lines.nd rfl (Or.inl rfl)) (pgs_cons (pg_name (i := 4) sc_l_lines.nd rfl (Or.inl rfl)) pgs_nil))))) (fun _ _ _ _ _ => pts_nil) (fun _ _ _ _ _ => (pe_op op_add_str (pe_op op_add_str (pe_op op_add_str pe_str (pe_callTy call_str_int (by rfl) T.b_str (by decide +kernel) (pa_cons (pv 3) pa_nil))) pe_str) (pe_callTy call_str_int (by rfl) T.b_str (by decide +kernel) (pa_cons (pv 4) pa_nil))))))))), ?_⟩
    refine ⟨_, rfl, d, _, rfl, get_size hd.dic, _, rfl, log_le (by omega) (by omega), _, _, rfl, rfl, by omega, by show 1 ≤ sizeLine; decide, fun l hl => ?_⟩
    have s1 := Same.new (o := .lst [.str (sizeL b.z)]) (Same.refl H) hl
    have atl : upd H l (.lst [.str (sizeL b.z)]) l = some (.lst [.str (sizeL b.z)]) := upd_same
    refine Eq.mp (congrArg _ rfl) ?_
    have d1 := s1 _ _ hd.dic
    have t1 := s1 _ _ hd.ties
    have n1 := s1 _ _ hd.notes
    have r1 := hd.ts.same s1
    have m1 := hd.ns.same s1
    refine ⟨_, rfl, d, _, rfl, get_ties d1, ta, rfl, ⟨_, SqL.of t1⟩, fun G hG => ?_⟩
    refine lc_list (xs := tr) (fun i H' => H' G = some (.lst (((b.ts.take i).map tieL).map V.str)) ∧ Same (upd H l (.lst [.str (sizeL b.z)])) H') ⟨upd_same, Same.new (Same.refl _) hG⟩ (fun i H' _ h => SqL.of (h.2 _ _ t1)) ?_ ?_
    · rintro i x H2 hi ⟨hGi, s2⟩
      refine ⟨rfl, ?_⟩
      unfold tYes
      refine iteT ?_
      obtain ⟨r, hr', q, rfl, hq⟩ := Paired.at r1 hi
      have okr := (fine.ts r (List.mem_of_getElem? hr')).ok
      have il : i < b.ts.length := (List.getElem?_eq_some_iff.mp hr').1
      have rl := row_len okr r.b
      refine ⟨_, rfl, q, r, rfl, s2 _ _ hq, okr, fun H3 s3 => ⟨_, _, rfl, rfl, by omega, _, s3 _ _ hGi, by rw [List.length_map, List.length_map, List.length_take]; omega, ?_, same_put (s2.trans s3) hG⟩⟩
      rw [upd_same, takeN hr', List.map_append]
      rfl
    rintro H2 ⟨hG2, s2⟩
    rw [List.take_of_length_le (by omega)] at hG2
    have lsum : ([V.str (sizeL b.z)] : List V).length + ((b.ts.map tieL).map V.str).length ≤ sizeLine := by
      rw [List.length_map, List.length_map, List.length_singleton]
      omega
    refine ⟨l, G, _, _, rfl, rfl, s2 _ _ atl, hG2, lsum, fun l2 hl2 => ?_⟩
    have s3 := Same.new (o := .lst ([V.str (sizeL b.z)] ++ (b.ts.map tieL).map V.str)) (Same.refl H2) hl2
    have s23 := s2.trans s3
    have n3 := s23 _ _ n1
    have m3 := m1.same s23
    have at3 : upd H2 l2 (.lst ([V.str (sizeL b.z)] ++ (b.ts.map tieL).map V.str)) l2 = some (.lst ([V.str (sizeL b.z)] ++ (b.ts.map tieL).map V.str)) := upd_same
    refine ⟨_, rfl, _, rfl, d, _, rfl, get_notes (s23 _ _ d1), na, rfl, ⟨_, SqL.of n3⟩, fun G2 hG2' => ?_⟩
    refine lc_list (xs := nr) (fun i H' => H' G2 = some (.lst (((b.ns.take i).map noteL).map V.str)) ∧ Same (upd H2 l2 (.lst ([V.str (sizeL b.z)] ++ (b.ts.map tieL).map V.str))) H') ⟨upd_same, Same.new (Same.refl _) hG2'⟩ (fun i H' _ h => SqL.of (h.2 _ _ n3)) ?_ ?_
    · rintro i x H4 hi ⟨hGi, s4⟩
      obtain ⟨q, hq, y, rfl, hy⟩ := Paired.at m3 hi
      have il : i < b.ns.length := (List.getElem?_eq_some_iff.mp hq).1
      have np := fine.ns q (List.mem_of_getElem? hq)
      have p0 := np.p0; have pz := np.pz
      have al := shown_len60 np.lo np.hi
      have pl := num_len p0 (by omega)
      refine ⟨y, _, rfl, SqT.of (s4 _ _ hy), rfl, _, _, rfl, _, _, rfl, rfl, rfl, ?_⟩
      unfold tYes
      refine iteT ?_
      refine ⟨_, rfl, _, rfl, log_le (by omega) (by omega), _, _, rfl, rfl, by omega, _, _, rfl, rfl, by rw [Str.length_append]; omega, _, rfl, _, rfl, log_le np.lo np.hi, _, _, rfl, rfl, ?_, _, hGi, by rw [List.length_map, List.length_map, List.length_take]; omega, ?_, same_put s4 hG2'⟩
      · rw [str_int q.2, Str.length_append, Str.length_append]
        omega
      · rw [upd_same, takeN hq, List.map_append, str_int q.2]
        rfl
    rintro H4 ⟨hG4, s4⟩
    rw [List.take_of_length_le (by omega)] at hG4
    refine ⟨l2, G2, _, _, rfl, rfl, s4 _ _ at3, hG4, ?_, fun x hx => ?_⟩
    · rw [List.length_append, List.length_map, List.length_map, List.length_map, List.length_map, List.length_singleton]
      omega
    · have sN := (s1.trans s23).trans s4
      refine k x _ (L2.Same.free sN hx) (Same.new sN hx) ?_
      rw [upd_same]
      unfold Lore.lines
      rw [List.map_cons, List.map_append]
      rfl
end
end TT


set_option maxHeartbeats 4000000
namespace TT
open PySem PySem.Spec PyProof.Rows L2 LamX TL
/-! ### texts that may be read -/
theorem strOk_tl {t : Str} : PyData.strOk t = true ↔ ∀ c ∈ tl t, c < 1114112 := by
  unfold PyData.strOk
  rw [← Array.all_toList, List.all_eq_true]
  exact ⟨fun h c hc => of_decide_eq_true (h c hc), fun h c hc => decide_eq_true (h c hc)⟩
/-- a word that may stand in a text -/
structure WdN (n : Nat) (p : Str) : Prop where
  len : p.length ≤ n
  ok : ∀ c ∈ tl p, c < 128
  no : 32 ∉ tl p
abbrev Wd (p : Str) : Prop := WdN 42 p
theorem WdN.up {n : Nat} {p : Str} (h : WdN n p) (l : n ≤ 50) : WdN 50 p := ⟨Nat.le_trans h.len l, h.ok, h.no⟩
theorem split_wd {ws : List Str} (h0 : ws ≠ []) (h : ∀ p ∈ ws, WdN 50 p) : Txt.split (Txt.join (Str.ofString " ") ws) (Str.ofString " ") = ws :=
  split_join (s := 32) (S := []) sp_tl (by decide +kernel) h0 fun p hp => (h p hp).no
theorem fine_words {ws : List Str} (h0 : ws ≠ []) (h : ∀ p ∈ ws, WdN 50 p) (hl : amt ws ≤ 1000) : Fine (Txt.join (Str.ofString " ") ws) :=
  ⟨Nat.le_trans (join_len ws) hl, fun p hp => (h p (by rw [split_wd h0 h] at hp; exact hp)).len, fun p hp => strOk_tl.mpr fun c hc => Nat.lt_trans ((h p (by rw [split_wd h0 h] at hp; exact hp)).ok c hc) (by decide)⟩
theorem asc_ok {t : Str} (h : Asc t) : ∀ c ∈ tl t, c < 1114112 := fun c hc => by
  have := (h c hc).1
  omega
/-- what is short may be read -/
theorem fine_short {t : Str} (a : Asc t) (l : t.length ≤ 1000) (s : (Txt.split t (Str.ofString " ")).all (fun w => decide (w.length < 41)) = true) : Fine t :=
  ⟨l, fun p hp => by
    have := of_decide_eq_true (List.all_eq_true.mp s p hp)
    omega, fun p hp => strOk_tl.mpr (asc_ok (a.split p hp))⟩
/-- its repr is told -/
theorem shown_txt {t : Str} (h : ∀ c ∈ tl t, c < 1114112) (l : t.length ≤ 1000) : Shown (.str t) := by
  have sl : sizeLine = 16777216 := sizeLine_eq
  refine ⟨by simp [PyData.showable], by simp [PyData.depth], ?_⟩
  have b : (PyData.str t).leavesShort 13 = true := by
    simp only [PyData.leavesShort, List.all_eq_true, decide_eq_true_eq]
    intro c hc
    have := h c hc
    omega
  have q := PyData.shown_le 13 (by decide) _ b
  have w : (PyData.str t).weight ≤ 1000 := l
  omega
theorem digit_asc {n : Int} (h : 0 ≤ n) : ∀ c ∈ tl (Str.ofString (toString n)), 48 ≤ c ∧ c ≤ 57 := fun c hc => by
  rw [tl_int h] at hc
  exact numL_digits _ c hc
theorem wd_int {n : Int} (h0 : 0 ≤ n) (h1 : n < 10 ^ 40) : Wd (Str.ofString (toString n)) := by
  have z := toString_length_le h0 (k := 40) (by decide) h1
  refine ⟨by omega, fun c hc => ?_, fun hc => ?_⟩
  · have := digit_asc h0 c hc
    omega
  · have := digit_asc h0 _ hc
    omega
theorem wd_const {p : Str} (h : (decide (p.length ≤ 42) && (tl p).all (fun c => decide (c < 128) && decide (c ≠ 32))) = true) : Wd p := by
  rw [Bool.and_eq_true] at h
  have a := List.all_eq_true.mp h.2
  refine ⟨of_decide_eq_true h.1, fun c hc => ?_, fun hc => ?_⟩
  · have := a c hc
    simp at this
    omega
  · have := a _ hc
    simp at this
theorem wd_shown {n : Int} (h0 : -(10 ^ 40) < n) (h1 : n < 10 ^ 40) : Wd (shownInt n) := by
  unfold shownInt
  split
  · have z := toString_length_le (v := -n) (by omega) (k := 40) (by decide) (by omega)
    have e : (Str.ofString "-").length = 1 := by decide
    have e1 : tl (Str.ofString "-") = [45] := by decide +kernel
    refine ⟨by rw [Str.length_append]; omega, fun c hc => ?_, fun hc => ?_⟩
    · rw [tl_append, e1] at hc
      rcases List.mem_append.mp hc with hc | hc
      · rw [List.mem_singleton.mp hc]
        decide
      · have := digit_asc (by omega) c hc
        omega
    · rw [tl_append, e1] at hc
      rcases List.mem_append.mp hc with hc | hc
      · simp at hc
      · have := digit_asc (by omega) _ hc
        omega
  · exact wd_int (by omega) h1
theorem wd_way (b : Bool) : Wd (way b) := by
  cases b
  · exact wd_const (by decide +kernel)
  · exact wd_const (by decide +kernel)
theorem wd_row {r : Row} (ok : r.Ok) (h0 : -(10 ^ 36) < r.a) (h1 : r.a < 10 ^ 36) (bk : Bool) : ∀ p ∈ wordsOf r bk, Wd p := by
  intro p hp
  have hf := ok.f0; have hs := ok.s0; have hl := ok.l0; have hfe := ok.fe; have hse := ok.se
  have e1 : (10 : Int) ^ 30 < 10 ^ 40 := by decide +kernel
  have e2 : (10 : Int) ^ 36 < 10 ^ 40 := by decide +kernel
  unfold wordsOf at hp
  rcases List.mem_append.mp hp with hp | hp
  · simp only [List.mem_cons, List.not_mem_nil, or_false] at hp
    rcases hp with rfl | rfl | rfl | rfl | rfl
    · exact wd_int hf (by omega)
    · exact wd_int hs (by omega)
    · exact wd_int (by omega) (by omega)
    · exact wd_way _
    · exact wd_shown (by omega) (by omega)
  · split at hp
    · rw [List.mem_singleton.mp hp]
      exact wd_const (by decide +kernel)
    · cases hp
theorem words_nonempty (r : Row) (bk : Bool) : wordsOf r bk ≠ [] := by
  unfold wordsOf
  simp
theorem words_amt300 {r : Row} (ok : r.Ok) (bk : Bool) : amt (wordsOf r bk) ≤ 300 := by
  have := words_sum ok bk
  rw [show (Str.ofString " ").length = 1 from by decide] at this
  unfold amt
  omega
theorem tl_joinW (ws : List Str) : tl (Txt.join (Str.ofString " ") ws) = joinL [32] (ws.map tl) := by
  rw [show Txt.join (Str.ofString " ") ws = _ from join_eq _ _, tl_join, sp_tl]
theorem row_asc {r : Row} (ok : r.Ok) (h0 : -(10 ^ 36) < r.a) (h1 : r.a < 10 ^ 36) (bk : Bool) : Asc (rowText r bk) := by
  unfold rowText
  exact Asc.join fun p hp c hc => ⟨(wd_row ok h0 h1 bk p hp).ok c hc, fun e => word_free ok (.inr rfl) p hp (e ▸ hc)⟩
def fineB (x : Str) : Bool := decide (x.length ≤ 1000) && (Txt.split x (Str.ofString " ")).all (fun p => decide (p.length ≤ 50) && PyData.strOk p)
theorem fine_b {x : Str} (h : fineB x = true) : Fine x := by
  unfold fineB at h
  rw [Bool.and_eq_true] at h
  have a := List.all_eq_true.mp h.2
  refine ⟨of_decide_eq_true h.1, fun p hp => ?_, fun p hp => ?_⟩
  · have := a p hp
    rw [Bool.and_eq_true] at this
    exact of_decide_eq_true this.1
  · have := a p hp
    rw [Bool.and_eq_true] at this
    exact this.2
theorem shown_w {d : PyData} (h : d.showable = true) (dp : d.depth ≤ 60) (b : d.leavesShort 13 = true) (w : d.weight ≤ 2000) : Shown d := by
  have sl : sizeLine = 16777216 := sizeLine_eq
  have q := PyData.shown_le 13 (by decide) _ b
  exact ⟨h, dp, by omega⟩
theorem leaves_txt {t : Str} (h : ∀ c ∈ tl t, c < 1114112) : (PyData.str t).leavesShort 13 = true := by
  simp only [PyData.leavesShort, List.all_eq_true, decide_eq_true_eq]
  intro c hc
  have := h c hc
  omega
theorem shown_tup {t : Str} (h : ∀ c ∈ tl t, c < 1114112) (l : t.length ≤ 1000) : Shown (.tuple [.str t]) := by
  have b := leaves_txt h
  refine shown_w (by simp [PyData.showable, PyData.showableAll]) (by simp [PyData.depth, PyData.depthAll]) (by simp [PyData.leavesShort, PyData.leavesShortAll] at b ⊢; exact b) ?_
  have l' : t.cps.size ≤ 1000 := l
  simp [PyData.weight, PyData.weightAll]
  omega
theorem shown_lst {t : Str} (h : ∀ c ∈ tl t, c < 1114112) (l : t.length ≤ 1000) : Shown (.list [.str t]) := by
  have b := leaves_txt h
  refine shown_w (by simp [PyData.showable, PyData.showableAll]) (by simp [PyData.depth, PyData.depthAll]) (by simp [PyData.leavesShort, PyData.leavesShortAll] at b ⊢; exact b) ?_
  have l' : t.cps.size ≤ 1000 := l
  simp [PyData.weight, PyData.weightAll]
  omega
end TT


set_option maxHeartbeats 4000000
namespace TT
open PySem PySem.Spec PyProof.Rows L2 LamX TL
/-! ### texts that are judged -/
theorem fine_split {t : Str} {ws : List Str} (h : Txt.split t (Str.ofString " ") = ws) (l : t.length ≤ 1000) (w : ∀ p ∈ ws, WdN 50 p) : Fine t :=
  ⟨l, fun p hp => (w p (h ▸ hp)).len, fun p hp => strOk_tl.mpr fun c hc => Nat.lt_trans ((w p (h ▸ hp)).ok c hc) (by decide)⟩
theorem asc_num {n : Int} (h : 0 ≤ n) : Asc (Str.ofString (toString n)) := fun c hc => by
  have := digit_asc h c hc
  omega
theorem asc_shown (n : Int) : Asc (shownInt n) := by
  unfold shownInt
  split
  · exact Asc.add (asc_of (by decide +kernel)) (asc_num (by omega))
  · exact asc_num (by omega)
theorem wd_up {p : Str} (h : Wd p) : WdN 50 p := WdN.up (n := 42) h (by decide)
theorem size_af {z : Int} (h0 : 0 ≤ z) (h1 : z < 10 ^ 40) : Asc (sizeL z) ∧ Fine (sizeL z) := by
  have w := wd_int h0 h1
  have e : (Str.ofString "size ").length = 5 := by decide
  refine ⟨Asc.add (asc_of (by decide +kernel)) (asc_num h0), fine_split (size_split h0) ?_ fun p hp => ?_⟩
  · unfold sizeL
    rw [Str.length_append]
    have := w.len
    omega
  · simp only [List.mem_cons, List.not_mem_nil, or_false] at hp
    rcases hp with rfl | rfl
    · exact wd_up (wd_const (by decide +kernel))
    · exact wd_up w
theorem note_af {p : Int × Int} (h0 : 0 ≤ p.1) (h1 : p.1 < 10 ^ 40) (h2 : -(10 ^ 40) < p.2) (h3 : p.2 < 10 ^ 40) : Asc (noteL p) ∧ Fine (noteL p) := by
  have w := wd_int h0 h1
  have w2 := wd_shown h2 h3
  have e : (Str.ofString "note ").length = 5 := by decide
  have e2 : (Str.ofString " ").length = 1 := by decide
  refine ⟨Asc.add (Asc.add (Asc.add (asc_of (by decide +kernel)) (asc_num h0)) (asc_of (by decide +kernel))) (asc_shown _), fine_split (note_split h0) ?_ fun q hq => ?_⟩
  · unfold noteL
    rw [Str.length_append, Str.length_append, Str.length_append]
    have := w.len
    have := w2.len
    omega
  · simp only [List.mem_cons, List.not_mem_nil, or_false] at hq
    rcases hq with rfl | rfl | rfl
    · exact wd_up (wd_const (by decide +kernel))
    · exact wd_up w
    · exact wd_up w2
theorem tie_join (r : Row) : tieL r = Txt.join (Str.ofString " ") (Str.ofString "tie" :: wordsOf r r.b) := by
  refine ext_tl ?_
  unfold tieL rowText
  rw [tl_append, tl_joinW, tl_joinW, List.map_cons]
  cases h : (wordsOf r r.b).map tl with
  | nil => exact absurd h (by simpa using words_nonempty r r.b)
  | cons x l =>
    rw [tie_tl]
    simp [joinL]
theorem tie_af {r : Row} (ok : r.Ok) (h0 : -(10 ^ 36) < r.a) (h1 : r.a < 10 ^ 36) : Asc (tieL r) ∧ Fine (tieL r) := by
  refine ⟨Asc.add (asc_of (by decide +kernel)) (row_asc ok h0 h1 _), ?_⟩
  rw [tie_join]
  refine fine_words (by simp) (fun p hp => ?_) ?_
  · rcases List.mem_cons.mp hp with rfl | hp
    · exact wd_up (wd_const (by decide +kernel))
    · exact wd_up (wd_row ok h0 h1 _ p hp)
  · have a := words_amt300 ok r.b
    have b := amt_add [Str.ofString "tie"] (wordsOf r r.b)
    have c : amt [Str.ofString "tie"] = 4 := by decide +kernel
    rw [List.singleton_append] at b
    omega
theorem lore_af {b : Lore} (f : b.Fine) : ∀ l ∈ b.lines, Asc l ∧ Fine l := by
  have e30 : (10 : Int) ^ 30 < 10 ^ 40 := by decide +kernel
  have e36 : (10 : Int) ^ 36 < 10 ^ 40 := by decide +kernel
  have z0 := f.z0; have z1 := f.z1
  intro l hl
  unfold Lore.lines at hl
  rcases List.mem_cons.mp hl with rfl | hl
  · exact size_af (by omega) (by omega)
  · rcases List.mem_append.mp hl with hl | hl
    · obtain ⟨r, hr, rfl⟩ := List.mem_map.mp hl
      exact tie_af (f.ts r hr).ok (f.ts r hr).lo (f.ts r hr).hi
    · obtain ⟨q, hq, rfl⟩ := List.mem_map.mp hl
      have := f.ns q hq
      have a := this.p0; have b := this.pz; have c := this.lo3; have d := this.hi3
      exact note_af a (by omega) (by omega) (by omega)
theorem lore_txs {b : Lore} (ok : b.Ok) : Txs 210 25 b.text b.lines := ⟨by unfold Lore.lines; simp, fun l hl => ⟨(lore_af ok.fine l hl).1, lines_each ok.fine l hl⟩, (lines_sum ok).1, rfl⟩
theorem lns_of {m c : Nat} {t : Str} {ls : List Str} (X : Txs m c t ls) (hm : m ≤ 1000) (hc : c ≤ 110) (f : ∀ l ∈ ls, Fine l) : Lns t ls := by
  have l1 : t.length ≤ 110 * 1001 := Nat.le_trans X.len (Nat.mul_le_mul hc (by omega))
  exact ⟨X.split, by omega, f, by have := X.cnt; omega⟩
theorem short_fine {m c : Nat} {t : Str} {ls : List Str} (X : Txs m c t ls) (hm : m ≤ 1000) (s : shortB ls = true) : ∀ l ∈ ls, Fine l := fun l hl =>
  fine_short (X.each l hl).1 (Nat.le_trans (X.each l hl).2 hm) (List.all_eq_true.mp s l hl)
theorem lns_join {ls : List Str} (ne : ls ≠ []) (h : ∀ l ∈ ls, Asc l ∧ Fine l) (hc : ls.length ≤ 100) : Lns (Txt.join (Str.ofString "\n") ls) ls :=
  lns_of (m := 1000) (c := 100) ⟨ne, fun l hl => ⟨(h l hl).1, (h l hl).2.len⟩, hc, rfl⟩ (by decide) (by decide) fun l hl => (h l hl).2
theorem join_one (t : Str) : Txt.join (Str.ofString "\n") [t] = t := by
  refine ext_tl ?_
  rw [tl_joinN]
  rfl
theorem lns_one {t : Str} (h : Asc t ∧ Fine t) : Lns t [t] := by
  have := lns_join (ls := [t]) (by simp) (fun l hl => by rw [List.mem_singleton.mp hl]; exact h) (by simp)
  rw [join_one] at this
  exact this
def afB (t : Str) : Bool := (tl t).all (fun c => decide (c < 128) && decide (c ≠ 10)) && fineB t
theorem af_const {t : Str} (h : afB t = true) : Asc t ∧ Fine t := by
  unfold afB at h
  rw [Bool.and_eq_true] at h
  exact ⟨asc_of h.1, fine_b h.2⟩
/-- what may be judged, now and later -/
def JudgeOk (K : PySem.W.Frag) (H : Hp) (v : V) : Prop := (∃ t ls, v = .str t ∧ Lns t ls) ∨ ∃ ty, (∀ H', ExtN H H' → TyX K H' v ty) ∧ PySem.W.kitOne K ty (.type "str") = some false
theorem JudgeOk.ext {K : PySem.W.Frag} {H H1 : Hp} {v : V} (g : JudgeOk K H v) (e : ExtN H H1) : JudgeOk K H1 v := by
  rcases g with g | ⟨ty, h, k⟩
  · exact .inl g
  · exact .inr ⟨ty, fun H' e' => h H' (e.trans e'), k⟩
theorem judge_txt {K : PySem.W.Frag} {H : Hp} {t : Str} {ls : List Str} (L : Lns t ls) : JudgeOk K H (.str t) := .inl ⟨t, ls, rfl, L⟩
theorem judge_no {K : PySem.W.Frag} {H : Hp} {v : V} {T : String} (h : ∀ H', ExtN H H' → TyX K H' v (.type T)) (k : kitB T "str" = some false) : JudgeOk K H v := .inr ⟨_, h, kit_ty k⟩
end TT

set_option maxHeartbeats 4000000
namespace TT
open PySem PySem.Spec PyProof.Rows L2 LamX TL
/-! ### judged as is due -/
def tabs (Z : Zs) : List (Addr × Str) := [(Z.t_l_is_judged, lamN "_law_is_judged")]
theorem tabs_mem (Z : Zs) : (Z.t_l_is_judged, lamN "_law_is_judged") ∈ tabs Z := List.mem_singleton.mpr rfl
theorem tabs_one (Z : Zs) : ∀ p ∈ tabs Z, p.1 = Z.t_l_is_judged → p.2 = lamN "_law_is_judged" := fun p hp _ => by rw [List.mem_singleton.mp hp]
/-- the reading of  lambda: Book(_law_value) -/
def tI (K : PySem.W.Frag) (Z : Zs) (E : XK) : TE := tMake Z.cB (sp_B_init_any K Z) [] E (tCons (tVar 0) tNil)
theorem Verd.uniq {ls : List Str} {n m : Nat} (h : Verd ls n) (g : Verd ls m) : n = m := by
  obtain ⟨l0, r, rfl, h⟩ := h
  obtain ⟨l1, q, e, g⟩ := g
  injection e with e1 e2
  subst e1 e2
  rcases h with ⟨h, rfl⟩ | ⟨z, hz, h⟩
  · rcases g with ⟨_, rfl⟩ | ⟨y, hy, _⟩
    · rfl
    · exact absurd ⟨y, hy⟩ h
  · rcases g with ⟨g, _⟩ | ⟨y, hy, g⟩
    · exact absurd ⟨z, hz⟩ g
    · have := hz.uniq hy
      subst this
      rcases h with ⟨a, rfl⟩ | ⟨a, rfl⟩ <;> rcases g with ⟨b, rfl⟩ | ⟨b, rfl⟩ <;> omega
theorem Verd.le {ls : List Str} {n : Nat} (h : Verd ls n) : n ≤ ls.length + 1 := by
  obtain ⟨l0, r, rfl, ⟨_, rfl⟩ | ⟨z, hz, ⟨a, rfl⟩ | ⟨a, rfl⟩⟩⟩ := h <;> rw [List.length_cons] <;> omega
theorem Lns.ne {t : Str} {ls : List Str} (L : Lns t ls) : ls ≠ [] := fun e => by
  have s := L.split
  rw [e] at s
  have j := StrLaws.join_split t (Str.ofString "\n")
  rw [s] at j
  have e2 : t = Str.empty := j.symm
  rw [e2] at s
  exact absurd s (by decide +kernel)
theorem shown_nat {n : Nat} (h : n ≤ 1000000) : Shown (.int (n : Int)) := by
  have e : (1000000 : Int) < 10 ^ 64 := by decide +kernel
  have a := int_len64 (i := (n : Int)) (by omega) (by omega)
  have sl : sizeLine = 16777216 := sizeLine_eq
  exact ⟨int_ok64 (by omega) (by omega), by simp [PyData.depth], by rw [shown_int]; omega⟩
def sp_l_is_judged (K : PySem.W.Frag) (Z : Zs) : Sp := fun vs H Q _ => ∃ v : V, vs = [v] ∧ JudgeOk K H v ∧ Tabs (tabs Z) H ∧ ∀ H', ExtN H H' → Tabs (tabs Z) H' → Q (.bl true) H'
def tie3 : Str := Str.ofString "tie 0 1 1 up 3"
def size20 : Str := Str.ofString "size 20"
def note33 : Str := Str.ofString "note 3 3"
theorem rep_flat {α : Type} (x : α) : ∀ n : Nat, (List.replicate n [x]).flatten = List.replicate n x
  | 0 => rfl
  | n + 1 => by rw [List.replicate_succ, List.flatten_cons, rep_flat x n, List.replicate_succ]; rfl
theorem consts_af : ∀ t ∈ [tie3, size20, note33], Asc t ∧ Fine t := fun t ht => af_const (List.all_eq_true.mp (show [tie3, size20, note33].all afB = true by decide +kernel) t ht)
theorem note0 (i : Int) : Str.ofString "note " ++ Str.ofString (toString i) ++ Str.ofString " 0" = noteL (i, 0) := by
  unfold noteL
  refine ext_tl ?_
  have e : tl (Str.ofString " 0") = tl (Str.ofString " ") ++ tl (shownInt 0) := by decide +kernel
  simp only [tl_append, e, List.append_assoc]
section
variable {P : Program} {w : World} {K : PySem.W.Frag} {mg : Str → Option Value} {base : Heap} {Z : Zs}
theorem ok_l_is_judged (T : Txt K mg Z) (TB : TabB base mg Z.c_l_is_judged Z.t_l_is_judged) : GOk P w K mg base CX0 19 Z.f_l_is_judged Z.d_l_is_judged ["_law_value"] (sp_l_is_judged K Z) := by
  refine okGC T.F_l_is_judged sc_l_is_judged (fun vs H Q E h => ?_) (fun A outer s H vs Q E g hr h => ?_)
  · obtain ⟨v, rfl, _⟩ := h
    rfl
  · obtain ⟨v, rfl, J, hT, k⟩ := h
    refine ⟨_, (pss_cons (ps_set (i := 1) sc_l_is_judged.nd rfl (Or.inl rfl) (pe_lam (T := tabs Z) (t := tI K Z) (ok_l_met_error T) (by exact g) (hr.mono (by decide)) T.bn_l_met_error rfl T.g_l_met_error T.k_l_met_error pa_nil TB rfl (tabs_mem Z) (tabs_one Z) (lamS_by (sc := defScope s_l_is_judged) (by decide +kernel)) rfl (fun _ _ _ _ _ => rfl) (fun A outer s H E f c' hr' => (pe_make (mkB T) (ok_B_init T) (hr'.mono (k := 16) (by decide)) rfl T.g_Bk T.bn_B_init .nil (passes_call (takes_of rfl rfl rfl rfl) (fun _ _ _ _ h => h)) (pa_cons (pv 0) pa_nil)))))
      (pss_cons (ps_set (i := 2) sc_l_is_judged.nd rfl (Or.inl rfl) (pe_ifExp (pt_val (pe_callB  call_isi (by rfl) T.b_isinstance (by decide +kernel) (pa_cons (pv 0) (pa_cons (pe_bltn (v := .ty "str") rfl T.b_str (by decide +kernel) rfl) pa_nil)))) (pe_call (ok_l_first_wrong T) (hr.mono (by decide)) rfl T.g_l_first_wrong T.k_l_first_wrong T.bn_l_first_wrong .nil pass0 (pa_cons (pv 0) pa_nil)) pe_int))
      (pss_cons (ps_if (PW.pt (pw_and (pt_val (pe_callB  call_isi (by rfl) T.b_isinstance (by decide +kernel) (pa_cons (pv 0) (pa_cons (pe_bltn (v := .ty "str") rfl T.b_str (by decide +kernel) rfl) pa_nil)))) (pw_and1 (pt_cmpR op_eq (pv 2) pe_int (nomark _))))) (pss_one (ps_ret (pe_cmpR op_isN (pv 1) pe_non (nomark _)))) pss_nil)
      (pss_one (ps_ret (pe_and (pe_callB (r := rIsM K) (id := "isinstance") call_isM (by rfl) T.b_isinstance (by decide +kernel) (pa_cons (pv 1) (pa_cons (pe_glob (v := .ref (Z.c 5)) rfl T.g_BadBook rfl) pa_nil))) (pe_one (pe_cmpR op_eq (pe_callB (r := rReprD K) (id := "repr") (call_reprS (by exact g) (by exact hr.units)) (by rfl) T.b_repr (by decide +kernel) (pa_cons (show PE _ _ (tMv K "value" (tVar 1)) from pe_mv (pv 1)) pa_nil)) (pe_callB (r := rReprD K) (id := "repr") (call_reprS (by exact g) (by exact hr.units)) (by rfl) T.b_repr (by decide +kernel) (pa_cons (pv 2) pa_nil)) (nomark _))))))))), ?_⟩
    have x5 := T.ex 5 (by decide)
    have Te := T.ex 6 (by decide)
    -- what the error shows
    have shows : ∀ {n : Nat} {H3 : Hp} {a : Addr}, n ≤ 1000000 → Met H3 a (Z.c 5) [("value", .int (n : Int))] → Shown (.int (n : Int)) := fun h _ => shown_nat h
    refine ⟨hT, fun H1 c1 e1 hT1 hc1 => ?_⟩
    have J1 := J.ext e1
    have hm : ∀ {m dx : Addr}, H1 m = none → H1 dx = none → dx ≠ m → Same H1 (upd (upd H1 dx (.own m)) m (.ins Z.cB dx [])) := fun {m dx} nm ndx ne => by
      have s1 := Same.new (o := .own m) (Same.refl H1) ndx
      have nm1 : upd H1 dx (.own m) m = none := by rw [upd_ne ne.symm]; exact nm
      exact Same.new (o := .ins Z.cB dx []) s1 nm1
    rcases J1 with ⟨t, ls, rfl, L⟩ | ⟨ty, hty, hk⟩
    case inr =>
      refine ⟨rfl, Caught H1 (Z.c 5) (.int 0), fun w' H2 gw => ?rest, hc1, _, rfl, fun m dx nm ndx ne => ⟨m, dx, v, rfl, upd_same, .inr ⟨⟨ty, hty _ (ExtN.same (hm nm ndx ne)), hk⟩, ?look⟩⟩⟩
      case look => exact Out.met (G := Caught H1 (Z.c 5) (.int 0)) x5 Te fun a H2 s2 mt => ⟨a, rfl, (hm nm ndx ne).trans s2, mt⟩
      obtain ⟨a, rfl, s2, mt⟩ := gw
      have ty2 := hty H2 (ExtN.same s2)
      refine ⟨_, rfl, _, _, _, _, false, rfl, .ty "str", ty2, hk, false, rfl, iteF ?_⟩
      refine ⟨_, rfl, _, _, _, _, false, rfl, .ty "str", ty2, hk, false, rfl, iteF (iteF ?_)⟩
      have sh := shown_nat (n := 0) (by decide)
      refine ⟨_, rfl, a, Z.c 5, _, .ref (Z.c 5), .ref (Z.c 5), true, true, rfl, mt, x5.ec, x5.selfC, .own _, x5.self, true, rfl, iteT ?_⟩
      refine ⟨_, rfl, a, Z.c 5, _, _, rfl, mt, x5.xf, x5.nv, rfl, _, _, rfl, .one (.dp (.int _) rfl), sh.ok, sh.dep, sh.len, ?_⟩
      refine ⟨_, rfl, _, _, rfl, .one (.dp (.int _) rfl), sh.ok, sh.dep, sh.len, rfl, ?_⟩
      rw [decide_eq_true rfl]
      exact k H2 (e1.trans (ExtN.same s2)) (hT1.ext s2)
    obtain ⟨n, hv⟩ := verd_ex L.ne
    have nl := hv.le
    have lc := L.cnt
    have sty : ∀ H', TyX K H' (.str t) (.type "str") := fun H' => .base (.str _)
    by_cases n0 : n = 0
    · subst n0
      refine ⟨rfl, fun w' H2 => Same H1 H2 ∧ w' = .non, fun w' H2 gw => ?rest2, hc1, _, rfl, fun m dx nm ndx ne => ⟨m, dx, .str t, rfl, upd_same, .inl ⟨t, ls, 0, rfl, L, hv, fun _ H' kp => ⟨rfl, made nm ndx kp, rfl⟩, fun z => absurd rfl z⟩⟩⟩
      obtain ⟨s2, rfl⟩ := gw
      refine ⟨_, rfl, _, _, _, _, true, rfl, .ty "str", sty _, kit_ty (by decide +kernel), true, rfl, iteT ⟨_, rfl, t, ls, rfl, L, fun n' H3 hv' s3 => ?_⟩⟩
      obtain rfl := hv.uniq hv'
      refine ⟨_, rfl, _, _, _, _, true, rfl, .ty "str", sty _, kit_ty (by decide +kernel), true, rfl, iteT ⟨_, rfl, rfl, true, rfl, iteT ⟨_, rfl, rfl, ?_⟩⟩⟩
      rw [decide_eq_true rfl]
      exact k H3 (e1.trans (ExtN.same (s2.trans s3))) (hT1.ext (s2.trans s3))
    · refine ⟨rfl, Caught H1 (Z.c 5) (.int (n : Int)), fun w' H2 gw => ?rest3, hc1, _, rfl, fun m dx nm ndx ne => ⟨m, dx, .str t, rfl, upd_same, .inl ⟨t, ls, n, rfl, L, hv, fun z => absurd z n0, fun _ => ?look3⟩⟩⟩
      case look3 => exact Out.met (G := Caught H1 (Z.c 5) (.int (n : Int))) x5 Te fun a H2 s2 mt => ⟨a, rfl, (hm nm ndx ne).trans s2, mt⟩
      obtain ⟨a, rfl, s2, mt⟩ := gw
      refine ⟨_, rfl, _, _, _, _, true, rfl, .ty "str", sty _, kit_ty (by decide +kernel), true, rfl, iteT ⟨_, rfl, t, ls, rfl, L, fun n' H3 hv' s3 => ?_⟩⟩
      obtain rfl := hv.uniq hv'
      refine ⟨_, rfl, _, _, _, _, true, rfl, .ty "str", sty _, kit_ty (by decide +kernel), true, rfl, iteT ⟨_, rfl, rfl, false, ?_, iteF ?_⟩⟩
      · exact congrArg V.bl (decide_eq_false fun e => n0 (by have := V.int.inj e; omega))
      have mt := mt.same s3
      have sh := shown_nat (n := n) (by omega)
      refine ⟨_, rfl, a, Z.c 5, _, .ref (Z.c 5), .ref (Z.c 5), true, true, rfl, mt, x5.ec, x5.selfC, .own _, x5.self, true, rfl, iteT ?_⟩
      refine ⟨_, rfl, a, Z.c 5, _, _, rfl, mt, x5.xf, x5.nv, rfl, _, _, rfl, .one (.dp (.int _) rfl), sh.ok, sh.dep, sh.len, ?_⟩
      refine ⟨_, rfl, _, _, rfl, .one (.dp (.int _) rfl), sh.ok, sh.dep, sh.len, rfl, ?_⟩
      rw [decide_eq_true rfl]
      exact k H3 (e1.trans (ExtN.same (s2.trans s3))) (hT1.ext (s2.trans s3))
/-- what _law_right asks -/
def sp_l_right (Z : Zs) : Sp := fun vs H Q _ => ∃ (p : Addr) (n : Nat), vs = [.ref p] ∧ Pot H p n ∧ n + 500 < 1000000 ∧ Tabs (tabs Z) H ∧ ∀ (n' : Nat) (H' : Hp), n' ≤ n + 500 → Pot H' p n' → Tabs (tabs Z) H' → KeepN p H H' → Q (.bl true) H'
theorem two_of {v : V} {a b : Int} (h : v ∈ [V.int a, V.int b]) : ∃ z, v = .int z ∧ (z = a ∨ z = b) := by
  simp only [List.mem_cons, List.not_mem_nil, or_false] at h
  rcases h with rfl | rfl
  · exact ⟨_, rfl, .inl rfl⟩
  · exact ⟨_, rfl, .inr rfl⟩
theorem three_of {v : V} {a b c : Int} (h : v ∈ [V.int a, V.int b, V.int c]) : ∃ z, v = .int z ∧ (z = a ∨ z = b ∨ z = c) := by
  simp only [List.mem_cons, List.not_mem_nil, or_false] at h
  rcases h with rfl | rfl | rfl
  · exact ⟨_, rfl, .inl rfl⟩
  · exact ⟨_, rfl, .inr (.inl rfl)⟩
  · exact ⟨_, rfl, .inr (.inr rfl)⟩
theorem ok_l_right (T : Txt K mg Z) (TB : TabB base mg Z.c_l_is_judged Z.t_l_is_judged) : GOk P w K mg base CX0 20 Z.f_l_right Z.d_l_right ["_law_pot_here"] (sp_l_right Z) := by
  refine okG T.F_l_right sc_l_right (fun vs H Q E h => ?_) (fun cdv A outer s H vs Q E g hr h => ?_)
  · obtain ⟨p, n, rfl, _⟩ := h
    rfl
  · obtain ⟨p, n, rfl, hp, hn, hT, k⟩ := h
    have sl : sizeLine = 16777216 := sizeLine_eq
    refine ⟨_, (pss_cons (ps_set (i := 1) sc_l_right.nd rfl (Or.inl rfl) (pe_call (ok_l_lore T) (hr.mono (by decide)) rfl T.g_l_lore T.k_l_lore T.bn_l_lore .nil pass0 (pa_cons (pv 0) (pa_cons (pe_call (ok_l_of T) (hr.mono (by decide)) rfl T.g_l_of T.k_l_of T.bn_l_of .nil pass0 (pa_cons (pv 0) (pa_cons (pe_lst (pa_cons pe_int (pa_cons pe_int pa_nil))) pa_nil))) (pa_cons (pe_call (ok_l_of T) (hr.mono (by decide)) rfl T.g_l_of T.k_l_of T.bn_l_of .nil pass0 (pa_cons (pv 0) (pa_cons (pe_lst (pa_cons pe_int (pa_cons pe_int pa_nil))) pa_nil))) (pa_cons (pe_call (ok_l_of T) (hr.mono (by decide)) rfl T.g_l_of T.k_l_of T.bn_l_of .nil pass0 (pa_cons (pv 0) (pa_cons (pe_lst (pa_cons pe_int (pa_cons pe_int pa_nil))) pa_nil))) pa_nil))))))
      (pss_cons (ps_set (i := 2) sc_l_right.nd rfl (Or.inl rfl) (pe_join pe_str (pe_call (ok_l_lines T) (hr.mono (by decide)) rfl T.g_l_lines T.k_l_lines T.bn_l_lines .nil pass0 (pa_cons (pv 1) pa_nil))))
      (pss_cons (ps_for PassesOwn.never rfl (pi_range1 rfl T.b_range (pa_cons pe_int pa_nil)) (pg_name (i := 3) sc_l_right.nd rfl (Or.inl rfl)) (pss_cons (ps_set (i := 4) sc_l_right.nd rfl (Or.inl rfl) (pe_call (ok_l_bent_text T) (hr.mono (by decide)) rfl T.g_l_bent_text T.k_l_bent_text T.bn_l_bent_text .nil pass0 (pa_cons (pv 0) (pa_cons (pv 2) pa_nil))))
      (pss_cons (ps_set (i := 4) sc_l_right.nd rfl (Or.inl rfl) (pe_ifExp (pt_cmpR op_gt (pv 3) pe_int (nomark _)) (pe_call (ok_l_bent_text T) (hr.mono (by decide)) rfl T.g_l_bent_text T.k_l_bent_text T.bn_l_bent_text .nil pass0 (pa_cons (pv 0) (pa_cons (pv 4) pa_nil))) (pv 4)))
      (pss_one (ps_if (PW.pt (pw_and (pt_val (pe_call (ok_l_is_short T) (hr.mono (by decide)) rfl T.g_l_is_short T.k_l_is_short T.bn_l_is_short .nil pass0 (pa_cons (pv 4) pa_nil))) (pw_and1 (pt_not (pt_val (pe_callG (ok_l_is_judged T TB) (by exact g) (hr.mono (by decide)) rfl T.g_l_is_judged T.k_l_is_judged T.bn_l_is_judged .nil pass0 (pa_cons (pv 4) pa_nil))))))) (pss_one (ps_ret pe_bl)) pss_nil)))))
      (pss_cons (ps_par (i := 5) (j := 6) (by rfl) sc_l_right.nd rfl rfl (by decide) rfl rfl (pa_cons (pe_call (ok_l_of T) (hr.mono (by decide)) rfl T.g_l_of T.k_l_of T.bn_l_of .nil pass0 (pa_cons (pv 0) (pa_cons (pe_lst (pa_cons pe_int (pa_cons pe_int (pa_cons pe_int pa_nil)))) pa_nil))) (pa_cons (pe_lst (pa_cons pe_str pa_nil)) pa_nil)) (by rfl))
      (pss_cons (ps_set (i := 7) sc_l_right.nd rfl (Or.inl rfl) (pe_lst (pa_cons (pe_join pe_str (pe_op op_cat (pe_lst (pa_cons pe_str pa_nil)) (pe_op op_rep (pv 6) (pv 5)))) (pa_cons (pe_join pe_str (pe_op op_cat (pe_op op_cat (pe_lst (pa_cons pe_str pa_nil)) (pe_op op_rep (pv 6) pe_int)) (pe_lst (pa_cons pe_str pa_nil)))) pa_nil))))
      (pss_cons (ps_expr (pe_bm PySem.F.plainAttrs_list PySem.F.slot_list_append PySem.F.type_list_append mt_append (pv 7) (pa_cons (pe_join pe_str (pe_op op_cat (pe_lst (pa_cons pe_str pa_nil)) (pe_lc (own := [("_law_at", 8)]) rfl sc_l_right.nd (pi_range1 rfl T.b_range (pa_cons (pv 5) pa_nil)) (blkOk_by (own := [("_law_at", 8)]) (N := ["_law_pot_here", "_law_lore_here", "_law_text", "_law_turn", "_law_value", "_law_often", "_law_ties", "_law_some", "_law_at"]) (sc := defScope s_l_right) (by decide +kernel)) (fun _ _ _ _ _ => (pg_name (i := 8) sc_l_right.nd rfl (Or.inl rfl))) (fun _ _ _ _ _ => pts_nil) (fun _ _ _ _ _ => (pe_op op_add_str (pe_op op_add_str pe_str (pe_callTy call_str_int (by rfl) T.b_str (by decide +kernel) (pa_cons (pv 8) pa_nil))) pe_str))))) pa_nil)))
      (pss_cons (ps_expr (pe_bm PySem.F.plainAttrs_list PySem.F.slot_list_extend PySem.F.type_list_extend mt_extend (pv 7) (pa_cons (pe_lst (pa_cons pe_str (pa_cons (pe_op op_add_str pe_str (pe_callTy call_str_int (by rfl) T.b_str (by decide +kernel) (pa_cons (pe_op op_powW pe_int pe_int) pa_nil))) (pa_cons (pe_op op_add_str pe_str (pe_callTy call_str_int (by rfl) T.b_str (by decide +kernel) (pa_cons (pe_op op_add (pe_op op_powW pe_int pe_int) pe_int) pa_nil))) (pa_cons pe_str (pa_cons pe_str (pa_cons pe_str (pa_cons pe_str pa_nil)))))))) pa_nil)))
      (pss_cons (ps_expr (pe_bm PySem.F.plainAttrs_list PySem.F.slot_list_append PySem.F.type_list_append mt_append (pv 7) (pa_cons (pe_op op_add_str (pv 2) pe_str) pa_nil)))
      (pss_cons (ps_expr (pe_bm PySem.F.plainAttrs_list PySem.F.slot_list_append PySem.F.type_list_append mt_append (pv 7) (pa_cons pe_str pa_nil)))
      (pss_one (ps_ret (pe_callB  (cr_all rfl) (by rfl) T.b_all (by decide +kernel) (pa_cons (pe_lc (own := [("_law_value", 4)]) rfl sc_l_right.nd (pi_list (pe_op op_cat (pv 7) (pe_lst (pa_cons pe_non (pa_cons pe_int (pa_cons pe_bl (pa_cons (pe_lst (pa_cons (pv 2) pa_nil)) (pa_cons (pe_tup (pa_cons (pv 2) pa_nil)) (pa_cons pe_dnewK (pa_cons (pe_tup pa_nil) pa_nil)))))))))) (blkOk_by (own := [("_law_value", 4)]) (N := ["_law_pot_here", "_law_lore_here", "_law_text", "_law_turn", "_law_value", "_law_often", "_law_ties", "_law_some", "_law_at"]) (sc := defScope s_l_right) (by decide +kernel)) (fun _ _ _ _ _ => (pg_name (i := 4) sc_l_right.nd rfl (Or.inl rfl))) (fun _ _ _ _ _ => pts_nil) (fun _ _ _ _ _ => (pe_callG (ok_l_is_judged T TB) (by exact g) (hr.mono (by decide)) rfl T.g_l_is_judged T.k_l_is_judged T.bn_l_is_judged .nil pass0 (pa_cons (pv 4) pa_nil)))) pa_nil))))))))))))), ?_⟩
    refine ⟨_, rfl, _, rfl, by show 2 ≤ sizeLine; decide, fun a1 ha1 => ⟨p, a1, n, _, rfl, hp.new ha1, by omega, upd_same, (hp.ne ha1).symm, by decide, by decide, fun v1 n1 H1 hv1 hn1 hp1 k1 => ?_⟩⟩
    obtain ⟨z1, rfl, hz1⟩ := two_of hv1
    refine ⟨_, rfl, by show 2 ≤ sizeLine; decide, fun a2 ha2 => ⟨p, a2, n1, _, rfl, hp1.new ha2, by omega, upd_same, (hp1.ne ha2).symm, by decide, by decide, fun v2 n2 H2 hv2 hn2 hp2 k2 => ?_⟩⟩
    obtain ⟨t1, rfl, ht1⟩ := two_of hv2
    refine ⟨_, rfl, by show 2 ≤ sizeLine; decide, fun a3 ha3 => ⟨p, a3, n2, _, rfl, hp2.new ha3, by omega, upd_same, (hp2.ne ha3).symm, by decide, by decide, fun v3 n3 H3 hv3 hn3 hp3 k3 => ?_⟩⟩
    obtain ⟨m1, rfl, hm1⟩ := two_of hv3
    refine ⟨p, n3, z1, t1, m1, rfl, hp3, by omega, by omega, by omega, by omega, by omega, by omega, by omega, fun d b n4 H4 f0 bz0 bt0 bn0 nd0 hn4 hp4 k4 nD L0 => ?_⟩
    have kp4 : Keep p H H4 := ((((Keep.rfl'.new ha1).trans k1).trans ((Keep.rfl'.new ha2).trans k2)).trans ((Keep.rfl'.new ha3).trans k3)).trans k4
    clear hv1 hv2 hv3 ha1 ha2 ha3 k1 k2 k3 k4 hp1 hp2 hp3 nD
    have ok : b.Ok := ⟨f0, by omega, by omega, nd0⟩
    have X := lore_txs ok
    have ls := lines_sum ok
    have tlen := text_len ok
    -- the text
    refine ⟨⟨_, rfl⟩, _, rfl, p, d, b, rfl, L0, f0, by have := ok.tn; omega, by have := ok.nn; omega, fun l H5 nl s5 hl => ?_⟩
    refine ⟨_, l, b.lines, rfl, rfl, .inl (SqL.of hl), by omega, ?_⟩
    have n4b : n4 ≤ n + 143 := by omega
    have hp5 := hp4.same s5
    have kn5 : KeepN p H H5 := KeepN.of (kp4.same s5)
    have hT5 : Tabs (tabs Z) H5 := Tabs.keep (kp4.same s5) hp hT
    obtain ⟨tx, htx⟩ : ∃ tx, tx = b.text := ⟨_, rfl⟩
    rw [show Txt.join (Str.ofString "\n") b.lines = tx from htx.symm]
    have X : Txs 210 25 tx b.lines := by rw [htx]; exact X
    rw [← htx] at tlen
    clear kp4 hp4 L0 nl hl htx s5
    refine ⟨_, rfl, by decide, by decide, for_range (n := 14) (fun i σ H' => ∃ v3 v4 n', σ = [some (.ref p), some (.ref d), some (.str tx), v3, v4, none, none, none, none] ∧ n' ≤ n + 143 + 24 * i ∧ Pot H' p n' ∧ Tabs (tabs Z) H' ∧ KeepN p H H') ⟨_, _, n4, rfl, by omega, hp5, hT5, kn5⟩ ?_ ?_⟩
    · rintro i σ H6 hi ⟨v3, v4, n', rfl, hn', hp6, hT6, kn6⟩
      refine ⟨_, rfl, _, rfl, p, n', 210, 25, tx, b.lines, rfl, hp6, by omega, X, by decide, by decide, by decide, fun t1 ls1 m2 H7 X1 hm2 hp7 k7 => ?_⟩
      have hT7 := Tabs.keep k7 hp6 hT6
      have kn7 := kn6.then (KeepN.of k7)
      refine gasg_via (fun v H' => ∃ m c t ls m5, v = V.str t ∧ Txs m c t ls ∧ m ≤ 1000 ∧ c ≤ 60 ∧ m5 ≤ n + 143 + 24 * i + 24 ∧ Pot H' p m5 ∧ Tabs (tabs Z) H' ∧ KeepN p H H') (fun tail => ?_) ?_
      · refine ⟨_, rfl, _, _, rfl, rfl, _, rfl, ite2 (fun c => ?_) (fun c => ?_)⟩
        · exact ⟨_, rfl, _, rfl, p, m2, 470, 27, t1, ls1, rfl, hp7, by omega, X1, by decide, by decide, by decide, fun t2 ls2 m3 H8 X2 hm3 hp8 k8 => tail _ H8 ⟨990, 29, t2, ls2, m3, rfl, X2, by decide, by decide, by omega, hp8, Tabs.keep k8 hp7 hT7, kn7.then (KeepN.of k8)⟩⟩
        · exact ⟨_, rfl, tail _ H7 ⟨470, 27, t1, ls1, m2, rfl, X1, by decide, by decide, by omega, hp7, hT7, kn7⟩⟩
      rintro v H8 ⟨m, c, t, ls8, m5, rfl, X8, m8, c8, hm5, hp8, hT8, kn8⟩
      refine ⟨_, rfl, m, c, t, ls8, rfl, X8, by omega, by omega, fun H9 s9 => ⟨_, rfl, ?_⟩⟩
      have hp9 := hp8.same s9
      have hT9 := hT8.ext s9
      have kn9 := kn8.then (KeepN.of (Keep.of s9))
      by_cases sb : shortB ls8 = true
      · rw [sb]
        refine iteT ⟨_, rfl, .str t, rfl, judge_txt (lns_of X8 m8 (by omega) (short_fine X8 m8 sb)), hT9, fun H10 e10 hT10 => ⟨true, rfl, iteF ?_⟩⟩
        exact ⟨_, _, m5, rfl, by omega, hp9.extN e10, hT10, kn9.then (KeepN.ext e10)⟩
      · rw [Bool.eq_false_iff.mpr sb]
        exact iteF (iteF ⟨_, _, m5, rfl, by omega, hp9, hT9, kn9⟩)
    rintro σ H6 ⟨v3, v4, n', rfl, hn', hp6, hT6, kn6⟩
    clear hp5 hT5 kn5
    refine ⟨_, rfl, by show 3 ≤ sizeLine; decide, fun a ha => ⟨p, a, n', _, rfl, hp6.new ha, by omega, upd_same, (hp6.ne ha).symm, by decide, by decide, fun v n7 H7 hv hn7 hp7 k7 => ?_⟩⟩
    obtain ⟨of_, rfl, hof⟩ := three_of hv
    have kn7 := kn6.then (KeepN.of ((Keep.rfl'.new ha).trans k7))
    have hT7 := Tabs.keep ((Keep.rfl'.new ha).trans k7) hp6 hT6
    refine ⟨by show 1 ≤ sizeLine; decide, fun ti hti => ⟨_, _, rfl, ?_⟩⟩
    have s8 := Same.new (o := .lst [.str (Str.ofString "tie 0 1 1 up 3")]) (Same.refl H7) hti
    have ati : upd H7 ti (.lst [.str (Str.ofString "tie 0 1 1 up 3")]) ti = some (.lst [.str tie3]) := upd_same
    have hp8 := hp7.same s8
    have kn8 := kn7.then (KeepN.of (Keep.of s8))
    have hT8 := hT7.ext s8
    generalize upd H7 ti (.lst [.str (Str.ofString "tie 0 1 1 up 3")]) = H8 at s8 ati hp8 kn8 hT8 ⊢
    clear s8 hti k7 ha hv hp7 hT7 kn7 hp6 hT6 kn6
    obtain ⟨on, hon⟩ : ∃ on : Nat, of_ = (on : Int) ∧ 11 ≤ on ∧ on ≤ 13 := ⟨of_.toNat, by omega, by omega, by omega⟩
    obtain ⟨rfl, on0, on1⟩ := hon
    have l1 : (Str.ofString "\n").length = 1 := by decide
    have lt3 : tie3.length = 14 := by decide
    -- ties, some
    refine ⟨⟨_, rfl⟩, by show 1 ≤ sizeLine; decide, fun u1 hu1 => ⟨_, rfl, _, rfl, ?_⟩⟩
    have sA := Same.new (o := .lst [.str (Str.ofString "size 20")]) (Same.refl H8) hu1
    have at1 : upd H8 u1 (.lst [.str (Str.ofString "size 20")]) u1 = some (.lst [.str size20]) := upd_same
    have ati2 := sA _ _ ati
    generalize upd H8 u1 (.lst [.str (Str.ofString "size 20")]) = H9 at sA at1 ati2 ⊢
    refine ⟨ti, _, _, rfl, rfl, ati2, by omega, by omega, by show 1 * ((on : Int)).toNat ≤ sizeLine; omega, fun u2 hu2 => ?_⟩
    have sB := sA.trans (Same.new (o := .lst (List.replicate ((on : Int)).toNat [V.str tie3]).flatten) (Same.refl H9) hu2)
    have at2 : upd H9 u2 (.lst (List.replicate ((on : Int)).toNat [V.str tie3]).flatten) u2 = some (.lst ((List.replicate on tie3).map V.str)) := by rw [upd_same, rep_flat, List.map_replicate] <;> rfl
    have at1' := (Same.new (o := .lst (List.replicate ((on : Int)).toNat [V.str tie3]).flatten) (Same.refl H9) hu2) _ _ at1
    generalize upd H9 u2 (.lst (List.replicate ((on : Int)).toNat [V.str tie3]).flatten) = H10 at sB at2 at1' ⊢
    clear at1 ati2 hu1 hu2 sA
    refine ⟨u1, u2, _, _, rfl, rfl, at1', at2, by rw [List.length_map, List.length_replicate]; show 1 + on ≤ _; omega, fun u3 hu3 => ?_⟩
    have sC := sB.trans (Same.new (o := .lst ([V.str size20] ++ (List.replicate on tie3).map V.str)) (Same.refl H10) hu3)
    have at3 : upd H10 u3 (.lst ([V.str size20] ++ (List.replicate on tie3).map V.str)) u3 = some (.lst ((size20 :: List.replicate on tie3).map V.str)) := by rw [upd_same] <;> rfl
    generalize upd H10 u3 (.lst ([V.str size20] ++ (List.replicate on tie3).map V.str)) = H11 at sC at3 ⊢
    clear at1' at2 hu3 sB
    have la : Lns (Txt.join (Str.ofString "\n") (size20 :: List.replicate on tie3)) (size20 :: List.replicate on tie3) := lns_join (by simp) (fun l hl => by
      rcases List.mem_cons.mp hl with rfl | hl
      · exact consts_af _ (by simp)
      · rw [(List.mem_replicate.mp hl).2]
        exact consts_af _ (by simp)) (by rw [List.length_cons, List.length_replicate]; omega)
    have sz : ∀ {ys : List Str}, (∀ y ∈ ys, y.length ≤ 1000) → ys.length ≤ 100 → (ys.map (·.length)).sum + ys.length * (Str.ofString "\n").length ≤ 16777216 := fun {ys} h hl => by
      have a := sum_le h
      have b : ys.length * 1000 ≤ 100 * 1000 := Nat.mul_le_mul hl (Nat.le_refl _)
      rw [l1]
      omega
    refine ⟨_, u3, size20 :: List.replicate on tie3, rfl, rfl, .inl (SqL.of at3), sz (fun y hy => (la.fine y hy).len) (by rw [List.length_cons, List.length_replicate]; omega), ?_⟩
    -- twelve of them, and a note
    refine ⟨⟨_, rfl⟩, by show 1 ≤ sizeLine; decide, fun u1 hu1 => ⟨_, rfl, ?_⟩⟩
    have sD := sC.trans (Same.new (o := .lst [.str (Str.ofString "size 20")]) (Same.refl H11) hu1)
    have at1 : upd H11 u1 (.lst [.str (Str.ofString "size 20")]) u1 = some (.lst [.str size20]) := upd_same
    generalize upd H11 u1 (.lst [.str (Str.ofString "size 20")]) = H12 at sD at1 ⊢
    refine ⟨ti, 12, _, rfl, rfl, sD _ _ ati, by decide, by decide, by show 1 * 12 ≤ sizeLine; decide, fun u2 hu2 => ?_⟩
    have s1 := Same.new (o := .lst (List.replicate ((12 : Int)).toNat [V.str tie3]).flatten) (Same.refl H12) hu2
    have at2 : upd H12 u2 (.lst (List.replicate ((12 : Int)).toNat [V.str tie3]).flatten) u2 = some (.lst ((List.replicate 12 tie3).map V.str)) := by rw [upd_same] <;> rfl
    have at1' := s1 _ _ at1
    generalize upd H12 u2 (.lst (List.replicate ((12 : Int)).toNat [V.str tie3]).flatten) = H13 at s1 at2 at1' ⊢
    refine ⟨u1, u2, _, _, rfl, rfl, at1', at2, by show 1 + 12 ≤ sizeLine; decide, fun u3 hu3 => ?_⟩
    have s2 := s1.trans (Same.new (o := .lst ([V.str size20] ++ (List.replicate 12 tie3).map V.str)) (Same.refl H13) hu3)
    have at3' : upd H13 u3 (.lst ([V.str size20] ++ (List.replicate 12 tie3).map V.str)) u3 = some (.lst ((size20 :: List.replicate 12 tie3).map V.str)) := by rw [upd_same] <;> rfl
    generalize upd H13 u3 (.lst ([V.str size20] ++ (List.replicate 12 tie3).map V.str)) = H14 at s2 at3' ⊢
    refine ⟨by show 1 ≤ sizeLine; decide, fun u4 hu4 => ?_⟩
    have s3 := Same.new (o := .lst [.str (Str.ofString "note 3 3")]) (Same.refl H14) hu4
    have at4 : upd H14 u4 (.lst [.str (Str.ofString "note 3 3")]) u4 = some (.lst [.str note33]) := upd_same
    have at3b := s3 _ _ at3'
    generalize upd H14 u4 (.lst [.str (Str.ofString "note 3 3")]) = H15 at s3 at4 at3b ⊢
    refine ⟨u3, u4, _, _, rfl, rfl, at3b, at4, by show 13 + 1 ≤ sizeLine; decide, fun u5 hu5 => ?_⟩
    have s4 := Same.new (o := .lst ((size20 :: List.replicate 12 tie3).map V.str ++ [V.str note33])) (Same.refl H15) hu5
    have at5 : upd H15 u5 (.lst ((size20 :: List.replicate 12 tie3).map V.str ++ [V.str note33])) u5 = some (.lst ((size20 :: List.replicate 12 tie3 ++ [note33]).map V.str)) := by rw [upd_same, List.map_append] <;> rfl
    have sE := sD.trans (s2.trans (s3.trans s4))
    generalize upd H15 u5 (.lst ((size20 :: List.replicate 12 tie3).map V.str ++ [V.str note33])) = H16 at sE at5 ⊢
    clear s1 s2 s3 s4 sC sD at1 at2 at1' at3' at4 at3b hu1 hu2 hu3 hu4 hu5 at3
    have lb : Lns (Txt.join (Str.ofString "\n") (size20 :: List.replicate 12 tie3 ++ [note33])) (size20 :: List.replicate 12 tie3 ++ [note33]) := lns_join (by simp) (fun l hl => by
      rcases List.mem_append.mp hl with hl | hl
      · rcases List.mem_cons.mp hl with rfl | hl
        · exact consts_af _ (by simp)
        · rw [(List.mem_replicate.mp hl).2]
          exact consts_af _ (by simp)
      · rw [List.mem_singleton.mp hl]
        exact consts_af _ (by simp)) (by decide)
    refine ⟨_, u5, _, rfl, rfl, .inl (SqL.of at5), sz (fun y hy => (lb.fine y hy).len) (by decide), ?_⟩
    obtain ⟨ya, hya⟩ : ∃ ya, ya = Txt.join (Str.ofString "\n") (size20 :: List.replicate on tie3) := ⟨_, rfl⟩
    obtain ⟨yb, hyb⟩ : ∃ yb, yb = Txt.join (Str.ofString "\n") (size20 :: List.replicate 12 tie3 ++ [note33]) := ⟨_, rfl⟩
    rw [← hya] at la ⊢
    rw [← hyb] at lb ⊢
    refine ⟨by show 2 ≤ sizeLine; decide, fun sm hsm => ?_⟩
    have hpm : sm ≠ p := ((hp8.same sE).ne hsm).symm
    have sF := Same.new (o := .lst [.str ya, .str yb]) (Same.refl H16) hsm
    have atm : upd H16 sm (.lst [.str ya, .str yb]) sm = some (.lst [.str ya, .str yb]) := upd_same
    have hp17 := (hp8.same sE).same sF
    have hT17 := (hT8.ext sE).ext sF
    have kn17 := kn8.then (KeepN.of (Keep.of (sE.trans sF)))
    have fm : ∀ b o, b ≠ p → H b = some o → (∀ ps, o ≠ .tbl ps) → b ≠ sm := fun b o nb e t => ne_of_none ((kn8.then (KeepN.of (Keep.of sE))) b o nb e t) hsm
    change tSeq _ _ _ _ (upd H16 sm (.lst [.str ya, .str yb]))
    generalize upd H16 sm (.lst [.str ya, .str yb]) = H17 at sF atm hp17 hT17 kn17 ⊢
    clear hsm sF sE at5 ati hp8 hT8 kn8 hya hyb
    -- notes
    refine ⟨_, rfl, .inl ⟨rfl, _, SqL.of atm⟩, ⟨_, rfl⟩, by show 1 ≤ sizeLine; decide, fun u1 hu1 => ?_⟩
    have s1 := Same.new (o := .lst [.str (Str.ofString "size 20")]) (Same.refl H17) hu1
    have at1 : upd H17 u1 (.lst [.str (Str.ofString "size 20")]) u1 = some (.lst [.str size20]) := upd_same
    generalize upd H17 u1 (.lst [.str (Str.ofString "size 20")]) = H18 at s1 at1 ⊢
    refine ⟨_, rfl, _, rfl, by omega, by omega, fun G hG => ?_⟩
    refine lc_range (n := ((on : Int)).toNat) (fun i H' => H' G = some (.lst (((List.range i).map fun j : Nat => noteL ((j : Int), 0)).map V.str)) ∧ Same H18 H') ⟨upd_same, Same.new (Same.refl H18) hG⟩ ?_ ?_
    · rintro j H' hj ⟨hGj, sj⟩
      refine ⟨rfl, ?_⟩
      unfold tYes
      have j13 : j < 13 := by omega
      have e60 : (13 : Int) < 10 ^ 60 := by decide +kernel
      have e40 : (13 : Int) < 10 ^ 40 := by decide +kernel
      have nl := (wd_int (n := 0 + (j : Int)) (by omega) (by omega)).len
      have n5 : (Str.ofString "note ").length = 5 := by decide
      have n2 : (Str.ofString " 0").length = 2 := by decide
      refine iteT ⟨_, rfl, _, rfl, log_le (by omega) (by omega), _, _, rfl, rfl, by omega, _, _, rfl, rfl, by rw [Str.length_append]; omega, _, hGj, by rw [List.length_map, List.length_map, List.length_range]; omega, ?_, same_put sj hG⟩
      rw [note0, upd_same, List.range_succ, List.map_append, List.map_append, Int.zero_add]
      rfl
    rintro H19 ⟨hG19, s19⟩
    have ec : ((on : Int)).toNat = on := by omega
    rw [ec] at hG19
    have lc : Lns (Txt.join (Str.ofString "\n") (size20 :: (List.range on).map fun j : Nat => noteL ((j : Int), 0))) (size20 :: (List.range on).map fun j : Nat => noteL ((j : Int), 0)) := lns_join (by simp) (fun l hl => by
      rcases List.mem_cons.mp hl with rfl | hl
      · exact consts_af _ (by simp)
      · obtain ⟨j, hj, rfl⟩ := List.mem_map.mp hl
        have := List.mem_range.mp hj
        have e40 : (13 : Int) < 10 ^ 40 := by decide +kernel
        exact note_af (by show 0 ≤ (j : Int); omega) (by show (j : Int) < 10 ^ 40; omega) (by show -(10 ^ 40) < (0 : Int); decide +kernel) (by show (0 : Int) < 10 ^ 40; decide +kernel)) (by rw [List.length_cons, List.length_map, List.length_range]; omega)
    refine ⟨u1, G, _, _, rfl, rfl, s19 _ _ at1, hG19, by rw [List.length_map, List.length_map, List.length_range]; show 1 + on ≤ _; omega, fun u3 hu3 => ?_⟩
    have s3 := (s1.trans s19).trans (Same.new (o := .lst ([V.str size20] ++ ((List.range on).map fun j : Nat => noteL ((j : Int), 0)).map V.str)) (Same.refl H19) hu3)
    have at3 : upd H19 u3 (.lst ([V.str size20] ++ ((List.range on).map fun j : Nat => noteL ((j : Int), 0)).map V.str)) u3 = some (.lst ((size20 :: (List.range on).map fun j : Nat => noteL ((j : Int), 0)).map V.str)) := by rw [upd_same] <;> rfl
    generalize upd H19 u3 (.lst ([V.str size20] ++ ((List.range on).map fun j : Nat => noteL ((j : Int), 0)).map V.str)) = H20 at s3 at3 ⊢
    refine ⟨_, u3, _, rfl, rfl, .inl (SqL.of at3), sz (fun y hy => (lc.fine y hy).len) (by rw [List.length_cons, List.length_map, List.length_range]; omega), ?_⟩
    obtain ⟨yc, hyc⟩ : ∃ yc, yc = Txt.join (Str.ofString "\n") (size20 :: (List.range on).map fun j : Nat => noteL ((j : Int), 0)) := ⟨_, rfl⟩
    rw [← hyc] at lc ⊢
    refine ⟨sm, _, _, rfl, rfl, s3 _ _ atm, by show 2 < sizeLine; decide, ?_⟩
    have put : ∀ {H' : Hp} {xs : List V} (o : HO), H' sm = some (.lst xs) → Pot H' p n7 → Tabs (tabs Z) H' → KeepN p H H' → Pot (upd H' sm o) p n7 ∧ Tabs (tabs Z) (upd H' sm o) ∧ KeepN p H (upd H' sm o) := fun {H' xs} o hm hp hT kn => by
      refine ⟨?_, Tabs.lst hm hT, fun b u nb e t => (upd_ne (fm b u nb e t)).trans (kn b u nb e t)⟩
      obtain ⟨x1, x2, e1, e2⟩ := hp
      exact ⟨x1, x2, (upd_ne hpm.symm).trans e1, e2⟩
    obtain ⟨hp20, hT20, kn20⟩ := put (.lst ([.str ya, .str yb] ++ [.str yc])) (s3 _ _ atm) (hp17.same s3) (hT17.ext s3) (kn17.then (KeepN.of (Keep.of s3)))
    have at20 : upd H20 sm (.lst ([.str ya, .str yb] ++ [.str yc])) sm = some (.lst [.str ya, .str yb, .str yc]) := upd_same
    generalize upd H20 sm (.lst ([.str ya, .str yb] ++ [.str yc])) = H21 at hp20 hT20 kn20 at20 ⊢
    clear s3 at3 hG19 s19 s1 at1 hu1 hG hu3 atm hp17 hT17 kn17 hyc
    -- sizes
    refine ⟨_, rfl, .inl ⟨rfl, _, SqL.of at20⟩, _, _, rfl, rfl, ⟨by decide, by decide +kernel⟩, _, rfl, by decide +kernel, _, _, rfl, rfl, by rw [sl]; decide +kernel, _, _, rfl, rfl, ⟨by decide, by decide +kernel⟩, _, _, rfl, rfl, _, rfl, by decide +kernel, _, _, rfl, rfl, by rw [sl]; decide +kernel, by show 7 ≤ sizeLine; decide, fun l2 hl2 => ?_⟩
    obtain ⟨L1, hL1⟩ : ∃ L1 : List V, L1 = [.str (Str.ofString "size 0"), .str (Str.ofString "size " ++ Str.ofString (toString ((10 : Int) ^ Int.toNat 30))), .str (Str.ofString "size " ++ Str.ofString (toString ((10 : Int) ^ Int.toNat 30 + 1))), .str (Str.ofString "size -1"), .str (Str.ofString "size 01"), .str (Str.ofString "size"), .str (Str.ofString "")] := ⟨_, rfl⟩
    rw [← hL1]
    have s1 := Same.new (o := .lst L1) (Same.refl H21) hl2
    have at1 := s1 _ _ at20
    refine ⟨sm, l2, _, _, rfl, rfl, at1, upd_same, by rw [hL1]; show 3 + 7 ≤ sizeLine; decide, ?_⟩
    obtain ⟨hp22, hT22, kn22⟩ := put (.lst ([.str ya, .str yb, .str yc] ++ L1)) at1 (hp20.same s1) (hT20.ext s1) (kn20.then (KeepN.of (Keep.of s1)))
    have at22 : upd (upd H21 l2 (.lst L1)) sm (.lst ([.str ya, .str yb, .str yc] ++ L1)) sm = some (.lst ([.str ya, .str yb, .str yc] ++ L1)) := upd_same
    generalize upd (upd H21 l2 (.lst L1)) sm (.lst ([.str ya, .str yb, .str yc] ++ L1)) = H22 at hp22 hT22 kn22 at22 ⊢
    clear s1 at1 at20 hp20 hT20 kn20 hl2
    refine ⟨_, rfl, .inl ⟨rfl, _, SqL.of at22⟩, _, rfl, _, _, rfl, rfl, by omega, sm, _, _, rfl, rfl, at22, by rw [hL1]; show 10 < sizeLine; decide, ?_⟩
    obtain ⟨hp23, hT23, kn23⟩ := put (.lst ([.str ya, .str yb, .str yc] ++ L1 ++ [.str (tx ++ Str.ofString "\n")])) at22 hp22 hT22 kn22
    have at23 : upd H22 sm (.lst ([.str ya, .str yb, .str yc] ++ L1 ++ [.str (tx ++ Str.ofString "\n")])) sm = some (.lst ([.str ya, .str yb, .str yc] ++ L1 ++ [.str (tx ++ Str.ofString "\n")])) := upd_same
    generalize upd H22 sm (.lst ([.str ya, .str yb, .str yc] ++ L1 ++ [.str (tx ++ Str.ofString "\n")])) = H23 at hp23 hT23 kn23 at23 ⊢
    refine ⟨_, rfl, .inl ⟨rfl, _, SqL.of at23⟩, sm, _, _, rfl, rfl, at23, by rw [hL1]; show 11 < sizeLine; decide, ?_⟩
    obtain ⟨hp24, hT24, kn24⟩ := put (.lst ([.str ya, .str yb, .str yc] ++ L1 ++ [.str (tx ++ Str.ofString "\n")] ++ [.str (Str.ofString "size 3\ntie 2 0 1 up 0\ntie 2 0 2 up 0")])) at23 hp23 hT23 kn23
    have at24 : upd H23 sm (.lst ([.str ya, .str yb, .str yc] ++ L1 ++ [.str (tx ++ Str.ofString "\n")] ++ [.str (Str.ofString "size 3\ntie 2 0 1 up 0\ntie 2 0 2 up 0")])) sm = some (.lst ([.str ya, .str yb, .str yc] ++ L1 ++ [.str (tx ++ Str.ofString "\n")] ++ [.str (Str.ofString "size 3\ntie 2 0 1 up 0\ntie 2 0 2 up 0")])) := upd_same
    generalize upd H23 sm (.lst ([.str ya, .str yb, .str yc] ++ L1 ++ [.str (tx ++ Str.ofString "\n")] ++ [.str (Str.ofString "size 3\ntie 2 0 1 up 0\ntie 2 0 2 up 0")])) = H24 at hp24 hT24 kn24 at24 ⊢
    clear at22 hp22 hT22 kn22 at23 hp23 hT23 kn23
    -- what is no text
    refine ⟨_, rfl, _, rfl, by show 1 ≤ sizeLine; decide, fun b1 hb1 => ⟨_, rfl, by show 1 ≤ sizeLine; decide, fun b2 hb2 => ?_⟩⟩
    have sA := Same.new (o := .lst [.str tx]) (Same.refl H24) hb1
    have tA : upd H24 b1 (.lst [.str tx]) b1 = some (.lst [.str tx]) := upd_same
    generalize upd H24 b1 (.lst [.str tx]) = H25 at sA tA hb2 ⊢
    have sB := Same.new (o := .tup [.str tx]) (Same.refl H25) hb2
    have tB : upd H25 b2 (.tup [.str tx]) b2 = some (.tup [.str tx]) := upd_same
    have tA := sB _ _ tA
    generalize upd H25 b2 (.tup [.str tx]) = H26 at sB tA tB ⊢
    refine fun b3 hb3 => ?_
    have sC := Same.new (o := .dK []) (Same.refl H26) hb3
    have tC_ : upd H26 b3 (.dK []) b3 = some (.dK []) := upd_same
    have tA := sC _ _ tA
    have tB := sC _ _ tB
    generalize upd H26 b3 (.dK []) = H27 at sC tA tB tC_ ⊢
    refine ⟨by show 0 ≤ sizeLine; exact Nat.zero_le _, fun b4 hb4 => ?_⟩
    have sD := Same.new (o := .tup []) (Same.refl H27) hb4
    have tD_ : upd H27 b4 (.tup []) b4 = some (.tup []) := upd_same
    have tA := sD _ _ tA
    have tB := sD _ _ tB
    have tC_ := sD _ _ tC_
    generalize upd H27 b4 (.tup []) = H28 at sD tA tB tC_ tD_ ⊢
    obtain ⟨L2, hL2⟩ : ∃ L2 : List V, L2 = [.non, .int 0, .bl true, .ref b1, .ref b2, .ref b3, .ref b4] := ⟨_, rfl⟩
    refine ⟨by show 7 ≤ sizeLine; decide, fun b5 hb5 => ?_⟩
    rw [← hL2]
    have sE := Same.new (o := .lst L2) (Same.refl H28) hb5
    have tE_ : upd H28 b5 (.lst L2) b5 = some (.lst L2) := upd_same
    have tA := sE _ _ tA
    have tB := sE _ _ tB
    have tC_ := sE _ _ tC_
    have tD_ := sE _ _ tD_
    generalize upd H28 b5 (.lst L2) = H29 at sE tA tB tC_ tD_ tE_ ⊢
    have sN := (((sA.trans sB).trans sC).trans sD).trans sE
    clear sA sB sC sD sE hb1 hb2 hb3 hb4 hb5
    refine ⟨sm, b5, _, L2, rfl, rfl, sN _ _ at24, tE_, by rw [hL1, hL2]; show 12 + 7 ≤ sizeLine; decide, fun b6 hb6 => ⟨b6, rfl, ⟨_, SqL.of upd_same⟩, fun D hD => ?_⟩⟩
    obtain ⟨xs, hxs⟩ : ∃ xs : List V, xs = [.str ya, .str yb, .str yc] ++ L1 ++ [.str (tx ++ Str.ofString "\n")] ++ [.str (Str.ofString "size 3\ntie 2 0 1 up 0\ntie 2 0 2 up 0")] ++ L2 := ⟨_, rfl⟩
    rw [← hxs] at hD ⊢
    have s30 := sN.trans (Same.new (o := .lst xs) (Same.refl H29) hb6)
    have atx : upd H29 b6 (.lst xs) b6 = some (.lst xs) := upd_same
    have sl6 := Same.new (o := .lst xs) (Same.refl H29) hb6
    have tA := sl6 _ _ tA
    have tB := sl6 _ _ tB
    have tC_ := sl6 _ _ tC_
    have tD_ := sl6 _ _ tD_
    generalize upd H29 b6 (.lst xs) = H30 at s30 atx tA tB tC_ tD_ hD ⊢
    clear sl6 sN hb6 tE_
    have hp30 := hp24.same s30
    have hT30 := hT24.ext s30
    have kn30 := kn24.then (KeepN.of (Keep.of s30))
    have e40 : (10 : Int) ^ 30 + 1 < 10 ^ 40 := by decide +kernel
    have good : ∀ w ∈ xs, JudgeOk K H30 w := fun w hw => by
      rw [hxs, hL1, hL2] at hw
      simp only [List.cons_append, List.nil_append, List.mem_cons, List.not_mem_nil, or_false] at hw
      rcases hw with rfl | rfl | rfl | rfl | rfl | rfl | rfl | rfl | rfl | rfl | rfl | rfl | rfl | rfl | rfl | rfl | rfl | rfl | rfl
      · exact judge_txt la
      · exact judge_txt lb
      · exact judge_txt lc
      · exact judge_txt (lns_one (af_const (by decide +kernel)))
      · exact judge_txt (lns_one (size_af (z := (10 : Int) ^ Int.toNat 30) (by decide +kernel) (by decide +kernel)))
      · exact judge_txt (lns_one (size_af (z := (10 : Int) ^ Int.toNat 30 + 1) (by decide +kernel) (by decide +kernel)))
      · exact judge_txt (lns_one (af_const (by decide +kernel)))
      · exact judge_txt (lns_one (af_const (by decide +kernel)))
      · exact judge_txt (lns_one (af_const (by decide +kernel)))
      · exact judge_txt (lns_one (af_const (by decide +kernel)))
      · have q := X.more empty_asc (Nat.zero_le _)
        have e : tx ++ Str.ofString "\n" ++ Str.empty = tx ++ Str.ofString "\n" := ext_tl (by rw [tl_append]; show _ ++ [] = _; rw [List.append_nil])
        rw [e] at q
        refine judge_txt (lns_of q (by decide) (by decide) fun l hl => ?_)
        rcases List.mem_append.mp hl with hl | hl
        · exact (lore_af ok.fine l hl).2
        · rw [List.mem_singleton.mp hl]
          exact (af_const (by decide +kernel)).2
      · refine judge_txt (ls := [Str.ofString "size 3", Str.ofString "tie 2 0 1 up 0", Str.ofString "tie 2 0 2 up 0"]) ?_
        have e : Str.ofString "size 3\ntie 2 0 1 up 0\ntie 2 0 2 up 0" = Txt.join (Str.ofString "\n") [Str.ofString "size 3", Str.ofString "tie 2 0 1 up 0", Str.ofString "tie 2 0 2 up 0"] := by decide +kernel
        rw [e]
        exact lns_join (by simp) (fun l hl => af_const (List.all_eq_true.mp (show [Str.ofString "size 3", Str.ofString "tie 2 0 1 up 0", Str.ofString "tie 2 0 2 up 0"].all afB = true by decide +kernel) l hl)) (by decide)
      · exact judge_no (fun H' e => .base .non) (by decide +kernel)
      · exact judge_no (fun H' e => .base (.int 0)) (by decide +kernel)
      · exact judge_no (fun H' e => .base (.bl true)) (by decide +kernel)
      · exact judge_no (fun H' e => .base (.lst (e _ _ tA fun _ z => nomatch z))) (by decide +kernel)
      · exact judge_no (fun H' e => .base (.tup (e _ _ tB fun _ z => nomatch z))) (by decide +kernel)
      · exact judge_no (fun H' e => .base (.dK (e _ _ tC_ fun _ z => nomatch z))) (by decide +kernel)
      · exact judge_no (fun H' e => .base (.tup (e _ _ tD_ fun _ z => nomatch z))) (by decide +kernel)
    have xl : xs.length = 19 := by rw [hxs, hL1, hL2]; rfl
    refine lc_list (xs := xs) (fun i H' => H' D = some (.lst (List.replicate i (.bl true))) ∧ ExtN H30 H' ∧ Tabs (tabs Z) H') ⟨upd_same, ExtN.same (Same.new (Same.refl H30) hD), hT30.ext (Same.new (Same.refl H30) hD)⟩ (fun i H' _ h => SqL.of (h.2.1 _ _ atx fun _ z => nomatch z)) ?_ ?_
    · rintro i w H' hi ⟨hDi, e, hT'⟩
      refine ⟨rfl, ?_⟩
      unfold tYes
      have gd := good w (List.mem_of_getElem? hi)
      have i19 : i < 19 := by have := (List.getElem?_eq_some_iff.mp hi).1; omega
      refine iteT ⟨_, rfl, w, rfl, gd.ext e, hT', fun H6 e6 hT6 => ?_⟩
      have hD6 := e6 _ _ hDi fun _ z => nomatch z
      refine ⟨_, hD6, by rw [List.length_replicate]; omega, ?_, fun b u eb t => ?_, Tabs.lst hD6 hT6⟩
      · rw [← List.replicate_succ']
        exact upd_same
      · rw [upd_ne (ne_of_none eb hD)]
        exact (e.trans e6) b u eb t
    · rintro H' ⟨hD', e, hT'⟩
      refine ⟨D, List.replicate xs.length true, rfl, SqL.of (by rw [List.map_replicate]; exact hD'), ?_⟩
      rw [show (List.replicate xs.length true).all id = true by simp]
      exact k n7 H' (by omega) (hp30.extN e) hT' (kn30.then (KeepN.ext e))
end
end TT

namespace TT
open PySem PySem.Spec PyProof.Rows L2 LamX
def sp_law (K : PySem.W.Frag) (Z : Zs) : Sp := fun vs H Q _ => ∃ (a : Addr) (ns : List Int), vs = [.ref a] ∧ SqL K H a (ns.map V.int) ∧ ns.length ≤ 63 ∧ Tabs (tabs Z) H ∧ ∀ H', Q (.bl true) H'
theorem rg_item {m : Int} {i : Nat} {x : V} (h : (rgV 0 m)[i]? = some x) : ∃ z : Int, x = .int z ∧ 0 ≤ z ∧ z < m := by
  have := List.mem_of_getElem? h
  unfold rgV at this
  obtain ⟨j, hj, rfl⟩ := List.mem_map.mp this
  have := List.mem_range.mp hj
  exact ⟨0 + (j : Int), rfl, by omega, by omega⟩
section
variable {P : Program} {w : World} {K : PySem.W.Frag} {mg : Str → Option Value} {base : Heap} {Z : Zs}
theorem ok_law (T : Txt K mg Z) (TB : TabB base mg Z.c_l_is_judged Z.t_l_is_judged) : GOk P w K mg base CX0 21 Z.f_law Z.d_law ["_law_script"] (sp_law K Z) := by
  refine okG T.F_law sc_law (fun vs H Q E h => ?_) (fun cdv A outer s H vs Q E g hr h => ?_)
  · obtain ⟨a, ns, rfl, _⟩ := h
    rfl
  · obtain ⟨a, ns, rfl, hS, hl, hT, k⟩ := h
    refine ⟨_, (pss_cons (ps_for PassesOwn.never rfl (pi_list (pe_call (ok_l_cells T) (hr.mono (by decide)) rfl T.g_l_cells T.k_l_cells T.bn_l_cells .nil pass0 (pa_cons (pv 0) (pa_cons pe_int pa_nil)))) (pg_name (i := 1) sc_law.nd rfl (Or.inl rfl)) (pss_cons (ps_set (i := 2) sc_law.nd rfl (Or.inr rfl) (pe_call (ok_l_pot T) (hr.mono (by decide)) rfl T.g_l_pot T.k_l_pot T.bn_l_pot .nil pass0 (pa_cons (pv 0) (pa_cons (pv 1) pa_nil))))
      (pss_one (ps_if (pt_not (pt_val (pe_callB  (cr_all rfl) (by rfl) T.b_all (by decide +kernel) (pa_cons (pe_lc (own := [("_law_lap", 3)]) rfl sc_law.nd (pi_range1 rfl T.b_range (pa_cons pe_int pa_nil)) (blkOk_by (own := [("_law_lap", 3)]) (N := ["_law_script", "_law_k", "_law_pot_here", "_law_lap"]) (sc := defScope s_law) (by decide +kernel)) (fun _ _ _ _ _ => (pg_name (i := 3) sc_law.nd rfl (Or.inl rfl))) (fun _ _ _ _ _ => pts_nil) (fun _ _ _ _ _ => (pe_callG (ok_l_right T TB) (by exact g) (hr.mono (by decide)) rfl T.g_l_right T.k_l_right T.bn_l_right .nil pass0 (pa_cons (pv 2) pa_nil)))) pa_nil)))) (pss_one (ps_ret pe_bl)) pss_nil))))
      (pss_one (ps_ret pe_bl))), ?_⟩
    refine ⟨_, rfl, a, ns, 3, rfl, hS, hl, by decide, by decide, fun q m nq m1 m2 => ?_⟩
    have s0 := Same.new (o := .lst (rgV 0 m)) (Same.refl H) nq
    refine ⟨q, rfl, ⟨_, SqL.of upd_same⟩, for_list (xs := rgV 0 m) (fun _ σ H' => ∃ v1 v2, σ = [some (.ref a), v1, v2, none] ∧ ExtN (upd H q (.lst (rgV 0 m))) H' ∧ Tabs (tabs Z) H') ⟨_, _, rfl, ExtN.refl _, hT.ext s0⟩ (fun i σ H' _ ⟨_, _, _, e, _⟩ => ExtN.seq e (SqL.of upd_same)) ?_ ?_⟩
    · rintro i x σ H1 hi ⟨v1, v2, rfl, e1, hT1⟩
      obtain ⟨z, rfl, z0, z1⟩ := rg_item hi
      refine ⟨_, rfl, _, rfl, a, ns, z, rfl, ExtN.seq e1 (s0.seq hS), hl, z0, by omega, fun p H2 np s2 hp2 => ?_⟩
      refine ⟨3, rfl, by decide, by decide, fun D hD => ?_⟩
      have npD : p ≠ D := hp2.ne hD
      have hT2 := hT1.ext s2
      have sD := Same.new (o := .lst []) (Same.refl H2) hD
      refine lc_range (n := 3) (fun i H' => ∃ n', n' ≤ 500 * i ∧ Pot H' p n' ∧ H' D = some (.lst (List.replicate i (.bl true))) ∧ KeepN p H2 H' ∧ Tabs (tabs Z) H') ⟨0, Nat.le_refl _, hp2.new hD, upd_same, KeepN.of (Keep.rfl'.new hD), hT2.ext sD⟩ ?_ ?_
      · rintro j H' hj ⟨n', hn', hp', hD', kp', hT'⟩
        refine ⟨rfl, ?_⟩
        unfold tYes
        refine iteT ?_
        refine ⟨_, rfl, p, n', rfl, hp', by omega, hT', fun n2 H3 hn2 hp3 hT3 k3 => ?_⟩
        have hD3 := k3 _ _ npD.symm hD' (fun _ z => nomatch z)
        have kD : ∀ b o, b ≠ D → H3 b = some o → upd H3 D (.lst (List.replicate j (.bl true) ++ [.bl true])) b = some o := fun b o n e => by rw [upd_ne n]; exact e
        refine ⟨_, hD3, ?_, n2, by omega, ?_, ?_, fun b o nb e t => ?_, fun y hy => ?_⟩
        · rw [List.length_replicate]
          exact Nat.lt_trans hj (by decide)
        · obtain ⟨x1, x2, e1, e2⟩ := hp3
          exact ⟨x1, x2, kD _ _ npD e1, e2⟩
        · rw [← List.replicate_succ']
          exact upd_same
        · exact kD _ _ (ne_of_none e hD) (k3 _ _ nb (kp' _ _ nb e t) t)
        · obtain ⟨ps, h1, h2, h3⟩ := hT3 y hy
          refine ⟨ps, kD _ _ (ne_of h1 hD3 fun z => by cases z) h1, h2, fun pos cv hc => ?_⟩
          obtain ⟨c, g1, g2⟩ := h3 pos cv hc
          exact ⟨c, g1, kD _ _ (ne_of g2 hD3 fun z => by unfold CodeO at z; cases z) g2⟩
      · rintro H' ⟨n', hn', hp', hD', kp', hT'⟩
        refine ⟨D, List.replicate 3 true, rfl, SqL.of (by rw [List.map_replicate]; exact hD'), _, rfl, ?_⟩
        refine iteF ?_
        refine ⟨_, _, rfl, fun b o e t => ?_, hT'⟩
        have q1 := e1 _ _ e t
        exact kp' _ _ (ne_of_none q1 np) (s2 _ _ q1) t
    · rintro σ H' ⟨v1, v2, rfl, _⟩
      exact k H'
end
end TT

set_option Elab.async false
set_option linter.all false
set_option maxRecDepth 100000
set_option maxHeartbeats 8000000
namespace TT
open PySem PySem.Spec PyProof.Rows L2 LamX
theorem kit_self {K : PySem.W.Frag} {a : Addr} : PySem.W.kitOne K (.ref a) (.ref a) = some true := by
  unfold PySem.W.kitOne
  rw [if_pos (beq_iff_eq.mpr rfl)]
theorem kit_not {K : PySem.W.Frag} {T : String} {C : Addr} (h1 : PySem.W.mroIn K C (.type "object") = some true) (h2 : PySem.W.typeIn K (.ref C) = some (.type "type")) (h3 : PySem.W.subIn K (.type T) (.ref C) = some false) : PySem.W.kitOne K (.type T) (.ref C) = some false := by
  have h0 : (PySem.W.clsIn K C).isSome = true := by
    unfold PySem.W.mroIn at h1
    obtain ⟨cd, a, _⟩ := Option.bind_eq_some_iff.mp h1
    rw [a]; rfl
  have hc : PySem.W.kitCls K (.type T) (.ref C) = some false := by
    unfold PySem.W.kitCls
    simp only
    rw [if_pos (by rw [h0, h2]; rfl)]
    exact h3
  unfold PySem.W.kitOne
  have ne : ¬ ((Value.type T == Value.ref C) = true) := fun e => by
    have e2 := beq_iff_eq.mp e
    cases e2
  rw [if_neg ne]
  exact hc
theorem all_mk {l : PySem.W.OpenLaw} {q : Program} {w : World} {K : PySem.W.Frag} {h : Heap} {mg : Str → Option Value} {fa C CB c0 c1 c2 c3 c4 c5 c6 f0 f1 f2 f3 f4 f5 f6 f7 f8 f9 f10 f11 f12 f13 f14 f15 f16 f17 f18 f19 f20 f21 f22 f23 f24 f25 f26 f27 f28 f29 f30 f31 f32 f33 f34 f35 f36 f37 f38 f39 f40 f41 f42 aT7 aD7 : Addr} (X : K.In h) (G : h.Ns mainGlobals mg) (hfa : mg "law" = some (.ref fa))
    (tab : ∀ d ∈ recsOf q, ∃ a o fd c P, mg d.name = some (.ref a) ∧ h.get? a = some o ∧ o.data = .func fd ∧ fd.code = .ref c ∧ h.IsCode c P #[] ∧ h.TableAt c P #[])
    {pS : Addr} {rS : List Value} {od0 an0 od1 an1 od2 an2 od3 an3 od4 an4 od5 an5 od6 an6 od7 an7 odT7 od8 an8 od9 an9 od10 an10 od11 an11 od12 an12 od13 an13 od14 an14 od15 an15 od16 an16 od17 an17 od18 an18 od19 an19 od20 an20 od21 an21 od22 an22 od23 an23 od24 an24 od25 an25 od26 an26 od27 an27 od28 an28 od29 an29 od30 an30 od31 an31 od32 an32 od33 an33 od34 an34 od35 an35 od36 an36 od37 an37 od38 an38 od39 an39 od40 an40 od41 an41 od42 an42 : Option Addr} {sl0 sl1 sl2 sl3 sl4 sl5 sl6 sl7 slT7 sl8 sl9 sl10 sl11 sl12 sl13 sl14 sl15 sl16 sl17 sl18 sl19 sl20 sl21 sl22 sl23 sl24 sl25 sl26 sl27 sl28 sl29 sl30 sl31 sl32 sl33 sl34 sl35 sl36 sl37 sl38 sl39 sl40 sl41 sl42 : Array (Option Value)} {oc0 kV0 dc0 pm0 cd0 ct0 oc1 kV1 dc1 pm1 cd1 ct1 oc2 kV2 dc2 pm2 cd2 ct2 oc3 kV3 dc3 pm3 cd3 ct3 oc4 kV4 dc4 pm4 cd4 ct4 oc5 kV5 dc5 pm5 cd5 ct5 oc6 kV6 dc6 pm6 cd6 ct6 oc7 dc7 pm7 cd7 ct7 ocT7 oc8 kV8 dc8 pm8 cd8 ct8 oc9 kV9 dc9 pm9 cd9 ct9 oc10 kV10 dc10 pm10 cd10 ct10 oc11 kV11 dc11 pm11 cd11 ct11 oc12 kV12 dc12 pm12 cd12 ct12 oc13 kV13 dc13 pm13 cd13 ct13 oc14 kV14 dc14 pm14 cd14 ct14 oc15 kV15 dc15 pm15 cd15 ct15 oc16 kV16 dc16 pm16 cd16 ct16 oc17 kV17 dc17 pm17 cd17 ct17 oc18 kV18 dc18 pm18 cd18 ct18 oc19 kV19 dc19 pm19 cd19 ct19 oc20 kV20 dc20 pm20 cd20 ct20 oc21 kV21 dc21 pm21 cd21 ct21 oc22 kV22 dc22 pm22 cd22 ct22 oc23 kV23 dc23 pm23 cd23 ct23 oc24 kV24 dc24 pm24 cd24 ct24 oc25 kV25 dc25 pm25 cd25 ct25 oc26 kV26 dc26 pm26 cd26 ct26 oc27 kV27 dc27 pm27 cd27 ct27 oc28 kV28 dc28 pm28 cd28 ct28 oc29 kV29 dc29 pm29 cd29 ct29 oc30 kV30 dc30 pm30 cd30 ct30 oc31 kV31 dc31 pm31 cd31 ct31 oc32 kV32 dc32 pm32 cd32 ct32 oc33 kV33 dc33 pm33 cd33 ct33 oc34 kV34 dc34 pm34 cd34 ct34 oc35 kV35 dc35 pm35 cd35 ct35 oc36 kV36 dc36 pm36 cd36 ct36 oc37 kV37 dc37 pm37 cd37 ct37 oc38 kV38 dc38 pm38 cd38 ct38 oc39 kV39 dc39 pm39 cd39 ct39 oc40 kV40 dc40 pm40 cd40 ct40 oc41 kV41 dc41 pm41 cd41 ct41 oc42 kV42 dc42 pm42 cd42 ct42 : Value} {nT7 : Nat} {tD7_0 t_GREATEST t__DIGITS t__CHUNK t_MOST : Tok}
    (aC : PySem.W.nsIn K mainGlobals "Tie" = some (some (.ref C)))
    (aB : PySem.W.nsIn K mainGlobals "Book" = some (some (.ref CB)))
    (m_read : PySem.W.readsIn K C (.type "type") = true)
    (m_ga : PySem.W.specialIn K (.ref C) "__getattribute__" = some (some (.builtin "type.__getattribute__")))
    (m_sta : PySem.W.findCls K (.ref C) (.type "type") "of" = some (.get (.builtin "staticmethod.__get__") (.ref pS) .none (.ref C)))
    (ge0 : PySem.W.nsIn K mainGlobals "BadPlace" = some (some (.ref c0)))
    (ge1 : PySem.W.nsIn K mainGlobals "BadLength" = some (some (.ref c1)))
    (ge2 : PySem.W.nsIn K mainGlobals "BadAmount" = some (some (.ref c2)))
    (ge3 : PySem.W.nsIn K mainGlobals "BadWay" = some (some (.ref c3)))
    (ge4 : PySem.W.nsIn K mainGlobals "BadText" = some (some (.ref c4)))
    (ge5 : PySem.W.nsIn K mainGlobals "BadBook" = some (some (.ref c5)))
    (ge6 : PySem.W.nsIn K mainGlobals "TuneError" = some (some (.ref c6)))
    (hin : PySem.W.findIn K (.ref c6) "__init__" = some (some (.ref f0)))
    (i0 : PySem.W.isFn K (.ref f0) = true)
    (l0 : K.lookup f0 = some ⟨oc0, od0, .func (PySem.W.fnOf "__init__" "TuneError.__init__" (defArgs s_E_init) (defBody s_E_init) (defScope s_E_init) .none kV0 dc0 pm0 an0 cd0 ct0), sl0⟩)
    (d0 : PySem.W.codeIn K cd0 "TuneError.__init__" = true)
    (k0 : PySem.W.keepIn K (.ref f0) = true)
    (a1 : PySem.W.nsIn K mainGlobals "is_whole" = some (some (.ref f1)))
    (l1 : K.lookup f1 = some ⟨oc1, od1, .func (PySem.W.fnOf "is_whole" "is_whole" (defArgs s_is_whole) (defBody s_is_whole) (defScope s_is_whole) .none kV1 dc1 pm1 an1 cd1 ct1), sl1⟩)
    (d1 : PySem.W.codeIn K cd1 "is_whole" = true)
    (k1 : PySem.W.keepIn K (.ref f1) = true)
    (a2 : PySem.W.nsIn K mainGlobals "is_from" = some (some (.ref f2)))
    (l2 : K.lookup f2 = some ⟨oc2, od2, .func (PySem.W.fnOf "is_from" "is_from" (defArgs s_is_from) (defBody s_is_from) (defScope s_is_from) .none kV2 dc2 pm2 an2 cd2 ct2), sl2⟩)
    (d2 : PySem.W.codeIn K cd2 "is_from" = true)
    (k2 : PySem.W.keepIn K (.ref f2) = true)
    (a3 : PySem.W.nsIn K mainGlobals "is_between" = some (some (.ref f3)))
    (l3 : K.lookup f3 = some ⟨oc3, od3, .func (PySem.W.fnOf "is_between" "is_between" (defArgs s_is_between) (defBody s_is_between) (defScope s_is_between) .none kV3 dc3 pm3 an3 cd3 ct3), sl3⟩)
    (d3 : PySem.W.codeIn K cd3 "is_between" = true)
    (k3 : PySem.W.keepIn K (.ref f3) = true)
    (a4 : PySem.W.nsIn K mainGlobals "written" = some (some (.ref f4)))
    (l4 : K.lookup f4 = some ⟨oc4, od4, .func (PySem.W.fnOf "written" "written" (defArgs s_written) (defBody s_written) (defScope s_written) .none kV4 dc4 pm4 an4 cd4 ct4), sl4⟩)
    (d4 : PySem.W.codeIn K cd4 "written" = true)
    (k4 : PySem.W.keepIn K (.ref f4) = true)
    (a5 : PySem.W.nsIn K mainGlobals "number_in" = some (some (.ref f5)))
    (l5 : K.lookup f5 = some ⟨oc5, od5, .func (PySem.W.fnOf "number_in" "number_in" (defArgs s_number_in) (defBody s_number_in) (defScope s_number_in) .none kV5 dc5 pm5 an5 cd5 ct5), sl5⟩)
    (d5 : PySem.W.codeIn K cd5 "number_in" = true)
    (k5 : PySem.W.keepIn K (.ref f5) = true)
    (a6 : PySem.W.nsIn K mainGlobals "_number_of" = some (some (.ref f6)))
    (l6 : K.lookup f6 = some ⟨oc6, od6, .func (PySem.W.fnOf "_number_of" "_number_of" (defArgs s_number_of) (defBody s_number_of) (defScope s_number_of) .none kV6 dc6 pm6 an6 cd6 ct6), sl6⟩)
    (d6 : PySem.W.codeIn K cd6 "_number_of" = true)
    (k6 : PySem.W.keepIn K (.ref f6) = true)
    (a7 : PySem.W.findIn K (.ref C) "__init__" = some (some (.ref f7)))
    (i7 : PySem.W.isFn K (.ref f7) = true)
    (l7 : K.lookup f7 = some ⟨oc7, od7, .func (PySem.W.fnOf "__init__" "Tie.__init__" (defArgs s_T_init) (defBody s_T_init) (defScope s_T_init) (.ref aT7) (.ref aD7) dc7 pm7 an7 cd7 ct7), sl7⟩)
    (d7 : PySem.W.codeIn K cd7 "Tie.__init__" = true)
    (k7 : PySem.W.keepIn K (.ref f7) = true)
    (lT7 : K.lookup aT7 = some ⟨ocT7, odT7, .seq ([Value.int 0 tD7_0] : List Value).toArray nT7, slT7⟩)
    (w7_down : PySem.W.nsIn K aD7 "down" = some (some (.bool false)))
    (w7_backward : PySem.W.nsIn K aD7 "backward" = some (some (.bool false)))
    (a8 : PySem.W.recIn K pS "staticmethod" = some ((.ref f8) :: rS))
    (i8 : PySem.W.isFn K (.ref f8) = true)
    (l8 : K.lookup f8 = some ⟨oc8, od8, .func (PySem.W.fnOf "of" "Tie.of" (defArgs s_T_of) (defBody s_T_of) (defScope s_T_of) .none kV8 dc8 pm8 an8 cd8 ct8), sl8⟩)
    (d8 : PySem.W.codeIn K cd8 "Tie.of" = true)
    (k8 : PySem.W.keepIn K (.ref f8) = true)
    (a9 : PySem.W.nsIn K mainGlobals "is_tie_within" = some (some (.ref f9)))
    (l9 : K.lookup f9 = some ⟨oc9, od9, .func (PySem.W.fnOf "is_tie_within" "is_tie_within" (defArgs s_is_tie_within) (defBody s_is_tie_within) (defScope s_is_tie_within) .none kV9 dc9 pm9 an9 cd9 ct9), sl9⟩)
    (d9 : PySem.W.codeIn K cd9 "is_tie_within" = true)
    (k9 : PySem.W.keepIn K (.ref f9) = true)
    (a10 : PySem.W.nsIn K mainGlobals "_check_parts" = some (some (.ref f10)))
    (l10 : K.lookup f10 = some ⟨oc10, od10, .func (PySem.W.fnOf "_check_parts" "_check_parts" (defArgs s_check_parts) (defBody s_check_parts) (defScope s_check_parts) .none kV10 dc10 pm10 an10 cd10 ct10), sl10⟩)
    (d10 : PySem.W.codeIn K cd10 "_check_parts" = true)
    (k10 : PySem.W.keepIn K (.ref f10) = true)
    (a11 : PySem.W.nsIn K mainGlobals "_check_leading" = some (some (.ref f11)))
    (l11 : K.lookup f11 = some ⟨oc11, od11, .func (PySem.W.fnOf "_check_leading" "_check_leading" (defArgs s_check_leading) (defBody s_check_leading) (defScope s_check_leading) .none kV11 dc11 pm11 an11 cd11 ct11), sl11⟩)
    (d11 : PySem.W.codeIn K cd11 "_check_leading" = true)
    (k11 : PySem.W.keepIn K (.ref f11) = true)
    (a12 : PySem.W.nsIn K mainGlobals "_values_in" = some (some (.ref f12)))
    (l12 : K.lookup f12 = some ⟨oc12, od12, .func (PySem.W.fnOf "_values_in" "_values_in" (defArgs s_values_in) (defBody s_values_in) (defScope s_values_in) .none kV12 dc12 pm12 an12 cd12 ct12), sl12⟩)
    (d12 : PySem.W.codeIn K cd12 "_values_in" = true)
    (k12 : PySem.W.keepIn K (.ref f12) = true)
    (a13 : PySem.W.nsIn K mainGlobals "numbers_behind" = some (some (.ref f13)))
    (l13 : K.lookup f13 = some ⟨oc13, od13, .func (PySem.W.fnOf "numbers_behind" "numbers_behind" (defArgs s_numbers_behind) (defBody s_numbers_behind) (defScope s_numbers_behind) .none kV13 dc13 pm13 an13 cd13 ct13), sl13⟩)
    (d13 : PySem.W.codeIn K cd13 "numbers_behind" = true)
    (k13 : PySem.W.keepIn K (.ref f13) = true)
    (a14 : PySem.W.nsIn K mainGlobals "tie_behind" = some (some (.ref f14)))
    (l14 : K.lookup f14 = some ⟨oc14, od14, .func (PySem.W.fnOf "tie_behind" "tie_behind" (defArgs s_tie_behind) (defBody s_tie_behind) (defScope s_tie_behind) .none kV14 dc14 pm14 an14 cd14 ct14), sl14⟩)
    (d14 : PySem.W.codeIn K cd14 "tie_behind" = true)
    (k14 : PySem.W.keepIn K (.ref f14) = true)
    (a15 : PySem.W.nsIn K mainGlobals "size_in" = some (some (.ref f15)))
    (l15 : K.lookup f15 = some ⟨oc15, od15, .func (PySem.W.fnOf "size_in" "size_in" (defArgs s_size_in) (defBody s_size_in) (defScope s_size_in) .none kV15 dc15 pm15 an15 cd15 ct15), sl15⟩)
    (d15 : PySem.W.codeIn K cd15 "size_in" = true)
    (k15 : PySem.W.keepIn K (.ref f15) = true)
    (a16 : PySem.W.nsIn K mainGlobals "tie_in" = some (some (.ref f16)))
    (l16 : K.lookup f16 = some ⟨oc16, od16, .func (PySem.W.fnOf "tie_in" "tie_in" (defArgs s_tie_in) (defBody s_tie_in) (defScope s_tie_in) .none kV16 dc16 pm16 an16 cd16 ct16), sl16⟩)
    (d16 : PySem.W.codeIn K cd16 "tie_in" = true)
    (k16 : PySem.W.keepIn K (.ref f16) = true)
    (a17 : PySem.W.nsIn K mainGlobals "note_in" = some (some (.ref f17)))
    (l17 : K.lookup f17 = some ⟨oc17, od17, .func (PySem.W.fnOf "note_in" "note_in" (defArgs s_note_in) (defBody s_note_in) (defScope s_note_in) .none kV17 dc17 pm17 an17 cd17 ct17), sl17⟩)
    (d17 : PySem.W.codeIn K cd17 "note_in" = true)
    (k17 : PySem.W.keepIn K (.ref f17) = true)
    (a18 : PySem.W.findIn K (.ref CB) "__init__" = some (some (.ref f18)))
    (i18 : PySem.W.isFn K (.ref f18) = true)
    (l18 : K.lookup f18 = some ⟨oc18, od18, .func (PySem.W.fnOf "__init__" "Book.__init__" (defArgs s_B_init) (defBody s_B_init) (defScope s_B_init) .none kV18 dc18 pm18 an18 cd18 ct18), sl18⟩)
    (d18 : PySem.W.codeIn K cd18 "Book.__init__" = true)
    (k18 : PySem.W.keepIn K (.ref f18) = true)
    (a19 : PySem.W.nsIn K mainGlobals "_contents" = some (some (.ref f19)))
    (l19 : K.lookup f19 = some ⟨oc19, od19, .func (PySem.W.fnOf "_contents" "_contents" (defArgs s_contents) (defBody s_contents) (defScope s_contents) .none kV19 dc19 pm19 an19 cd19 ct19), sl19⟩)
    (d19 : PySem.W.codeIn K cd19 "_contents" = true)
    (k19 : PySem.W.keepIn K (.ref f19) = true)
    (a20 : PySem.W.nsIn K mainGlobals "_first_ties" = some (some (.ref f20)))
    (l20 : K.lookup f20 = some ⟨oc20, od20, .func (PySem.W.fnOf "_first_ties" "_first_ties" (defArgs s_first_ties) (defBody s_first_ties) (defScope s_first_ties) .none kV20 dc20 pm20 an20 cd20 ct20), sl20⟩)
    (d20 : PySem.W.codeIn K cd20 "_first_ties" = true)
    (k20 : PySem.W.keepIn K (.ref f20) = true)
    (a21 : PySem.W.nsIn K mainGlobals "_first_notes" = some (some (.ref f21)))
    (l21 : K.lookup f21 = some ⟨oc21, od21, .func (PySem.W.fnOf "_first_notes" "_first_notes" (defArgs s_first_notes) (defBody s_first_notes) (defScope s_first_notes) .none kV21 dc21 pm21 an21 cd21 ct21), sl21⟩)
    (d21 : PySem.W.codeIn K cd21 "_first_notes" = true)
    (k21 : PySem.W.keepIn K (.ref f21) = true)
    (a22 : PySem.W.nsIn K mainGlobals "_has_note" = some (some (.ref f22)))
    (l22 : K.lookup f22 = some ⟨oc22, od22, .func (PySem.W.fnOf "_has_note" "_has_note" (defArgs s_has_note) (defBody s_has_note) (defScope s_has_note) .none kV22 dc22 pm22 an22 cd22 ct22), sl22⟩)
    (d22 : PySem.W.codeIn K cd22 "_has_note" = true)
    (k22 : PySem.W.keepIn K (.ref f22) = true)
    (a23 : PySem.W.nsIn K mainGlobals "_law_pot" = some (some (.ref f23)))
    (l23 : K.lookup f23 = some ⟨oc23, od23, .func (PySem.W.fnOf "_law_pot" "_law_pot" (defArgs s_l_pot) (defBody s_l_pot) (defScope s_l_pot) .none kV23 dc23 pm23 an23 cd23 ct23), sl23⟩)
    (d23 : PySem.W.codeIn K cd23 "_law_pot" = true)
    (k23 : PySem.W.keepIn K (.ref f23) = true)
    (a24 : PySem.W.nsIn K mainGlobals "_law_take" = some (some (.ref f24)))
    (l24 : K.lookup f24 = some ⟨oc24, od24, .func (PySem.W.fnOf "_law_take" "_law_take" (defArgs s_l_take) (defBody s_l_take) (defScope s_l_take) .none kV24 dc24 pm24 an24 cd24 ct24), sl24⟩)
    (d24 : PySem.W.codeIn K cd24 "_law_take" = true)
    (k24 : PySem.W.keepIn K (.ref f24) = true)
    (a25 : PySem.W.nsIn K mainGlobals "_law_of" = some (some (.ref f25)))
    (l25 : K.lookup f25 = some ⟨oc25, od25, .func (PySem.W.fnOf "_law_of" "_law_of" (defArgs s_l_of) (defBody s_l_of) (defScope s_l_of) .none kV25 dc25 pm25 an25 cd25 ct25), sl25⟩)
    (d25 : PySem.W.codeIn K cd25 "_law_of" = true)
    (k25 : PySem.W.keepIn K (.ref f25) = true)
    (a26 : PySem.W.nsIn K mainGlobals "_law_cells" = some (some (.ref f26)))
    (l26 : K.lookup f26 = some ⟨oc26, od26, .func (PySem.W.fnOf "_law_cells" "_law_cells" (defArgs s_l_cells) (defBody s_l_cells) (defScope s_l_cells) .none kV26 dc26 pm26 an26 cd26 ct26), sl26⟩)
    (d26 : PySem.W.codeIn K cd26 "_law_cells" = true)
    (k26 : PySem.W.keepIn K (.ref f26) = true)
    (a27 : PySem.W.nsIn K mainGlobals "_law_met_error" = some (some (.ref f27)))
    (l27 : K.lookup f27 = some ⟨oc27, od27, .func (PySem.W.fnOf "_law_met_error" "_law_met_error" (defArgs s_l_met_error) (defBody s_l_met_error) (defScope s_l_met_error) .none kV27 dc27 pm27 an27 cd27 ct27), sl27⟩)
    (d27 : PySem.W.codeIn K cd27 "_law_met_error" = true)
    (k27 : PySem.W.keepIn K (.ref f27) = true)
    (a28 : PySem.W.nsIn K mainGlobals "_law_amount" = some (some (.ref f28)))
    (l28 : K.lookup f28 = some ⟨oc28, od28, .func (PySem.W.fnOf "_law_amount" "_law_amount" (defArgs s_l_amount) (defBody s_l_amount) (defScope s_l_amount) .none kV28 dc28 pm28 an28 cd28 ct28), sl28⟩)
    (d28 : PySem.W.codeIn K cd28 "_law_amount" = true)
    (k28 : PySem.W.keepIn K (.ref f28) = true)
    (a29 : PySem.W.nsIn K mainGlobals "_law_row" = some (some (.ref f29)))
    (l29 : K.lookup f29 = some ⟨oc29, od29, .func (PySem.W.fnOf "_law_row" "_law_row" (defArgs s_l_row) (defBody s_l_row) (defScope s_l_row) .none kV29 dc29 pm29 an29 cd29 ct29), sl29⟩)
    (d29 : PySem.W.codeIn K cd29 "_law_row" = true)
    (k29 : PySem.W.keepIn K (.ref f29) = true)
    (a30 : PySem.W.nsIn K mainGlobals "_law_text_of" = some (some (.ref f30)))
    (l30 : K.lookup f30 = some ⟨oc30, od30, .func (PySem.W.fnOf "_law_text_of" "_law_text_of" (defArgs s_l_text_of) (defBody s_l_text_of) (defScope s_l_text_of) .none kV30 dc30 pm30 an30 cd30 ct30), sl30⟩)
    (d30 : PySem.W.codeIn K cd30 "_law_text_of" = true)
    (k30 : PySem.W.keepIn K (.ref f30) = true)
    (a31 : PySem.W.nsIn K mainGlobals "_law_figure" = some (some (.ref f31)))
    (l31 : K.lookup f31 = some ⟨oc31, od31, .func (PySem.W.fnOf "_law_figure" "_law_figure" (defArgs s_l_figure) (defBody s_l_figure) (defScope s_l_figure) .none kV31 dc31 pm31 an31 cd31 ct31), sl31⟩)
    (d31 : PySem.W.codeIn K cd31 "_law_figure" = true)
    (k31 : PySem.W.keepIn K (.ref f31) = true)
    (a32 : PySem.W.nsIn K mainGlobals "_law_row_told" = some (some (.ref f32)))
    (l32 : K.lookup f32 = some ⟨oc32, od32, .func (PySem.W.fnOf "_law_row_told" "_law_row_told" (defArgs s_l_row_told) (defBody s_l_row_told) (defScope s_l_row_told) .none kV32 dc32 pm32 an32 cd32 ct32), sl32⟩)
    (d32 : PySem.W.codeIn K cd32 "_law_row_told" = true)
    (k32 : PySem.W.keepIn K (.ref f32) = true)
    (a33 : PySem.W.nsIn K mainGlobals "_law_lore" = some (some (.ref f33)))
    (l33 : K.lookup f33 = some ⟨oc33, od33, .func (PySem.W.fnOf "_law_lore" "_law_lore" (defArgs s_l_lore) (defBody s_l_lore) (defScope s_l_lore) .none kV33 dc33 pm33 an33 cd33 ct33), sl33⟩)
    (d33 : PySem.W.codeIn K cd33 "_law_lore" = true)
    (k33 : PySem.W.keepIn K (.ref f33) = true)
    (a34 : PySem.W.nsIn K mainGlobals "_law_lines" = some (some (.ref f34)))
    (l34 : K.lookup f34 = some ⟨oc34, od34, .func (PySem.W.fnOf "_law_lines" "_law_lines" (defArgs s_l_lines) (defBody s_l_lines) (defScope s_l_lines) .none kV34 dc34 pm34 an34 cd34 ct34), sl34⟩)
    (d34 : PySem.W.codeIn K cd34 "_law_lines" = true)
    (k34 : PySem.W.keepIn K (.ref f34) = true)
    (a35 : PySem.W.nsIn K mainGlobals "_law_bent_line" = some (some (.ref f35)))
    (l35 : K.lookup f35 = some ⟨oc35, od35, .func (PySem.W.fnOf "_law_bent_line" "_law_bent_line" (defArgs s_l_bent_line) (defBody s_l_bent_line) (defScope s_l_bent_line) .none kV35 dc35 pm35 an35 cd35 ct35), sl35⟩)
    (d35 : PySem.W.codeIn K cd35 "_law_bent_line" = true)
    (k35 : PySem.W.keepIn K (.ref f35) = true)
    (a36 : PySem.W.nsIn K mainGlobals "_law_is_short" = some (some (.ref f36)))
    (l36 : K.lookup f36 = some ⟨oc36, od36, .func (PySem.W.fnOf "_law_is_short" "_law_is_short" (defArgs s_l_is_short) (defBody s_l_is_short) (defScope s_l_is_short) .none kV36 dc36 pm36 an36 cd36 ct36), sl36⟩)
    (d36 : PySem.W.codeIn K cd36 "_law_is_short" = true)
    (k36 : PySem.W.keepIn K (.ref f36) = true)
    (a37 : PySem.W.nsIn K mainGlobals "_law_note_told" = some (some (.ref f37)))
    (l37 : K.lookup f37 = some ⟨oc37, od37, .func (PySem.W.fnOf "_law_note_told" "_law_note_told" (defArgs s_l_note_told) (defBody s_l_note_told) (defScope s_l_note_told) .none kV37 dc37 pm37 an37 cd37 ct37), sl37⟩)
    (d37 : PySem.W.codeIn K cd37 "_law_note_told" = true)
    (k37 : PySem.W.keepIn K (.ref f37) = true)
    (a38 : PySem.W.nsIn K mainGlobals "_law_first_wrong" = some (some (.ref f38)))
    (l38 : K.lookup f38 = some ⟨oc38, od38, .func (PySem.W.fnOf "_law_first_wrong" "_law_first_wrong" (defArgs s_l_first_wrong) (defBody s_l_first_wrong) (defScope s_l_first_wrong) .none kV38 dc38 pm38 an38 cd38 ct38), sl38⟩)
    (d38 : PySem.W.codeIn K cd38 "_law_first_wrong" = true)
    (k38 : PySem.W.keepIn K (.ref f38) = true)
    (a39 : PySem.W.nsIn K mainGlobals "_law_bent_text" = some (some (.ref f39)))
    (l39 : K.lookup f39 = some ⟨oc39, od39, .func (PySem.W.fnOf "_law_bent_text" "_law_bent_text" (defArgs s_l_bent_text) (defBody s_l_bent_text) (defScope s_l_bent_text) .none kV39 dc39 pm39 an39 cd39 ct39), sl39⟩)
    (d39 : PySem.W.codeIn K cd39 "_law_bent_text" = true)
    (k39 : PySem.W.keepIn K (.ref f39) = true)
    (a40 : PySem.W.nsIn K mainGlobals "_law_is_judged" = some (some (.ref f40)))
    (l40 : K.lookup f40 = some ⟨oc40, od40, .func (PySem.W.fnOf "_law_is_judged" "_law_is_judged" (defArgs s_l_is_judged) (defBody s_l_is_judged) (defScope s_l_is_judged) .none kV40 dc40 pm40 an40 cd40 ct40), sl40⟩)
    (d40 : PySem.W.codeIn K cd40 "_law_is_judged" = true)
    (k40 : PySem.W.keepIn K (.ref f40) = true)
    (a41 : PySem.W.nsIn K mainGlobals "_law_right" = some (some (.ref f41)))
    (l41 : K.lookup f41 = some ⟨oc41, od41, .func (PySem.W.fnOf "_law_right" "_law_right" (defArgs s_l_right) (defBody s_l_right) (defScope s_l_right) .none kV41 dc41 pm41 an41 cd41 ct41), sl41⟩)
    (d41 : PySem.W.codeIn K cd41 "_law_right" = true)
    (k41 : PySem.W.keepIn K (.ref f41) = true)
    (a42 : PySem.W.nsIn K mainGlobals "law" = some (some (.ref f42)))
    (l42 : K.lookup f42 = some ⟨oc42, od42, .func (PySem.W.fnOf "law" "law" (defArgs s_law) (defBody s_law) (defScope s_law) .none kV42 dc42 pm42 an42 cd42 ct42), sl42⟩)
    (d42 : PySem.W.codeIn K cd42 "law" = true)
    (k42 : PySem.W.keepIn K (.ref f42) = true)
    (b_isinstance : PySem.W.nsIn K mainGlobals "isinstance" = some none)
    (b_int : PySem.W.nsIn K mainGlobals "int" = some none)
    (b_bool : PySem.W.nsIn K mainGlobals "bool" = some none)
    (b_str : PySem.W.nsIn K mainGlobals "str" = some none)
    (b_range : PySem.W.nsIn K mainGlobals "range" = some none)
    (b_len : PySem.W.nsIn K mainGlobals "len" = some none)
    (b_max : PySem.W.nsIn K mainGlobals "max" = some none)
    (b_tuple : PySem.W.nsIn K mainGlobals "tuple" = some none)
    (b_abs : PySem.W.nsIn K mainGlobals "abs" = some none)
    (b_list : PySem.W.nsIn K mainGlobals "list" = some none)
    (b_min : PySem.W.nsIn K mainGlobals "min" = some none)
    (b_all : PySem.W.nsIn K mainGlobals "all" = some none)
    (b_enumerate : PySem.W.nsIn K mainGlobals "enumerate" = some none)
    (b_repr : PySem.W.nsIn K mainGlobals "repr" = some none)
    (y_GREATEST : PySem.W.nsIn K mainGlobals "GREATEST" = some (some (.int 1000000000000000000000000000000 t_GREATEST)))
    (y__DIGITS : PySem.W.nsIn K mainGlobals "_DIGITS" = some (some (.int 64 t__DIGITS)))
    (y__CHUNK : PySem.W.nsIn K mainGlobals "_CHUNK" = some (some (.int 10000000000000000000000000000000000000000000000000000000000000000 t__CHUNK)))
    (y_MOST : PySem.W.nsIn K mainGlobals "MOST" = some (some (.int 12 t_MOST)))
    (pg : PySem.W.plainGet K C Str.empty = true)
    (hd : PySem.W.hasDictIn K C = true)
    (po : PySem.W.plainOver K C = true)
    (sa : PySem.W.findIn K (.ref C) "__setattr__" = some (some (.builtin "object.__setattr__")))
    (mkc : PySem.W.makesIn K C = true)
    (kcc : PySem.W.keepIn K (.ref C) = true)
    (n_first : PySem.W.findIn K (.ref C) "first" = some none)
    (n_second : PySem.W.findIn K (.ref C) "second" = some none)
    (n_length : PySem.W.findIn K (.ref C) "length" = some none)
    (n_amount : PySem.W.findIn K (.ref C) "amount" = some none)
    (n_down : PySem.W.findIn K (.ref C) "down" = some none)
    (n_backward : PySem.W.findIn K (.ref C) "backward" = some none)
    (n_text : PySem.W.findIn K (.ref C) "text" = some none)
    (pgB : PySem.W.plainGet K CB Str.empty = true)
    (hdB : PySem.W.hasDictIn K CB = true)
    (poB : PySem.W.plainOver K CB = true)
    (saB : PySem.W.findIn K (.ref CB) "__setattr__" = some (some (.builtin "object.__setattr__")))
    (mkcB : PySem.W.makesIn K CB = true)
    (kccB : PySem.W.keepIn K (.ref CB) = true)
    (nB_text : PySem.W.findIn K (.ref CB) "text" = some none)
    (nB_size : PySem.W.findIn K (.ref CB) "size" = some none)
    (nB_ties : PySem.W.findIn K (.ref CB) "ties" = some none)
    (nB_notes : PySem.W.findIn K (.ref CB) "notes" = some none)
    (m_z_cls : PySem.W.findIn K (.ref C) "__class__" = some (some (.builtin "object.__class__")))
    (m_z_mro : PySem.W.mroIn K C (.type "object") = some true)
    (m_z_ty : PySem.W.typeIn K (.ref C) = some (.type "type"))
    (m_z_clsB : PySem.W.findIn K (.ref CB) "__class__" = some (some (.builtin "object.__class__")))
    (m_z_mroB : PySem.W.mroIn K CB (.type "object") = some true)
    (m_z_tyB : PySem.W.typeIn K (.ref CB) = some (.type "type"))
    (m_z_get : PySem.W.specialIn K (.builtin "object.__class__") "__get__" = some (some (.builtin "getset_descriptor.__get__")))
    (m_z_tk : PySem.W.takesIn K (.builtin "object.__class__") = some true)
    (m_z_subN : PySem.W.subIn K (.type "NoneType") (.ref C) = some false)
    (m_z_subT : PySem.W.subIn K (.type "tuple") (.ref C) = some false)
    (m_z_subL : PySem.W.subIn K (.type "list") (.ref C) = some false)
    (m_z_subD : PySem.W.subIn K (.type "dict") (.ref C) = some false)
    (m_z_subI : PySem.W.subIn K (.type "int") (.ref C) = some false)
    (m_z_subO : PySem.W.subIn K (.type "bool") (.ref C) = some false)
    (m_z_subS : PySem.W.subIn K (.type "str") (.ref C) = some false)
    (m_z_subIB : PySem.W.subIn K (.type "int") (.ref CB) = some false)
    (m_z_notIB : PySem.W.notFirst K CB (.type "int") = true)
    (m_z_subSB : PySem.W.subIn K (.type "str") (.ref CB) = some false)
    (m_z_notSB : PySem.W.notFirst K CB (.type "str") = true)
    (m_z_notT : PySem.W.notFirst K C (.type "tuple") = true)
    (m_z_notTB : PySem.W.notFirst K CB (.type "tuple") = true)
    (m_z_neB : PySem.W.findIn K (.ref CB) "__ne__" = some (some (.builtin "object.__ne__")))
    (b_ValueErrorX : PySem.W.nsIn K mainGlobals "ValueError" = some none)
    (zve : PySem.W.findCls K (.type "ValueError") (.type "type") "__init__" = some (.val (.builtin "ValueError.__init__")))
    (tin : PySem.W.typeIn K (.ref f0) = some (.type "function"))
    (zget : PySem.W.specialIn K (.builtin "object.__class__") "__get__" = some (some (.builtin "getset_descriptor.__get__")))
    (ztk : PySem.W.takesIn K (.builtin "object.__class__") = some true)
    (e0 : ExcF K c6 f0 c0)
    (e1 : ExcF K c6 f0 c1)
    (e2 : ExcF K c6 f0 c2)
    (e3 : ExcF K c6 f0 c3)
    (e4 : ExcF K c6 f0 c4)
    (e5 : ExcF K c6 f0 c5)
    (e6 : ExcF K c6 f0 c6)
    (nd : ([c0, c1, c2, c3, c4, c5, c6] : List Addr).Nodup)
    (hx40 : ((recsOf q).any fun d => d.name == "_law_is_judged") = true) :
    ∃ (fd : FuncData) (cs : List (Addr × Addr)) (sp : Sp), (∀ p ∈ cs, PySem.W.CodeHd h p.1 p.2 ∧ h.get? p.2 = some tab0) ∧ (∀ (s : Shared) (u : Value), BindsTo s fd ⟨[u], []⟩ [("_law_script", u)]) ∧
        (∀ (H : Hp) (a : Addr) (ns : List Int), ns.length ≤ 63 → (∀ p ∈ cs, H p.2 = some (.tbl #[])) → SqL K H a (ns.map V.int) → sp [.ref a] H (fun v _ => v = .bl true) fun _ _ _ => False) ∧
        ∀ base : Heap, K.In base → base.Ns mainGlobals mg → (∀ p ∈ cs, TabB base mg p.1 p.2) → GOk l.prog w K mg base CX0 21 fa fd ["_law_script"] sp := by
  have e := hfa.symm.trans (PySem.W.mg_of X G a42)
  cases e
  have F0 := fun_mk (st := s_E_init) l0 d0 k0
  have F1 := fun_mk (st := s_is_whole) l1 d1 k1
  have F2 := fun_mk (st := s_is_from) l2 d2 k2
  have F3 := fun_mk (st := s_is_between) l3 d3 k3
  have F4 := fun_mk (st := s_written) l4 d4 k4
  have F5 := fun_mk (st := s_number_in) l5 d5 k5
  have F6 := fun_mk (st := s_number_of) l6 d6 k6
  have F7 : FunD K "__init__" "Tie.__init__" (defArgs s_T_init) (defBody s_T_init) (defScope s_T_init) [.int 0] [("down", .bl false), ("backward", .bl false)] f7 (PySem.W.fnOf "__init__" "Tie.__init__" (defArgs s_T_init) (defBody s_T_init) (defScope s_T_init) (.ref aT7) (.ref aD7) dc7 pm7 an7 cd7 ct7) := by
    refine ⟨⟨_, _, _, _, _, _, _, _, _, _, rfl, l7, d7, .inr ⟨by decide, aT7, _, _, _, rfl, lT7, rfl, .cons ⟨_, rfl⟩ .nil⟩, .inr ⟨aD7, rfl, fun q hq => ?_⟩⟩, k7⟩
    simp only [List.mem_cons, List.not_mem_nil, or_false] at hq
    rcases hq with rfl | rfl
    · exact ⟨_, w7_down, rfl⟩
    · exact ⟨_, w7_backward, rfl⟩
  have F8 := fun_mk (st := s_T_of) l8 d8 k8
  have F9 := fun_mk (st := s_is_tie_within) l9 d9 k9
  have F10 := fun_mk (st := s_check_parts) l10 d10 k10
  have F11 := fun_mk (st := s_check_leading) l11 d11 k11
  have F12 := fun_mk (st := s_values_in) l12 d12 k12
  have F13 := fun_mk (st := s_numbers_behind) l13 d13 k13
  have F14 := fun_mk (st := s_tie_behind) l14 d14 k14
  have F15 := fun_mk (st := s_size_in) l15 d15 k15
  have F16 := fun_mk (st := s_tie_in) l16 d16 k16
  have F17 := fun_mk (st := s_note_in) l17 d17 k17
  have F18 := fun_mk (st := s_B_init) l18 d18 k18
  have F19 := fun_mk (st := s_contents) l19 d19 k19
  have F20 := fun_mk (st := s_first_ties) l20 d20 k20
  have F21 := fun_mk (st := s_first_notes) l21 d21 k21
  have F22 := fun_mk (st := s_has_note) l22 d22 k22
  have F23 := fun_mk (st := s_l_pot) l23 d23 k23
  have F24 := fun_mk (st := s_l_take) l24 d24 k24
  have F25 := fun_mk (st := s_l_of) l25 d25 k25
  have F26 := fun_mk (st := s_l_cells) l26 d26 k26
  have F27 := fun_mk (st := s_l_met_error) l27 d27 k27
  have F28 := fun_mk (st := s_l_amount) l28 d28 k28
  have F29 := fun_mk (st := s_l_row) l29 d29 k29
  have F30 := fun_mk (st := s_l_text_of) l30 d30 k30
  have F31 := fun_mk (st := s_l_figure) l31 d31 k31
  have F32 := fun_mk (st := s_l_row_told) l32 d32 k32
  have F33 := fun_mk (st := s_l_lore) l33 d33 k33
  have F34 := fun_mk (st := s_l_lines) l34 d34 k34
  have F35 := fun_mk (st := s_l_bent_line) l35 d35 k35
  have F36 := fun_mk (st := s_l_is_short) l36 d36 k36
  have F37 := fun_mk (st := s_l_note_told) l37 d37 k37
  have F38 := fun_mk (st := s_l_first_wrong) l38 d38 k38
  have F39 := fun_mk (st := s_l_bent_text) l39 d39 k39
  obtain ⟨cc40, PT40, ecd40, hcd40, htb40⟩ := tab_at tab X hx40 (PySem.W.mg_of X G a40) l40
  have ecd40' : cd40 = .ref cc40 := ecd40
  subst ecd40'
  have F40 : FunC K "_law_is_judged" "_law_is_judged" s_l_is_judged f40 (PySem.W.fnOf "_law_is_judged" "_law_is_judged" (defArgs s_l_is_judged) (defBody s_l_is_judged) (defScope s_l_is_judged) .none kV40 dc40 pm40 an40 (.ref cc40) ct40) cc40 := ⟨⟨_, _, _, _, _, _, _, _, rfl, l40, d40⟩, k40⟩
  have F41 := fun_mk (st := s_l_right) l41 d41 k41
  have F42 := fun_mk (st := s_law) l42 d42 k42
  have cs_all : ∀ i, i < 7 → ExcT K c6 f0 (([c0, c1, c2, c3, c4, c5, c6] : List Addr).getD i 0) := fun i hi => match i, hi with
    | 0, _ => e0.all zget ztk
    | 1, _ => e1.all zget ztk
    | 2, _ => e2.all zget ztk
    | 3, _ => e3.all zget ztk
    | 4, _ => e4.all zget ztk
    | 5, _ => e5.all zget ztk
    | 6, _ => e6.all zget ztk
    | i + 7, h => absurd h (by omega)
  have T : Txt K mg { pS := pS, f_E_init := f0, d_E_init := PySem.W.fnOf "__init__" "TuneError.__init__" (defArgs s_E_init) (defBody s_E_init) (defScope s_E_init) .none kV0 dc0 pm0 an0 cd0 ct0, f_is_whole := f1, d_is_whole := PySem.W.fnOf "is_whole" "is_whole" (defArgs s_is_whole) (defBody s_is_whole) (defScope s_is_whole) .none kV1 dc1 pm1 an1 cd1 ct1, f_is_from := f2, d_is_from := PySem.W.fnOf "is_from" "is_from" (defArgs s_is_from) (defBody s_is_from) (defScope s_is_from) .none kV2 dc2 pm2 an2 cd2 ct2, f_is_between := f3, d_is_between := PySem.W.fnOf "is_between" "is_between" (defArgs s_is_between) (defBody s_is_between) (defScope s_is_between) .none kV3 dc3 pm3 an3 cd3 ct3, f_written := f4, d_written := PySem.W.fnOf "written" "written" (defArgs s_written) (defBody s_written) (defScope s_written) .none kV4 dc4 pm4 an4 cd4 ct4, f_number_in := f5, d_number_in := PySem.W.fnOf "number_in" "number_in" (defArgs s_number_in) (defBody s_number_in) (defScope s_number_in) .none kV5 dc5 pm5 an5 cd5 ct5, f_number_of := f6, d_number_of := PySem.W.fnOf "_number_of" "_number_of" (defArgs s_number_of) (defBody s_number_of) (defScope s_number_of) .none kV6 dc6 pm6 an6 cd6 ct6, f_T_init := f7, d_T_init := PySem.W.fnOf "__init__" "Tie.__init__" (defArgs s_T_init) (defBody s_T_init) (defScope s_T_init) (.ref aT7) (.ref aD7) dc7 pm7 an7 cd7 ct7, f_T_of := f8, d_T_of := PySem.W.fnOf "of" "Tie.of" (defArgs s_T_of) (defBody s_T_of) (defScope s_T_of) .none kV8 dc8 pm8 an8 cd8 ct8, f_is_tie_within := f9, d_is_tie_within := PySem.W.fnOf "is_tie_within" "is_tie_within" (defArgs s_is_tie_within) (defBody s_is_tie_within) (defScope s_is_tie_within) .none kV9 dc9 pm9 an9 cd9 ct9, f_check_parts := f10, d_check_parts := PySem.W.fnOf "_check_parts" "_check_parts" (defArgs s_check_parts) (defBody s_check_parts) (defScope s_check_parts) .none kV10 dc10 pm10 an10 cd10 ct10, f_check_leading := f11, d_check_leading := PySem.W.fnOf "_check_leading" "_check_leading" (defArgs s_check_leading) (defBody s_check_leading) (defScope s_check_leading) .none kV11 dc11 pm11 an11 cd11 ct11, f_values_in := f12, d_values_in := PySem.W.fnOf "_values_in" "_values_in" (defArgs s_values_in) (defBody s_values_in) (defScope s_values_in) .none kV12 dc12 pm12 an12 cd12 ct12, f_numbers_behind := f13, d_numbers_behind := PySem.W.fnOf "numbers_behind" "numbers_behind" (defArgs s_numbers_behind) (defBody s_numbers_behind) (defScope s_numbers_behind) .none kV13 dc13 pm13 an13 cd13 ct13, f_tie_behind := f14, d_tie_behind := PySem.W.fnOf "tie_behind" "tie_behind" (defArgs s_tie_behind) (defBody s_tie_behind) (defScope s_tie_behind) .none kV14 dc14 pm14 an14 cd14 ct14, f_size_in := f15, d_size_in := PySem.W.fnOf "size_in" "size_in" (defArgs s_size_in) (defBody s_size_in) (defScope s_size_in) .none kV15 dc15 pm15 an15 cd15 ct15, f_tie_in := f16, d_tie_in := PySem.W.fnOf "tie_in" "tie_in" (defArgs s_tie_in) (defBody s_tie_in) (defScope s_tie_in) .none kV16 dc16 pm16 an16 cd16 ct16, f_note_in := f17, d_note_in := PySem.W.fnOf "note_in" "note_in" (defArgs s_note_in) (defBody s_note_in) (defScope s_note_in) .none kV17 dc17 pm17 an17 cd17 ct17, f_B_init := f18, d_B_init := PySem.W.fnOf "__init__" "Book.__init__" (defArgs s_B_init) (defBody s_B_init) (defScope s_B_init) .none kV18 dc18 pm18 an18 cd18 ct18, f_contents := f19, d_contents := PySem.W.fnOf "_contents" "_contents" (defArgs s_contents) (defBody s_contents) (defScope s_contents) .none kV19 dc19 pm19 an19 cd19 ct19, f_first_ties := f20, d_first_ties := PySem.W.fnOf "_first_ties" "_first_ties" (defArgs s_first_ties) (defBody s_first_ties) (defScope s_first_ties) .none kV20 dc20 pm20 an20 cd20 ct20, f_first_notes := f21, d_first_notes := PySem.W.fnOf "_first_notes" "_first_notes" (defArgs s_first_notes) (defBody s_first_notes) (defScope s_first_notes) .none kV21 dc21 pm21 an21 cd21 ct21, f_has_note := f22, d_has_note := PySem.W.fnOf "_has_note" "_has_note" (defArgs s_has_note) (defBody s_has_note) (defScope s_has_note) .none kV22 dc22 pm22 an22 cd22 ct22, f_l_pot := f23, d_l_pot := PySem.W.fnOf "_law_pot" "_law_pot" (defArgs s_l_pot) (defBody s_l_pot) (defScope s_l_pot) .none kV23 dc23 pm23 an23 cd23 ct23, f_l_take := f24, d_l_take := PySem.W.fnOf "_law_take" "_law_take" (defArgs s_l_take) (defBody s_l_take) (defScope s_l_take) .none kV24 dc24 pm24 an24 cd24 ct24, f_l_of := f25, d_l_of := PySem.W.fnOf "_law_of" "_law_of" (defArgs s_l_of) (defBody s_l_of) (defScope s_l_of) .none kV25 dc25 pm25 an25 cd25 ct25, f_l_cells := f26, d_l_cells := PySem.W.fnOf "_law_cells" "_law_cells" (defArgs s_l_cells) (defBody s_l_cells) (defScope s_l_cells) .none kV26 dc26 pm26 an26 cd26 ct26, f_l_met_error := f27, d_l_met_error := PySem.W.fnOf "_law_met_error" "_law_met_error" (defArgs s_l_met_error) (defBody s_l_met_error) (defScope s_l_met_error) .none kV27 dc27 pm27 an27 cd27 ct27, f_l_amount := f28, d_l_amount := PySem.W.fnOf "_law_amount" "_law_amount" (defArgs s_l_amount) (defBody s_l_amount) (defScope s_l_amount) .none kV28 dc28 pm28 an28 cd28 ct28, f_l_row := f29, d_l_row := PySem.W.fnOf "_law_row" "_law_row" (defArgs s_l_row) (defBody s_l_row) (defScope s_l_row) .none kV29 dc29 pm29 an29 cd29 ct29, f_l_text_of := f30, d_l_text_of := PySem.W.fnOf "_law_text_of" "_law_text_of" (defArgs s_l_text_of) (defBody s_l_text_of) (defScope s_l_text_of) .none kV30 dc30 pm30 an30 cd30 ct30, f_l_figure := f31, d_l_figure := PySem.W.fnOf "_law_figure" "_law_figure" (defArgs s_l_figure) (defBody s_l_figure) (defScope s_l_figure) .none kV31 dc31 pm31 an31 cd31 ct31, f_l_row_told := f32, d_l_row_told := PySem.W.fnOf "_law_row_told" "_law_row_told" (defArgs s_l_row_told) (defBody s_l_row_told) (defScope s_l_row_told) .none kV32 dc32 pm32 an32 cd32 ct32, f_l_lore := f33, d_l_lore := PySem.W.fnOf "_law_lore" "_law_lore" (defArgs s_l_lore) (defBody s_l_lore) (defScope s_l_lore) .none kV33 dc33 pm33 an33 cd33 ct33, f_l_lines := f34, d_l_lines := PySem.W.fnOf "_law_lines" "_law_lines" (defArgs s_l_lines) (defBody s_l_lines) (defScope s_l_lines) .none kV34 dc34 pm34 an34 cd34 ct34, f_l_bent_line := f35, d_l_bent_line := PySem.W.fnOf "_law_bent_line" "_law_bent_line" (defArgs s_l_bent_line) (defBody s_l_bent_line) (defScope s_l_bent_line) .none kV35 dc35 pm35 an35 cd35 ct35, f_l_is_short := f36, d_l_is_short := PySem.W.fnOf "_law_is_short" "_law_is_short" (defArgs s_l_is_short) (defBody s_l_is_short) (defScope s_l_is_short) .none kV36 dc36 pm36 an36 cd36 ct36, f_l_note_told := f37, d_l_note_told := PySem.W.fnOf "_law_note_told" "_law_note_told" (defArgs s_l_note_told) (defBody s_l_note_told) (defScope s_l_note_told) .none kV37 dc37 pm37 an37 cd37 ct37, f_l_first_wrong := f38, d_l_first_wrong := PySem.W.fnOf "_law_first_wrong" "_law_first_wrong" (defArgs s_l_first_wrong) (defBody s_l_first_wrong) (defScope s_l_first_wrong) .none kV38 dc38 pm38 an38 cd38 ct38, f_l_bent_text := f39, d_l_bent_text := PySem.W.fnOf "_law_bent_text" "_law_bent_text" (defArgs s_l_bent_text) (defBody s_l_bent_text) (defScope s_l_bent_text) .none kV39 dc39 pm39 an39 cd39 ct39, f_l_is_judged := f40, d_l_is_judged := PySem.W.fnOf "_law_is_judged" "_law_is_judged" (defArgs s_l_is_judged) (defBody s_l_is_judged) (defScope s_l_is_judged) .none kV40 dc40 pm40 an40 (.ref cc40) ct40, c_l_is_judged := cc40, t_l_is_judged := PT40, f_l_right := f41, d_l_right := PySem.W.fnOf "_law_right" "_law_right" (defArgs s_l_right) (defBody s_l_right) (defScope s_l_right) .none kV41 dc41 pm41 an41 cd41 ct41, f_law := fa, d_law := PySem.W.fnOf "law" "law" (defArgs s_law) (defBody s_law) (defScope s_law) .none kV42 dc42 pm42 an42 cd42 ct42, t_GREATEST := t_GREATEST, t__DIGITS := t__DIGITS, t__CHUNK := t__CHUNK, t_MOST := t_MOST, cC := C, cB := CB, c := fun i => ([c0, c1, c2, c3, c4, c5, c6] : List Addr).getD i 0 } := { g_BadPlace := PySem.W.mg_of X G ge0, g_BadLength := PySem.W.mg_of X G ge1, g_BadAmount := PySem.W.mg_of X G ge2, g_BadWay := PySem.W.mg_of X G ge3, g_BadText := PySem.W.mg_of X G ge4, g_BadBook := PySem.W.mg_of X G ge5, g_TuneError := PySem.W.mg_of X G ge6, F_E_init := F0, bn_E_init := F0.binds (ps := ["self", "value"]) fun _ _ _ _ _ _ us hl => match us, hl with | [_, _], _ => rfl, k_E_init := k0, i_E_init := i0, F_is_whole := F1, bn_is_whole := F1.binds (ps := ["value"]) fun _ _ _ _ _ _ us hl => match us, hl with | [_], _ => rfl, k_is_whole := k1, g_is_whole := PySem.W.mg_of X G a1, F_is_from := F2, bn_is_from := F2.binds (ps := ["value", "least"]) fun _ _ _ _ _ _ us hl => match us, hl with | [_, _], _ => rfl, k_is_from := k2, g_is_from := PySem.W.mg_of X G a2, F_is_between := F3, bn_is_between := F3.binds (ps := ["value", "least", "greatest"]) fun _ _ _ _ _ _ us hl => match us, hl with | [_, _, _], _ => rfl, k_is_between := k3, g_is_between := PySem.W.mg_of X G a3, F_written := F4, bn_written := F4.binds (ps := ["number"]) fun _ _ _ _ _ _ us hl => match us, hl with | [_], _ => rfl, k_written := k4, g_written := PySem.W.mg_of X G a4, F_number_in := F5, bn_number_in := F5.binds (ps := ["word"]) fun _ _ _ _ _ _ us hl => match us, hl with | [_], _ => rfl, k_number_in := k5, g_number_in := PySem.W.mg_of X G a5, F_number_of := F6, bn_number_of := F6.binds (ps := ["digits"]) fun _ _ _ _ _ _ us hl => match us, hl with | [_], _ => rfl, k_number_of := k6, g_number_of := PySem.W.mg_of X G a6, F_T_init := F7, k_T_init := k7, i_T_init := i7, a_T_init := a7, F_T_of := F8, bn_T_of := F8.binds (ps := ["text"]) fun _ _ _ _ _ _ us hl => match us, hl with | [_], _ => rfl, k_T_of := k8, i_T_of := i8, F_is_tie_within := F9, bn_is_tie_within := F9.binds (ps := ["value", "size"]) fun _ _ _ _ _ _ us hl => match us, hl with | [_, _], _ => rfl, k_is_tie_within := k9, g_is_tie_within := PySem.W.mg_of X G a9, F_check_parts := F10, bn_check_parts := F10.binds (ps := ["first", "second", "length"]) fun _ _ _ _ _ _ us hl => match us, hl with | [_, _, _], _ => rfl, k_check_parts := k10, g_check_parts := PySem.W.mg_of X G a10, F_check_leading := F11, bn_check_leading := F11.binds (ps := ["amount", "down", "backward"]) fun _ _ _ _ _ _ us hl => match us, hl with | [_, _, _], _ => rfl, k_check_leading := k11, g_check_leading := PySem.W.mg_of X G a11, F_values_in := F12, bn_values_in := F12.binds (ps := ["text"]) fun _ _ _ _ _ _ us hl => match us, hl with | [_], _ => rfl, k_values_in := k12, g_values_in := PySem.W.mg_of X G a12, F_numbers_behind := F13, bn_numbers_behind := F13.binds (ps := ["line", "word", "many"]) fun _ _ _ _ _ _ us hl => match us, hl with | [_, _, _], _ => rfl, k_numbers_behind := k13, g_numbers_behind := PySem.W.mg_of X G a13, F_tie_behind := F14, bn_tie_behind := F14.binds (ps := ["line", "word"]) fun _ _ _ _ _ _ us hl => match us, hl with | [_, _], _ => rfl, k_tie_behind := k14, g_tie_behind := PySem.W.mg_of X G a14, F_size_in := F15, bn_size_in := F15.binds (ps := ["line"]) fun _ _ _ _ _ _ us hl => match us, hl with | [_], _ => rfl, k_size_in := k15, g_size_in := PySem.W.mg_of X G a15, F_tie_in := F16, bn_tie_in := F16.binds (ps := ["line", "size"]) fun _ _ _ _ _ _ us hl => match us, hl with | [_, _], _ => rfl, k_tie_in := k16, g_tie_in := PySem.W.mg_of X G a16, F_note_in := F17, bn_note_in := F17.binds (ps := ["line", "size"]) fun _ _ _ _ _ _ us hl => match us, hl with | [_, _], _ => rfl, k_note_in := k17, g_note_in := PySem.W.mg_of X G a17, F_B_init := F18, bn_B_init := F18.binds (ps := ["self", "text"]) fun _ _ _ _ _ _ us hl => match us, hl with | [_, _], _ => rfl, k_B_init := k18, i_B_init := i18, a_B_init := a18, F_contents := F19, bn_contents := F19.binds (ps := ["text"]) fun _ _ _ _ _ _ us hl => match us, hl with | [_], _ => rfl, k_contents := k19, g_contents := PySem.W.mg_of X G a19, F_first_ties := F20, bn_first_ties := F20.binds (ps := ["lines", "size"]) fun _ _ _ _ _ _ us hl => match us, hl with | [_, _], _ => rfl, k_first_ties := k20, g_first_ties := PySem.W.mg_of X G a20, F_first_notes := F21, bn_first_notes := F21.binds (ps := ["lines", "size"]) fun _ _ _ _ _ _ us hl => match us, hl with | [_, _], _ => rfl, k_first_notes := k21, g_first_notes := PySem.W.mg_of X G a21, F_has_note := F22, bn_has_note := F22.binds (ps := ["notes", "place"]) fun _ _ _ _ _ _ us hl => match us, hl with | [_, _], _ => rfl, k_has_note := k22, g_has_note := PySem.W.mg_of X G a22, F_l_pot := F23, bn_l_pot := F23.binds (ps := ["_law_script", "_law_k"]) fun _ _ _ _ _ _ us hl => match us, hl with | [_, _], _ => rfl, k_l_pot := k23, g_l_pot := PySem.W.mg_of X G a23, F_l_take := F24, bn_l_take := F24.binds (ps := ["_law_pot_here", "_law_under"]) fun _ _ _ _ _ _ us hl => match us, hl with | [_, _], _ => rfl, k_l_take := k24, g_l_take := PySem.W.mg_of X G a24, F_l_of := F25, bn_l_of := F25.binds (ps := ["_law_pot_here", "_law_some"]) fun _ _ _ _ _ _ us hl => match us, hl with | [_, _], _ => rfl, k_l_of := k25, g_l_of := PySem.W.mg_of X G a25, F_l_cells := F26, bn_l_cells := F26.binds (ps := ["_law_script", "_law_most"]) fun _ _ _ _ _ _ us hl => match us, hl with | [_, _], _ => rfl, k_l_cells := k26, g_l_cells := PySem.W.mg_of X G a26, F_l_met_error := F27, bn_l_met_error := F27.binds (ps := ["_law_look"]) fun _ _ _ _ _ _ us hl => match us, hl with | [_], _ => rfl, k_l_met_error := k27, g_l_met_error := PySem.W.mg_of X G a27, F_l_amount := F28, bn_l_amount := F28.binds (ps := ["_law_pot_here"]) fun _ _ _ _ _ _ us hl => match us, hl with | [_], _ => rfl, k_l_amount := k28, g_l_amount := PySem.W.mg_of X G a28, F_l_row := F29, bn_l_row := F29.binds (ps := ["_law_pot_here", "_law_size"]) fun _ _ _ _ _ _ us hl => match us, hl with | [_, _], _ => rfl, k_l_row := k29, g_l_row := PySem.W.mg_of X G a29, F_l_text_of := F30, bn_l_text_of := F30.binds (ps := ["_law_row_here"]) fun _ _ _ _ _ _ us hl => match us, hl with | [_], _ => rfl, k_l_text_of := k30, g_l_text_of := PySem.W.mg_of X G a30, F_l_figure := F31, bn_l_figure := F31.binds (ps := ["_law_word"]) fun _ _ _ _ _ _ us hl => match us, hl with | [_], _ => rfl, k_l_figure := k31, g_l_figure := PySem.W.mg_of X G a31, F_l_row_told := F32, bn_l_row_told := F32.binds (ps := ["_law_text"]) fun _ _ _ _ _ _ us hl => match us, hl with | [_], _ => rfl, k_l_row_told := k32, g_l_row_told := PySem.W.mg_of X G a32, F_l_lore := F33, bn_l_lore := F33.binds (ps := ["_law_pot_here", "_law_most", "_law_ties", "_law_notes"]) fun _ _ _ _ _ _ us hl => match us, hl with | [_, _, _, _], _ => rfl, k_l_lore := k33, g_l_lore := PySem.W.mg_of X G a33, F_l_lines := F34, bn_l_lines := F34.binds (ps := ["_law_lore_here"]) fun _ _ _ _ _ _ us hl => match us, hl with | [_], _ => rfl, k_l_lines := k34, g_l_lines := PySem.W.mg_of X G a34, F_l_bent_line := F35, bn_l_bent_line := F35.binds (ps := ["_law_pot_here", "_law_line"]) fun _ _ _ _ _ _ us hl => match us, hl with | [_, _], _ => rfl, k_l_bent_line := k35, g_l_bent_line := PySem.W.mg_of X G a35, F_l_is_short := F36, bn_l_is_short := F36.binds (ps := ["_law_text"]) fun _ _ _ _ _ _ us hl => match us, hl with | [_], _ => rfl, k_l_is_short := k36, g_l_is_short := PySem.W.mg_of X G a36, F_l_note_told := F37, bn_l_note_told := F37.binds (ps := ["_law_line", "_law_size"]) fun _ _ _ _ _ _ us hl => match us, hl with | [_, _], _ => rfl, k_l_note_told := k37, g_l_note_told := PySem.W.mg_of X G a37, F_l_first_wrong := F38, bn_l_first_wrong := F38.binds (ps := ["_law_text"]) fun _ _ _ _ _ _ us hl => match us, hl with | [_], _ => rfl, k_l_first_wrong := k38, g_l_first_wrong := PySem.W.mg_of X G a38, F_l_bent_text := F39, bn_l_bent_text := F39.binds (ps := ["_law_pot_here", "_law_text"]) fun _ _ _ _ _ _ us hl => match us, hl with | [_, _], _ => rfl, k_l_bent_text := k39, g_l_bent_text := PySem.W.mg_of X G a39, F_l_is_judged := F40, bn_l_is_judged := F40.fn.binds (ps := ["_law_value"]) fun _ _ _ _ _ _ us hl => match us, hl with | [_], _ => rfl, k_l_is_judged := k40, g_l_is_judged := PySem.W.mg_of X G a40, F_l_right := F41, bn_l_right := F41.binds (ps := ["_law_pot_here"]) fun _ _ _ _ _ _ us hl => match us, hl with | [_], _ => rfl, k_l_right := k41, g_l_right := PySem.W.mg_of X G a41, F_law := F42, bn_law := F42.binds (ps := ["_law_script"]) fun _ _ _ _ _ _ us hl => match us, hl with | [_], _ => rfl, k_law := k42, g_law := PySem.W.mg_of X G a42, b_isinstance := PySem.W.mg_none_of X G b_isinstance, b_int := PySem.W.mg_none_of X G b_int, b_bool := PySem.W.mg_none_of X G b_bool, b_str := PySem.W.mg_none_of X G b_str, b_range := PySem.W.mg_none_of X G b_range, b_len := PySem.W.mg_none_of X G b_len, b_max := PySem.W.mg_none_of X G b_max, b_tuple := PySem.W.mg_none_of X G b_tuple, b_abs := PySem.W.mg_none_of X G b_abs, b_list := PySem.W.mg_none_of X G b_list, b_min := PySem.W.mg_none_of X G b_min, b_all := PySem.W.mg_none_of X G b_all, b_enumerate := PySem.W.mg_none_of X G b_enumerate, b_repr := PySem.W.mg_none_of X G b_repr, c_GREATEST := PySem.W.mg_of X G y_GREATEST, c__DIGITS := PySem.W.mg_of X G y__DIGITS, c__CHUNK := PySem.W.mg_of X G y__CHUNK, c_MOST := PySem.W.mg_of X G y_MOST, cl := ⟨pg, hd, po, sa⟩, g_C := PySem.W.mg_of X G aC, mkC := mkc, kC := kcc, n_first := n_first, n_second := n_second, n_length := n_length, n_amount := n_amount, n_down := n_down, n_backward := n_backward, n_text := n_text, clB := ⟨pgB, hdB, poB, saB⟩, g_Bk := PySem.W.mg_of X G aB, mkBc := mkcB, kB := kccB, nB_text := nB_text, nB_size := nB_size, nB_ties := nB_ties, nB_notes := nB_notes, z_cls := m_z_cls, z_mro := m_z_mro, z_kit := kit_self, z_ty := m_z_ty, z_clsB := m_z_clsB, z_mroB := m_z_mroB, z_kitB := kit_self, z_tyB := m_z_tyB, z_get := m_z_get, z_tk := m_z_tk, z_read := ⟨m_read, m_ga⟩, z_sta := ⟨m_sta, ⟨_, a8⟩, k8⟩, z_subN := m_z_subN, z_kitN := (kit_not m_z_mro m_z_ty m_z_subN), z_subT := m_z_subT, z_kitT := (kit_not m_z_mro m_z_ty m_z_subT), z_subL := m_z_subL, z_kitL := (kit_not m_z_mro m_z_ty m_z_subL), z_subD := m_z_subD, z_kitD := (kit_not m_z_mro m_z_ty m_z_subD), z_subI := m_z_subI, z_kitI := (kit_not m_z_mro m_z_ty m_z_subI), z_subO := m_z_subO, z_kitO := (kit_not m_z_mro m_z_ty m_z_subO), z_subS := m_z_subS, z_kitS := (kit_not m_z_mro m_z_ty m_z_subS), z_subIB := m_z_subIB, z_kitIB := (kit_not m_z_mroB m_z_tyB m_z_subIB), z_notIB := m_z_notIB, z_subSB := m_z_subSB, z_kitSB := (kit_not m_z_mroB m_z_tyB m_z_subSB), z_notSB := m_z_notSB, z_notT := m_z_notT, z_notTB := m_z_notTB, z_neB := m_z_neB, b_ValueError := PySem.W.mg_none_of X G b_ValueErrorX, z_ve := zve, t_E_init := tin, ex := fun i hi => cs_all i hi, nd := fun i j hi hj e => nd_at nd (by simpa using hi) (by simpa using hj) e }
  refine ⟨_, [(cc40, PT40)], sp_law K { pS := pS, f_E_init := f0, d_E_init := PySem.W.fnOf "__init__" "TuneError.__init__" (defArgs s_E_init) (defBody s_E_init) (defScope s_E_init) .none kV0 dc0 pm0 an0 cd0 ct0, f_is_whole := f1, d_is_whole := PySem.W.fnOf "is_whole" "is_whole" (defArgs s_is_whole) (defBody s_is_whole) (defScope s_is_whole) .none kV1 dc1 pm1 an1 cd1 ct1, f_is_from := f2, d_is_from := PySem.W.fnOf "is_from" "is_from" (defArgs s_is_from) (defBody s_is_from) (defScope s_is_from) .none kV2 dc2 pm2 an2 cd2 ct2, f_is_between := f3, d_is_between := PySem.W.fnOf "is_between" "is_between" (defArgs s_is_between) (defBody s_is_between) (defScope s_is_between) .none kV3 dc3 pm3 an3 cd3 ct3, f_written := f4, d_written := PySem.W.fnOf "written" "written" (defArgs s_written) (defBody s_written) (defScope s_written) .none kV4 dc4 pm4 an4 cd4 ct4, f_number_in := f5, d_number_in := PySem.W.fnOf "number_in" "number_in" (defArgs s_number_in) (defBody s_number_in) (defScope s_number_in) .none kV5 dc5 pm5 an5 cd5 ct5, f_number_of := f6, d_number_of := PySem.W.fnOf "_number_of" "_number_of" (defArgs s_number_of) (defBody s_number_of) (defScope s_number_of) .none kV6 dc6 pm6 an6 cd6 ct6, f_T_init := f7, d_T_init := PySem.W.fnOf "__init__" "Tie.__init__" (defArgs s_T_init) (defBody s_T_init) (defScope s_T_init) (.ref aT7) (.ref aD7) dc7 pm7 an7 cd7 ct7, f_T_of := f8, d_T_of := PySem.W.fnOf "of" "Tie.of" (defArgs s_T_of) (defBody s_T_of) (defScope s_T_of) .none kV8 dc8 pm8 an8 cd8 ct8, f_is_tie_within := f9, d_is_tie_within := PySem.W.fnOf "is_tie_within" "is_tie_within" (defArgs s_is_tie_within) (defBody s_is_tie_within) (defScope s_is_tie_within) .none kV9 dc9 pm9 an9 cd9 ct9, f_check_parts := f10, d_check_parts := PySem.W.fnOf "_check_parts" "_check_parts" (defArgs s_check_parts) (defBody s_check_parts) (defScope s_check_parts) .none kV10 dc10 pm10 an10 cd10 ct10, f_check_leading := f11, d_check_leading := PySem.W.fnOf "_check_leading" "_check_leading" (defArgs s_check_leading) (defBody s_check_leading) (defScope s_check_leading) .none kV11 dc11 pm11 an11 cd11 ct11, f_values_in := f12, d_values_in := PySem.W.fnOf "_values_in" "_values_in" (defArgs s_values_in) (defBody s_values_in) (defScope s_values_in) .none kV12 dc12 pm12 an12 cd12 ct12, f_numbers_behind := f13, d_numbers_behind := PySem.W.fnOf "numbers_behind" "numbers_behind" (defArgs s_numbers_behind) (defBody s_numbers_behind) (defScope s_numbers_behind) .none kV13 dc13 pm13 an13 cd13 ct13, f_tie_behind := f14, d_tie_behind := PySem.W.fnOf "tie_behind" "tie_behind" (defArgs s_tie_behind) (defBody s_tie_behind) (defScope s_tie_behind) .none kV14 dc14 pm14 an14 cd14 ct14, f_size_in := f15, d_size_in := PySem.W.fnOf "size_in" "size_in" (defArgs s_size_in) (defBody s_size_in) (defScope s_size_in) .none kV15 dc15 pm15 an15 cd15 ct15, f_tie_in := f16, d_tie_in := PySem.W.fnOf "tie_in" "tie_in" (defArgs s_tie_in) (defBody s_tie_in) (defScope s_tie_in) .none kV16 dc16 pm16 an16 cd16 ct16, f_note_in := f17, d_note_in := PySem.W.fnOf "note_in" "note_in" (defArgs s_note_in) (defBody s_note_in) (defScope s_note_in) .none kV17 dc17 pm17 an17 cd17 ct17, f_B_init := f18, d_B_init := PySem.W.fnOf "__init__" "Book.__init__" (defArgs s_B_init) (defBody s_B_init) (defScope s_B_init) .none kV18 dc18 pm18 an18 cd18 ct18, f_contents := f19, d_contents := PySem.W.fnOf "_contents" "_contents" (defArgs s_contents) (defBody s_contents) (defScope s_contents) .none kV19 dc19 pm19 an19 cd19 ct19, f_first_ties := f20, d_first_ties := PySem.W.fnOf "_first_ties" "_first_ties" (defArgs s_first_ties) (defBody s_first_ties) (defScope s_first_ties) .none kV20 dc20 pm20 an20 cd20 ct20, f_first_notes := f21, d_first_notes := PySem.W.fnOf "_first_notes" "_first_notes" (defArgs s_first_notes) (defBody s_first_notes) (defScope s_first_notes) .none kV21 dc21 pm21 an21 cd21 ct21, f_has_note := f22, d_has_note := PySem.W.fnOf "_has_note" "_has_note" (defArgs s_has_note) (defBody s_has_note) (defScope s_has_note) .none kV22 dc22 pm22 an22 cd22 ct22, f_l_pot := f23, d_l_pot := PySem.W.fnOf "_law_pot" "_law_pot" (defArgs s_l_pot) (defBody s_l_pot) (defScope s_l_pot) .none kV23 dc23 pm23 an23 cd23 ct23, f_l_take := f24, d_l_take := PySem.W.fnOf "_law_take" "_law_take" (defArgs s_l_take) (defBody s_l_take) (defScope s_l_take) .none kV24 dc24 pm24 an24 cd24 ct24, f_l_of := f25, d_l_of := PySem.W.fnOf "_law_of" "_law_of" (defArgs s_l_of) (defBody s_l_of) (defScope s_l_of) .none kV25 dc25 pm25 an25 cd25 ct25, f_l_cells := f26, d_l_cells := PySem.W.fnOf "_law_cells" "_law_cells" (defArgs s_l_cells) (defBody s_l_cells) (defScope s_l_cells) .none kV26 dc26 pm26 an26 cd26 ct26, f_l_met_error := f27, d_l_met_error := PySem.W.fnOf "_law_met_error" "_law_met_error" (defArgs s_l_met_error) (defBody s_l_met_error) (defScope s_l_met_error) .none kV27 dc27 pm27 an27 cd27 ct27, f_l_amount := f28, d_l_amount := PySem.W.fnOf "_law_amount" "_law_amount" (defArgs s_l_amount) (defBody s_l_amount) (defScope s_l_amount) .none kV28 dc28 pm28 an28 cd28 ct28, f_l_row := f29, d_l_row := PySem.W.fnOf "_law_row" "_law_row" (defArgs s_l_row) (defBody s_l_row) (defScope s_l_row) .none kV29 dc29 pm29 an29 cd29 ct29, f_l_text_of := f30, d_l_text_of := PySem.W.fnOf "_law_text_of" "_law_text_of" (defArgs s_l_text_of) (defBody s_l_text_of) (defScope s_l_text_of) .none kV30 dc30 pm30 an30 cd30 ct30, f_l_figure := f31, d_l_figure := PySem.W.fnOf "_law_figure" "_law_figure" (defArgs s_l_figure) (defBody s_l_figure) (defScope s_l_figure) .none kV31 dc31 pm31 an31 cd31 ct31, f_l_row_told := f32, d_l_row_told := PySem.W.fnOf "_law_row_told" "_law_row_told" (defArgs s_l_row_told) (defBody s_l_row_told) (defScope s_l_row_told) .none kV32 dc32 pm32 an32 cd32 ct32, f_l_lore := f33, d_l_lore := PySem.W.fnOf "_law_lore" "_law_lore" (defArgs s_l_lore) (defBody s_l_lore) (defScope s_l_lore) .none kV33 dc33 pm33 an33 cd33 ct33, f_l_lines := f34, d_l_lines := PySem.W.fnOf "_law_lines" "_law_lines" (defArgs s_l_lines) (defBody s_l_lines) (defScope s_l_lines) .none kV34 dc34 pm34 an34 cd34 ct34, f_l_bent_line := f35, d_l_bent_line := PySem.W.fnOf "_law_bent_line" "_law_bent_line" (defArgs s_l_bent_line) (defBody s_l_bent_line) (defScope s_l_bent_line) .none kV35 dc35 pm35 an35 cd35 ct35, f_l_is_short := f36, d_l_is_short := PySem.W.fnOf "_law_is_short" "_law_is_short" (defArgs s_l_is_short) (defBody s_l_is_short) (defScope s_l_is_short) .none kV36 dc36 pm36 an36 cd36 ct36, f_l_note_told := f37, d_l_note_told := PySem.W.fnOf "_law_note_told" "_law_note_told" (defArgs s_l_note_told) (defBody s_l_note_told) (defScope s_l_note_told) .none kV37 dc37 pm37 an37 cd37 ct37, f_l_first_wrong := f38, d_l_first_wrong := PySem.W.fnOf "_law_first_wrong" "_law_first_wrong" (defArgs s_l_first_wrong) (defBody s_l_first_wrong) (defScope s_l_first_wrong) .none kV38 dc38 pm38 an38 cd38 ct38, f_l_bent_text := f39, d_l_bent_text := PySem.W.fnOf "_law_bent_text" "_law_bent_text" (defArgs s_l_bent_text) (defBody s_l_bent_text) (defScope s_l_bent_text) .none kV39 dc39 pm39 an39 cd39 ct39, f_l_is_judged := f40, d_l_is_judged := PySem.W.fnOf "_law_is_judged" "_law_is_judged" (defArgs s_l_is_judged) (defBody s_l_is_judged) (defScope s_l_is_judged) .none kV40 dc40 pm40 an40 (.ref cc40) ct40, c_l_is_judged := cc40, t_l_is_judged := PT40, f_l_right := f41, d_l_right := PySem.W.fnOf "_law_right" "_law_right" (defArgs s_l_right) (defBody s_l_right) (defScope s_l_right) .none kV41 dc41 pm41 an41 cd41 ct41, f_law := fa, d_law := PySem.W.fnOf "law" "law" (defArgs s_law) (defBody s_law) (defScope s_law) .none kV42 dc42 pm42 an42 cd42 ct42, t_GREATEST := t_GREATEST, t__DIGITS := t__DIGITS, t__CHUNK := t__CHUNK, t_MOST := t_MOST, cC := C, cB := CB, c := fun i => ([c0, c1, c2, c3, c4, c5, c6] : List Addr).getD i 0 }, fun p hp => ?_, fun s v => .of_eq rfl, fun H a ns hl hT hS => ⟨a, ns, rfl, hS, hl, fun p hp => ?_, fun _ => rfl⟩, fun base _ _ hTB => ok_law T (hTB (cc40, PT40) (by simp))⟩
  · simp only [List.mem_cons, List.not_mem_nil, or_false] at hp
    rcases hp with rfl
    · exact ⟨hcd40, htb40⟩
  · simp only [tabs, List.mem_cons, List.not_mem_nil, or_false] at hp
    rcases hp with rfl
    · exact TabS.nil (hT (cc40, PT40) (by simp))
end TT

set_option Elab.async false
set_option linter.all false
open PySem PySem.W PyProof.Rows
set_option maxRecDepth 100000 in
set_option maxHeartbeats 0 in
theorem PySem.Challenge.cw_turnedtunes_k10_the_first_wrong_line_of_holds : PySem.Challenge.rw_turnedtunes_k10_the_first_wrong_line_of.Holds := by
  w_on; o_law; k_head; (case hw => w_witness2)
  k_fill
  refine TT.walk_gT (n := 63) (k := 21) (x := "_law_script") (l := PySem.Challenge.rw_turnedtunes_k10_the_first_wrong_line_of) rfl (by decide) rfl ⟨rfl, by decide, by decide⟩ (fun w h Y => by first | exact PySem.W.km_in_of Y | exact PySem.W.kIn_of Y) (fun w => by kernel_rfl) ?F
  case F =>
    intro w mg fa h KX G hmg tab
    refine' TT.all_mk KX G hmg tab ?zz_aC ?zz_aB ?zz_m_read ?zz_m_ga ?zz_m_sta ?zz_ge0 ?zz_ge1 ?zz_ge2 ?zz_ge3 ?zz_ge4 ?zz_ge5 ?zz_ge6 ?zz_hin ?zz_i0 ?zz_l0 ?zz_d0 ?zz_k0 ?zz_a1 ?zz_l1 ?zz_d1 ?zz_k1 ?zz_a2 ?zz_l2 ?zz_d2 ?zz_k2 ?zz_a3 ?zz_l3 ?zz_d3 ?zz_k3 ?zz_a4 ?zz_l4 ?zz_d4 ?zz_k4 ?zz_a5 ?zz_l5 ?zz_d5 ?zz_k5 ?zz_a6 ?zz_l6 ?zz_d6 ?zz_k6 ?zz_a7 ?zz_i7 ?zz_l7 ?zz_d7 ?zz_k7 ?zz_lT7 ?zz_w7_down ?zz_w7_backward ?zz_a8 ?zz_i8 ?zz_l8 ?zz_d8 ?zz_k8 ?zz_a9 ?zz_l9 ?zz_d9 ?zz_k9 ?zz_a10 ?zz_l10 ?zz_d10 ?zz_k10 ?zz_a11 ?zz_l11 ?zz_d11 ?zz_k11 ?zz_a12 ?zz_l12 ?zz_d12 ?zz_k12 ?zz_a13 ?zz_l13 ?zz_d13 ?zz_k13 ?zz_a14 ?zz_l14 ?zz_d14 ?zz_k14 ?zz_a15 ?zz_l15 ?zz_d15 ?zz_k15 ?zz_a16 ?zz_l16 ?zz_d16 ?zz_k16 ?zz_a17 ?zz_l17 ?zz_d17 ?zz_k17 ?zz_a18 ?zz_i18 ?zz_l18 ?zz_d18 ?zz_k18 ?zz_a19 ?zz_l19 ?zz_d19 ?zz_k19 ?zz_a20 ?zz_l20 ?zz_d20 ?zz_k20 ?zz_a21 ?zz_l21 ?zz_d21 ?zz_k21 ?zz_a22 ?zz_l22 ?zz_d22 ?zz_k22 ?zz_a23 ?zz_l23 ?zz_d23 ?zz_k23 ?zz_a24 ?zz_l24 ?zz_d24 ?zz_k24 ?zz_a25 ?zz_l25 ?zz_d25 ?zz_k25 ?zz_a26 ?zz_l26 ?zz_d26 ?zz_k26 ?zz_a27 ?zz_l27 ?zz_d27 ?zz_k27 ?zz_a28 ?zz_l28 ?zz_d28 ?zz_k28 ?zz_a29 ?zz_l29 ?zz_d29 ?zz_k29 ?zz_a30 ?zz_l30 ?zz_d30 ?zz_k30 ?zz_a31 ?zz_l31 ?zz_d31 ?zz_k31 ?zz_a32 ?zz_l32 ?zz_d32 ?zz_k32 ?zz_a33 ?zz_l33 ?zz_d33 ?zz_k33 ?zz_a34 ?zz_l34 ?zz_d34 ?zz_k34 ?zz_a35 ?zz_l35 ?zz_d35 ?zz_k35 ?zz_a36 ?zz_l36 ?zz_d36 ?zz_k36 ?zz_a37 ?zz_l37 ?zz_d37 ?zz_k37 ?zz_a38 ?zz_l38 ?zz_d38 ?zz_k38 ?zz_a39 ?zz_l39 ?zz_d39 ?zz_k39 ?zz_a40 ?zz_l40 ?zz_d40 ?zz_k40 ?zz_a41 ?zz_l41 ?zz_d41 ?zz_k41 ?zz_a42 ?zz_l42 ?zz_d42 ?zz_k42 ?zz_b_isinstance ?zz_b_int ?zz_b_bool ?zz_b_str ?zz_b_range ?zz_b_len ?zz_b_max ?zz_b_tuple ?zz_b_abs ?zz_b_list ?zz_b_min ?zz_b_all ?zz_b_enumerate ?zz_b_repr ?zz_y_GREATEST ?zz_y__DIGITS ?zz_y__CHUNK ?zz_y_MOST ?zz_pg ?zz_hd ?zz_po ?zz_sa ?zz_mkc ?zz_kcc ?zz_n_first ?zz_n_second ?zz_n_length ?zz_n_amount ?zz_n_down ?zz_n_backward ?zz_n_text ?zz_pgB ?zz_hdB ?zz_poB ?zz_saB ?zz_mkcB ?zz_kccB ?zz_nB_text ?zz_nB_size ?zz_nB_ties ?zz_nB_notes ?zz_m_z_cls ?zz_m_z_mro ?zz_m_z_ty ?zz_m_z_clsB ?zz_m_z_mroB ?zz_m_z_tyB ?zz_m_z_get ?zz_m_z_tk ?zz_m_z_subN ?zz_m_z_subT ?zz_m_z_subL ?zz_m_z_subD ?zz_m_z_subI ?zz_m_z_subO ?zz_m_z_subS ?zz_m_z_subIB ?zz_m_z_notIB ?zz_m_z_subSB ?zz_m_z_notSB ?zz_m_z_notT ?zz_m_z_notTB ?zz_m_z_neB ?zz_b_ValueErrorX ?zz_zve ?zz_tin ?zz_zget ?zz_ztk ?zz_e0 ?zz_e1 ?zz_e2 ?zz_e3 ?zz_e4 ?zz_e5 ?zz_e6 ?zz_nd ?zz_hx40
    (case zz_aC => k_is)
    (case zz_aB => k_is)
    (case zz_m_read => k_is)
    (case zz_m_ga => k_is)
    (case zz_m_sta => k_is)
    (case zz_ge0 => k_is)
    (case zz_ge1 => k_is)
    (case zz_ge2 => k_is)
    (case zz_ge3 => k_is)
    (case zz_ge4 => k_is)
    (case zz_ge5 => k_is)
    (case zz_ge6 => k_is)
    (case zz_hin => k_is)
    (case zz_i0 => k_is)
    (case zz_l0 => k_is)
    (case zz_d0 => k_is)
    (case zz_k0 => k_is)
    (case zz_a1 => k_is)
    (case zz_l1 => k_is)
    (case zz_d1 => k_is)
    (case zz_k1 => k_is)
    (case zz_a2 => k_is)
    (case zz_l2 => k_is)
    (case zz_d2 => k_is)
    (case zz_k2 => k_is)
    (case zz_a3 => k_is)
    (case zz_l3 => k_is)
    (case zz_d3 => k_is)
    (case zz_k3 => k_is)
    (case zz_a4 => k_is)
    (case zz_l4 => k_is)
    (case zz_d4 => k_is)
    (case zz_k4 => k_is)
    (case zz_a5 => k_is)
    (case zz_l5 => k_is)
    (case zz_d5 => k_is)
    (case zz_k5 => k_is)
    (case zz_a6 => k_is)
    (case zz_l6 => k_is)
    (case zz_d6 => k_is)
    (case zz_k6 => k_is)
    (case zz_a7 => k_is)
    (case zz_i7 => k_is)
    (case zz_l7 => k_is)
    (case zz_d7 => k_is)
    (case zz_k7 => k_is)
    (case zz_lT7 => k_is)
    (case zz_w7_down => k_is)
    (case zz_w7_backward => k_is)
    (case zz_a8 => k_is)
    (case zz_i8 => k_is)
    (case zz_l8 => k_is)
    (case zz_d8 => k_is)
    (case zz_k8 => k_is)
    (case zz_a9 => k_is)
    (case zz_l9 => k_is)
    (case zz_d9 => k_is)
    (case zz_k9 => k_is)
    (case zz_a10 => k_is)
    (case zz_l10 => k_is)
    (case zz_d10 => k_is)
    (case zz_k10 => k_is)
    (case zz_a11 => k_is)
    (case zz_l11 => k_is)
    (case zz_d11 => k_is)
    (case zz_k11 => k_is)
    (case zz_a12 => k_is)
    (case zz_l12 => k_is)
    (case zz_d12 => k_is)
    (case zz_k12 => k_is)
    (case zz_a13 => k_is)
    (case zz_l13 => k_is)
    (case zz_d13 => k_is)
    (case zz_k13 => k_is)
    (case zz_a14 => k_is)
    (case zz_l14 => k_is)
    (case zz_d14 => k_is)
    (case zz_k14 => k_is)
    (case zz_a15 => k_is)
    (case zz_l15 => k_is)
    (case zz_d15 => k_is)
    (case zz_k15 => k_is)
    (case zz_a16 => k_is)
    (case zz_l16 => k_is)
    (case zz_d16 => k_is)
    (case zz_k16 => k_is)
    (case zz_a17 => k_is)
    (case zz_l17 => k_is)
    (case zz_d17 => k_is)
    (case zz_k17 => k_is)
    (case zz_a18 => k_is)
    (case zz_i18 => k_is)
    (case zz_l18 => k_is)
    (case zz_d18 => k_is)
    (case zz_k18 => k_is)
    (case zz_a19 => k_is)
    (case zz_l19 => k_is)
    (case zz_d19 => k_is)
    (case zz_k19 => k_is)
    (case zz_a20 => k_is)
    (case zz_l20 => k_is)
    (case zz_d20 => k_is)
    (case zz_k20 => k_is)
    (case zz_a21 => k_is)
    (case zz_l21 => k_is)
    (case zz_d21 => k_is)
    (case zz_k21 => k_is)
    (case zz_a22 => k_is)
    (case zz_l22 => k_is)
    (case zz_d22 => k_is)
    (case zz_k22 => k_is)
    (case zz_a23 => k_is)
    (case zz_l23 => k_is)
    (case zz_d23 => k_is)
    (case zz_k23 => k_is)
    (case zz_a24 => k_is)
    (case zz_l24 => k_is)
    (case zz_d24 => k_is)
    (case zz_k24 => k_is)
    (case zz_a25 => k_is)
    (case zz_l25 => k_is)
    (case zz_d25 => k_is)
    (case zz_k25 => k_is)
    (case zz_a26 => k_is)
    (case zz_l26 => k_is)
    (case zz_d26 => k_is)
    (case zz_k26 => k_is)
    (case zz_a27 => k_is)
    (case zz_l27 => k_is)
    (case zz_d27 => k_is)
    (case zz_k27 => k_is)
    (case zz_a28 => k_is)
    (case zz_l28 => k_is)
    (case zz_d28 => k_is)
    (case zz_k28 => k_is)
    (case zz_a29 => k_is)
    (case zz_l29 => k_is)
    (case zz_d29 => k_is)
    (case zz_k29 => k_is)
    (case zz_a30 => k_is)
    (case zz_l30 => k_is)
    (case zz_d30 => k_is)
    (case zz_k30 => k_is)
    (case zz_a31 => k_is)
    (case zz_l31 => k_is)
    (case zz_d31 => k_is)
    (case zz_k31 => k_is)
    (case zz_a32 => k_is)
    (case zz_l32 => k_is)
    (case zz_d32 => k_is)
    (case zz_k32 => k_is)
    (case zz_a33 => k_is)
    (case zz_l33 => k_is)
    (case zz_d33 => k_is)
    (case zz_k33 => k_is)
    (case zz_a34 => k_is)
    (case zz_l34 => k_is)
    (case zz_d34 => k_is)
    (case zz_k34 => k_is)
    (case zz_a35 => k_is)
    (case zz_l35 => k_is)
    (case zz_d35 => k_is)
    (case zz_k35 => k_is)
    (case zz_a36 => k_is)
    (case zz_l36 => k_is)
    (case zz_d36 => k_is)
    (case zz_k36 => k_is)
    (case zz_a37 => k_is)
    (case zz_l37 => k_is)
    (case zz_d37 => k_is)
    (case zz_k37 => k_is)
    (case zz_a38 => k_is)
    (case zz_l38 => k_is)
    (case zz_d38 => k_is)
    (case zz_k38 => k_is)
    (case zz_a39 => k_is)
    (case zz_l39 => k_is)
    (case zz_d39 => k_is)
    (case zz_k39 => k_is)
    (case zz_a40 => k_is)
    (case zz_l40 => k_is)
    (case zz_d40 => k_is)
    (case zz_k40 => k_is)
    (case zz_a41 => k_is)
    (case zz_l41 => k_is)
    (case zz_d41 => k_is)
    (case zz_k41 => k_is)
    (case zz_a42 => k_is)
    (case zz_l42 => k_is)
    (case zz_d42 => k_is)
    (case zz_k42 => k_is)
    (case zz_b_isinstance => k_is)
    (case zz_b_int => k_is)
    (case zz_b_bool => k_is)
    (case zz_b_str => k_is)
    (case zz_b_range => k_is)
    (case zz_b_len => k_is)
    (case zz_b_max => k_is)
    (case zz_b_tuple => k_is)
    (case zz_b_abs => k_is)
    (case zz_b_list => k_is)
    (case zz_b_min => k_is)
    (case zz_b_all => k_is)
    (case zz_b_enumerate => k_is)
    (case zz_b_repr => k_is)
    (case zz_y_GREATEST => k_is)
    (case zz_y__DIGITS => k_is)
    (case zz_y__CHUNK => k_is)
    (case zz_y_MOST => k_is)
    (case zz_pg => k_is)
    (case zz_hd => k_is)
    (case zz_po => k_is)
    (case zz_sa => k_is)
    (case zz_mkc => k_is)
    (case zz_kcc => k_is)
    (case zz_n_first => k_is)
    (case zz_n_second => k_is)
    (case zz_n_length => k_is)
    (case zz_n_amount => k_is)
    (case zz_n_down => k_is)
    (case zz_n_backward => k_is)
    (case zz_n_text => k_is)
    (case zz_pgB => k_is)
    (case zz_hdB => k_is)
    (case zz_poB => k_is)
    (case zz_saB => k_is)
    (case zz_mkcB => k_is)
    (case zz_kccB => k_is)
    (case zz_nB_text => k_is)
    (case zz_nB_size => k_is)
    (case zz_nB_ties => k_is)
    (case zz_nB_notes => k_is)
    (case zz_m_z_cls => k_is)
    (case zz_m_z_mro => k_is)
    (case zz_m_z_ty => k_is)
    (case zz_m_z_clsB => k_is)
    (case zz_m_z_mroB => k_is)
    (case zz_m_z_tyB => k_is)
    (case zz_m_z_get => k_is)
    (case zz_m_z_tk => k_is)
    (case zz_m_z_subN => k_is)
    (case zz_m_z_subT => k_is)
    (case zz_m_z_subL => k_is)
    (case zz_m_z_subD => k_is)
    (case zz_m_z_subI => k_is)
    (case zz_m_z_subO => k_is)
    (case zz_m_z_subS => k_is)
    (case zz_m_z_subIB => k_is)
    (case zz_m_z_notIB => k_is)
    (case zz_m_z_subSB => k_is)
    (case zz_m_z_notSB => k_is)
    (case zz_m_z_notT => k_is)
    (case zz_m_z_notTB => k_is)
    (case zz_m_z_neB => k_is)
    (case zz_b_ValueErrorX => k_is)
    (case zz_zve => k_is)
    (case zz_tin => k_is)
    (case zz_zget => k_is)
    (case zz_ztk => k_is)
    (case zz_e0 => (refine' TT.excF_mk ?zx0_xL rfl ?zx0_sa ?zx0_tyC ?zx0_kC ?zx0_ga ?zx0_gg ?zx0_ha ?zx0_ini ?zx0_nv; (case zx0_xL => k_is); (case zx0_sa => k_is); (case zx0_tyC => k_is); (case zx0_kC => k_is); (case zx0_ga => k_is); (case zx0_gg => k_is); (case zx0_ha => k_is); (case zx0_ini => k_is); (case zx0_nv => k_is)))
    (case zz_e1 => (refine' TT.excF_mk ?zx1_xL rfl ?zx1_sa ?zx1_tyC ?zx1_kC ?zx1_ga ?zx1_gg ?zx1_ha ?zx1_ini ?zx1_nv; (case zx1_xL => k_is); (case zx1_sa => k_is); (case zx1_tyC => k_is); (case zx1_kC => k_is); (case zx1_ga => k_is); (case zx1_gg => k_is); (case zx1_ha => k_is); (case zx1_ini => k_is); (case zx1_nv => k_is)))
    (case zz_e2 => (refine' TT.excF_mk ?zx2_xL rfl ?zx2_sa ?zx2_tyC ?zx2_kC ?zx2_ga ?zx2_gg ?zx2_ha ?zx2_ini ?zx2_nv; (case zx2_xL => k_is); (case zx2_sa => k_is); (case zx2_tyC => k_is); (case zx2_kC => k_is); (case zx2_ga => k_is); (case zx2_gg => k_is); (case zx2_ha => k_is); (case zx2_ini => k_is); (case zx2_nv => k_is)))
    (case zz_e3 => (refine' TT.excF_mk ?zx3_xL rfl ?zx3_sa ?zx3_tyC ?zx3_kC ?zx3_ga ?zx3_gg ?zx3_ha ?zx3_ini ?zx3_nv; (case zx3_xL => k_is); (case zx3_sa => k_is); (case zx3_tyC => k_is); (case zx3_kC => k_is); (case zx3_ga => k_is); (case zx3_gg => k_is); (case zx3_ha => k_is); (case zx3_ini => k_is); (case zx3_nv => k_is)))
    (case zz_e4 => (refine' TT.excF_mk ?zx4_xL rfl ?zx4_sa ?zx4_tyC ?zx4_kC ?zx4_ga ?zx4_gg ?zx4_ha ?zx4_ini ?zx4_nv; (case zx4_xL => k_is); (case zx4_sa => k_is); (case zx4_tyC => k_is); (case zx4_kC => k_is); (case zx4_ga => k_is); (case zx4_gg => k_is); (case zx4_ha => k_is); (case zx4_ini => k_is); (case zx4_nv => k_is)))
    (case zz_e5 => (refine' TT.excF_mk ?zx5_xL rfl ?zx5_sa ?zx5_tyC ?zx5_kC ?zx5_ga ?zx5_gg ?zx5_ha ?zx5_ini ?zx5_nv; (case zx5_xL => k_is); (case zx5_sa => k_is); (case zx5_tyC => k_is); (case zx5_kC => k_is); (case zx5_ga => k_is); (case zx5_gg => k_is); (case zx5_ha => k_is); (case zx5_ini => k_is); (case zx5_nv => k_is)))
    (case zz_e6 => (refine' TT.excF_mk ?zx6_xL rfl ?zx6_sa ?zx6_tyC ?zx6_kC ?zx6_ga ?zx6_gg ?zx6_ha ?zx6_ini ?zx6_nv; (case zx6_xL => k_is); (case zx6_sa => k_is); (case zx6_tyC => k_is); (case zx6_kC => k_is); (case zx6_ga => k_is); (case zx6_gg => k_is); (case zx6_ha => k_is); (case zx6_ini => k_is); (case zx6_nv => k_is)))
    (case zz_nd => decide +kernel)
    (case zz_hx40 => kernel_rfl)
#print axioms PySem.Challenge.cw_turnedtunes_k10_the_first_wrong_line_of_holds
