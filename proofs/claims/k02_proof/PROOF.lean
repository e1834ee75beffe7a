import PyProof.Rows.All
import Wide.All
import OpenK.AllK
import Wide.FinOn
import HandS.Base
import HandS.Call
import HandS.List
import HandS.Comp
import HandS.Iter
import HandS.Text
import HandS.Ends
import HandS.Words
import HandS.WordsExc
import HandS.Wide
import HandS.FStr
import HandS.IsInst
import HandS.Defaults
import HandS.MakeKwOnly
import HandS.OwnEq
import HandS.TupAny
import HandS.Style
import HandS.Conv
import HandS.Star
import HandS.Dict
import HandS.More
import HandS.Exc
import HandS.ExcInit
import HandS.ExcIs
import HandS.ExcField
import HandS.DeepEq
import HandS.Deep
import HandS.Lambda
import HandS.EndTab
import PyProof.EqAt
import PyProof.EqKinds
import PyProof.TupleCall
import PyProof.ReprRoads
import PyProof.LongRange
import PyProof.ListRange
import PyProof.NeKinds
import KE.DataMinMax
import HandS.StrMore
import HandS.Codes
import KE.IntTextLaws
import HandS.ClsMeth
import HandS.ExcOwn
import HandS.TryOnly
import HandS.TryMany
import HandS.ExcCtx
import HandS.Hot
import HandS.HotCalls
import HandS.SuiteRaise
import HandS.RaiseFrom
import HandS.ExcInitHot
import KE.KTryMore
import HandS.MakeKw
import PySem.Challenge.RW_turnedtunes_k02_texts_of_ties
set_option Elab.async false
set_option linter.all false
set_option maxRecDepth 100000
set_option maxHeartbeats 4000000
/-! Rules of our own over the hand layer: powers of great ints, repr of data, own unary operators, promises that know that no repr is under way. -/
namespace TT
open PySem PySem.Spec PyProof.Rows L2
section
variable {X : Cx}
/-- a ** b of any size that fits -/
theorem op_powW : OpR X (binaryOp .Pow) (rI (fun i j => 0 ≤ j ∧ (Builtin.Int.intBits i : Int) * j ≤ 2 ^ 27) fun i j => .int (i ^ j.toNat)) :=
  opI fun _ _ _ _ _ _ _ hc q => pow_int hc.1 hc.2 q

/-- repr(x), x data without dicts -/
def rRepr (K : PySem.W.Frag) : List V → Hp → VK → Prop := fun xs H Q => ∃ (x : V) (d : PyData), xs = [x] ∧ Dp K H x d ∧ d.showable = true ∧ d.hasDict = false ∧ d.depth ≤ 60 ∧ d.shown.length ≤ sizeLine ∧ Q (.str d.shown) H
theorem call_repr (hg : X.A.guards = some []) (hu : X.A.units + 64 < cLine) : CallR X (.builtin "repr") (rRepr X.K) := by
  intro pins s σ H xs us Q I r h
  obtain ⟨x, d, rfl, hd, hs, hn, hdep, hz, q⟩ := h
  obtain ⟨u, rfl, rx⟩ : ∃ u, us = [u] ∧ RelV x u := by
    cases r with
    | cons a b => cases b; exact ⟨_, rfl, a⟩
  obtain ⟨as, rd⟩ := Dp.reads I d x u hd rx
  have fin : ∀ h' tk u', (∀ b o, s.heap.get? b = some o → h'.get? b = some o) → EP X pins σ Q (.str d.shown u') { s with heap := h', toks := tk } :=
    fun h' tk u' hk => ⟨.str d.shown, H, I.kept hk, ⟨_, rfl⟩, q⟩
  cases hd with
  | non => obtain rfl := rx; exact PySem.P.repr_of_none (fin s.heap _ _ fun _ _ e => e)
  | bl b => obtain rfl := rx; exact PySem.P.repr_of_bool (fin s.heap _ _ fun _ _ e => e)
  | int i => obtain ⟨t, rfl⟩ := rx; exact PySem.P.repr_of_int (by simpa [PyData.showable] using hs) (fin s.heap _ _ fun _ _ e => e)
  | str y => obtain ⟨t, rfl⟩ := rx; exact PySem.P.repr_of_str (fin s.heap _ _ fun _ _ e => e) hz
  | lst h1 h2 =>
    obtain rfl := rx
    exact repr_of_reads' rd hs (PyData.noDict_hsm hn) hg (by omega) (fun _ _ e => e) (fun h' u tk hk => fin h' tk u hk) hz
  | tup h1 h2 =>
    obtain rfl := rx
    exact repr_of_reads' rd hs (PyData.noDict_hsm hn) hg (by omega) (fun _ _ e => e) (fun h' u tk hk => fin h' tk u hk) hz
end

/-! ### promises that know that no repr is under way -/
/-- the def at f keeps sp wherever it is called while no repr runs -/
structure GOk (P : Program) (w : World) (K : PySem.W.Frag) (mg : Str → Option Value) (base : Heap) (CX : CXT) (k : Nat) (f : Addr) (fd : FuncData) (ps : List Str) (sp : Sp) : Prop where
  size : ∀ vs H Q E, sp vs H Q E → vs.length = ps.length
  go : ∀ (A : Around) (outer : List Env) (s : Shared) (H : Hp) (args : Args) (us : List Value) (vs : List V) (Q : VK) (E : XK), A.guards = some [] → Room k A →
    Env0 P w K mg base A outer s H → BindsTo s fd args (ps.zip us) → Vals vs us → sp vs H Q E → codeAny (model P w) A (.call (.ref f) args) (CR CX outer P w H s Q E) s

section
variable {P : Program} {w : World} {K : PySem.W.Frag} {mg : Str → Option Value} {base : Heap} {CX : CXT} {k : Nat} {f : Addr} {ps : List Str} {sp : Sp}
theorem GOk.mono {j : Nat} {fd : FuncData} (F : GOk P w K mg base CX j f fd ps sp) (h : j ≤ k) : GOk P w K mg base CX k f fd ps sp :=
  { size := F.size, go := fun A outer s H args us vs Q E g r => F.go A outer s H args us vs Q E g (r.mono h) }
theorem GOk.weak {sp' : Sp} {fd : FuncData} (F : GOk P w K mg base CX k f fd ps sp) (h : ∀ vs H Q E, sp' vs H Q E → sp vs H Q E) : GOk P w K mg base CX k f fd ps sp' :=
  { size := fun vs H Q E q => F.size vs H Q E (h vs H Q E q), go := fun A outer s H args us vs Q E g r e b v q => F.go A outer s H args us vs Q E g r e b v (h vs H Q E q) }
/-- any promise of the layer is one -/
theorem GOk.of {fd : FuncData} (F : FnOk P w K mg base CX k f fd ps sp) : GOk P w K mg base CX k f fd ps sp :=
  { size := F.len, go := fun A outer s H args us vs Q E _ => F.run A outer s H args us vs Q E }
/-- such a def by its body -/
theorem g_of {name qual : Str} {params : Arguments} {body : List Stmt} {scope : Scope} {dV kV doc pm cdv ct oc : Value} {an od : Option Addr} {osl : Array (Option Value)} {N : List Str}
    (lk : K.lookup f = some ⟨oc, od, .func (PySem.W.fnOf name qual params body scope dV kV doc pm an cdv ct), osl⟩) (hcd : PySem.W.codeIn K cdv qual = true) (S : FnScope N ps scope)
    (size : ∀ vs H Q E, sp vs H Q E → vs.length = ps.length)
    (hb : ∀ (A : Around) (outer : List Env) (s : Shared) (H : Hp) (vs : List V) (Q : VK) (E : XK), A.guards = some [] → Room k (A.deeper (envOfC qual scope s.heap.objs.size f cdv)) → sp vs H Q E →
      ∃ t, PSs (cxOf CX P w K mg base N qual scope f cdv A outer s H E) body t ∧ t { nx := fun _ H1 => Q .non H1, rt := Q } (start N vs) H) :
    GOk P w K mg base CX (k + 1) f (PySem.W.fnOf name qual params body scope dV kV doc pm an cdv ct) ps sp := by
  refine { size := size, go := fun A outer s H args us vs Q E g hr e0 bnd rv hsp => ?_ }
  have old : ∀ b o, base.get? b = some o → s.heap.get? b = some o := fun b o e => (e0.bs b o e).1
  have kinds : ∀ y ∈ ps.zip us, scope.names.lookup y.1 = some .local ∨ (scope.names.lookup y.1 = some .cell ∧ ((cellsFrom (s.heap.objs.size + 1) scope.names []).lookup y.1).isSome = true) := by
    intro y hy
    obtain ⟨n, v⟩ := y
    refine (S.par n (List.of_mem_zip hy).1).imp id fun q => ⟨q, ?_⟩
    exact PySem.W.cellsFrom_some _ _ _ (.inl q)
  refine codeAny_call_function hr.depth (e0.mod.kin.keeps old _ _ lk) rfl S.co S.gen rfl (PySem.W.codeRec_of (e0.mod.kin.keeps old) hcd) (bnd _ _ _ _ (wpAny_newFunctionEnv_cells S.kind kinds fun env he s1 x => ?_))
  subst he
  refine ⟨(e0.mod.nolimit.keeps old).keeps x.toInCall.keep, codeAny_func ?_⟩
  obtain ⟨t, ht, hq⟩ := hb A outer s H vs Q E g (hr.deeper _) hsp
  have J : Inv (cxOf CX P w K mg base N qual scope f cdv A outer s H E) [] (start N vs) H s1 := inv_start S hr.hd e0 (size _ _ _ _ hsp) rv x
  refine wpAny_mono (ht.run [] s1 (start N vs) H _ J hq) (fun fl s2 hs => ?_) fun _ _ z => z
  cases fl with
  | ret u => obtain ⟨v, σ1, H1, I1, r1, q1⟩ := hs; exact ⟨v, H1, I1.os, I1.bare, I1.base, I1.hok, r1, q1⟩
  | next => obtain ⟨σ1, H1, I1, q1⟩ := hs; exact ⟨V.non, H1, I1.os, I1.bare, I1.base, I1.hok, rfl, q1⟩
  | brk => obtain ⟨_, _, _, z⟩ := hs; exact z.elim
  | cont => obtain ⟨_, _, _, z⟩ := hs; exact z.elim
end

/-- a def of the text that nothing leaves but by return -/
theorem okG {P : Program} {w : World} {K : PySem.W.Frag} {mg : Str → Option Value} {base : Heap} {x qual : Str} {st : Stmt} {f : Addr} {fd : FuncData} {N ps : List Str} {k : Nat} {sp : Sp} (F : Fun K x qual st f fd) (S : FnScope N ps (defScope st))
    (size : ∀ vs H Q E, sp vs H Q E → vs.length = ps.length)
    (hb : ∀ (cdv : Value) (A : Around) (outer : List Env) (s : Shared) (H : Hp) (vs : List V) (Q : VK) (E : XK), A.guards = some [] → Room k (A.deeper (envOfC qual (defScope st) s.heap.objs.size f cdv)) → sp vs H Q E →
      ∃ t, PSs (cxOf CX0 P w K mg base N qual (defScope st) f cdv A outer s H E).nox (defBody st) t ∧ t { nx := fun _ H1 => Q .non H1, rt := Q } (start N vs) H) : GOk P w K mg base CX0 (k + 1) f fd ps sp := by
  obtain ⟨oc, od, kV, doc, pm, an, cdv, ct, osl, rfl, lk, hcd⟩ := F.ex
  refine g_of lk hcd S size fun A outer s H vs Q E g hr hsp => ?_
  obtain ⟨t, h, q⟩ := hb cdv A outer s H vs Q E g hr hsp
  exact ⟨t, h.nox, q⟩
section
variable {X : Cx} {CX : CXT} {k : Nat} {f : Addr} {fd : FuncData} {ps : List Str} {sp : Sp} {dvs : List V} {ds : List Value} {E : XK} {x : Str} {p pos : Pos} {e : Expr} {es : List Expr} {t : TA}
theorem run_g {pins : List (Addr × Obj)} {σ : L2.St} {H : Hp} {s : Shared} {Q : VK} {us : List Value} {vs : List V} (F : GOk X.prog X.w X.K X.mg X.base CX k f fd ps sp) (g : X.A.guards = some []) (hr : Room k X.A)
    (hb : Binds X.K fd ps ds) (hd : Vals dvs ds) (hx : Passes CX X E) (I : Inv X pins σ H s) (r : Vals vs us) (h : sp (vs ++ dvs) H Q E) : wpAny (model X.prog X.w) X.A (call (.ref f) us) (EP X pins σ Q) X.xe s := by
  have r2 := r.append hd
  have n : (us ++ ds).length = ps.length := r2.length ▸ F.size _ _ _ _ h
  refine wpAny_call (codeAny_mono (F.go X.A X.stack s H ⟨us, []⟩ _ _ Q E g hr I.env0 (hb s us I.kIn n) r2 h) fun res s1 z => ?_)
  match res, z with
  | .error e, z => exact hx pins σ H s e s1 I z
  | .ok (.ret u), z => exact I.after z
  | .ok .next, z => exact z.elim
  | .ok .brk, z => exact z.elim
  | .ok .cont, z => exact z.elim
/-- f(e, ..) of such a def -/
theorem pe_callG (F : GOk X.prog X.w X.K X.mg X.base CX k f fd ps sp) (g : X.A.guards = some []) (hr : Room k X.A) (hg : Gl X x) (hm : X.mg x = some (.ref f)) (hk : PySem.W.keepIn X.K (.ref f) = true)
    (hb : Binds X.K fd ps ds) (hd : Vals dvs ds) (hx : Passes CX X E) (ha : PA X (e :: es) t) (hdb : (x == ("__debug__" : Str)) = false := by decide)
    (he : starEach (e :: es) X.env = (false, eval e X.env) :: starEach es X.env := by rfl) (hpl : (backTo pos (starEach es X.env)).any (·.1) = false := by rfl) : PE X (.Call (.Name x p) (e :: es) [] pos) (tCall sp dvs E t) := by
  constructor
  intro pins s σ H Q I h
  exact wpAny_Call_Name_kw (ld_glob I hg hm (PySem.W.callWith_K (h₀ := X.base) I.ok.mod.kin hk (thn (ha.run pos pins s σ H _ I h) fun us s1 ⟨vs, H1, I1, r, q⟩ => ⟨I1.kIn, run_g F g hr hb hd hx I1 r q⟩) he hpl) hdb)

/-- ~x of an instance of an own class -/
theorem un_own {C : Addr} (F : FnOk X.prog X.w X.K X.mg X.base CX k f fd ps sp) (hr : Room k X.A) (hb : Binds X.K fd ps []) (hx : Passes CX X E)
    (hs : PySem.W.findIn X.K (.ref C) "__invert__" = some (some (.ref f))) (hf : PySem.W.isFn X.K (.ref f) = true) :
    UnR X (unaryOp .Invert) (fun x H Q => ∃ a dx fs, x = .ref a ∧ H a = some (.ins C dx fs) ∧ sp [.ref a] H Q E) := by
  intro pins s σ H x v Q I rx h
  obtain ⟨a, dx, fs, rfl, ha, hq⟩ := h
  obtain rfl : v = Value.ref a := rx
  obtain ⟨mA, O, _⟩ := ins_get I.hok ha
  obtain ⟨od, J, _⟩ := O.look
  obtain ⟨m, hF⟩ := I.fr
  exact PySem.W.ksp_inv hF I.ok.mod.kin J hs hf (run_fn (us := [.ref a]) (vs := [.ref a]) (dvs := []) (ds := []) F hr hb .nil hx I (.cons rfl .nil) hq)
end

/-! ### the end of a law's row for such a promise -/
/-- the script alone is tracked: as a known list, or not at all where it is an object of the module -/
def seen (a : Addr) (ob : Obj) (ns : List Int) (own : Bool) : Hp := fun b => if own = false ∧ b = a then some (.frz ob (.lst (ns.map V.int))) else none
theorem seen_own {a : Addr} {ob : Obj} {ns : List Int} (b : Addr) : seen a ob ns true b = none := if_neg fun z => nomatch z.1
theorem seen_at {a : Addr} {ob : Obj} {ns : List Int} : seen a ob ns false a = some (.frz ob (.lst (ns.map V.int))) := if_pos ⟨rfl, rfl⟩
theorem seen_ne {a b : Addr} {ob : Obj} {ns : List Int} {o : Bool} (h : b ≠ a) : seen a ob ns o b = none := if_neg fun z => h z.2
theorem run_law {P : Program} {w : World} {K : PySem.W.Frag} {mg mb : Str → Option Value} {CX : CXT} {k : Nat} {fa a : Addr} {fd : FuncData} {x : Str} {sp : Sp} {s : Shared} {vs : List Value} {ns : List Int}
    (KX : K.In s.heap) (hns : s.heap.Ns mainGlobals mg) (hb : s.heap.Ns builtinsNs mb) (hbb : ∀ x : Str, x ≠ "__name__" → mb x = bootBuiltins x) (lim : s.heap.NoLimit) (hg : s.gens = #[])
    (ha : s.heap.get? a = some { cls := .type "list", data := .seq vs.toArray }) (hi : IntsAre vs ns) (hl : ns.length ≤ sizeLine) (hr : Room k callerA)
    (F : ∀ base : Heap, K.In base → base.Ns mainGlobals mg → GOk P w K mg base CX k fa fd [x] sp) (bnd : ∀ (s : Shared) (u : Value), BindsTo s fd ⟨[u], []⟩ [(x, u)])
    (hsp : ∀ H : Hp, SqL K H a (ns.map V.int) → sp [.ref a] H (fun v _ => v = .bl true) fun _ _ _ => False) (noX : ∀ H e s1, CX [] H s (fun _ _ _ => False) e s1 → False) :
    codeAny (model P w) callerA (.call (.ref fa) ⟨[.ref a], []⟩) (fun r s1 => r = .ok (.ret (.bool true)) ∧ OldK s.heap s1.heap ∧ s1.os = s.os ∧ AllBare s1.gens) s := by
  have rv := vals_ints hi
  obtain ⟨own, hS, hT, hK⟩ : ∃ own, SqL K (seen a { cls := .type "list", data := .seq vs.toArray } ns own) a (ns.map V.int) ∧ HOk P w (seen a { cls := .type "list", data := .seq vs.toArray } ns own) s.heap ∧
      (∀ b o, K.lookup b = some o → seen a { cls := .type "list", data := .seq vs.toArray } ns own b = none) := by
    cases hk : K.lookup a with
    | some o =>
      have e := (KX a o hk).symm.trans ha
      cases e
      refine ⟨true, .inr ⟨_, vs.toArray, _, hk, rfl, rfl, rfl, ?_, by simpa using rv⟩, fun b u z => ?_, fun b _ _ => seen_own b⟩
      · rw [List.size_toArray, hi.length]; exact hl
      · rw [seen_own] at z; cases z
    | none =>
      refine ⟨false, .inl (.inr ⟨_, seen_at⟩), fun b u z => ?_, fun b o hb => seen_ne fun e => ?_⟩
      · by_cases h : b = a
        · subst h
          rw [seen_at] at z; cases z
          exact ⟨ha, by rw [List.length_map]; exact hl, vs, _, rv, ha⟩
        · rw [seen_ne h] at z; cases z
      · subst e; rw [hk] at hb; cases hb
  generalize hH : seen a { cls := .type "list", data := .seq vs.toArray } ns own = H at hS hT hK
  have only : ∀ b u, H b = some u → b = a ∧ u = .frz { cls := .type "list", data := .seq vs.toArray } (.lst (ns.map V.int)) := fun b u z => by
    subst hH
    by_cases h : b = a
    · subst h
      cases own with
      | true => rw [seen_own] at z; cases z
      | false => rw [seen_at] at z; exact ⟨rfl, (Option.some.inj z).symm⟩
    · rw [seen_ne h] at z; cases z
  have free : ∀ {b : Addr} {o : Obj} {es : Array DictEntry} {ep : Nat}, s.heap.get? b = some o → o.data = .dict es ep → H b = none := fun {b o es ep} e d => by
    cases q : H b with
    | none => rfl
    | some u =>
      obtain ⟨rfl, _⟩ := only b u q
      have e' := e.symm.trans ha
      cases e'
      have d' : Data.seq vs.toArray _ = Data.dict es ep := d
      cases d'
  have ns' : ∀ {b : Addr} {m : Str → Option Value}, s.heap.Ns b m → (hidT s.heap H).Ns b m := fun {b m} n => by
    obtain ⟨o, es, ep, e, d, r⟩ := n
    exact ⟨o, es, ep, hidT_get e (free e d), d, r⟩
  have inK : K.In (hidT s.heap H) := fun b o e => hidT_get (KX b o e) (hK b o e)
  obtain ⟨mc, l1, l2⟩ := lim
  have e0 : Env0 P w K mg (hidT s.heap H) callerA [] s H :=
    { frames := rfl, mod := ⟨inK, ns' hns, ⟨mb, ns' hb, hbb⟩, ⟨mc, ns' l1, l2⟩⟩, bs := fun b o e => of_hidT e, bsz := Nat.le_of_eq (hidT_size _ _), funs := trivial, frf := fun b z => absurd (show b ∈ ([] : List Addr) from z) List.not_mem_nil, hok := hT, bare := .of_eq hg }
  refine codeAny_mono ((F _ inK (ns' hns)).go callerA [] s H ⟨[.ref a], []⟩ [.ref a] [.ref a] _ _ rfl hr e0 (bnd s (.ref a)) (.cons rfl .nil) (hsp H hS)) fun r s1 z => ?_
  match r, z with
  | .error e, z => exact (noX H e s1 z).elim
  | .ok .next, z => exact z.elim
  | .ok .brk, z => exact z.elim
  | .ok .cont, z => exact z.elim
  | .ok (.ret u), z =>
    obtain ⟨v, H1, os, bare, un, hok, r1, q⟩ := z
    subst q
    obtain rfl : u = Value.bool true := r1
    refine ⟨rfl, OldK.of_keep fun b o e => ?_, os, bare⟩
    cases q : H b with
    | none => exact un.keep b o e q (fun z => absurd (show b ∈ ([] : List Addr) from z) List.not_mem_nil) List.not_mem_nil
    | some u =>
      obtain ⟨rfl, rfl⟩ := only b u q
      obtain ⟨e1, _⟩ := hT _ _ q
      obtain ⟨e2, _⟩ := hok _ _ (un.frzs _ _ _ q)
      rw [e] at e1; cases e1
      exact e2
theorem walk_g {l : PySem.W.OpenLaw} {n k : Nat} {q : Program} {loose : List Str} {XP : (Str → Option Value) → Heap → Prop} {YP : World → Heap → Prop} {d : DefRec} {K : Params → PySem.W.Frag} {CX : CXT} {sp : PySem.W.Frag → Sp} {x : Str}
    (hn : l.most = some n) (hn2 : n ≤ sizeLine) (hdf : d.params.defaults = []) (hr : Room k callerA) (hY : ∀ (w : World) (h : Heap), YP w h → (K w.params).In h)
    (F : ∀ (w : World) (mg : Str → Option Value) (fa : Addr) (h : Heap), (K w.params).In h → h.Ns mainGlobals mg → mg d.name = some (.ref fa) → ∃ fd : FuncData, (∀ (s : Shared) (u : Value), BindsTo s fd ⟨[u], []⟩ [(x, u)]) ∧
        ∀ base : Heap, (K w.params).In base → base.Ns mainGlobals mg → GOk l.prog w (K w.params) mg base CX k fa fd [x] (sp (K w.params)))
    (hsp : ∀ (K : PySem.W.Frag) (H : Hp) (a : Addr) (ns : List Int), ns.length ≤ n → SqL K H a (ns.map V.int) → sp K [.ref a] H (fun v _ => v = .bl true) fun _ _ _ => False)
    (noX : ∀ (H : Hp) (s : Shared) (e : Value) (s1 : Shared), CX [] H s (fun _ _ _ => False) e s1 → False) : PySem.W.WalkO q loose XP YP l.row.toRowW d [] (fun f vs => PySem.call f vs) :=
  Att.attach_call hn hdf fun w s₀ s₁ mg mb fa o pm cd doc a vs ns G Y ho hd hcd hmg hobj hints hlen hg => by
    obtain ⟨fd, hb, hF⟩ := F w mg fa _ (hY w _ Y) G.T.g hmg
    exact run_law (hY w _ Y) G.T.g G.T.b G.T.builtins G.T.nolimit hg hobj hints (Nat.le_trans hlen hn2) hr hF hb (fun H hS => hsp _ H a ns hlen hS) fun H e s1 => noX H s₁ e s1
end TT

set_option Elab.async false
set_option linter.all false
set_option maxRecDepth 100000
set_option maxHeartbeats 4000000
/-! Errors of own classes as values: made, kept, asked (isinstance, their fields). -/
namespace TT
open PySem PySem.Spec PyProof.Rows L2
/-- at a stands an error of the class at C whose own dict holds fs -/
def Err (H : Hp) (a C : Addr) (fs : List (Str × V)) : Prop := ∃ d, H a = some (exo a C (some d)) ∧ H d = some (exd d fs)
section
variable {X : Cx}
/-- C(e, ..): the error stays with us -/
def tMkX (C : Addr) (sp : Sp) (dvs : List V) (ta : TA) : TE := fun σ H Q => ta σ H fun vs H1 => vs.length ≤ 1000 ∧ ∀ a, H1 a = none → sp (.ref a :: (vs ++ dvs)) (upd H1 a (exo a C none)) (fun v H2 => v = .non ∧ Q (.ref a) H2) fun _ _ _ => False
theorem pe_mkX {CX : CXT} {x : Str} {C fI : Addr} {k : Nat} {fd : FuncData} {ps : List Str} {sp : Sp} {ds : List Value} {dvs : List V} {e : Expr} {es : List Expr} {ta : TA} {p pos : Pos}
    (T : OexC X.K C) (iC : PySem.W.findIn X.K (.ref C) "__init__" = some (some (.ref fI))) (tI : PySem.W.typeIn X.K (.ref fI) = some (.type "function")) (F1 : FnOk X.prog X.w X.K X.mg X.base CX k fI fd ps sp) (hr : Room (k + 1) X.A)
    (hb : Binds X.K fd ps ds) (hd : Vals dvs ds) (hx : Passes CX X fun _ _ _ => False) (hg : Gl X x) (hm : X.mg x = some (.ref C)) (ha : PA X (e :: es) ta) (hdb : (x == ("__debug__" : Str)) = false := by decide)
    (he : starEach (e :: es) X.env = (false, eval e X.env) :: starEach es X.env := by rfl) (hpl : (backTo pos (starEach es X.env)).any (·.1) = false := by rfl) : PE X (.Call (.Name x p) (e :: es) [] pos) (tMkX C sp dvs ta) := by
  constructor
  intro pins s σ H Q I h
  obtain ⟨_, _, _, _, bm, _, _, _, _, _, _, _, _, _, _, hC, hbm⟩ := T.cls
  refine wpAny_Call_Name_kw (ld_glob I hg hm (PySem.W.callWith_K (h₀ := X.base) I.ok.mod.kin T.kC (thn (ha.run pos pins s σ H _ I h) fun us s1 w => ?_) he hpl) hdb)
  obtain ⟨vs, H1, I1, r1, hz, q1⟩ := w
  refine ⟨I1.kIn, ?_⟩
  obtain ⟨hp, g, dr, tk, os⟩ := s1
  have nn : hp.objs.size ≤ hp.objs.size + 1 := Nat.le_succ _
  have fr : H1 (hp.objs.size + 1) = none := I1.hok.fresh nn
  have q2 := q1 _ fr
  have keep : ∀ b o, hp.get? b = some o → ((hp.push (PySem.W.kdv_tup us)).push (PySem.HandSPX.excO C hp.objs.size)).get? b = some o := fun b o z => Heap.get?_push_of_some _ (Heap.get?_push_of_some _ z)
  have here : ((hp.push (PySem.W.kdv_tup us)).push (PySem.HandSPX.excO C hp.objs.size)).get? (hp.objs.size + 1) = some (PySem.HandSPX.excO C hp.objs.size) := by heap_get
  have I2 := I1.laid (t' := tk) (a := hp.objs.size + 1) (o := exo (hp.objs.size + 1) C none) keep nn (exo_ok here)
  have r2 : Vals (V.ref (hp.objs.size + 1) :: (vs ++ dvs)) (Value.ref (hp.objs.size + 1) :: us ++ ds) := .cons rfl (r1.append hd)
  have n1 : (Value.ref (hp.objs.size + 1) :: us ++ ds).length = ps.length := r2.length ▸ F1.len _ _ _ _ q2
  have n2 : us.length ≤ sizeLine := by
    have sl : sizeLine = 16777216 := sizeLine_eq
    have := Paired.length r1
    omega
  have run := F1.run _ X.stack _ _ ⟨Value.ref (hp.objs.size + 1) :: us, []⟩ _ _ _ (fun _ _ _ => False) (hr.make C us []) (I2.env0.make C us []) (hb _ (Value.ref (hp.objs.size + 1) :: us) I2.kIn n1) r2 q2
  refine wpAny_call (PySem.HandSPX.call_own F.excBase_ValueError (fun Y => PySem.HandSPX.refsVE_contains Y bm hbm) (I1.kIn _ _ hC) (PySem.W.looks_findIn I1.kIn iC) (fun self => PySem.W.bind_fn I1.kIn self tI) n2 (codeAny_mono run fun r s' z => ?_))
  match r, z with
  | .error er, z => exact hx pins σ _ _ er s' I2 z
  | .ok .next, z => exact z.elim
  | .ok .brk, z => exact z.elim
  | .ok .cont, z => exact z.elim
  | .ok (.ret u), z =>
    obtain ⟨v, H2, o2, b2, u2, k2, rv, ev, q3⟩ := z
    subst ev
    have un : Un (frs X.stack) [] H1 H2 hp s'.heap := (Un.laid keep nn fr).trans u2
    exact ⟨rv, .ref (hp.objs.size + 1), H2, I1.call' (ch := []) o2 un k2 b2 (fun b z => absurd z (by simp)), rfl, q3⟩
/-- the object of an error and its dict -/
theorem err_at {pins : List (Addr × Obj)} {σ : L2.St} {H : Hp} {s : Shared} {a C : Addr} {fs : List (Str × V)} (I : Inv X pins σ H s) (h : Err H a C fs) :
    ∃ ox od, PySem.W.InstAt s.heap a ox C (some od) ∧ ∃ mA : Str → Option Value, (∀ name, PySem.W.lookIn name od = some (mA name)) ∧ ∀ f, RelO (fs.lookup f) (mA f) := by
  obtain ⟨d, h1, h2⟩ := h
  obtain ⟨t1, e1⟩ := exo_at I.hok h1
  obtain ⟨mA, hn, hr⟩ := exd_at I.hok h2
  obtain ⟨od, ho, hl⟩ := lookIn_ns hn
  exact ⟨_, od, ⟨e1, rfl, rfl, ho⟩, mA, hl, hr⟩
/-- e.n of an error -/
def tXv (K : PySem.W.Frag) (n : Str) (te : TE) : TE := fun σ H Q => te σ H fun x H1 => ∃ a C fs v, x = .ref a ∧ Err H1 a C fs ∧ XfC K C ∧ PySem.W.findIn K (.ref C) n = some none ∧ fs.lookup n = some v ∧ Q v H1
theorem pe_xv {e : Expr} {te : TE} {pos : Pos} {n : Str} (he : PE X e te) (hb : attributeBase e n X.env (eval e X.env) = eval e X.env := by rfl) : PE X (.Attribute e n pos) (tXv X.K n te) := by
  constructor
  intro pins s σ H Q I h
  refine attr_of hb (thn (he.run pins s σ H _ I h) fun u s1 w => ?_)
  obtain ⟨x, H1, I1, rx, a, C, fs, v, rfl, hE, T, hno, l, q⟩ := w
  obtain rfl : u = Value.ref a := rx
  obtain ⟨ox, od, J, mA, hl, hr⟩ := err_at I1 hE
  obtain ⟨u, hu, ru⟩ := RelO.some_of (v := v) (o := mA n) (l ▸ hr n)
  exact HandSPX.exc_get I1.kIn J T.ga T.gg T.exC (PySem.W.findObj_own T.hdC hno rfl (by rw [hl, hu])) (handed_of ru) ⟨v, H1, I1.tok _, ru, q⟩
/-- x.__class__ of an error with a dict of its own, as isinstance asks it -/
theorem x_class {prog : Program} {w : World} {A : Around} {E : Value → Shared → Prop} {s : Shared} {K : PySem.W.Frag} {x D : Addr} {ox od : Obj} {Q : Option Value → Shared → Prop} (T : ExcC K D) (KX : K.In s.heap) (J : PySem.W.InstAt s.heap x ox D (some od))
    (h : Q (some (.ref D)) { s with toks := s.toks + 1 }) : wpAny (model prog w) A (getAttr? (.ref x) "__class__") Q E s := by
  have found : PySem.W.findObj K D (some od) "__class__" = some (.bind (.builtin "getset_descriptor.__get__") (.builtin "object.__class__")) := by
    obtain ⟨cd, e, _⟩ := PySem.W.any_some T.hd
    exact PySem.W.findObj_data (by rw [e] <;> rfl) T.ha T.hn T.ht
  have no2 : (Value.builtin "BaseException.__getattribute__" == Value.builtin "object.__getattribute__") = false := by decide +kernel
  have no1 : (onTheHeap (.ref D) && Value.builtin "BaseException.__getattribute__" == Value.builtin "object.__getattribute__") = false := by rw [no2] <;> rfl
  obtain ⟨hp, g, d, t, os⟩ := s
  have isB : PySem.W.Looks (model prog w) hp (isInstance (.ref x) (.type "BaseException")) true := (J.type (M := model prog w)).andThen (PySem.W.looks_subIn KX T.hs)
  have tail : ∀ R : Fin → Shared → Prop, ∀ E' : Value → Shared → Prop, R (.done (.ret (.ref D))) ⟨hp, g, d, t + 1, os⟩ → wpAny (model prog w) (Around.in1 A) (Builtin.«object.__getattribute__» ⟨[.ref x, .str "__class__" t], []⟩) R E' ⟨hp, g, d, t + 1, os⟩ := fun R E' hR => by
    unfold Builtin.«object.__getattribute__»
    refine wpAny_bind (wpAny_of_eq (a := (Value.ref x, [Value.str "__class__" t])) (by first | rfl | (simp only [slotArgs]; rfl)) (wpAny_bind (wpAny_pure (wpAny_bind (J.type.at (wpAny_bind ((PySem.W.looks_find KX J found).at ?_)))))))
    refine wpAny_bind (wpAny_holding (wpAny_call (PySem.W.class_get (s := ⟨hp, g, d, t + 1, os⟩) KX J T.hm ?_)))
    exact wpAny_pure hR
  unfold getAttr? getAttrBy? getAttrBy
  refine wpAny_bind (wpAny_mkText (wpAny_bind (wpAny_attempt (wpAny_holding (wpAny_bind (J.type.at (wpAny_bind ((PySem.W.looks_findIn KX T.hg).at ?_))))))))
  dsimp only
  rw [no1, if_neg Bool.false_ne_true]
  unfold getAttrByItsOwn hookBefore callGetattribute boundAndCalled
  refine wpAny_bind ?_
  have oh : onTheHeap (Value.ref D) = true := rfl
  rw [if_pos oh]
  refine (PySem.W.looks_findIn KX T.hk).at (wpAny_bind (wpAny_attempt (wpAny_holding ?_)))
  have nh : (false && onTheHeap (Value.builtin "BaseException.__getattribute__")) = false := rfl
  rw [nh, if_neg Bool.false_ne_true, PySem.F.excAttr_ValueError.ga.bind (.ref x)]
  refine wpAny_bind (wpAny_pure ?_)
  dsimp only
  refine wpAny_call (codeAny_call_builtin PySem.F.excAttr_ValueError.ga.plain PySem.F.entry_bexc_ga ?_)
  refine @PySem.W.check_slot (model prog w) _ _ ⟨hp, g, d, t + 1, os⟩ "BaseException.__getattribute__" "BaseException" "__getattribute__" (.ref x) [.str "__class__" t] [] _ (by decide +kernel) (by decide +kernel) isB (PySem.F.args_bexc_ga (.ref x) (.str "__class__" t)) ?_
  refine tail _ _ ?_
  refine (show wpAny (model prog w) A (handedOut (Value.ref D)) (fun a s' => wpAny (model prog w) A (pure (some a)) Q E s') _ ⟨hp, g, d, t + 1, os⟩ from ?_)
  rw [PySem.W.handedOut_of (v := Value.ref D) rfl]
  exact wpAny_pure (wpAny_pure h)
theorem kit_err {K : PySem.W.Frag} {x D : Addr} {b : Bool} (T : ExcC K D) (self : PySem.W.kitCls K (.ref D) (.ref D) = some b) : PySem.W.KitX K (.ref x) (.ref D) (fun h => ∃ ox od, PySem.W.InstAt h x ox D (some od)) where
  ty := fun _ _ _ ⟨_, _, J⟩ => J.type
  it := fun _ _ KX _ => (PySem.W.kit_cls KX self).2.1
  ne := fun h tp dd its n sl KX e => by
    obtain ⟨cd, hc, _⟩ := PySem.W.any_some T.hd
    cases q : (Value.ref D == Value.ref tp) with
    | false => rfl
    | true =>
      obtain rfl : D = tp := Value.ref.inj (beq_iff_eq.mp q)
      unfold PySem.W.clsIn at hc
      cases k : K.lookup D with
      | none => rw [k] at hc; cases hc
      | some o =>
        have z := (KX _ _ k).symm.trans e
        cases z
        rw [k] at hc
        cases hc
  ca := fun KX ⟨_, _, J⟩ q => x_class T KX J q
/-- isinstance(x, c) of an error -/
def rIsX (K : PySem.W.Frag) : List V → Hp → VK → Prop := fun xs H Q => ∃ (a C : Addr) (fs : List (Str × V)) (c : V) (cv : Value) (b b' : Bool), xs = [.ref a, c] ∧ Err H a C fs ∧ ExcC K C ∧ PySem.W.kitCls K (.ref C) (.ref C) = some b' ∧ ClsV c cv ∧ PySem.W.kitOne K (.ref C) cv = some b ∧ Q (.bl b) H
theorem call_isX {X : Cx} : CallR X (.builtin "isinstance") (rIsX X.K) := by
  intro pins s σ H xs us Q I r h
  obtain ⟨a, C, fs, c, cv, b, b', rfl, hE, T, self, hc, e, q⟩ := h
  obtain ⟨u1, u2, rfl, r1, r2⟩ : ∃ u1 u2, us = [u1, u2] ∧ RelV (.ref a) u1 ∧ RelV c u2 := by
    cases r with
    | cons x1 y1 =>
      cases y1 with
      | cons x2 y2 => cases y2; exact ⟨_, _, rfl, x1, x2⟩
  obtain rfl : u1 = Value.ref a := r1
  obtain rfl : u2 = cv := hc.eq r2
  obtain ⟨ox, od, J, _⟩ := err_at I hE
  exact PySem.W.kia_one (kit_err T self) I.kIn ⟨ox, od, J⟩ e (fun z => nomatch z) fun tk => ⟨.bl b, H, I.tok tk, rfl, q⟩
end
end TT

set_option Elab.async false
set_option linter.all false
set_option maxRecDepth 100000
set_option maxHeartbeats 4000000
/-! == of a thing with itself, repr of what holds small dicts. -/
namespace TT
open PySem PySem.Spec PyProof.Rows L2
section
variable {X : Cx}
/-- the same thing, or the same plain value -/
def D0 : Eqv := fun x y _ => y = x ∧ (flatB x = true ∨ ∃ a, x = .ref a)
theorem D0.mon : Mon D0 := fun _ _ _ _ _ h => h
theorem D0.eqV {K : PySem.W.Frag} {H : Hp} {x : V} (h : flatB x = true ∨ ∃ a, x = .ref a) : EqV K H 1 x x := by
  unfold EqV
  exact h.elim (fun f => .inl ⟨rfl, f⟩) fun ⟨a, e⟩ => .inr (.inl ⟨a, e, e⟩)
theorem D0.eqG : EqG X 1 D0 := by
  intro A pins s σ H x y u v S I rx ry h
  obtain ⟨rfl, h⟩ := h
  have un : A.units + 1 < cLine := by have := S.room.un; omega
  refine eqV_run I 1 A un y y u v (D0.eqV h) rx ry _ _ ⟨rfl, H, I, Ext.rfl'⟩
/-- x is equal to itself, whatever it holds -/
def SelfEq (K : PySem.W.Frag) (H : Hp) (x : V) : Prop := scal x x = true ∨ (∃ n, n ≤ 60 ∧ EqR K H (EqV K H n) x x) ∨ DTup K D0 x x H
def rSame (K : PySem.W.Frag) : R2 := fun x y H Q => y = x ∧ SelfEq K H x ∧ ∀ H', Ext H H' → Q (.bl true) H'
theorem op_same (hu : X.A.units + 64 < cLine) (hr : Room 2 X.A) : OpR X (compareOp .Eq) (rSame X.K) := by
  intro pins s σ H x y v u Q I rx ry h
  obtain ⟨rfl, h, q⟩ := h
  rcases h with h | ⟨n, hn, h⟩ | h
  · exact op_eq pins s σ H y y v u Q I rx ry ⟨h, by rw [decide_eq_true rfl]; exact q H Ext.rfl'⟩
  · exact op_eqV hu pins s σ H y y v u Q I rx ry ⟨n, hn, h, q H Ext.rfl'⟩
  · exact op_eqG (rcG_tup D0.mon D0.eqG) hr pins s σ H y y v u Q I rx ry ⟨h, q⟩
/-! ### repr -/
inductive DpD (K : PySem.W.Frag) (H : Hp) : V → PyData → Prop
  | dp {v : V} {d : PyData} (h : Dp K H v d) (n : d.hasDict = false) : DpD K H v d
  | tt {a b : Addr} (h : H a = some (.tup [.ref b])) (h2 : H b = some (.tup [])) : DpD K H (.ref a) (.tuple [.tuple []])
  | d0 {a : Addr} (h : H a = some (.dK [])) : DpD K H (.ref a) (.dict [])
  | d1 {a : Addr} {k : Str} {i : Int} (h : H a = some (.dK [(.inr k, .int i)])) : DpD K H (.ref a) (.dict [(.str k, .int i)])
theorem dp_tt {K : PySem.W.Frag} {H : Hp} {a b : Addr} (h : H a = some (.tup [.ref b])) (h2 : H b = some (.tup [])) : Dp K H (.ref a) (.tuple [.tuple []]) :=
  .tup (SqT.of h) (.cons (.tup (SqT.of h2) .nil) .nil)
/-- no tracked thing is sys.modules -/
theorem not_sys {pins : List (Addr × Obj)} {σ : L2.St} {H : Hp} {s : Shared} (I : Inv X pins σ H s) {o : Obj} (hs : X.K.lookup sysModules = some o) {l : Addr} {x : HO} (h : H l = some x) : l ≠ sysModules := by
  rintro rfl
  have hb : X.base.get? sysModules = some o := I.ok.mod.kin _ _ hs
  obtain ⟨h0, h1⟩ := I.ok.bs _ _ hb
  have := I.base.free _ _ h0 h1 (I.ok.noex _ _ hb)
  rw [this] at h
  cases h
theorem DpD.reads {pins : List (Addr × Obj)} {σ : L2.St} {H : Hp} {s : Shared} (I : Inv X pins σ H s) {v : V} {d : PyData} {u : Value} (h : DpD X.K H v d) (r : RelV v u) : ∃ as, Reads s.heap u d as ∧ (d.hasDict = true → ¬ sysModules ∈ as) := by
  cases h with
  | dp h n => exact (Dp.reads I d v u h r).imp fun as z => ⟨z, PyData.noDict_hsm n⟩
  | tt h h2 => exact (Dp.reads I _ _ u (dp_tt h h2) r).imp fun as z => ⟨z, PyData.noDict_hsm rfl⟩
  | @d0 a h =>
    obtain rfl : u = Value.ref a := r
    have z := I.hok _ _ h
    unfold ObjOk at z
    obtain ⟨_, ns, vs, kv, o, es, ep, g, ex, da, _, pr, _⟩ := z
    cases kv
    generalize e : es.toList = L at pr
    cases pr
    refine ⟨_, Reads.dict g ex.1 da (as := []) (bs := []) (by rw [e]; exact .nil) (by rw [e]; exact .nil), fun _ m => ?_⟩
    have : sysModules = a := by simpa using m
    rw [← this] at ns
    cases ns
  | @d1 a k i h =>
    obtain rfl : u = Value.ref a := r
    have z := I.hok _ _ h
    unfold ObjOk at z
    obtain ⟨_, ns, vs, kv, o, es, ep, g, ex, da, _, pr, nd⟩ := z
    clear nd
    cases kv with
    | @cons _ q _ _ p1 p2 =>
      cases p2
      obtain ⟨e0, t, e1⟩ : Sum.inr k = q.1 ∧ ∃ t, q.2 = Value.int i t := p1
      generalize hl : es.toList = L at pr
      cases pr with
      | cons c1 c2 c3 =>
        cases c3
        rename_i e
        have c4 : Value.isStrOf k e.key = true := by
          have c5 : keyIs q.1 e.key = true := c1
          rw [← e0] at c5
          exact c5
        obtain ⟨tk, ek⟩ : ∃ tk, e.key = .str k tk := by
          cases hk : e.key <;> rw [hk] at c4 <;> simp [Value.isStrOf] at c4
          exact ⟨_, by rw [c4]⟩
        have ev : e.val = .int i t := c2.trans e1
        refine ⟨_, Reads.dict g ex.1 da (kvs := [(.str k, .int i)]) (as := [] ++ []) (bs := [] ++ []) (by rw [hl]; exact .cons (by show Reads _ e.key (.str k) []; rw [ek]; exact .str _ _) .nil) (by rw [hl]; exact .cons (by show Reads _ e.val (.int i) []; rw [ev]; exact .int _ _) .nil), fun _ m => ?_⟩
        have : sysModules = a := by simpa using m
        rw [← this] at ns
        cases ns
theorem readsAll_rep {h : Heap} {d : PyData} {v : V} (one : ∀ u, RelV v u → ∃ as, Reads h u d as ∧ (d.hasDict = true → ¬ sysModules ∈ as)) :
    ∀ (n : Nat) (its : List Value), Vals (List.replicate n v) its → ∃ as, ReadsAll h its (List.replicate n d) as ∧ (d.hasDict = true → ¬ sysModules ∈ as)
  | 0, its, r => by
    cases r
    exact ⟨[], .nil, fun _ m => by cases m⟩
  | n + 1, its, r => by
    rw [List.replicate_succ] at r
    cases r with
    | cons r1 r2 =>
      obtain ⟨as, h1, h2⟩ := one _ r1
      obtain ⟨bs, h3, h4⟩ := readsAll_rep one n _ r2
      exact ⟨as ++ bs, .cons h1 h3, fun e m => (List.mem_append.mp m).elim (h2 e) (h4 e)⟩
theorem hasDictAll_rep {d : PyData} : ∀ n, PyData.hasDictAll (List.replicate n d) = true → d.hasDict = true
  | 0, h => by simp [PyData.hasDictAll] at h
  | n + 1, h => by
    rw [List.replicate_succ] at h
    simp only [PyData.hasDictAll, Bool.or_eq_true] at h
    exact h.elim id (hasDictAll_rep n)
/-- what repr is asked of here: such a thing, or a list of it many times -/
inductive RpD (K : PySem.W.Frag) (H : Hp) : V → PyData → Prop
  | one {v : V} {d : PyData} (h : DpD K H v d) : RpD K H v d
  | rep {l : Addr} {n : Nat} {v : V} {d : PyData} (hl : H l = some (.lst (List.replicate n v))) (h : DpD K H v d) : RpD K H (.ref l) (.list (List.replicate n d))
theorem RpD.reads {pins : List (Addr × Obj)} {σ : L2.St} {H : Hp} {s : Shared} (I : Inv X pins σ H s) {o : Obj} (hs : X.K.lookup sysModules = some o) {v : V} {d : PyData} {u : Value} (h : RpD X.K H v d) (r : RelV v u) : ∃ as, Reads s.heap u d as ∧ (d.hasDict = true → ¬ sysModules ∈ as) := by
  cases h with
  | one h => exact DpD.reads I h r
  | @rep l n v d hl h =>
    obtain rfl : u = Value.ref l := r
    have z := I.hok _ _ hl
    unfold ObjOk at z
    obtain ⟨_, its, k, vs, g⟩ := z
    obtain ⟨as, h1, h2⟩ := readsAll_rep (fun u r => DpD.reads I h r) n its vs
    refine ⟨l :: as, Reads.list g rfl rfl (by rw [List.toList_toArray]; exact h1), fun e m => ?_⟩
    have e2 : d.hasDict = true := by
      simp only [PyData.hasDict] at e
      exact hasDictAll_rep n e
    rcases List.mem_cons.mp m with m | m
    · exact not_sys I hs hl m.symm
    · exact h2 e2 m
def rReprD (K : PySem.W.Frag) : List V → Hp → VK → Prop := fun xs H Q => ∃ (x : V) (d : PyData), xs = [x] ∧ RpD K H x d ∧ d.showable = true ∧ d.depth ≤ 60 ∧ d.shown.length ≤ sizeLine ∧ Q (.str d.shown) H
theorem call_reprD {o : Obj} (hs : X.K.lookup sysModules = some o) (hg : X.A.guards = some []) (hu : X.A.units + 64 < cLine) : CallR X (.builtin "repr") (rReprD X.K) := by
  intro pins s σ H xs us Q I r h
  obtain ⟨x, d, rfl, hd, sh, hdep, hz, q⟩ := h
  obtain ⟨u, rfl, rx⟩ : ∃ u, us = [u] ∧ RelV x u := by
    cases r with
    | cons a b => cases b; exact ⟨_, rfl, a⟩
  by_cases c : ∃ a, x = .ref a
  · obtain ⟨a, rfl⟩ := c
    obtain rfl : u = Value.ref a := rx
    obtain ⟨as, rd, ns⟩ := RpD.reads (u := Value.ref a) I hs hd rfl
    exact repr_of_reads' rd sh ns hg (by omega) (fun _ _ e => e) (fun h' u tk hk => ⟨.str d.shown, H, I.kept hk, ⟨_, rfl⟩, q⟩) hz
  · cases hd with
    | rep => exact absurd ⟨_, rfl⟩ c
    | one h =>
      cases h with
      | dp h n => exact call_repr hg hu pins s σ H _ _ Q I (.cons rx .nil) ⟨x, d, rfl, h, sh, n, hdep, hz, q⟩
      | tt => exact absurd ⟨_, rfl⟩ c
      | d0 => exact absurd ⟨_, rfl⟩ c
      | d1 => exact absurd ⟨_, rfl⟩ c
end
end TT

set_option Elab.async false
set_option linter.all false
set_option maxRecDepth 100000
set_option maxHeartbeats 4000000
/-! repr of a list whose own address may be any (only what it holds must not be sys.modules) -/
namespace TT
open PySem PySem.Spec PyProof.Rows L2
theorem repr_lst {prog : Program} {w : World} {h₀ : Heap} {a : Addr} {o : Obj} {vs : Array Value} {n : Nat} {xs : List PyData} {as : List Addr} {A : Around} {E : Value → Shared → Prop} {s : Shared} {Q : Value → Shared → Prop}
    (at_a : h₀.get? a = some o) (is_l : o.cls = .type "list") (dat : o.data = .seq vs n) (its : ReadsAll h₀ vs.toList xs as)
    (sh : PyData.showableAll xs = true) (out : PyData.hasDictAll xs = true → ¬ sysModules ∈ as) (gd : A.guards = some []) (un : A.units + ((PyData.list xs).depth + 1) < cLine)
    (low : ∀ b u, h₀.get? b = some u → s.heap.get? b = some u)
    (k : ∀ h' u tk, (∀ b o, s.heap.get? b = some o → h'.get? b = some o) → Q (.str (PyData.list xs).shown u) { s with heap := h', toks := tk })
    (len : (PyData.list xs).shown.length ≤ sizeLine) : wpAny (model prog w) A (call (.builtin "repr") [.ref a]) Q E s := by
  have short : (listText (PyData.shownAll xs)).length ≤ sizeLine := by
    have := len
    rwa [PyData.shown] at this
  obtain ⟨bs, below, each⟩ := ReprAllK.of_readsAll (prog := prog) (w := w) its sh out fun t ht => Nat.le_trans (listText_mem_le ht) short
  have apart : a ∉ bs := by
    refine not_mem_of_deeper (Reads.list at_a is_l dat its) ?_ below
    rw [PyData.depth]
    omega
  have dep : A.in1.units + (PyData.list xs).depth < cLine := by
    show A.units + 1 + _ < cLine
    omega
  refine call_repr_slot (by omega) (show s.TypeIs (.ref a) "list" from ⟨o, low _ _ at_a, is_l⟩) F.slot_list_repr.toG ?_
  rw [PyData.depth] at dep
  have k' := k
  simp only [PyData.shown] at k'
  obtain ⟨l⟩ := vs
  cases l with
  | nil =>
    have none' : ReadsAll h₀ [] xs as := its
    cases none'
    simp only [PyData.shownAll, listText_nil] at k'
    exact call_list_repr_empty ⟨o, low _ _ at_a, is_l⟩ (low _ _ at_a) dat ⟨_, _, rfl, k' s.heap _ _ fun _ _ e => e⟩
  | cons x l =>
    have el := each.length_eq
    exact call_list_reprK at_a is_l dat apart (by simpa using el) (fun i y e => each.item i y (by simpa using e)) gd (fun b _ => Clear.nil b) dep low (fun h' u tk hk => ⟨_, _, rfl, k' h' u tk hk⟩) short
section
variable {X : Cx}
theorem call_reprS (hg : X.A.guards = some []) (hu : X.A.units + 64 < cLine) : CallR X (.builtin "repr") (rReprD X.K) := by
  intro pins s σ H xs us Q I r h
  obtain ⟨x, d, rfl, hd, sh, hdep, hz, q⟩ := h
  obtain ⟨u, rfl, rx⟩ : ∃ u, us = [u] ∧ RelV x u := by
    cases r with
    | cons a b => cases b; exact ⟨_, rfl, a⟩
  have fin : ∀ h' u tk, (∀ b o, s.heap.get? b = some o → h'.get? b = some o) → EP X pins σ Q (.str d.shown u) { s with heap := h', toks := tk } := fun h' u tk hk => ⟨.str d.shown, H, I.kept hk, ⟨_, rfl⟩, q⟩
  cases hd with
  | @rep l n v d hl h =>
    obtain rfl : u = Value.ref l := rx
    have z := I.hok _ _ hl
    unfold ObjOk at z
    obtain ⟨_, its, k, vs, g⟩ := z
    obtain ⟨as, h1, h2⟩ := readsAll_rep (fun u r => DpD.reads I h r) n its vs
    have sh' : PyData.showableAll (List.replicate n d) = true := by
      rwa [PyData.showable] at sh
    exact repr_lst g rfl rfl (by rw [List.toList_toArray]; exact h1) sh' (fun e => h2 (hasDictAll_rep n e)) hg (by omega) (fun _ _ e => e) fin hz
  | one h =>
    by_cases c : ∃ a, x = .ref a
    · obtain ⟨a, rfl⟩ := c
      obtain rfl : u = Value.ref a := rx
      obtain ⟨as, rd, ns⟩ := DpD.reads (u := Value.ref a) I h rfl
      exact repr_of_reads' rd sh ns hg (by omega) (fun _ _ e => e) fin hz
    · cases h with
      | dp h n => exact call_repr hg hu pins s σ H _ _ Q I (.cons rx .nil) ⟨x, d, rfl, h, sh, n, hdep, hz, q⟩
      | tt => exact absurd ⟨_, rfl⟩ c
      | d0 => exact absurd ⟨_, rfl⟩ c
      | d1 => exact absurd ⟨_, rfl⟩ c
end
end TT

set_option Elab.async false
set_option linter.all false
set_option maxRecDepth 100000
set_option maxHeartbeats 4000000
/-! A lambda handed to a def; an error that was caught, kept behind its suite. -/
namespace TT
open PySem PySem.Spec PyProof.Rows L2
/-- at e: an error that was caught, of the class cls, its dict d -/
def exk (e : Addr) (cls : Value) (d : Option Addr) : HO := .ext fun h => ∃ (o : Obj) (vs : Array Value), h.get? e = some o ∧ Zc cls d o ∧ o.data = .fields vs
theorem exk_ok {P : Program} {w : World} {H : Hp} {h : Heap} {e : Addr} {cls : Value} {d : Option Addr} {o : Obj} {vs : Array Value} (he : h.get? e = some o) (hz : Zc cls d o) (hd : o.data = .fields vs) : ObjOk P w H h e (exk e cls d) :=
  ⟨⟨o, vs, he, hz, hd⟩, ⟨_, he⟩, fun h1 h2 ⟨o1, vs1, a, b, c⟩ k => ⟨o1, vs1, k _ a, b, c⟩⟩
theorem exk_at {P : Program} {w : World} {H : Hp} {h : Heap} {e : Addr} {cls : Value} {d : Option Addr} (hok : HOk P w H h) (he : H e = some (exk e cls d)) : ∃ (o : Obj) (vs : Array Value), h.get? e = some o ∧ Zc cls d o ∧ o.data = .fields vs := by
  have x : ObjOk P w H h e (.ext fun h => ∃ (o : Obj) (vs : Array Value), h.get? e = some o ∧ Zc cls d o ∧ o.data = .fields vs) := hok e _ he
  exact x.1
section
variable {X : Cx} {pins : List (Addr × Obj)} {σ : L2.St} {H : Hp} {s : Shared} {a : Addr} {cls : Value} {d : Option Addr} {oe : Obj} {vs : Array Value}
/-- a caught error is tracked -/
theorem Inv.track (I : Inv X pins σ H s) (ha : s.heap.get? a = some oe) (hz : Zc cls d oe) (hd : oe.data = .fields vs) (na : H a = none) (nL : a ≠ X.env.locals) (n0 : X.s_0.heap.get? a = none) (np : ∀ p ∈ X.pn ++ pins, p.1 ≠ a) :
    Inv X pins σ (L2.upd H a (exk a cls d)) s := by
  have sm : ∀ {b : Addr} {u : HO}, H b = some u → b ≠ a := fun {b u} e => ne_of_none e na
  refine ⟨I.ok, I.os, I.bare, ⟨I.base.keep, I.base.slot, fun b o e n hx => ?_, I.base.there, fun b xs e => ?_, fun b o u e => ?_, fun b ps e => ?_⟩, I.loc, I.cell, ?_, fun x c e => ?_, fun p hp => ?_, fun b u e => ?_, I.len⟩
  · have nb : b ≠ a := fun z => by rw [z, n0] at e; cases e
    rw [upd_ne nb]
    exact I.base.free b o e n hx
  · have q := I.base.tups b xs e
    rw [upd_ne (sm q)]
    exact q
  · have q := I.base.frzs b o u e
    rw [upd_ne (sm q)]
    exact q
  · obtain ⟨more, q⟩ := I.base.tbls b ps e
    exact ⟨more, by rw [upd_ne (sm q)]; exact q⟩
  · rw [upd_ne nL.symm]
    exact I.free
  · have nc : c ≠ a := fun z => by
      obtain ⟨v, o, ho, hc⟩ := I.cell x c e
      rw [z, ha] at ho
      cases ho
      rw [hd] at hc
      cases hc
    rw [upd_ne nc]
    exact I.freeC x c e
  · obtain ⟨e, n, r⟩ := I.pin p hp
    exact ⟨e, by rw [upd_ne (np p hp)]; exact n, r⟩
  · by_cases hb : b = a
    · subst hb
      rw [upd_same] at e
      cases e
      exact exk_ok ha hz hd
    · rw [upd_ne hb] at e
      exact (I.hok b u e).stay (fun _ _ _ q => q) (fun c q => by rw [upd_ne (sm q)]; exact q) fun c xs q => by rw [upd_ne (sm q)]; exact q
end
/-- what 'except x as n' wishes of the body's errors, each caught and kept behind the suite -/
def wKept (K : PySem.W.Frag) (c : Value) (i : Nat) (ts : Addr → Value → Option Addr → TS) (nx : L2.St → Hp → Prop) : WX := fun cls d σ H =>
  PySem.W.exmOne K cls c = some true ∧ ∀ a, H a = none → ts a cls d ⟨fun σ' H' => H' a = none → nx (σ'.set i none) (L2.upd H' a (exk a cls d)), fun _ _ => False, fun _ _ => False, fun _ _ => False⟩ (σ.set i (some (.ref a))) H
section
variable {X : Cx} {x n : Str} {c : Value} {i : Nat} {body suite : List Stmt} {b₀ : Stmt} {np pos pos' : Pos} {tb : WX → TS} {ts : Addr → Value → Option Addr → TS}
/-- try: body / except x as n: suite, where each error that the body lets out is an x -/
theorem ps_try_kept (hs : X.stack = X.env :: X.outer) (hf : X.env.frame = some X.env.locals) (hex : X.ex = []) (hN : X.N.Nodup) (hi : X.N[i]? = some n) (hln : X.env.kindOf n = some .local) (hc : Names X x c)
    (hb : ∀ (W : WX) (pn : List (Addr × Obj)) (xe : Value → Shared → Prop), Takes (X.tr pn xe) W → PassesOwn (model X.prog X.w) X.A X.env xe → PSs (X.tr pn xe) body (tb W))
    (hsu : ∀ (a : Addr) (oe : Obj) (cls : Value) (d : Option Addr) (pn : List (Addr × Obj)), Zc cls d oe → (∃ vs, oe.data = .fields vs) → PSs (X.suite a ((a, oe) :: pn)) (b₀ :: suite) (ts a cls d)) :
    PS X (.Try body [.ExceptHandler (some (.Name x np)) (some n) (b₀ :: suite) pos'] [] [] pos) (fun D σ H => tb (wKept X.K c i ts D.nx) ⟨D.nx, fun _ _ => False, fun _ _ => False, fun _ _ => False⟩ σ H) := by
  constructor
  intro pins s σ H D I h
  have ok := I.ok
  -- what is done with an error of the body
  let R : Value → Shared → Prop := fun e s₁ => wpAny (model X.prog X.w) X.A (noteFrame e X.env) (fun _ s₂ => wpAny (model X.prog X.w) X.A (setFlight e none) (fun _ s₃ =>
    wpAny (model X.prog X.w) X.A (handleBy e X.env [.ExceptHandler (some (.Name x np)) (some n) (b₀ :: suite) pos']) (SP X pins D) X.xe s₃) X.xe s₂) X.xe s₁
  have caught : Takes (X.tr (X.pn ++ pins) R) (wKept X.K c i ts D.nx) := by
    rintro u s' ⟨a, B, t0, pins', σ1, H1, cls, d, rfl, J0, ground, up, sky, na, os, ag, ex, told⟩
    have J : Inv X pins σ1 H1 t0 := J0.ofTry ok
    have frames : X.A.frames = some (X.env :: X.outer) := ok.frames.trans (congrArg some hs)
    have sky2 : Sky B (X.env :: X.outer) a (Zc cls d) X.env.locals s'.heap := hs ▸ sky
    have none_of : ∀ {h1 : Heap}, HandSPX.FlyingZ B (X.env :: X.outer) a (Zc cls d) h1 → a ∉ frs (X.env :: X.outer) := fun fl hm => by
      obtain ⟨o, vs, e1, _, e2⟩ := fl.there
      obtain ⟨_, o2, e3, e4⟩ := fl.2.2.1.mem hm
      cases e1.symm.trans e3
      exact e4 _ e2
    refine Sky.land Zc.steady frames hf sky2 fun g1 fl1 up1 => ?_
    have off := none_of fl1
    have nL : a ≠ X.env.locals := fun z => off (List.mem_filterMap.mpr ⟨_, List.mem_cons_self, hf.trans (congrArg some z.symm)⟩)
    have nF : a ∉ X.fs := fun hm => off (List.mem_filterMap.mpr ((List.mem_filterMap.mp hm).imp fun _ z => ⟨List.mem_cons_of_mem _ z.1, z.2⟩))
    have gone : t0.heap.get? a = none := by
      cases q : t0.heap.get? a with
      | none => rfl
      | some o => cases fl1.2.1.symm.trans (ground a o q (hs ▸ off))
    have older : X.s_0.heap.get? a = none := by
      cases q : X.s_0.heap.get? a with
      | none => rfl
      | some o =>
        obtain ⟨o2, z⟩ := J.base.there a o q (hex ▸ List.not_mem_nil)
        cases gone.symm.trans z
    have npin : ∀ p ∈ X.pn ++ pins, p.1 ≠ a := fun p hp z => by cases gone.symm.trans (z ▸ (J.pin p hp).1)
    obtain ⟨o1, vs1, e1, z1, f1⟩ := fl1.there
    have J1 : Inv X pins σ1 H1 { s' with heap := g1 } := J.landed ground fl1.1 (up.trans up1) os ag
    refine wpAny_handleBy_cons (codeAny_handlers_test ?_) (fun q => nomatch q)
    have matches_ := PySem.W.exm_one (M := model X.prog X.w) J1.kIn (fun A Q E s k q => wpAny_typeOf_ref (k _ _ e1) (z1.1 ▸ q)) ex
    have S1 := J1.suite e1 f1 na nL nF
    have named : ∀ {Q : Value → Shared → Prop} {E : Value → Shared → Prop}, Q c { s' with heap := g1 } → wpAny (model X.prog X.w) (X.A.mark (some (.ref a))) (eval (.Name x np) X.env) Q E { s' with heap := g1 } := fun {Q E} q => by
      obtain ⟨h1, h2, h3 | ⟨h3, h4, h5⟩⟩ := hc
      · exact ld_glob (X := X.suite a ((a, o1) :: (X.pn ++ pins))) S1 h1 h3 q h2
      · exact ld_blt (X := X.suite a ((a, o1) :: (X.pn ++ pins))) S1 h1 h3 h4 q h5 h2
    refine named (matches_.here (codeAny_handlers_suite_as (HandSPX.lands_againZ fl1 fun g2 fl2 up2 => ?_)))
    obtain ⟨o2, vs2, e2, z2, f2⟩ := fl2.there
    have J2 : Inv X pins σ1 H1 { s' with heap := g2 } := J.landed ground fl2.1 ((up.trans up1).trans up2) os ag
    refine store_ok (X := X.suite a ((a, o2) :: (X.pn ++ pins))) (v := .ref a) (J2.suite e2 f2 na nL nF) hN hi (.inl hln) rfl (fun s5 S5 => ?_) (.inr hln)
    refine wpAny_mono ((hsu a o2 cls d (X.pn ++ pins) z2 ⟨_, f2⟩).run [] s5 _ H1 _ S5 (told a na)) (fun f s6 hsp => ?_) (fun _ _ z => z.elim)
    match f, hsp with
    | .next, ⟨σ6, H6, S6, q6⟩ =>
      obtain ⟨e6, n6, _⟩ := S6.pin (a, o2) (List.mem_append_left _ List.mem_cons_self)
      exact gone_ok (Inv.track (S6.unsuite ok) e6 z2 f2 n6 nL older npin) hN hi hln fun s7 J7 => ⟨_, _, J7, q6 n6⟩
    | .brk, ⟨_, _, _, z⟩ => exact z.elim
    | .cont, ⟨_, _, _, z⟩ => exact z.elim
    | .ret u, ⟨_, _, _, _, _, z⟩ => exact z.elim
  refine wpAny_Try_except (wpAny_mono ((hb _ (X.pn ++ pins) R caught PassesOwn.looking).run [] s σ H _ (I.toTry _) h) (fun f s1 hsp => ?_) fun _ _ z => z)
  match f, hsp with
  | .next, ⟨σ2, H2, J2, q2⟩ => exact wpAny_execs_nil ⟨σ2, H2, J2.ofTry ok, q2⟩
  | .brk, ⟨_, _, _, z⟩ => exact z.elim
  | .cont, ⟨_, _, _, z⟩ => exact z.elim
  | .ret u, ⟨_, _, _, _, _, z⟩ => exact z.elim
end
/-! ### a callable without parameters, as a value -/
theorem Un.then {fs fs' : List Addr} {H H1 H2 : Hp} {h h1 h2 : Heap} (a : Un fs [] H H1 h h1) (b : Un fs' [] H1 H2 h1 h2) (h1' : ∀ c ∈ fs', c ∈ fs ∨ h.get? c = none) (h2' : ∀ c ∈ fs, c ∈ fs') : Un fs [] H H2 h h2 where
  keep := fun c ob q n hc hx => b.keep c ob (a.keep c ob q n hc hx) (a.free c ob q n hx) (fun z => (h1' c z).elim hc fun z => by rw [q] at z; cases z) hx
  slot := fun c ob q n hc hx => by
    obtain ⟨sl, e1⟩ := a.slot c ob q n hc hx
    obtain ⟨sl', e2⟩ := b.slot c _ e1 (a.free c ob q n hx) (h2' c hc) hx
    exact ⟨sl', e2⟩
  free := fun c ob q n hx => by
    obtain ⟨o', e1⟩ := a.there c ob q hx
    exact b.free c o' e1 (a.free c ob q n hx) hx
  there := fun c ob q hx => by
    obtain ⟨o', e1⟩ := a.there c ob q hx
    exact b.there c o' e1 hx
  tups := fun c xs q => b.tups c xs (a.tups c xs q)
  frzs := fun c ob xs q => b.frzs c ob xs (a.frzs c ob xs q)
  tbls := fun c ps q => by
    obtain ⟨m1, e1⟩ := a.tbls c ps q
    obtain ⟨m2, e2⟩ := b.tbls c _ e1
    exact ⟨m1 ++ m2, by rw [e2, Array.append_assoc]⟩
end TT

set_option Elab.async false
set_option linter.all false
set_option maxRecDepth 100000
set_option maxHeartbeats 4000000
/-! A callable without parameters as a value: what it does while it is handed on, lambdas that are such, defs that take one. -/
namespace TT
open PySem PySem.Spec PyProof.Rows L2 LamX
theorem un_then {fs fs' : List Addr} {H H1 H2 : Hp} {h h1 h2 : Heap} (a : Un fs [] H H1 h h1) (b : Un fs' [] H1 H2 h1 h2) (new : ∀ c ∈ fs', c ∈ fs ∨ h.get? c = none) (sub : ∀ c ∈ fs, c ∈ fs') : Un fs [] H H2 h h2 := by
  have up : Un fs' [] H H1 h h1 := a.mono sub fun _ z => z
  have all := up.trans b
  refine ⟨fun c o e n hc hx => ?_, fun c o e n hc hx => all.any e n hx, all.free, all.there, all.tups, all.frzs, all.tbls⟩
  refine b.keep c o (a.keep c o e n hc hx) (a.free c o e n hx) (fun z => ?_) hx
  rcases new c z with q | q
  · exact hc q
  · rw [q] at e; cases e
/-- f() runs so, as long as what stands in (s, H) but the frames fs stays -/
structure Runs (P : Program) (w : World) (K : PySem.W.Frag) (mg : Str → Option Value) (base : Heap) (fs : List Addr) (k : Nat) (f : Addr) (tl : XK → Hp → VK → Prop) (s : Shared) (H : Hp) : Prop where
  obj : ∃ (oc : Value) (od : Option Addr) (fd : FuncData) (sl : Array (Option Value)), s.heap.get? f = some ⟨oc, od, .func fd, sl⟩
  fn : H f = none
  fr : f ∉ fs
  run : ∀ (A : Around) (outer : List Env) (s1 : Shared) (HZ : Hp) (Q : VK) (E : XK), Room (k + 1) A → Env0 P w K mg base A outer s1 HZ → Un fs [] H HZ s.heap s1.heap → tl E HZ Q →
    codeAny (model P w) A (.call (.ref f) ⟨[], []⟩) (CR (L2.CX P w) outer P w HZ s1 Q E) s1
section
variable {P : Program} {w : World} {K : PySem.W.Frag} {mg : Str → Option Value} {base : Heap} {k j : Nat} {f : Addr} {tl : XK → Hp → VK → Prop}
theorem Runs.step {fs fs' : List Addr} {s s1 : Shared} {H H1 : Hp} (R : Runs P w K mg base fs k f tl s H) (u : Un fs [] H H1 s.heap s1.heap) (new : ∀ c ∈ fs', c ∈ fs ∨ s.heap.get? c = none) (sub : ∀ c ∈ fs, c ∈ fs') : Runs P w K mg base fs' k f tl s1 H1 := by
  obtain ⟨oc, od, fd, sl, e⟩ := R.obj
  refine ⟨⟨oc, od, fd, sl, u.keep f _ e R.fn R.fr List.not_mem_nil⟩, u.free f _ e R.fn List.not_mem_nil, fun z => ?_, fun A outer s2 HZ Q E hr e0 u2 t => R.run A outer s2 HZ Q E hr e0 (un_then u u2 new sub) t⟩
  rcases new f z with q | q
  · exact R.fr q
  · rw [q] at e; cases e
/-- within a def that got it: at any state of the def -/
theorem Runs.now {X : Cx} {pins : List (Addr × Obj)} {σ : L2.St} {H : Hp} {s : Shared} (R : Runs X.prog X.w X.K X.mg X.base X.fs k f tl X.s_0 X.H_0) (hex : X.ex = []) (I : Inv X pins σ H s) : Runs X.prog X.w X.K X.mg X.base (frs X.stack) k f tl s H := by
  have u : Un X.fs [] X.H_0 H X.s_0.heap s.heap := hex ▸ I.base
  refine R.step u (fun c hc => ?_) fun c hc => ?_
  · rcases List.mem_cons.mp (I.stkSub c hc) with z | z
    · exact .inr (Heap.get?_none_of_le (z ▸ I.ok.above))
    · exact .inl z
  · rcases I.ok.stk with z | ⟨z, hf⟩
    · rw [z]; exact hc
    · rw [z]
      unfold frs
      rw [List.filterMap_cons, hf]
      exact List.mem_cons_of_mem _ hc
end
/-- a def whose first argument is such a callable -/
structure LOk (P : Program) (w : World) (K : PySem.W.Frag) (mg : Str → Option Value) (base : Heap) (k j : Nat) (g : Addr) (fd : FuncData) (ps : List Str) (sp : (XK → Hp → VK → Prop) → List V → Hp → VK → Prop) : Prop where
  len : ∀ tl vs H Q, sp tl vs H Q → vs.length + 1 = ps.length
  run : ∀ (A : Around) (outer : List Env) (s : Shared) (H : Hp) (args : Args) (us : List Value) (vs : List V) (Q : VK) (f : Addr) (tl : XK → Hp → VK → Prop), A.guards = some [] → Room k A → Env0 P w K mg base A outer s H →
    BindsTo s fd args (ps.zip (.ref f :: us)) → Vals vs us → Runs P w K mg base (frs outer) j f tl s H → sp tl vs H Q → codeAny (model P w) A (.call (.ref g) args) (CR CX0 outer P w H s Q fun _ _ _ => False) s
section
variable {X : Cx} {k j i : Nat} {f g : Addr} {fd : FuncData} {ps : List Str} {sp : (XK → Hp → VK → Prop) → List V → Hp → VK → Prop} {tl : XK → Hp → VK → Prop} {x a : Str} {p p1 p2 pos : Pos} {e : Expr} {es : List Expr} {ta : TA}
theorem run_L {pins : List (Addr × Obj)} {σ : L2.St} {H : Hp} {s : Shared} {Q : VK} {us : List Value} {vs : List V} (L : LOk X.prog X.w X.K X.mg X.base k j g fd ps sp) (gd : X.A.guards = some []) (hr : Room k X.A) (hb : Binds X.K fd ps [])
    (I : Inv X pins σ H s) (R : Runs X.prog X.w X.K X.mg X.base (frs X.stack) j f tl s H) (r : Vals vs us) (h : sp tl vs H Q) : wpAny (model X.prog X.w) X.A (call (.ref g) (.ref f :: us)) (EP X pins σ Q) X.xe s := by
  have n : (.ref f :: us : List Value).length = ps.length := by
    rw [List.length_cons, ← r.length]
    exact L.len _ _ _ _ h
  have b := hb s (.ref f :: us) I.kIn (by rw [List.append_nil]; exact n)
  rw [List.append_nil] at b
  refine wpAny_call (codeAny_mono (L.run X.A X.stack s H ⟨.ref f :: us, []⟩ us vs Q f tl gd hr I.env0 b r R h) fun res s1 z => ?_)
  match res, z with
  | .error _, z => exact z.elim
  | .ok (.ret u), z => exact I.after z
  | .ok .next, z => exact z.elim
  | .ok .brk, z => exact z.elim
  | .ok .cont, z => exact z.elim
/-- g(x, ..) in a def that got x -/
theorem pe_handon (R : Runs X.prog X.w X.K X.mg X.base X.fs j f tl X.s_0 X.H_0) (hex : X.ex = []) (L : LOk X.prog X.w X.K X.mg X.base k j g fd ps sp) (gd : X.A.guards = some []) (hr : Room k X.A) (hb : Binds X.K fd ps [])
    (hg : Gl X x) (hm : X.mg x = some (.ref g)) (hk : PySem.W.keepIn X.K (.ref g) = true) (ha : PA X (e :: es) ta) (hdb : (x == ("__debug__" : Str)) = false := by decide)
    (he : starEach (e :: es) X.env = (false, eval e X.env) :: starEach es X.env := by rfl) (hpl : (backTo pos (starEach es X.env)).any (·.1) = false := by rfl) :
    PE X (.Call (.Name x p) (e :: es) [] pos) (fun σ H Q => ta σ H fun vs H1 => ∃ ws, vs = .ref f :: ws ∧ sp tl ws H1 Q) := by
  constructor
  intro pins s σ H Q I h
  refine wpAny_Call_Name_kw (ld_glob I hg hm (PySem.W.callWith_K (h₀ := X.base) I.ok.mod.kin hk (thn (ha.run pos pins s σ H _ I h) fun us s1 ⟨vs, H1, I1, r, ws, ev, q⟩ => ⟨I1.kIn, ?_⟩) he hpl) hdb)
  subst ev
  cases r with
  | @cons _ u _ ur r1 r2 =>
    obtain rfl : u = Value.ref f := r1
    exact run_L L gd hr hb I1 (R.now hex I1) r2 q
/-- x() in a def that got x -/
theorem pe_look {E : XK} (R : Runs X.prog X.w X.K X.mg X.base X.fs k f tl X.s_0 X.H_0) (hex : X.ex = []) (hx : Passes (L2.CX X.prog X.w) X E) (hr : Room (k + 1) X.A) (hN : X.N[i]? = some a) (hv : Vis X.env.scope a)
    (hd : (a == ("__debug__" : Str)) = false := by decide) (hcd : (a == ("__classdict__" : Str)) = false := by decide) :
    PE X (.Call (.Name a p1) [] [] p2) (fun σ H Q => σ[i]? = some (some (.ref f)) ∧ tl E H Q) := by
  constructor
  intro pins s σ H Q I ⟨hs, t⟩
  refine wpAny_Call_Name_kw (thn ((pe_var (pos := p1) (i := i) hN hv hd hcd).run pins s σ H (fun v H1 => v = .ref f ∧ H1 = H) I ⟨_, hs, rfl, rfl⟩) fun u s1 ⟨v, H1, I1, r1, ev, eH⟩ => ?_)
  subst ev eH
  obtain rfl : u = Value.ref f := r1
  have R1 := R.now hex I1
  obtain ⟨oc, od, fd, sl, ob⟩ := R1.obj
  refine PySem.W.callWith_F0 (first := []) ⟨oc, od, fd, sl, ob⟩ (wpAny_call (codeAny_mono (R1.run X.A X.stack s1 _ Q E hr I1.env0 Un.refl t) fun res s2 z => ?_))
  match res, z with
  | .error e, z => exact hx pins σ _ s1 e s2 I1 z
  | .ok (.ret u), z => exact I1.after z
  | .ok .next, z => exact z.elim
  | .ok .brk, z => exact z.elim
  | .ok .cont, z => exact z.elim
/-- g(lambda: body, ..): T the tables of code objects -/
theorem pe_lam {T : List (Addr × Str)} {c PT : Addr} {params : Arguments} {body : Expr} {scope : Scope} {t : XK → TE} {lpos : Pos} (L : LOk X.prog X.w X.K X.mg X.base j k g fd ps sp) (gd : X.A.guards = some []) (hr : Room j X.A) (hb : Binds X.K fd ps [])
    (hg : Gl X x) (hm : X.mg x = some (.ref g)) (hk : PySem.W.keepIn X.K (.ref g) = true) (ha : PA X es ta)
    (TB : TabB X.base X.mg c PT) (hcode : X.env.code = .ref c) (hmT : (PT, X.env.qual ++ "<lambda>") ∈ T) (hu : ∀ p ∈ T, p.1 = PT → p.2 = X.env.qual ++ "<lambda>") (S : LamS X.env.scope scope) (hdef : defaultsOf params X.env = ([], []))
    (hbind : ∀ (q : Str) (cl : List (Str × Addr)) (pm cv ctv : Value), bindArgs (PySem.W.kla_fn "<lambda>" q params body scope cl pm cv ctv) ⟨[], []⟩ = pure [])
    (hbody : ∀ (A : Around) (outer : List Env) (s : Shared) (H : Hp) (E : XK) (f c' : Addr), Room k (A.deeper (lamEnv X scope s.heap.objs.size f c')) → PE (lamCx X A outer s H E scope f c') body (t E))
    (hdb : (x == ("__debug__" : Str)) = false := by decide)
    (he : starEach (.Lambda params body scope lpos :: es) X.env = (false, eval (.Lambda params body scope lpos) X.env) :: starEach es X.env := by rfl) (hpl : (backTo pos (starEach es X.env)).any (·.1) = false := by rfl) :
    PE X (.Call (.Name x p) (.Lambda params body scope lpos :: es) [] pos)
      (fun σ H Q => Tabs T H ∧ ∀ H1 c', ExtN H H1 → Tabs T H1 → H1 c' = some (CodeO c' (X.env.qual ++ "<lambda>")) → ta σ H1 fun ws H2 => sp (fun E H' Q' => H' c' = some (CodeO c' (X.env.qual ++ "<lambda>")) ∧ t E σ H' Q') ws H2 Q) := by
  constructor
  intro pins s σ H Q I ⟨hT, h⟩
  refine wpAny_Call_Name_kw (ld_glob I hg hm ?_ hdb)
  refine PySem.W.callWith_K (h₀ := X.base) I.ok.mod.kin hk ?_ he hpl
  rw [he]
  refine Calls.spliced_cons (lam_make2 I TB hcode hmT hu hT hdef (S.has I.ok) fun f c' pm ctv H1 s1 I1 eN T1 hf hfn hfr hco => ?_)
  have fL : f ≠ X.env.locals := fun z => by
    obtain ⟨m, ⟨o, es, ep, e1, e2, _⟩, _⟩ := I1.loc
    rw [← z, hf] at e1
    cases e1
    cases e2
  have fF : f ∉ X.fs := fun z => hfr (by
    rcases I1.ok.stk with q | ⟨q, hf2⟩
    · rw [q]; exact z
    · rw [q]; unfold frs; rw [List.filterMap_cons, hf2]; exact List.mem_cons_of_mem _ z)
  generalize hob : PySem.W.kla_obj "<lambda>" (X.env.qual ++ "<lambda>") params body scope (cloFrom X.env.cells scope.names []) pm c' ctv = ob at hf
  have I1p : Inv X ((f, ob) :: pins) σ H1 s1 := I1.pins_of fun q hq => by
    rcases List.mem_cons.mp hq with z | z
    · subst z
      exact ⟨hf, hfn, fL, fF, fun v z => by rw [← hob] at z; cases z⟩
    · exact I1.pin q (List.mem_append_right _ z)
  refine thn (ha.run pos ((f, ob) :: pins) s1 σ H1 _ I1p (h H1 c' eN T1 hco)) fun us s2 ⟨ws, H2, I2p, r, q⟩ => ⟨I2p.kIn, ?_⟩
  have I2 : Inv X pins σ H2 s2 := I2p.pins_of fun q hq => I2p.pin q (List.mem_append_right _ (List.mem_cons_of_mem _ hq))
  obtain ⟨e2, n2, _⟩ := I2p.pin (f, ob) (List.mem_append_right _ List.mem_cons_self)
  refine run_L (f := f) (tl := fun E H' Q' => H' c' = some (CodeO c' (X.env.qual ++ "<lambda>")) ∧ t E σ H' Q') L gd hr hb I2 ⟨⟨_, _, _, _, by rw [← hob] at e2; exact e2⟩, n2, hfr, fun A outer s3 HZ Q' E hrA e0 un ⟨hc', ht⟩ => ?_⟩ r q
  have e3 := un.keep f _ e2 n2 hfr List.not_mem_nil
  rw [← hob] at e3
  obtain ⟨⟨oc, vs, tk, hoc, hdc, hvc⟩, _, _⟩ := e0.hok c' _ hc'
  refine PySem.W.kla_callFunE hrA.depth e3 rfl S.co S.gen rfl ⟨c', oc, vs, tk, rfl, hoc, hdc, hvc⟩ ?_
  rw [hbind]
  have lim : s3.heap.NoLimit := e0.mod.nolimit.keeps fun b o z => (e0.bs b o z).1
  refine wpAny_pure (wpAny_newFunctionEnv (fun y hy => (S.own y hy).2) (fun y hy => absurd hy List.not_mem_nil) (fun h₁ hns hsb => ⟨lim.fresh _ hsb, ?_⟩) S.kind)
  show codeAny _ _ (.expr body (lamEnv X scope s3.heap.objs.size f c')) _ _
  have kp : ∀ b o, s3.heap.get? b = some o → h₁.get? b = some o := fun b o z => hsb.extBut b o (Nat.ne_of_lt (Heap.lt_size z)) (Heap.get?_push_of_some _ z)
  have J := lam_start2 (f := f) (c' := c') (E := E) (tk := s3.toks + ([] : List (Str × Value)).length) I2 S e0 hrA.hd un hns kp
  refine PySem.W.kla_codeExpr (wpAny_mono ((hbody A outer s3 HZ E f c' (hrA.deeper _)).run [] _ σ HZ Q' J ht) (fun v s' ⟨w', H', J', rv, q'⟩ => ⟨w', H', J'.os, J'.bare, J'.base, J'.hok, rv, q'⟩) fun _ _ z => z)
end
/-- a def of the text whose first argument is such a callable -/
theorem okL {P : Program} {w : World} {K : PySem.W.Frag} {mg : Str → Option Value} {base : Heap} {x qual : Str} {st : Stmt} {g : Addr} {fd : FuncData} {N ps : List Str} {k j : Nat} {sp : (XK → Hp → VK → Prop) → List V → Hp → VK → Prop} (F : Fun K x qual st g fd) (S : FnScope N ps (defScope st))
    (len : ∀ tl vs H Q, sp tl vs H Q → vs.length + 1 = ps.length)
    (hb : ∀ (cdv : Value) (A : Around) (outer : List Env) (s : Shared) (H : Hp) (vs : List V) (Q : VK) (f : Addr) (tl : XK → Hp → VK → Prop), A.guards = some [] → Room k (A.deeper (envOfC qual (defScope st) s.heap.objs.size g cdv)) → Runs P w K mg base (frs outer) j f tl s H → sp tl vs H Q →
      ∃ t, PSs (cxOf CX0 P w K mg base N qual (defScope st) g cdv A outer s H fun _ _ _ => False).nox (defBody st) t ∧ t { nx := fun _ H1 => Q .non H1, rt := Q } (start N (.ref f :: vs)) H) : LOk P w K mg base (k + 1) j g fd ps sp := by
  obtain ⟨oc, od, kV, doc, pm, an, cdv, ct, osl, rfl, lk, hcd⟩ := F.ex
  refine ⟨len, fun A outer s H args us vs Q f tl gd hr e0 bnd r R h => ?_⟩
  refine run_ofS (vs := .ref f :: vs) lk hcd S hr e0 bnd (.cons rfl r) (len _ _ _ _ h) fun hr' => ?_
  obtain ⟨t, ht, hq⟩ := hb cdv A outer s H vs Q f tl gd hr' R h
  exact ⟨t, ht.nox, hq⟩
/-- x() in a try's body: what it lets out is told at the slots as they stand -/
def tLook (f : Addr) (i : Nat) (tl : XK → Hp → VK → Prop) (W : WX) : TE := fun σ H Q => ∃ (E : XK) (Q0 : VK), (∀ cls d H', E cls d H' → W cls d σ H') ∧ (∀ v H', Q0 v H' → Q v H') ∧ σ[i]? = some (some (.ref f)) ∧ tl E H Q0
theorem pe_lookS {X : Cx} {k i : Nat} {f : Addr} {tl : XK → Hp → VK → Prop} {a : Str} {p1 p2 : Pos} {W : WX} (tk : Takes X W) (R : Runs X.prog X.w X.K X.mg X.base X.fs k f tl X.s_0 X.H_0) (hex : X.ex = []) (hr : Room (k + 1) X.A) (hN : X.N[i]? = some a) (hv : Vis X.env.scope a)
    (hd : (a == ("__debug__" : Str)) = false := by decide) (hcd : (a == ("__classdict__" : Str)) = false := by decide) : PE X (.Call (.Name a p1) [] [] p2) (tLook f i tl W) := by
  constructor
  intro pins s σ H Q I ⟨E, Q0, hW, hQ, hs, t⟩
  refine wpAny_Call_Name_kw (thn ((pe_var (pos := p1) (i := i) hN hv hd hcd).run pins s σ H (fun v H1 => v = .ref f ∧ H1 = H) I ⟨_, hs, rfl, rfl⟩) fun u s1 ⟨v, H1, I1, r1, ev, eH⟩ => ?_)
  subst ev eH
  obtain rfl : u = Value.ref f := r1
  have R1 := R.now hex I1
  obtain ⟨oc, od, fd, sl, ob⟩ := R1.obj
  refine PySem.W.callWith_F0 (first := []) ⟨oc, od, fd, sl, ob⟩ (wpAny_call (codeAny_mono (R1.run X.A X.stack s1 _ Q0 E hr I1.env0 Un.refl t) fun res s2 z => ?_))
  match res, z with
  | .error e, z => exact tk e s2 (XE.of_call I1 hW z)
  | .ok (.ret u), z =>
    obtain ⟨v, H2, I2, rv, q⟩ := I1.after z
    exact ⟨v, H2, I2, rv, hQ _ _ q⟩
  | .ok .next, z => exact z.elim
  | .ok .brk, z => exact z.elim
  | .ok .cont, z => exact z.elim
/-! ### errors that were caught -/
/-- at a stands a caught error of the class at C whose own dict holds fs -/
def Met (H : Hp) (a C : Addr) (fs : List (Str × V)) : Prop := ∃ d, H a = some (exk a (.ref C) (some d)) ∧ H d = some (.xd fs)
theorem Met.same {H H' : Hp} {a C : Addr} {fs : List (Str × V)} (s : Same H H') (h : Met H a C fs) : Met H' a C fs := h.imp fun _ z => ⟨s _ _ z.1, s _ _ z.2⟩
section
variable {X : Cx} {pins : List (Addr × Obj)} {σ : L2.St} {H : Hp} {s : Shared} {a C : Addr} {fs : List (Str × V)}
theorem met_at (I : Inv X pins σ H s) (h : Met H a C fs) : ∃ ox od, PySem.W.InstAt s.heap a ox C (some od) ∧ ∃ mA : Str → Option Value, (∀ name, PySem.W.lookIn name od = some (mA name)) ∧ ∀ f, RelO (fs.lookup f) (mA f) := by
  obtain ⟨d, h1, h2⟩ := h
  obtain ⟨o, vs, e1, z1, f1⟩ := exk_at I.hok h1
  obtain ⟨mA, hn, hr⟩ : ∃ mA, s.heap.Ns1 d mA ∧ ∀ f, RelO (fs.lookup f) (mA f) := I.hok d _ h2
  obtain ⟨od, ho, hl⟩ := lookIn_ns hn
  exact ⟨o, od, ⟨e1, z1.1, by unfold PySem.W.notCls; rw [f1] <;> rfl, by rw [z1.2]; exact ho⟩, mA, hl, hr⟩
/-- e.n of a caught error -/
def tMv (K : PySem.W.Frag) (n : Str) (te : TE) : TE := fun σ H Q => te σ H fun x H1 => ∃ a C fs v, x = .ref a ∧ Met H1 a C fs ∧ XfC K C ∧ PySem.W.findIn K (.ref C) n = some none ∧ fs.lookup n = some v ∧ Q v H1
theorem pe_mv {e : Expr} {te : TE} {pos : Pos} {n : Str} (he : PE X e te) (hb : attributeBase e n X.env (eval e X.env) = eval e X.env := by rfl) : PE X (.Attribute e n pos) (tMv X.K n te) := by
  constructor
  intro pins s σ H Q I h
  refine attr_of hb (thn (he.run pins s σ H _ I h) fun u s1 ⟨x, H1, I1, rx, a, C, fs, v, ex, hE, T, hno, l, q⟩ => ?_)
  subst ex
  obtain rfl : u = Value.ref a := rx
  obtain ⟨ox, od, J, mA, hl, hr⟩ := met_at I1 hE
  obtain ⟨u, hu, ru⟩ := RelO.some_of (v := v) (o := mA n) (l ▸ hr n)
  exact HandSPX.exc_get I1.kIn J T.ga T.gg T.exC (PySem.W.findObj_own T.hdC hno rfl (by rw [hl, hu])) (handed_of ru) ⟨v, H1, I1.tok _, ru, q⟩
/-- isinstance(x, c) of a caught error -/
def rIsM (K : PySem.W.Frag) : List V → Hp → VK → Prop := fun xs H Q => ∃ (a C : Addr) (fs : List (Str × V)) (c : V) (cv : Value) (b b' : Bool), xs = [.ref a, c] ∧ Met H a C fs ∧ ExcC K C ∧ PySem.W.kitCls K (.ref C) (.ref C) = some b' ∧ ClsV c cv ∧ PySem.W.kitOne K (.ref C) cv = some b ∧ Q (.bl b) H
theorem call_isM {X : Cx} : CallR X (.builtin "isinstance") (rIsM X.K) := by
  intro pins s σ H xs us Q I r h
  obtain ⟨a, C, fs, c, cv, b, b', rfl, hE, T, self, hc, e, q⟩ := h
  match us, r with
  | [u1, u2], .cons r1 (.cons r2 .nil) =>
    obtain rfl : u1 = Value.ref a := r1
    obtain rfl : u2 = cv := hc.eq r2
    obtain ⟨ox, od, J, _⟩ := met_at I hE
    exact PySem.W.kia_one (kit_err T self) I.kIn ⟨ox, od, J⟩ e (fun z => nomatch z) fun tk => ⟨.bl b, H, I.tok tk, rfl, q⟩
end
end TT

set_option Elab.async false
set_option linter.all false
set_option maxRecDepth 100000
set_option maxHeartbeats 4000000
/-! What the laws of our program share: defs that make lambdas, the errors' classes, the end of a law whose defs make lambdas. -/
namespace TT
open PySem PySem.Spec PyProof.Rows L2 LamX
/-! ### defs that make lambdas: their code object is known -/
structure FunC (K : PySem.W.Frag) (x qual : Str) (st : Stmt) (f : Addr) (fd : FuncData) (c : Addr) : Prop where
  ex : ∃ (oc : Value) (od : Option Addr) (kV doc pm : Value) (an : Option Addr) (ct : Value) (osl : Array (Option Value)),
    fd = PySem.W.fnOf x qual (defArgs st) (defBody st) (defScope st) .none kV doc pm an (.ref c) ct ∧ K.lookup f = some ⟨oc, od, .func fd, osl⟩ ∧ PySem.W.codeIn K (.ref c) qual = true
  kp : PySem.W.keepIn K (.ref f) = true
section
variable {P : Program} {w : World} {K : PySem.W.Frag} {mg : Str → Option Value} {base : Heap} {x qual : Str} {st : Stmt} {f c : Addr} {fd : FuncData} {N ps : List Str} {k : Nat} {sp : Sp}
theorem FunC.fn (F : FunC K x qual st f fd c) : Fun K x qual st f fd := by
  obtain ⟨oc, od, kV, doc, pm, an, ct, osl, e, l, h⟩ := F.ex
  exact ⟨⟨oc, od, kV, doc, pm, an, .ref c, ct, osl, e, l, h⟩, F.kp⟩
theorem okGC (F : FunC K x qual st f fd c) (S : FnScope N ps (defScope st)) (size : ∀ vs H Q E, sp vs H Q E → vs.length = ps.length)
    (hb : ∀ (A : Around) (outer : List Env) (s : Shared) (H : Hp) (vs : List V) (Q : VK) (E : XK), A.guards = some [] → Room k (A.deeper (envOfC qual (defScope st) s.heap.objs.size f (.ref c))) → sp vs H Q E →
      ∃ t, PSs (cxOf CX0 P w K mg base N qual (defScope st) f (.ref c) A outer s H E).nox (defBody st) t ∧ t { nx := fun _ H1 => Q .non H1, rt := Q } (start N vs) H) : GOk P w K mg base CX0 (k + 1) f fd ps sp := by
  obtain ⟨oc, od, kV, doc, pm, an, ct, osl, rfl, lk, hcd⟩ := F.ex
  refine g_of lk hcd S size fun A outer s H vs Q E g hr hsp => ?_
  obtain ⟨t, h, q⟩ := hb A outer s H vs Q E g hr hsp
  exact ⟨t, h.nox, q⟩
end
/-- a def that lets errors out, called where it lets none out -/
theorem passF {P : Program} {w : World} {X : Cx} : Passes (L2.CX P w) X E0 := fun _ _ _ _ _ _ _ h => by
  obtain ⟨_, _, _, _, _, _, _, _, _, _, _, _, z⟩ := h
  exact z.elim
/-- o(..), o an instance of the class at C -/
def tCallI (C : Addr) (sp : Sp) (E : XK) (tf : TE) (t : TA) : TE := fun σ H Q => tf σ H fun y H1 => ∃ a, y = V.ref a ∧ t σ H1 fun vs H2 => (∃ dx fs, H2 a = some (.ins C dx fs)) ∧ sp (V.ref a :: vs) H2 Q E
theorem pe_callI {X : Cx} {CX : CXT} {k : Nat} {g C : Addr} {sp : Sp} {E : XK} {fe e : Expr} {es : List Expr} {tf : TE} {t : TA} {pos : Pos} (hf : PE X fe tf) (c : StX.CallO X.K C g) (F : FnR X.prog X.w X.K X.mg X.base CX k g sp) (hr : Room k X.A) (hx : Passes CX X E) (ha : PA X (e :: es) t)
    (ht : eval (.Call fe (e :: es) [] pos) X.env = (do callWith pos (← eval fe X.env) [] (backTo pos (starEach (e :: es) X.env)) (backToKw pos (keywordEach [] X.env))) := by rfl)
    (he : starEach (e :: es) X.env = (false, eval e X.env) :: starEach es X.env := by rfl) (hpl : (backTo pos (starEach es X.env)).any (·.1) = false := by rfl) : PE X (.Call fe (e :: es) [] pos) (tCallI C sp E tf t) := by
  constructor
  intro pins s σ H Q I h
  refine Call_ (thn (hf.run pins s σ H _ I h) fun u s1 z => ?_) ht
  obtain ⟨_, H1, I1, ru, a, rfl, q⟩ := z
  obtain rfl : u = .ref a := ru
  refine StX.callO_with (thn (ha.run pos pins s1 σ H1 _ I1 q) fun us s2 z => ?_) he hpl
  obtain ⟨vs, H2, I2, rv, inst, q2⟩ := z
  have at2 : StX.InsC X H2 a C := .inr inst
  obtain ⟨ox, od, J, plain⟩ := StX.insC_at I2 at2
  exact ⟨⟨C, ox, od, J, plain⟩, StX.run_callO c F hr hx I2 at2 rv q2⟩
/-- what a lambda in the def q is called -/
def lamN (q : Str) : Str := (q ++ ".<locals>.") ++ "<lambda>"
/-! ### the errors' classes -/
/-- the chain of each error's class behind itself -/
def chain (cE C : Addr) : List Value := (if C = cE then [] else [.ref cE]) ++ [.type "ValueError", .type "Exception", .type "BaseException", .type "object"]
structure ExcT (K : PySem.W.Frag) (cE fI C : Addr) : Prop where
  ox : OexC K C
  xf : XfC K C
  ec : ExcC K C
  ini : PySem.W.findIn K (.ref C) "__init__" = some (some (.ref fI))
  nv : PySem.W.findIn K (.ref C) "value" = some none
  sub : ∀ b, PySem.W.subIn K (.ref C) b = some ((Value.ref C :: chain cE C).contains b)
  is : ((PySem.W.clsIn K C).isSome && PySem.W.typeIn K (.ref C) == some (.type "type")) = true
section
variable {K : PySem.W.Frag} {cE fI C D : Addr}
theorem ExcT.kit (a : ExcT K cE fI C) (b : ExcT K cE fI D) (h : C ≠ D) : PySem.W.kitOne K (.ref C) (.ref D) = some (decide (D = cE)) := by
  have n1 : (Value.ref C == Value.ref D) = false := by simpa using h
  unfold PySem.W.kitOne
  rw [n1, if_neg Bool.false_ne_true]
  unfold PySem.W.kitCls
  dsimp only
  rw [if_pos b.is, a.sub]
  congr 1
  unfold chain
  have n2 : ¬ D = C := fun e => h e.symm
  by_cases c : C = cE
  · subst c
    rw [if_pos rfl, decide_eq_false n2]
    simp [n2]
  · rw [if_neg c]
    by_cases e : D = cE
    · subst e
      simp
    · rw [decide_eq_false e]
      simp [e, n2]
theorem ExcT.self (a : ExcT K cE fI C) : PySem.W.kitOne K (.ref C) (.ref C) = some true := by
  unfold PySem.W.kitOne
  rw [if_pos (beq_iff_eq.mpr rfl)]
theorem ExcT.selfC (a : ExcT K cE fI C) : PySem.W.kitCls K (.ref C) (.ref C) = some true := by
  unfold PySem.W.kitCls
  dsimp only
  rw [if_pos a.is, a.sub]
  congr 1
  simp
/-- it is caught as a TuneError -/
theorem ExcT.exm (a : ExcT K cE fI C) (b : ExcT K cE fI cE) : PySem.W.exmOne K (.ref C) (.ref cE) = some true := by
  refine PySem.W.exm_ref b.ox.exC b.xf.hdC b.ox.tyC ?_
  rw [a.sub]
  congr 1
  unfold chain
  by_cases c : C = cE
  · subst c; simp
  · rw [if_neg c]; simp
structure ExcF (K : PySem.W.Frag) (cE fI C : Addr) : Prop where
  cls : ∃ nm q N bs sn sub ab col dd k0 k1 k2 k3 k5, K.lookup C = some (excClassObj nm q C N bs (chain cE C) true sn sub ab col dd k0 k1 k2 k3 k5 "ValueError.__new__")
  sa : PySem.W.findIn K (.ref C) "__setattr__" = some (some (.builtin "object.__setattr__"))
  tyC : PySem.W.typeIn K (.ref C) = some (.type "type")
  kC : PySem.W.keepIn K (.ref C) = true
  ga : PySem.W.findIn K (.ref C) "__getattribute__" = some (some (.builtin "BaseException.__getattribute__"))
  gg : PySem.W.findIn K (.ref C) "__getattr__" = some none
  ha : PySem.W.findIn K (.ref C) "__class__" = some (some (.builtin "object.__class__"))
  ini : PySem.W.findIn K (.ref C) "__init__" = some (some (.ref fI))
  nv : PySem.W.findIn K (.ref C) "value" = some none
theorem excF_mk {nm q : Str} {N : Addr} {bs bm : List Value} {sn : List Str} {sub : List Value} {ab : Bool} {col : Option Bool} {dd : Option Addr} {k0 k1 k2 k3 k5 : Option Value}
    (xL : K.lookup C = some (excClassObj nm q C N bs bm true sn sub ab col dd k0 k1 k2 k3 k5 "ValueError.__new__")) (hb : bm = chain cE C)
    (sa : PySem.W.findIn K (.ref C) "__setattr__" = some (some (.builtin "object.__setattr__"))) (tyC : PySem.W.typeIn K (.ref C) = some (.type "type")) (kC : PySem.W.keepIn K (.ref C) = true)
    (ga : PySem.W.findIn K (.ref C) "__getattribute__" = some (some (.builtin "BaseException.__getattribute__"))) (gg : PySem.W.findIn K (.ref C) "__getattr__" = some none)
    (ha : PySem.W.findIn K (.ref C) "__class__" = some (some (.builtin "object.__class__"))) (ini : PySem.W.findIn K (.ref C) "__init__" = some (some (.ref fI))) (nv : PySem.W.findIn K (.ref C) "value" = some none) : ExcF K cE fI C :=
  ⟨⟨nm, q, N, bs, sn, sub, ab, col, dd, k0, k1, k2, k3, k5, hb ▸ xL⟩, sa, tyC, kC, ga, gg, ha, ini, nv⟩
theorem chain_has (cE C : Addr) (b : Value) (h : b ∈ ([.type "ValueError", .type "Exception", .type "BaseException", .type "object"] : List Value)) : (Value.ref C :: chain cE C).contains b = true := by
  rw [List.contains_iff_mem]
  exact List.mem_cons_of_mem _ (List.mem_append_right _ h)
theorem ExcF.all (a : ExcF K cE fI C) (zget : PySem.W.specialIn K (.builtin "object.__class__") "__get__" = some (some (.builtin "getset_descriptor.__get__"))) (ztk : PySem.W.takesIn K (.builtin "object.__class__") = some true) : ExcT K cE fI C := by
  obtain ⟨nm, q, N, bs, sn, sb, ab, col, dd, k0, k1, k2, k3, k5, xL⟩ := a.cls
  have cl : PySem.W.clsIn K C = some { name := nm, bases := bs, mro := Value.ref C :: chain cE C, ns := N, qualname := q, hasDict := true, slotNames := sn, subclasses := sb, abstract := ab, collection := col } := by
    unfold PySem.W.clsIn
    rw [xL]
  have sub : ∀ b, PySem.W.subIn K (.ref C) b = some ((Value.ref C :: chain cE C).contains b) := fun b => by
    unfold PySem.W.subIn
    dsimp only
    unfold PySem.W.mroIn
    rw [cl]
    rfl
  have hd : PySem.W.hasDictIn K C = true := by
    unfold PySem.W.hasDictIn
    rw [cl]
    rfl
  have be : PySem.W.subIn K (.ref C) (.type "BaseException") = some true := by rw [sub, chain_has cE C _ (by simp)]
  have ob : PySem.W.subIn K (.ref C) (.type "object") = some true := by rw [sub, chain_has cE C _ (by simp)]
  exact {
    ox := ⟨⟨nm, q, N, bs, _, sn, sb, ab, col, dd, k0, k1, k2, k3, k5, xL, by
      unfold chain
      by_cases c : C = cE
      · rw [if_pos c]
        decide +kernel
      · rw [if_neg c]
        rfl⟩, a.sa, be, a.tyC, a.kC⟩
    xf := ⟨a.ga, a.gg, be, hd⟩
    ec := ⟨a.ga, a.gg, be, hd, a.ha, zget, ztk, ob⟩
    ini := a.ini
    nv := a.nv
    sub := sub
    is := by rw [cl, a.tyC] <;> rfl }
end
theorem nd_at {l : List Addr} (h : l.Nodup) {i j : Nat} (hi : i < l.length) (hj : j < l.length) (e : l.getD i 0 = l.getD j 0) : i = j := by
  rw [List.getD_eq_getElem?_getD, List.getD_eq_getElem?_getD, List.getElem?_eq_getElem hi, List.getElem?_eq_getElem hj] at e
  have pw := List.pairwise_iff_getElem.mp h
  have e' : l[i] = l[j] := e
  rcases Nat.lt_trichotomy i j with c | c | c
  · exact absurd e' (pw i j hi hj c)
  · exact c
  · exact absurd e'.symm (pw j i hj hi c)
/-! ### heaps in which tables may have grown -/
theorem ExtN.same {H H' : Hp} (s : Same H H') : ExtN H H' := fun b o e _ => s b o e
theorem ExtN.seq {K : PySem.W.Frag} {H H' : Hp} {a : Addr} {xs : List V} (e : ExtN H H') (h : SqL K H a xs) : SqL K H' a xs := by
  rcases h with (h | ⟨o, h⟩) | h
  · exact .inl (.inl (e _ _ h fun ps z => by cases z))
  · exact .inl (.inr ⟨o, e _ _ h fun ps z => by cases z⟩)
  · exact .inr h
/-! ### the end of a law's row whose defs make lambdas -/
/-- the script and the empty tables are tracked -/
def seenT (a : Addr) (ob : Obj) (ns : List Int) (own : Bool) (ts : List Addr) : Hp := fun b => if own = false ∧ b = a then some (.frz ob (.lst (ns.map V.int))) else if b ∈ ts then some (.tbl #[]) else none
/-- .. or: each tracked thing is the script or a table -/
theorem seenT_is {a b : Addr} {ob : Obj} {ns : List Int} {own : Bool} {ts : List Addr} {u : HO} (h : seenT a ob ns own ts b = some u) : (own = false ∧ b = a ∧ u = .frz ob (.lst (ns.map V.int))) ∨ (b ∈ ts ∧ u = .tbl #[]) := by
  unfold seenT at h
  split at h
  · rename_i c
    cases h
    exact .inl ⟨c.1, c.2, rfl⟩
  · split at h
    · rename_i c
      cases h
      exact .inr ⟨c, rfl⟩
    · cases h
abbrev tab0 : Obj := { cls := .none, data := .fields #[] }
theorem run_lawT {P : Program} {w : World} {K : PySem.W.Frag} {mg mb : Str → Option Value} {k : Nat} {fa a : Addr} {fd : FuncData} {x : Str} {sp : Sp} {s : Shared} {vs : List Value} {ns : List Int} {cs : List (Addr × Addr)}
    (KX : K.In s.heap) (hns : s.heap.Ns mainGlobals mg) (hb : s.heap.Ns builtinsNs mb) (hbb : ∀ x : Str, x ≠ "__name__" → mb x = bootBuiltins x) (lim : s.heap.NoLimit) (hg : s.gens = #[])
    (bmain : ∃ (bm : Addr) (ob : Obj), mg "__builtins__" = some (.ref bm) ∧ bm ≠ builtinsNs ∧ s.heap.get? bm = some ob ∧ ob.cls = .type "module" ∧ ob.dict = some builtinsNs ∧ ob.data = .plain)
    (tabs : ∀ p ∈ cs, s.heap.get? p.2 = some tab0) (codes : ∀ p ∈ cs, PySem.W.CodeHd s.heap p.1 p.2) (noT : PySem.W.noTabs K = true)
    (ha : s.heap.get? a = some { cls := .type "list", data := .seq vs.toArray }) (hi : IntsAre vs ns) (hl : ns.length ≤ sizeLine) (hr : Room k callerA)
    (F : ∀ base : Heap, K.In base → base.Ns mainGlobals mg → (∀ p ∈ cs, TabB base mg p.1 p.2) → GOk P w K mg base CX0 k fa fd [x] sp) (bnd : ∀ (s : Shared) (u : Value), BindsTo s fd ⟨[u], []⟩ [(x, u)])
    (hsp : ∀ H : Hp, (∀ p ∈ cs, H p.2 = some (.tbl #[])) → SqL K H a (ns.map V.int) → sp [.ref a] H (fun v _ => v = .bl true) fun _ _ _ => False) :
    codeAny (model P w) callerA (.call (.ref fa) ⟨[.ref a], []⟩) (fun r s1 => r = .ok (.ret (.bool true)) ∧ OldK s.heap s1.heap ∧ s1.os = s.os ∧ AllBare s1.gens) s := by
  have rv := vals_ints hi
  let ob : Obj := { cls := .type "list", data := .seq vs.toArray }
  have aT : a ∉ cs.map (·.2) := fun z => by
    obtain ⟨p, hp, e⟩ := List.mem_map.mp z
    have := (tabs p hp).symm.trans (e ▸ ha)
    cases this
  have ofT : ∀ b ∈ cs.map (·.2), s.heap.get? b = some tab0 := fun b hb => by
    obtain ⟨p, hp, rfl⟩ := List.mem_map.mp hb
    exact tabs p hp
  have KT : ∀ b ∈ cs.map (·.2), K.lookup b = none := fun b hb => by
    cases q : K.lookup b with
    | none => rfl
    | some o =>
      have e := (KX b o q).symm.trans (ofT b hb)
      cases e
      exact absurd (List.all_eq_true.mp noT _ (PySem.W.mem_of_lookupK q)) Bool.false_ne_true
  obtain ⟨own, hown⟩ : ∃ own : Bool, own = (K.lookup a).isSome := ⟨_, rfl⟩
  generalize hH : seenT a ob ns own (cs.map (·.2)) = H
  have is : ∀ b u, H b = some u → (own = false ∧ b = a ∧ u = .frz ob (.lst (ns.map V.int))) ∨ (b ∈ cs.map (·.2) ∧ u = .tbl #[]) := fun b u e => seenT_is (hH ▸ e)
  have atT : ∀ b ∈ cs.map (·.2), H b = some (.tbl #[]) := fun b m => by
    rw [← hH]
    unfold seenT
    rw [if_neg (fun z : own = false ∧ b = a => aT (z.2 ▸ m)), if_pos m]
  have hS : SqL K H a (ns.map V.int) := by
    cases q : K.lookup a with
    | some o =>
      have e := (KX a o q).symm.trans ha
      cases e
      exact .inr ⟨_, vs.toArray, _, q, rfl, rfl, rfl, by rw [List.size_toArray, hi.length]; exact hl, by simpa using rv⟩
    | none =>
      rw [q] at hown
      refine .inl (.inr ⟨ob, ?_⟩)
      rw [← hH]
      unfold seenT
      rw [if_pos ⟨hown, rfl⟩]
  have hok : HOk P w H s.heap := fun b u e => by
    rcases is b u e with ⟨_, rfl, rfl⟩ | ⟨m, rfl⟩
    · exact ⟨ha, by rw [List.length_map]; exact hl, vs, _, rv, ha⟩
    · exact ofT b m
  -- what is neither a list nor an empty record is not tracked
  have free : ∀ {b : Addr} {o : Obj}, s.heap.get? b = some o → (∀ xs n, o.data ≠ .seq xs n) → o.data ≠ .fields #[] → H b = none := fun {b o} e d1 d2 => by
    cases q : H b with
    | none => rfl
    | some u =>
      rcases is b u q with ⟨_, rfl, _⟩ | ⟨m, _⟩
      · cases e.symm.trans ha
        exact absurd rfl (d1 _ _)
      · cases e.symm.trans (ofT b m)
        exact absurd rfl d2
  have nsB : ∀ {b : Addr} {m : Str → Option Value}, s.heap.Ns b m → (hidT s.heap H).Ns b m := fun {b m} ⟨o, es, ep, e, d, r⟩ =>
    ⟨o, es, ep, hidT_get e (free e (fun _ _ z => by rw [d] at z; cases z) fun z => by rw [d] at z; cases z), d, r⟩
  have inK : K.In (hidT s.heap H) := fun b o e => hidT_get (KX b o e) (by
    cases q : H b with
    | none => rfl
    | some u =>
      rcases is b u q with ⟨z, rfl, _⟩ | ⟨m, _⟩
      · rw [e] at hown
        rw [hown] at z
        cases z
      · rw [KT b m] at e
        cases e)
  have TB : ∀ p ∈ cs, TabB (hidT s.heap H) mg p.1 p.2 := fun p hp => by
    obtain ⟨o, us, file, tf, flags, tg, inF, text, tt, e1, c1, c2, c3, rest⟩ := codes p hp
    obtain ⟨bm, om, b1, b2, b3, b4, b5, b6⟩ := bmain
    obtain ⟨og, eg, pg, g1, g2, _⟩ := id hns
    have pm : bm ≠ p.2 := fun z => by
      have := b3.symm.trans (z ▸ tabs p hp)
      cases this
      cases b6
    have gm : bm ≠ mainGlobals := fun z => by
      rw [z] at b3
      cases b3.symm.trans g1
      cases b6.symm.trans g2
    refine ⟨⟨o, us, file, tf, flags, tg, inF, text, tt, hidT_get e1 (free e1 (fun _ _ z => by rw [c2] at z; cases z) fun z => ?_), c1, c2, c3, rest⟩, ⟨bm, om, b1, b2, gm, pm, hidT_get b3 (free b3 (fun _ _ z => by rw [b6] at z; cases z) fun z => by rw [b6] at z; cases z), b4, b5, b6⟩, fun z => ?_⟩
    · rw [c2] at z
      cases z
      simp at c3
    · have := g1.symm.trans (z ▸ tabs p hp)
      cases this
      cases g2
  obtain ⟨mc, l1, l2⟩ := lim
  have e0 : Env0 P w K mg (hidT s.heap H) callerA [] s H :=
    { frames := rfl, mod := ⟨inK, nsB hns, ⟨mb, nsB hb, hbb⟩, ⟨mc, nsB l1, l2⟩⟩, bs := fun b o e => of_hidT e, bsz := Nat.le_of_eq (hidT_size _ _), funs := trivial, frf := fun b z => absurd (show b ∈ ([] : List Addr) from z) List.not_mem_nil, hok := hok, bare := .of_eq hg }
  refine codeAny_mono ((F _ inK (nsB hns) TB).go callerA [] s H ⟨[.ref a], []⟩ [.ref a] [.ref a] _ _ rfl hr e0 (bnd s (.ref a)) (.cons rfl .nil) (hsp H (fun p hp => atT _ (List.mem_map.mpr ⟨p, hp, rfl⟩)) hS)) fun r s1 z => ?_
  match r, z with
  | .error e, z => exact z.elim
  | .ok .next, z => exact z.elim
  | .ok .brk, z => exact z.elim
  | .ok .cont, z => exact z.elim
  | .ok (.ret u), z =>
    obtain ⟨v, H1, os, bare, un, hok1, r1, q⟩ := z
    subst q
    obtain rfl : u = Value.bool true := r1
    have stay : ∀ b o, b ∉ cs.map (·.2) → s.heap.get? b = some o → s1.heap.get? b = some o := fun b o nb e => by
      cases q : H b with
      | none => exact un.keep b o e q (fun z => absurd (show b ∈ ([] : List Addr) from z) List.not_mem_nil) List.not_mem_nil
      | some u =>
        rcases is b u q with ⟨_, rfl, rfl⟩ | ⟨m, _⟩
        · obtain ⟨e1, _⟩ := hok _ _ q
          obtain ⟨e2, _⟩ := hok1 _ _ (un.frzs _ _ _ q)
          cases e.symm.trans e1
          exact e2
        · exact absurd m nb
    have grown : ∀ p ∈ cs, ∃ more : Array Value, s1.heap.get? p.2 = some { cls := .none, data := .fields more } := fun p hp => by
      obtain ⟨more, q⟩ := un.tbls p.2 #[] (atT _ (List.mem_map.mpr ⟨p, hp, rfl⟩))
      exact ⟨_, hok1 p.2 _ q⟩
    refine ⟨rfl, ⟨fun b o e => ?_, fun b o e => ?_⟩, os, bare⟩
    · by_cases m : b ∈ cs.map (·.2)
      · obtain ⟨p, hp, rfl⟩ := List.mem_map.mp m
        obtain ⟨more, q⟩ := grown p hp
        cases e.symm.trans (tabs p hp)
        exact .inr (.inl ⟨((codes p hp).tab (tabs p hp)).isCodeTable, rfl, #[], more, rfl, by rw [Array.empty_append]; exact q⟩)
      · exact .inl (stay b o m e)
    · by_cases m : b ∈ cs.map (·.2)
      · obtain ⟨p, hp, rfl⟩ := List.mem_map.mp m
        obtain ⟨more, q⟩ := grown p hp
        exact ⟨_, q⟩
      · exact ⟨o, stay b o m e⟩
/-- the def's code object and its table, by the top -/
theorem tab_at {p : Program} {h : Heap} {K : PySem.W.Frag} {mg : Str → Option Value} {x : Str} {f : Addr} {oc : Value} {od : Option Addr} {fd : FuncData} {sl : Array (Option Value)}
    (tab : ∀ d ∈ recsOf p, ∃ a o fd c P, mg d.name = some (.ref a) ∧ h.get? a = some o ∧ o.data = .func fd ∧ fd.code = .ref c ∧ h.IsCode c P #[] ∧ h.TableAt c P #[]) (X : K.In h) (hx : ((recsOf p).any fun d => d.name == x) = true) (hm : mg x = some (.ref f))
    (lk : K.lookup f = some ⟨oc, od, .func fd, sl⟩) : ∃ c P, fd.code = .ref c ∧ PySem.W.CodeHd h c P ∧ h.get? P = some tab0 := by
  obtain ⟨d, hd, e⟩ := List.any_eq_true.mp hx
  obtain rfl : d.name = x := beq_iff_eq.mp e
  obtain ⟨a, o, fd2, c, P, h1, h2, h3, h4, h5, h6⟩ := tab d hd
  cases hm.symm.trans h1
  cases h2.symm.trans (X _ _ lk)
  cases h3
  exact ⟨c, P, h4, PySem.W.CodeHd.of h5 h6, h6.2⟩
theorem walk_gT {l : PySem.W.OpenLaw} {n k : Nat} {q : Program} {loose : List Str} {XP : (Str → Option Value) → Heap → Prop} {YP : World → Heap → Prop} {d : DefRec} {K : Params → PySem.W.Frag} {x : Str}
    (hn : l.most = some n) (hn2 : n ≤ sizeLine) (hdf : d.params.defaults = []) (hr : Room k callerA) (hY : ∀ (w : World) (h : Heap), YP w h → (K w.params).In h) (noT : ∀ w : World, PySem.W.noTabs (K w.params) = true)
    (F : ∀ (w : World) (mg : Str → Option Value) (fa : Addr) (h : Heap), (K w.params).In h → h.Ns mainGlobals mg → mg d.name = some (.ref fa) →
      (∀ d ∈ recsOf q, ∃ a o fd c P, mg d.name = some (.ref a) ∧ h.get? a = some o ∧ o.data = .func fd ∧ fd.code = .ref c ∧ h.IsCode c P #[] ∧ h.TableAt c P #[]) →
      ∃ (fd : FuncData) (cs : List (Addr × Addr)) (sp : Sp), (∀ p ∈ cs, PySem.W.CodeHd h p.1 p.2 ∧ h.get? p.2 = some tab0) ∧ (∀ (s : Shared) (u : Value), BindsTo s fd ⟨[u], []⟩ [(x, u)]) ∧
        (∀ (H : Hp) (a : Addr) (ns : List Int), ns.length ≤ n → (∀ p ∈ cs, H p.2 = some (.tbl #[])) → SqL (K w.params) H a (ns.map V.int) → sp [.ref a] H (fun v _ => v = .bl true) fun _ _ _ => False) ∧
        ∀ base : Heap, (K w.params).In base → base.Ns mainGlobals mg → (∀ p ∈ cs, TabB base mg p.1 p.2) → GOk l.prog w (K w.params) mg base CX0 k fa fd [x] sp) :
    PySem.W.WalkO q loose XP YP l.row.toRowW d [] (fun f vs => PySem.call f vs) :=
  Att.attach_call hn hdf fun w s₀ s₁ mg mb fa o pm cd doc a vs ns G Y ho hd hcd hmg hobj hints hlen hg => by
    obtain ⟨fd, cs, sp, ht, hb, hsp, hF⟩ := F w mg fa _ (hY w _ Y) G.T.g hmg G.T.tab
    exact run_lawT (hY w _ Y) G.T.g G.T.b G.T.builtins G.T.nolimit hg G.T.bmain (fun p hp => (ht p hp).2) (fun p hp => (ht p hp).1) (noT w) hobj hints (Nat.le_trans hlen hn2) hr hF hb fun H hT hS => hsp H a ns hlen hT hS
end TT

set_option Elab.async false
set_option linter.all false
set_option maxRecDepth 100000
set_option maxHeartbeats 4000000
/-! list(range(a, b)) with ends of any size. -/
namespace TT
open PySem PySem.Spec PyProof.Rows L2
section
variable {prog : Program} {w : World} {A : Around} {E : Value → Shared → Prop} {s : Shared}
/-- the list at S takes what the range at r yields, by the iterator for great ends -/
theorem take_long {R : Result → Shared → Prop} {r S : Addr} {a b c : Int} {t u v : Tok} {n k0 : Nat} {res : Value} (hh : A.handled = none) (hr : IsRange s.heap r a b c t u v) (big : Builtin.Range.small a b c = false) (hn : Builtin.Range.rangeSize a b c = n) (hl : n ≤ 2 ^ 24)
    (hS : s.heap.get? S = some { cls := .type "list", data := .seq #[] k0 })
    (done : ∀ h' tk its k, (∀ x o, x ≠ S → s.heap.get? x = some o → h'.get? x = some o) → h'.get? S = some { cls := .type "list", dict := none, data := .seq its k, slots := #[] } → ItemsOf (fun i y => ∃ t, y = .int (a + i * c) t) its n → R (.ok (.ret res)) { s with heap := h', toks := tk }) :
    wpAny (model prog w) A.in1 (Builtin.List.listExtendWith (.ref S) (.ref r) res)
      (fun fin s1 => match fin with | .done f => R (.ok f) s1 | .again c1 => c1.quiet = true ∧ codeAny (model prog w) A c1 R s1) (fun e s1 => R (.error e) s1) s := by
  have apart : S ≠ r := by
    rintro rfl
    have z := congrArg (fun o => o.map Obj.cls) (hr.symm.trans hS)
    simp at z
  have below : S < s.heap.objs.size := Heap.lt_size hS
  have notI : S ≠ s.heap.objs.size := Nat.ne_of_lt below
  have walk := (Walks.longrange (prog := prog) (w := w) (A := A.in1) hh s.heap.objs.size a c n).toS
  have loop : ∀ (h : Heap) (k tk : Nat), IsLongIter h s.heap.objs.size (a + ((0 : Nat) : Int) * c) ((n : Int) - ((0 : Nat) : Int)) c → (∀ x o, x ≠ S → s.heap.get? x = some o → h.get? x = some o) →
      h.get? S = some { cls := .type "list", data := .seq #[] k } → codeAny (model prog w) A (.builtin "list.extend.loop" ⟨[.ref S, .ref s.heap.objs.size, res], []⟩) R { s with heap := h, toks := tk } := fun h k tk it old atS => by
    refine codeAny_extend_loopS walk (by rw [sizeLine_eq]; omega) S (fun m => notI (List.mem_singleton.mp m)) res n 0 _ #[] k rfl (Nat.zero_le _) it atS (ItemsOf.nil _) fun s1 its k1 mv at1 all => ?_
    rw [Moved.eq_with mv]
    refine done s1.heap s1.toks its k1 (fun x o nx e => mv.heap x o (fun m => ?_) (old x o nx e)) at1 all
    rcases List.mem_cons.mp m with z | z
    · exact nx z
    · have lt := Heap.lt_size e
      rw [List.mem_singleton.mp z] at lt
      exact Nat.lt_irrefl _ lt
  have n1 : Builtin.List.listSameRef (.ref S) (.ref r) = false := by simp [Builtin.List.listSameRef, apart]
  have n2 : (Value.type "range" == Value.type "list") = false := by decide
  have n3 : (Value.type "range" == Value.type "tuple") = false := by decide
  unfold Builtin.List.listExtendWith
  refine wpAny_bind (wpAny_typeOf (T := "range") ⟨_, hr, rfl⟩ ?_)
  simp only [n1, n2, n3, Bool.or_false, Bool.false_eq_true, if_false]
  refine wpAny_bind (wpAny_pyIter_longrange hr big (wpAny_bind (wpAny_holding (wpAny_hint_range (n := n) (Heap.get?_push_of_some _ hr) hn hl ?_))))
  have it1 : IsLongIter (s.heap.push { cls := .type "longrange_iterator", data := .fields #[rawInt a, rawInt (Builtin.Range.rangeSize a b c), rawInt c] }) s.heap.objs.size (a + ((0 : Nat) : Int) * c) ((n : Int) - ((0 : Nat) : Int)) c := by
    rw [hn]
    simpa using Heap.get?_push_size _ rfl
  have S1 := Heap.get?_push_of_some { cls := .type "longrange_iterator", data := .fields #[rawInt a, rawInt (Builtin.Range.rangeSize a b c), rawInt c] } hS
  refine wpAny_ite_split (fun _ => ?_) (fun _ => wpAny_pure ⟨plainId_quiet F.plain_extend_loop _, loop _ k0 _ it1 (fun _ _ _ e => Heap.get?_push_of_some _ e) S1⟩)
  refine wpAny_bind (wpAny_rule (wpAny_bind ?_))
  show wpAny _ _ (updateSeq S (·.push .none) >>= fun _ => updateSeq S (·.pop)) _ _ _
  have S2 := Heap.get?_update_self (Obj.mapSeq (·.push Value.none)) S1 rfl
  refine wpAny_bind (wpAny_updateSeq S1 rfl (wpAny_updateSeq (hz := by seq_fits) S2 rfl ?_))
  have S3 := Heap.get?_update_self (Obj.mapSeq (·.pop)) S2 rfl
  refine wpAny_pure ⟨plainId_quiet F.plain_extend_loop _, loop _ _ _ ?_ (fun x o nx e => ?_) S3⟩
  · exact (Heap.get?_update_other _ _ notI).trans ((Heap.get?_update_other _ _ notI).trans it1)
  · exact (Heap.get?_update_other _ _ (Ne.symm nx)).trans ((Heap.get?_update_other _ _ (Ne.symm nx)).trans (Heap.get?_push_of_some _ e))
theorem list_long {Q : Value → Shared → Prop} {r : Addr} {a b c : Int} {t u v : Tok} {n : Nat} (hh : A.handled = none) (hr : IsRange s.heap r a b c t u v) (big : Builtin.Range.small a b c = false) (hn : Builtin.Range.rangeSize a b c = n) (hl : n ≤ 2 ^ 24)
    (done : ∀ h' tk its k, (∀ x o, s.heap.get? x = some o → h'.get? x = some o) → h'.get? s.heap.objs.size = some { cls := .type "list", dict := none, data := .seq its k, slots := #[] } → ItemsOf (fun i y => ∃ t, y = .int (a + i * c) t) its n → Q (.ref s.heap.objs.size) { s with heap := h', toks := tk }) :
    wpAny (model prog w) A (call (.type "list") [.ref r]) Q E s := by
  refine callType_codes (Q₁ := fun obj s1 => obj = .ref s.heap.objs.size ∧ s1 = { s with heap := s.heap.push { cls := .type "list", data := .seq #[] } }) F.called_list (F.typeCall_list_1 _) F.entry_list_init (code_list_new _ ⟨rfl, rfl⟩) fun obj s1 ⟨e1, e2⟩ => ?_
  subst e1 e2
  have S0 : (s.heap.push { cls := .type "list", data := .seq #[] }).get? s.heap.objs.size = some { cls := .type "list", data := .seq #[] } := Heap.get?_push_size _ rfl
  have r0 := Heap.get?_push_of_some { cls := .type "list", data := .seq #[] } hr
  refine ⟨⟨_, S0, rfl⟩, F.args_list_init_2 _ _, ?_⟩
  have apart : r ≠ s.heap.objs.size := Nat.ne_of_lt (Heap.lt_size hr)
  show wpAny _ _ (do let old ← Builtin.List.listItems (.ref s.heap.objs.size); Builtin.List.listUpdate (.ref s.heap.objs.size) (fun _ => #[]); letGo old.toList.reverse; Builtin.List.listExtendWith (.ref s.heap.objs.size) (.ref r) .none) _ _ _
  refine wpAny_bind ?_
  unfold Builtin.List.listItems
  refine wpAny_bind (wpAny_seqItems S0 rfl (wpAny_pure ?_))
  show wpAny _ _ (updateSeq s.heap.objs.size (fun _ => #[]) >>= fun _ => letGo (#[] : Array Value).toList.reverse >>= fun _ => Builtin.List.listExtendWith (.ref s.heap.objs.size) (.ref r) .none) _ _ _
  refine wpAny_bind (wpAny_updateSeq S0 rfl (wpAny_bind (wpAny_letGo ?_)))
  have off : ∀ {x : Addr} {f : Obj → Obj}, x ≠ s.heap.objs.size → ((s.heap.push { cls := .type "list", data := .seq #[] }).update s.heap.objs.size f).get? x = (s.heap.push { cls := .type "list", data := .seq #[] }).get? x := fun nx => Heap.get?_update_other _ _ (Ne.symm nx)
  refine take_long (A := A.in1) (s := { s with heap := (s.heap.push { cls := .type "list", data := .seq #[] }).update s.heap.objs.size (Obj.mapSeq (fun _ => (#[] : Array Value))) }) (S := s.heap.objs.size) hh ((off apart).trans r0) big hn hl (Heap.get?_update_self (Obj.mapSeq (fun _ => (#[] : Array Value))) S0 rfl) fun h' tk its k old at1 all => ?_
  refine ⟨rfl, done h' tk its k (fun x o e => ?_) at1 all⟩
  have nx := Nat.ne_of_lt (Heap.lt_size e)
  exact old x o nx ((off nx).trans (Heap.get?_push_of_some _ e))
end
section
variable {X : Cx} {e : Expr} {te : L2.St → Hp → (Int → Int → Hp → Prop) → Prop}
def tLstRgW (te : L2.St → Hp → (Int → Int → Hp → Prop) → Prop) : TE := fun σ H Q => te σ H fun a b H1 => (b - a).toNat ≤ 2 ^ 24 ∧ ∀ q, H1 q = none → Q (.ref q) (upd H1 q (.lst (rgV a b)))
theorem pe_listRgW {p pos : Pos} (hc : X.calm = true) (hg : Gl X "list") (hm : X.mg "list" = none) (he : PRg X e te) (na : starEach [e] X.env = (false, eval e X.env) :: starEach [] X.env := by rfl) : PE X (.Call (.Name "list" p) [e] [] pos) (tLstRgW te) := by
  constructor
  intro pins s σ H Q I h
  refine Call_ (ld_blt I hg hm boot_list (PyProof.Rows.callWith_type1 (args_cons (thn (he pins s σ H _ I h) fun x s1 ⟨r, a, b, t, u, v, H1, ex, hr, I1, ok, q⟩ => args_nil ?_) na) na))
  subst ex
  have fin : ∀ h' tk its k, (∀ x o, s1.heap.get? x = some o → h'.get? x = some o) → h'.get? s1.heap.objs.size = some { cls := .type "list", dict := none, data := .seq its k, slots := #[] } → ItemsOf (fun i y => ∃ t, y = .int (a + i * 1) t) its (b - a).toNat →
      EP X pins σ Q (.ref s1.heap.objs.size) { s1 with heap := h', toks := tk } := fun h' tk its k old at1 all => by
    refine ⟨.ref s1.heap.objs.size, upd H1 s1.heap.objs.size (.lst (rgV a b)), I1.laid old (Nat.le_refl _) (show ObjOk X.prog X.w _ _ _ (.lst (rgV a b)) from ⟨?_, its.toList, k, vals_rg all, ?_⟩), rfl, q _ (I1.hok.fresh (Nat.le_refl _))⟩
    · rw [rgV_length, sizeLine_eq]
      omega
    · rw [Array.toArray_toList]
      exact at1
  by_cases sm : Builtin.Range.small a b 1 = true
  · exact call_list_range (I1.ok.hd hc) hr sm (rangeSize_nat a b) ok fin
  · exact list_long (I1.ok.hd hc) hr (by simpa using sm) (rangeSize_nat a b) ok fin
end
end TT

set_option Elab.async false
set_option linter.all false
set_option maxRecDepth 100000
set_option maxHeartbeats 4000000
/-! An own operation of two things of one own class. -/
namespace TT
open PySem PySem.Spec PyProof.Rows L2 LamX
/-- x op y, both instances of the class at C; what comes out is a thing -/
def rBinO (C : Addr) (sp : Sp) (E : XK) : R2 := fun x y H Q => ∃ a b, x = V.ref a ∧ y = V.ref b ∧ (∃ dx fs, H a = some (.ins C dx fs)) ∧ (∃ dx fs, H b = some (.ins C dx fs)) ∧ sp [.ref a, .ref b] H (fun v H' => (∃ c, v = V.ref c) ∧ Q v H') E
section
variable {X : Cx} {CX : CXT} {k : Nat} {f C : Addr} {fd : FuncData} {ps : List Str} {sp : Sp} {E : XK}
theorem op_binO {op : Operator} (F : FnOk X.prog X.w X.K X.mg X.base CX k f fd ps sp) (hr : Room k X.A) (hb : Binds X.K fd ps []) (hx : Passes CX X E) (hc : PySem.W.selfFirst X.K C = true)
    (hs : PySem.W.findIn X.K (.ref C) (PySem.dunder op.info.2) = some (some (.ref f))) (hf : PySem.W.isFn X.K (.ref f) = true) : OpR X (binaryOp op) (rBinO C sp E) := by
  intro pins s σ H x y v u Q I rx ry h
  obtain ⟨a, b, rfl, rfl, ⟨dx, fs, ha⟩, ⟨dy, gs, hb'⟩, hq⟩ := h
  obtain rfl : v = Value.ref a := rx
  obtain rfl : u = Value.ref b := ry
  obtain ⟨mA, O, _⟩ := ins_get I.hok ha
  obtain ⟨od, J, _⟩ := O.look
  obtain ⟨mB, O', _⟩ := ins_get I.hok hb'
  obtain ⟨od', J', _⟩ := O'.look
  obtain ⟨m, hF⟩ := I.fr
  refine PySem.W.binop_K hF I.ok.mod.kin J J'.type hc hs hf (wpAny_mono (run_fn (us := [.ref a, .ref b]) (vs := [.ref a, .ref b]) (dvs := []) (ds := []) F hr hb .nil hx I (.cons rfl (.cons rfl .nil)) hq) (fun v' s' z => ?_) fun _ _ z => z)
  obtain ⟨w', H', I', r', ⟨c, rfl⟩, q⟩ := z
  obtain rfl : v' = Value.ref c := r'
  exact ⟨.ref c, H', I', rfl, q⟩
end
end TT

set_option Elab.async false
set_option linter.all false
set_option maxRecDepth 100000
set_option maxHeartbeats 4000000
/-! max of a tuple of two ints; != of a list and []. -/
namespace TT
open PySem PySem.Spec PyProof.Rows L2 LamX
section
variable {X : Cx}
def rNeNil (K : PySem.W.Frag) : R2 := fun x y H Q => ∃ a b xs, x = .ref a ∧ y = .ref b ∧ SqL K H a xs ∧ SqL K H b [] ∧ Q (.bl (!xs.isEmpty)) H
theorem op_neNil (hu : X.A.units < cLine) : OpR X (compareOp .NotEq) (rNeNil X.K) := by
  intro pins s σ H x y v u Q I rx ry h
  obtain ⟨a, b, xs, rfl, rfl, ha, hb, q⟩ := h
  obtain rfl : v = Value.ref a := rx
  obtain rfl : u = Value.ref b := ry
  obtain ⟨its, rv, hl, _⟩ := I.list ha
  obtain ⟨its2, rv2, hl2, _⟩ := I.list hb
  cases rv2
  show wpAny (model X.prog X.w) X.A (richCompare .NotEq (.ref a) (.ref b)) (EP X pins σ Q) X.xe s
  cases rv with
  | nil => exact SeqAt.RcNeAt.lists (e := fun _ => true) hl.isList hl2.isList rfl hu (fun j h1 _ => absurd h1 (by simp)) X.prog X.w X.xe _ ⟨.bl false, H, I, rfl, q⟩
  | cons r rs => exact SeqAt.RcNeAt.lists_lengths hl.isList hl2.isList (by simp) hu X.prog X.w X.xe _ ⟨.bl true, H, I, rfl, q⟩
def rMaxT2 (K : PySem.W.Frag) : List V → Hp → VK → Prop := fun vs H Q => ∃ (a : Addr) (i j : Int), vs = [V.ref a] ∧ SqT K H a [.int i, .int j] ∧ Q (.int (if j > i then j else i)) H
theorem cr_maxT2 (hc : X.calm = true) (hu : X.A.units + 64 < cLine) : CallR X (.builtin "max") (rMaxT2 X.K) := by
  intro pins s σ H vs us Q I r h
  obtain ⟨a, i, j, rfl, hs, q⟩ := h
  obtain ⟨its, rv, ht, _⟩ := I.tuple hs
  rw [Vals.ref1 r]
  cases rv with
  | cons r1 rs =>
    cases rs with
    | cons r2 r3 =>
      cases r3
      obtain ⟨t, rfl⟩ := r1
      obtain ⟨t', rfl⟩ := r2
      refine PySem.W.max_tuple_data (x := .int i) (xs := [.int j]) (I.ok.hd hc) ht (.cons (.int i t) (.cons (.int j t') .nil)) ?_ ?_ fun k v h' tk bs hv hr hk => ?_
      · refine ⟨fun x hx y hy => ?_, fun x hx => ?_⟩
        · simp only [List.mem_cons, List.not_mem_nil, or_false] at hx hy
          rcases hx with rfl | rfl <;> rcases hy with rfl | rfl <;> simp [PySem.W.alike]
        · simp only [List.mem_cons, List.not_mem_nil, or_false] at hx
          rcases hx with rfl | rfl <;> simp
      · simp only [PyData.depthAll, PyData.depth]
        omega
      · have e : PySem.W.maxD (.int i) [.int j] = .int (if j > i then j else i) := by
          have := PySem.W.maxD_ints i [j]
          simp only [List.map_cons, List.map_nil, List.foldl_cons, List.foldl_nil] at this
          rw [this]
          congr 1
          rw [Int.max_def]
          split <;> split <;> omega
        rw [e] at hr
        cases hr with
        | int z t => exact ⟨.int _, H, I.kept hk, ⟨_, rfl⟩, q⟩
end
end TT

set_option Elab.async false
set_option linter.all false
set_option maxRecDepth 100000
set_option maxHeartbeats 400000
/-! own ==, with either answer, of a thing and another one or a tuple; != by way of it. -/
namespace TT
open PySem PySem.Spec PyProof.Rows PySem.SeqAt
section
variable {M : Model} {prog : Program} {w : World} {A : Around} {E : Value → Shared → Prop} {s : Shared} {K : PySem.W.Frag} {x C f L : Addr} {ox : Obj} {od : Option Obj} {b tb : Value} {h₀ : Heap} {m : Str → Option Value}
theorem entry_ne {Q : Fin → Shared → Prop} (hu : A.units < cLine) (X : K.In s.heap) (I : PySem.W.InstAt s.heap x ox C od) (hs : PySem.W.findIn K (.ref C) "__eq__" = some (some (.ref f))) (hf : PySem.W.isFn K (.ref f) = true)
    (h : wpAny M A (call (.ref f) [.ref x, b]) (fun v s' => ∃ k, v = .bool k ∧ Q (.done (.ret (.bool (!k)))) s') E s) : wpAny M A (Builtin.«object.__ne__» ⟨[.ref x, b], []⟩) Q E s := by
  unfold Builtin.«object.__ne__»
  repeat (first | with_reducible refine wpAny_cRoomFor hu ?_ | (with_reducible refine PySem.W.ifBound_K X I hs hf (wpAny_mono h (fun v s' z => ?_) fun _ _ e => e); obtain ⟨k, rfl, q⟩ := z) | wp_step)
  exact q
theorem call_objNe {Q : Value → Shared → Prop} (hu : A.units + 1 < cLine) (X : K.In s.heap) (I : PySem.W.InstAt s.heap x ox C od) (hm : PySem.W.mroIn K C (.type "object") = some true) (hs : PySem.W.findIn K (.ref C) "__eq__" = some (some (.ref f))) (hf : PySem.W.isFn K (.ref f) = true)
    (h : wpAny (model prog w) A.in1 (call (.ref f) [.ref x, b]) (fun v s' => ∃ k, v = .bool k ∧ Q (.bool (!k)) s') E s) :
    wpAny (model prog w) A (call (.builtin "object.__ne__") [.ref x, b]) Q E s :=
  wpAny_call (codeAny_call_builtin F.cmp_object.ne.plain F.cmpEntry_ne (PySem.W.check_slot F.cmpKind_ne F.cmpSplit_ne (I.type.andThen (PySem.W.looks_mroIn X hm)) (F.cmpArgs_ne _ _)
    (entry_ne (A := A.in1) hu X I hs hf (wpAny_mono h (fun v s' z => z) fun _ _ e => e))))
theorem ifBound_objNe {args : List Value} {Q : Option Value → Shared → Prop} (X : K.In s.heap) (I : PySem.W.InstAt s.heap x ox C od) (hs : PySem.W.findIn K (.ref C) "__ne__" = some (some (.builtin "object.__ne__")))
    (h : wpAny M A (call (.builtin "object.__ne__") (.ref x :: args)) (fun v => Q (some v)) E s) : wpAny M A (callSpecialIfBound? (.ref x) "__ne__" args) Q E s := by
  simp only [callSpecialIfBound?, bindSpecialIfBound?]
  refine wpAny_holding (wpAny_bind (wpAny_bind (wpAny_bind (I.type.here ((PySem.W.looks_findIn X hs).here ?_)))))
  refine wpAny_bind (wpAny_askSetting (wpAny_ite ?_))
  have fin : wpAny M A (call (.builtin "object.__ne__") ([.ref x] ++ args) >>= fun v => pure (some v)) Q E s := wpAny_bind (wpAny_mono h (fun v s' h' => wpAny_pure h') fun _ _ h' => h')
  split
  · exact wpAny_bind (wpAny_of_eq (F.cmp_object.ne.bind _) (wpAny_pure (by exact fin)))
  · exact wpAny_tryCatch (wpAny_bind (wpAny_of_eq (F.cmp_object.ne.bind _) (wpAny_pure (by exact fin))))
/-- x != b, the class of x having an own == and no own != -/
theorem ne_K {Q : Value → Shared → Prop} (hu : A.units + 1 < cLine) (X : K.In s.heap) (I : PySem.W.InstAt s.heap x ox C od) (hb : PySem.W.Looks (model prog w) s.heap (typeOf b) tb) (hn : PySem.W.notFirst K C tb = true)
    (hm : PySem.W.mroIn K C (.type "object") = some true) (hne : PySem.W.findIn K (.ref C) "__ne__" = some (some (.builtin "object.__ne__"))) (hs : PySem.W.findIn K (.ref C) "__eq__" = some (some (.ref f))) (hf : PySem.W.isFn K (.ref f) = true)
    (h : wpAny (model prog w) A.in1 (call (.ref f) [.ref x, b]) (fun v s' => ∃ k, v = .bool k ∧ Q (.bool (!k)) s') E s) : wpAny (model prog w) A (richCompare .NotEq (.ref x) b) Q E s := by
  have one : wpAny (model prog w) A (tryCompare (.ref x) "__ne__" b) (fun r s' => ∃ v, r = some v ∧ Q v s') E s := by
    unfold tryCompare
    refine wpAny_bind (ifBound_objNe X I hne (wpAny_mono (call_objNe (Q := fun v s' => ∃ k, v = .bool k ∧ Q v s') hu X I hm hs hf (wpAny_mono h (fun v s' ⟨k, e, q⟩ => ⟨k, e, _, rfl, q⟩) fun _ _ e => e)) (fun v s' z => ?_) fun _ _ e => e))
    obtain ⟨k, rfl, q⟩ := z
    exact wpAny_pure ⟨_, rfl, q⟩
  unfold richCompare
  simp only [oneThing_ref]
  refine wpAny_holding (wpAny_bind (wpAny_cRoomFor (by omega) ?_))
  refine wpAny_bind (I.type.here (wpAny_bind (hb.here ?_)))
  split
  · rename_i q
    have e : PySem.W.subIn K tb (.ref C) = some false := by
      rcases Bool.or_eq_true_iff.mp hn with e | e
      · rw [beq_iff_eq.mp e] at q; simp at q
      · exact beq_iff_eq.mp e
    refine wpAny_bind ((PySem.W.looks_subIn X e).here ?_)
    simp only [Bool.false_eq_true, if_false]
    refine wpAny_bind (wpAny_mono one (fun r s' z => ?_) fun _ _ e => e)
    obtain ⟨v, rfl, hq⟩ := z
    exact wpAny_pure hq
  · refine wpAny_bind (wpAny_pure ?_)
    simp only [Bool.false_eq_true, if_false]
    refine wpAny_bind (wpAny_mono one (fun r s' z => ?_) fun _ _ e => e)
    obtain ⟨v, rfl, hq⟩ := z
    exact wpAny_pure hq
end
open L2 LamX
/-- y is an instance of the class at C, or a tuple -/
inductive Oth (C : Addr) (H : Hp) : V → Prop
  | ins {b dy : Addr} {gs : List (Str × V)} (h : H b = some (.ins C dy gs)) : Oth C H (.ref b)
  | tup {b : Addr} {xs : List V} (h : H b = some (.tup xs)) : Oth C H (.ref b)
/-- x == y by the own __eq__, which answers by a bool -/
def rEqO (C : Addr) (sp : Sp) (E : XK) : R2 := fun x y H Q => ∃ a dx fs, x = V.ref a ∧ H a = some (.ins C dx fs) ∧ Oth C H y ∧ sp [.ref a, y] H (fun v H' => (∃ b, v = V.bl b) ∧ Q v H') E
def rNeO (C : Addr) (sp : Sp) (E : XK) : R2 := fun x y H Q => ∃ a dx fs, x = V.ref a ∧ H a = some (.ins C dx fs) ∧ Oth C H y ∧ sp [.ref a, y] H (fun v H' => ∃ b, v = V.bl b ∧ Q (.bl (!b)) H') E
section
variable {X : Cx} {CX : CXT} {k : Nat} {f C : Addr} {fd : FuncData} {ps : List Str} {sp : Sp} {E : XK}
theorem oth_type {pins : List (Addr × Obj)} {σ : L2.St} {H : Hp} {s : Shared} {M : Model} (I : Inv X pins σ H s) {y : V} {u : Value} (ry : RelV y u) (o : Oth C H y) (ht : PySem.W.notFirst X.K C (.type "tuple") = true) :
    ∃ tb, PySem.W.Looks M s.heap (typeOf u) tb ∧ PySem.W.notFirst X.K C tb = true := by
  cases o with
  | @ins b dy gs h =>
    obtain rfl : u = Value.ref b := ry
    obtain ⟨mB, O, _⟩ := ins_get I.hok h
    obtain ⟨od, J, _⟩ := O.look
    exact ⟨_, J.type, by simp [PySem.W.notFirst]⟩
  | @tup b xs h =>
    obtain rfl : u = Value.ref b := ry
    obtain ⟨its, _, ⟨o, ho, hc, _⟩, _⟩ := I.tuple (SqT.of h)
    exact ⟨_, hc ▸ (PySem.W.Looks.ld ho).andThen .now, ht⟩
theorem op_eqO (F : FnOk X.prog X.w X.K X.mg X.base CX k f fd ps sp) (hr : Room k X.A) (hb : Binds X.K fd ps []) (hx : Passes CX X E) (ht : PySem.W.notFirst X.K C (.type "tuple") = true)
    (hs : PySem.W.findIn X.K (.ref C) "__eq__" = some (some (.ref f))) (hf : PySem.W.isFn X.K (.ref f) = true) : OpR X (compareOp .Eq) (rEqO C sp E) := by
  intro pins s σ H x y v u Q I rx ry h
  obtain ⟨a, dx, fs, rfl, ha, o, hq⟩ := h
  obtain rfl : v = Value.ref a := rx
  obtain ⟨mA, O, _⟩ := ins_get I.hok ha
  obtain ⟨od, J, _⟩ := O.look
  obtain ⟨m, hF⟩ := I.fr
  obtain ⟨tb, lt, hn⟩ := oth_type (M := model X.prog X.w) I ry o ht
  show wpAny (model X.prog X.w) X.A (richCompare .Eq (.ref a) u) (EP X pins σ Q) X.xe s
  refine PySem.W.cmp_K (op := .Eq) hr.units0 hF I.ok.mod.kin J lt hn hs hf (wpAny_mono (run_fn (us := [.ref a, u]) (vs := [.ref a, y]) (dvs := []) (ds := []) F hr hb .nil hx I (.cons rfl (.cons ry .nil)) hq) (fun v' s' z => ?_) fun _ _ z => z)
  obtain ⟨w', H', I', r', ⟨c, rfl⟩, q⟩ := z
  obtain rfl : v' = Value.bool c := r'
  exact ⟨.bl c, H', I', rfl, q⟩
theorem op_neO (F : FnOk X.prog X.w X.K X.mg X.base CX k f fd ps sp) (hr : Room k X.A.in1) (hu : X.A.units + 64 < cLine) (hb : Binds X.K fd ps []) (hx : Passes CX X E) (ht : PySem.W.notFirst X.K C (.type "tuple") = true)
    (hm : PySem.W.mroIn X.K C (.type "object") = some true) (hne : PySem.W.findIn X.K (.ref C) "__ne__" = some (some (.builtin "object.__ne__")))
    (hs : PySem.W.findIn X.K (.ref C) "__eq__" = some (some (.ref f))) (hf : PySem.W.isFn X.K (.ref f) = true) : OpR X (compareOp .NotEq) (rNeO C sp E) := by
  intro pins s σ H x y v u Q I rx ry h
  obtain ⟨a, dx, fs, rfl, ha, o, hq⟩ := h
  obtain rfl : v = Value.ref a := rx
  obtain ⟨mA, O, _⟩ := ins_get I.hok ha
  obtain ⟨od, J, _⟩ := O.look
  obtain ⟨tb, lt, hn⟩ := oth_type (M := model X.prog X.w) I ry o ht
  show wpAny (model X.prog X.w) X.A (richCompare .NotEq (.ref a) u) (EP X pins σ Q) X.xe s
  refine ne_K (by omega) I.kIn J lt hn hm hne hs hf ?_
  have e0 : Env0 X.prog X.w X.K X.mg X.base X.A.in1 X.stack s H := by
    have e := I.env0
    exact ⟨e.frames, e.mod, e.bs, e.bsz, e.funs, e.frf, e.hok, e.bare⟩
  have hl := F.len _ _ _ _ hq
  have r2 : Vals [V.ref a, y] [Value.ref a, u] := .cons rfl (.cons ry .nil)
  refine wpAny_call (codeAny_mono (F.run X.A.in1 X.stack s H ⟨[.ref a, u], []⟩ [.ref a, u] [.ref a, y] _ E hr e0 (by
    have := hb s [.ref a, u] I.kIn (by simpa using hl)
    simpa using this) r2 hq) fun r s' hq => ?_)
  cases r with
  | error e => exact hx pins σ H s e s' I hq
  | ok fl =>
    cases fl with
    | ret w =>
      obtain ⟨z, H', I', rz, ⟨c, ez, q⟩⟩ := I.after hq
      subst ez
      obtain rfl : w = Value.bool c := rz
      exact ⟨c, rfl, .bl (!c), H', I', rfl, q⟩
    | next => exact False.elim hq
    | brk => exact False.elim hq
    | cont => exact False.elim hq
end
end TT

set_option Elab.async false
set_option linter.all false
set_option maxRecDepth 100000
set_option maxHeartbeats 4000000
/-! Texts: numbers read, words joined and split. -/
namespace TT
open PySem PySem.Builtin PySem.Builtin.Str PySem.StrLaws PySem.Spec PyProof.Rows L2 TL
theorem at_zero_iff (x y : Str) : At x y x.length 0 ↔ Txt.startswith x y = true := by
  unfold Txt.startswith
  rw [Bool.and_eq_true, decide_eq_true_eq]
  exact Iff.rfl
theorem starts_one (x : Str) (c : Nat) : Txt.startswith x ⟨#[c]⟩ = ((tl x).head? == some c) := by
  have h := (at_zero_iff x ⟨#[c]⟩).symm.trans (at_iff (x := x) (y := ⟨#[c]⟩) (by simp) 0)
  rw [List.drop_zero] at h
  have e : pre (tl (⟨#[c]⟩ : Str)) (tl x) = ((tl x).head? == some c) := by
    show ((tl x).take 1 == [c]) = _
    cases tl x with
    | nil => simp
    | cons a l => simp
  rw [e] at h
  exact Bool.eq_iff_iff.mpr h
theorem dig_ascii : ∀ c, c < 128 → Unicode.isDigit c = (decide (48 ≤ c) && decide (c ≤ 57)) := by decide +kernel
/-- are these digits, one or more? -/
def allDig (l : List Nat) : Bool := !l.isEmpty && l.all fun c => decide (48 ≤ c) && decide (c ≤ 57)
theorem allDig_iff {l : List Nat} : allDig l = true ↔ l ≠ [] ∧ NumText.AllDigits l := by
  unfold allDig NumText.AllDigits
  simp [List.all_eq_true]
theorem isdigit_ascii (x : Str) (h : Txt.isascii x = true) : Txt.isdigit x = allDig (tl x) := by
  unfold Txt.isascii at h
  unfold Txt.isdigit allDig
  rw [← Array.all_toList] at h ⊢
  have e1 : decide (x.length > 0) = !(tl x).isEmpty := by
    rw [len_tl]
    cases tl x <;> simp
  rw [e1]
  congr 1
  rw [Bool.eq_iff_iff, List.all_eq_true, List.all_eq_true]
  rw [List.all_eq_true] at h
  refine ⟨fun a c hc => ?_, fun a c hc => ?_⟩
  · rw [← dig_ascii c (by simpa using h c hc)]
    exact a c hc
  · rw [dig_ascii c (by simpa using h c hc)]
    exact a c hc
theorem ascii_of {x : Str} (h : allDig (tl x) = true) : Txt.isascii x = true := by
  obtain ⟨_, h⟩ := allDig_iff.mp h
  unfold Txt.isascii
  rw [← Array.all_toList, List.all_eq_true]
  intro c hc
  have := h c hc
  simp
  omega
/-- the digits of a word -/
def digs (w : Str) : List Nat := if (tl w).head? = some 45 then (tl w).drop 1 else tl w
/-- the number that Python writes as this word -/
def numRead (w : Str) : Option Int :=
  if allDig (digs w) = true then
    if (digs w).head? = some 48 ∧ tl w ≠ [48] then none
    else some (if (tl w).head? = some 45 then -((NumText.digitsVal (digs w) : Nat) : Int) else ((NumText.digitsVal (digs w) : Nat) : Int))
  else none
theorem numL_head {n : Nat} (h : 1 ≤ n) : (numL n).head? ≠ some 48 := by
  induction n using Nat.strongRecOn with
  | _ n ih =>
    by_cases c : n < 10
    · rw [numL_lt c]
      simp
      omega
    · rw [numL_step (by omega)]
      have := ih (n / 10) (by omega) (by omega)
      cases e : numL (n / 10) with
      | nil => exact absurd e (numL_ne _)
      | cons a l =>
        rw [e] at this
        simpa using this
theorem numL_not45 (n : Nat) : (numL n).head? ≠ some 45 := by
  cases e : numL n with
  | nil => simp
  | cons a l =>
    have := numL_digits n a (by rw [e]; exact List.mem_cons_self)
    simp
    omega
theorem numL_allDig (n : Nat) : allDig (numL n) = true := allDig_iff.mpr ⟨numL_ne n, numL_digits n⟩
theorem numRead_nat (n : Nat) : numRead (Str.ofString (toString ((n : Nat) : Int))) = some (n : Int) := by
  unfold numRead digs
  rw [tl_num, if_neg (numL_not45 n), numL_allDig, if_pos rfl, if_neg (numL_not45 n), numL_val]
  rw [if_neg]
  rintro ⟨h1, h2⟩
  by_cases c : 1 ≤ n
  · exact numL_head c h1
  · have : n = 0 := by omega
    subst this
    exact h2 (numL_lt (by decide))
theorem numRead_neg {n : Nat} (h : 1 ≤ n) : numRead (Str.ofString "-" ++ Str.ofString (toString ((n : Nat) : Int))) = some (-(n : Int)) := by
  have e : tl (Str.ofString "-" ++ Str.ofString (toString ((n : Nat) : Int))) = 45 :: numL n := by
    rw [tl_append, tl_num] <;> rfl
  unfold numRead digs
  rw [e]
  simp only [List.head?_cons, if_true, List.drop_one, List.tail_cons]
  rw [numL_allDig, if_pos rfl, if_neg (fun z => numL_head h z.1), numL_val]
/-! the digits' value -/
theorem val_zero (l : List Nat) : NumText.digitsVal (48 :: l) = NumText.digitsVal l := rfl
theorem int_zero {d : Str} (h : allDig (tl d) = true) (hl : d.length ≤ 600) : intText? (Str.ofString "0" ++ d) = some ((NumText.digitsVal (tl d) : Nat) : Int) := by
  obtain ⟨h1, h2⟩ := allDig_iff.mp h
  have e : tl (Str.ofString "0" ++ d) = 48 :: tl d := by
    rw [tl_append] <;> rfl
  have z := PySem.intText_digits (x := Str.ofString "0" ++ d) (by
    show NumText.AllDigits (tl _)
    rw [e]
    intro c hc
    rcases List.mem_cons.mp hc with rfl | hc
    · decide
    · exact h2 c hc) (by show tl _ ≠ []; rw [e]; simp) (by rw [len_tl, e, List.length_cons, ← len_tl]; omega)
  rw [show (Str.ofString "0" ++ d).cps.toList = 48 :: tl d from e, val_zero] at z
  exact z
theorem cut_one (w : Str) : tl (cutS w (some 1) none) = (tl w).drop 1 := by
  have hl := len_tl w
  unfold cutS
  show (((tl w).drop (HT.sIx w.length 0 (some 1))).take (HT.sIx w.length w.length none - HT.sIx w.length 0 (some 1))) = _
  have e1 : HT.sIx w.length w.length none = w.length := rfl
  have e2 : HT.sIx w.length 0 (some 1) = min 1 w.length := by
    show (if (1 : Int) < 0 then ((1 : Int) + (w.length : Int)).toNat else min (1 : Int).toNat w.length) = _
    rw [if_neg (by decide)]
    rfl
  rw [e1, e2]
  by_cases c : w.length = 0
  · have : tl w = [] := List.length_eq_zero_iff.mp (by omega)
    rw [this]
    simp
  · have : min 1 w.length = 1 := by omega
    rw [this]
    exact List.take_of_length_le (by rw [List.length_drop]; omega)
theorem str_one (c : Nat) (x : Str) : (tl x = [c]) ↔ x = ⟨#[c]⟩ := ⟨fun h => ext_tl h, fun h => by rw [h]⟩
theorem str_eq_tl {x y : Str} : decide (V.str x = V.str y) = decide (tl x = tl y) := by
  by_cases c : x = y
  · subst c
    simp
  · rw [decide_eq_false (fun z => c (V.str.inj z)), decide_eq_false (fun z => c (ext_tl z))]
/-! words -/
theorem tl_str (s : String) : tl (Str.ofString s) = s.toList.map Char.toNat := by
  rw [Str.ofString_eq_toList]
theorem blank_free {n : Nat} : 32 ∉ numL n := numL_free (.inl (by decide))
end TT

set_option Elab.async false
set_option linter.all false
set_option maxRecDepth 100000
set_option maxHeartbeats 4000000
/-! A static method called by way of its class. -/
namespace TT
open PySem PySem.Spec PyProof.Rows L2 LamX
/-- C.m is a static method: its record at p, its def at g -/
structure CSta (K : PySem.W.Frag) (C : Addr) (mc : Value) (m : Str) (p g : Addr) : Prop where
  found : PySem.W.findCls K (.ref C) mc m = some (.get (.builtin "staticmethod.__get__") (.ref p) .none (.ref C))
  holds : ∃ more, PySem.W.recIn K p "staticmethod" = some (.ref g :: more)
  kept : PySem.W.keepIn K (.ref g) = true
def tStat (C : Addr) (sp : Sp) (E : XK) (to : TE) (ta : TA) : TE := fun σ H Q => to σ H fun x H1 => x = .ref C ∧ ta σ H1 fun vs H2 => sp (vs ++ []) H2 Q E
section
variable {X : Cx} {CX : CXT} {k : Nat} {C p g : Addr} {mc : Value} {fd : FuncData} {ps : List Str} {sp : Sp} {E : XK} {o e : Expr} {es : List Expr} {m : Str} {pos apos : Pos} {to : TE} {ta : TA} {pl : Sem Bool}
theorem sta_attr {pins : List (Addr × Obj)} {σ : L2.St} {H : Hp} {s : Shared} {A : Around} {b : Bool} {ER : Value → Shared → Prop} {Q : Value → Shared → Prop} (I : Inv X pins σ H s) (rd : ClX.CRead X.K C mc) (c : CSta X.K C mc m p g)
    (go : ∀ s1, Inv X pins σ H s1 → Q (.ref g) s1) : wpAny (model X.prog X.w) A (getAttr (.ref C) m b) Q ER s := by
  obtain ⟨more, hp⟩ := c.holds
  refine PySem.W.cls_bind I.kIn rd.rd c.found (wpAny_call ?_)
  exact PySem.W.sm_get (s := { s with toks := s.toks + 1 }) I.kIn hp (PySem.W.handed_on rfl (go _ (I.tok _)))
theorem pe_stat (ho : PE X o to) (rd : ClX.CRead X.K C mc) (c : CSta X.K C mc m p g) (F : FnOk X.prog X.w X.K X.mg X.base CX k g fd ps sp) (hr : Room k X.A) (hb : Binds X.K fd ps []) (hx : Passes CX X E) (ha : PA X (e :: es) ta)
    (star : starEach (e :: es) X.env = (false, eval e X.env) :: starEach es X.env := by rfl) (plain : (backTo pos (starEach es X.env)).any (·.1) = false := by rfl)
    (runs : eval (.Call (.Attribute o m apos) (e :: es) [] pos) X.env = (do
      let w0 ← eval o X.env
      standAt apos.atName
      let (fn, ahead) ← holding [w0] (getMethod w0 m pl)
      callWith pos fn ahead (backTo pos (starEach (e :: es) X.env)) (backToKw pos (keywordEach [] X.env))) := by rfl) :
    PE X (.Call (.Attribute o m apos) (e :: es) [] pos) (tStat C sp E to ta) := by
  constructor
  intro pins s σ H Q I h
  refine PySem.W.methodCall_KW (pl := pl) (thn (ho.run pins s σ H _ I h) fun u s1 z => ?_) runs
  obtain ⟨x, H1, I1, rx, ex, q⟩ := z
  subst ex
  obtain rfl : u = Value.ref C := rx
  refine PySem.W.method_cls I1.kIn rd.ga (sta_attr I1 rd c fun s2 I2 => ?_)
  refine PySem.W.callWith_K (h₀ := X.base) I2.ok.mod.kin c.kept (thn (ha.run pos pins s2 σ H1 _ I2 q) fun us s3 y => ?_) star plain
  obtain ⟨vs, H2, I3, rv, q2⟩ := y
  exact ⟨I3.kIn, run_fn F hr hb .nil hx I3 rv q2⟩
end
end TT

set_option Elab.async false
set_option linter.all false
set_option maxRecDepth 100000
set_option maxHeartbeats 4000000
/-! An except clause of a pair of classes, whose suite may raise. -/
namespace TT
open PySem PySem.Spec PyProof.Rows L2 L2H HotX
theorem flyZ_keeps {B h h' : Heap} {l : List Env} {a : Addr} {Z : Obj → Prop} (x : HandSPX.FlyingZ B l a Z h) (k : ∀ b o, h.get? b = some o → h'.get? b = some o) : HandSPX.FlyingZ B l a Z h' := by
  obtain ⟨f1, f2, f3, oe, vs, T, oT, ts, he, hz, hd, h1, hn, hne, hT, hdT, h3⟩ := x
  exact ⟨fun b o q => k b o (f1 b o q), f2, f3.of_keeps fun b o q _ => ⟨o, k b o q, rfl⟩, oe, vs, T, oT, ts, k _ _ he, hz, hd, h1, hn, hne, k _ _ hT, hdT, h3⟩
/-- what the clause asks of an exception -/
def wPair (K : PySem.W.Frag) (c1 c2 : Value) (ts : Addr → Value → Option Addr → TS) (Wout : WX) (D : Ends) : WX := fun cls d σ H =>
  ∃ b, PySem.W.exmAny K cls [c1, c2] = some b ∧ (b = true → ∀ a, H a = none → ts a cls d D σ H) ∧ (b = false → Wout cls d σ H)
/-- what flies on -/
def wPass2 (K : PySem.W.Frag) (c1 c2 : Value) (Wout : WX) : WX := fun cls d σ H => PySem.W.exmAny K cls [c1, c2] = some false ∧ Wout cls d σ H
section
variable {X : Cx} {x1 x2 : Str} {c1 c2 : Value} {n1 n2 tp : Pos} {kk : Nat}
/-- the test of the clause -/
theorem pair_test {a e : Addr} {pn pins : List (Addr × Obj)} {σ : L2.St} {H : Hp} {s : Shared} {cls : Value} {b : Bool} {Q : Bool → Shared → Prop} {E : Value → Shared → Prop} (h1 : Names X x1 c1) (h2 : Names X x2 c2) (S : Inv (X.suite a pn) pins σ H s) (kin : X.K.In s.heap)
    (LT : PySem.W.Looks (model X.prog X.w) s.heap (typeOf (.ref e)) cls) (he : PySem.W.exmAny X.K cls [c1, c2] = some b)
    (q : ∀ h', (∀ b o, s.heap.get? b = some o → h'.get? b = some o) → Q b { s with heap := h' }) :
    wpAny (model X.prog X.w) (X.A.mark (some (.ref a))) (eval (.Tuple [.Name x1 n1, .Name x2 n2] kk tp) X.env) (fun c s₁ => wpAny (model X.prog X.w) (X.A.mark (some (.ref a))) (excMatches (.ref e) c) Q E s₁) E s := by
  have one : ∀ {x : Str} {c : Value} {n : Pos} {Q : Value → Shared → Prop}, Names X x c → Q c s → wpAny (model X.prog X.w) (X.A.mark (some (.ref a))) (eval (.Name x n) X.env) Q E s := fun {x c n Q} hc q => by
    obtain ⟨hg, hdbg, hm | ⟨hm, hv, hnn⟩⟩ := hc
    · exact ld_glob (X := X.suite a pn) S hg hm q hdbg
    · exact ld_blt (X := X.suite a pn) S hg hm hv q hnn hdbg
  refine wpAny_Tuple ?_
  refine wpAny_items_cons (one h1 ?_)
  refine wpAny_items_cons (one h2 ?_)
  refine wpAny_items_nil ⟨by size_fits, ?_⟩
  have kp : ∀ q o, s.heap.get? q = some o → (s.heap.push { cls := .type "tuple", data := .seq [c1, c2].toArray }).get? q = some o := fun _ _ z => Heap.get?_push_of_some _ z
  exact (PySem.W.exm_tup2 (kin.keeps kp) (LT.keeps kp) (Heap.get?_push_size s.heap rfl) he).here (q _ kp)
end
section
variable {X : Cx} {x1 x2 : Str} {c1 c2 : Value} {n1 n2 tp pos pos' : Pos} {kk : Nat} {body suite : List Stmt} {b₀ : Stmt} {tb : WX → TS} {ts : Addr → Value → Option Addr → TS} {Wout : WX}
theorem ps_try_pairX (hs : X.stack = X.env :: X.outer) (hf : X.env.frame = some X.env.locals) (h1 : Names X x1 c1) (h2 : Names X x2 c2) (hpa : ∀ hd : Option Value, PassesOwnAt (model X.prog X.w) (X.A.mark hd) X.A X.env X.xe) (tk : L2.Takes X Wout)
    (hb : ∀ (W : WX) (pn : List (Addr × Obj)) (xe : Value → Shared → Prop), L2N.Takes (X.tr pn xe) W → L2.Takes (X.tr pn xe) (wPass2 X.K c1 c2 Wout) → PassesOwn (model X.prog X.w) X.A X.env xe → PSs (X.tr pn xe) body (tb W))
    (hsu : ∀ (a : Addr) (oe : Obj) (cls : Value) (d : Option Addr) (pn : List (Addr × Obj)), L2N.Zn cls d oe → (∃ vs, oe.data = .fields vs) → L2.Takes (suiteX X a ((a, oe) :: pn)) Wout → HotC (suiteX X a ((a, oe) :: pn)) →
      PSs (suiteX X a ((a, oe) :: pn)) (b₀ :: suite) (ts a cls d)) :
    PS X (.Try body [.ExceptHandler (some (.Tuple [.Name x1 n1, .Name x2 n2] kk tp)) none (b₀ :: suite) pos'] [] [] pos) (fun D σ H => tb (wPair X.K c1 c2 ts Wout D) D σ H) := by
  refine ⟨fun pins s σ H D I h => ?_⟩
  have ok := I.ok
  have hfr : X.A.frames = some (X.env :: X.outer) := by rw [ok.frames, hs]
  have notFr : ∀ {B h : Heap} {a : Addr} {o : Obj} {vs : Array Value}, h.FunFrames B (X.env :: X.outer) → h.get? a = some o → o.data = .fields vs → a ∉ frs (X.env :: X.outer) := fun {B h a o vs} ff e dd hm => by
    obtain ⟨_, o', e', hnf⟩ := ff.mem hm
    rw [e] at e'; cases e'
    exact hnf _ dd
  have flyOn : ∀ {a : Addr} {B : Heap} {sI s' : Shared} {σ' : L2.St} {H' : Hp} {cls : Value} {d : Option Addr} {h3 : Heap}, Inv X pins σ' H' sI → (∀ b o, sI.heap.get? b = some o → b ∉ frs X.stack → B.get? b = some o) → sI.heap.UpToSlots h3 →
      HandSPX.FlyingZ B (X.env :: X.outer) a (Zc cls d) h3 → H' a = none → s'.os = sI.os → AllBare s'.gens → Wout cls d σ' H' → wpAny (model X.prog X.w) X.A (handleBy (.ref a) X.env []) (SP X pins D) X.xe { s' with heap := h3 } := by
    intro a B sI s' σ' H' cls d h3 J nb up fl3 na os ag w
    refine wpAny_handleBy_nil ?_
    obtain ⟨k1, k2, k3, oe, vs, T, oT, ts', he, hz, hd, h1, hr⟩ := id fl3
    unfold PySem.passOn
    refine wpAny_bind (wpAny_field he hd h1 ?_)
    rw [if_neg (show ¬ ((Value.ref T == Value.none) = true) from by simp)]
    have fin : wpAny (model X.prog X.w) X.A (setFlight (.ref a) X.env.frame) (fun _ s4 => wpAny (model X.prog X.w) X.A (throw (.ref a) : Sem Flow) (SP X pins D) X.xe s4) X.xe { s' with heap := h3 } := by
      rw [hf]
      refine HandSPX.setFlight_upZ fl3 fun h4 hh4 up4 => wpAny_throw (tk _ _ ?_)
      exact ⟨a, B, sI, pins, σ', H', cls, d, rfl, J, nb, up.trans up4, .inr (.inr (by rw [hs]; exact hh4)), na, os, ag, w⟩
    first
      | exact wpAny_bind (wpAny_pure (wpAny_bind fin))
      | exact wpAny_bind fin
  -- what both kinds of exceptions share: the landed state, the test
  have nots : ∀ {B h : Heap} {a : Addr} {o : Obj} {vs : Array Value}, h.FunFrames B (X.env :: X.outer) → h.get? a = some o → o.data = .fields vs → a ≠ X.env.locals ∧ a ∉ X.fs := fun {B h a o vs} ff he hd => by
    have nfr := notFr ff he hd
    refine ⟨fun z => nfr (List.mem_filterMap.mpr ⟨X.env, List.mem_cons_self, by rw [hf, z]⟩), fun hm => ?_⟩
    obtain ⟨e, he', q⟩ := List.mem_filterMap.mp hm
    exact nfr (List.mem_filterMap.mpr ⟨e, List.mem_cons_of_mem _ he', q⟩)
  refine wpAny_Try_except ?_
  refine wpAny_mono ((hb (wPair X.K c1 c2 ts Wout D) (X.pn ++ pins) (fun e s₁ => wpAny (model X.prog X.w) X.A (noteFrame e X.env) (fun _ s₂ => wpAny (model X.prog X.w) X.A (setFlight e none) (fun _ s₃ =>
    wpAny (model X.prog X.w) X.A (handleBy e X.env [.ExceptHandler (some (.Tuple [.Name x1 n1, .Name x2 n2] kk tp)) none (b₀ :: suite) pos']) (SP X pins D) X.xe s₃) X.xe s₂) X.xe s₁) (fun u s' xx => ?_) (fun u s' xx => ?_) PassesOwn.looking).run [] s σ H D (I.toTry _) h) (fun f s1 hsp => ?_) (fun e s1 he => he)
  · obtain ⟨a, B, sI, pins', σ', H', cls, d, rfl, J', nb, up, sky, na, os, ag, b, hb1, hyes, hno⟩ := xx
    have J : Inv X pins σ' H' sI := J'.ofTry ok
    have sky' : Sky B (X.env :: X.outer) a (L2N.Zn cls d) X.env.locals s'.heap := by rw [← hs]; exact sky
    show wpAny (model X.prog X.w) X.A (noteFrame (.ref a) X.env) _ _ _
    refine L2N.Sky.land L2N.Zn.steady hfr hf sky' fun h3 fl3 up3 => ?_
    have J3 : Inv X pins σ' H' { s' with heap := h3 } := J.landed nb fl3.1 (up.trans up3) os ag
    obtain ⟨oe3, vs3, he3, hz3, hd3⟩ := fl3.there
    obtain ⟨nL, nF⟩ := nots fl3.2.2.1 he3 hd3
    have S3 := J3.suite he3 hd3 na nL nF
    refine wpAny_handleBy_cons (codeAny_handlers_test ?_) (by intro q; cases q)
    have LT : PySem.W.Looks (model X.prog X.w) h3 (typeOf (.ref a)) cls := fun A Q E s k q => wpAny_typeOf_ref (k _ _ he3) (by rw [hz3.1]; exact q)
    refine pair_test h1 h2 S3 J3.kIn LT hb1 fun h5 kp => ?_
    have fl5 := flyZ_keeps fl3 kp
    have up5 := (up.trans up3).trans (Heap.UpToSlots.of_keeps kp)
    cases b with
    | true =>
      refine codeAny_handlers_suite ?_
      refine HandSPX.lands_againZ fl5 fun h4 fl4 up4 => ?_
      have J4 : Inv X pins σ' H' { s' with heap := h4 } := J.landed nb fl4.1 (up5.trans up4) os ag
      obtain ⟨oe4, vs4, he4, hz4, hd4⟩ := fl4.there
      have S4 := J4.suite he4 hd4 na nL nF
      have tkS : L2.Takes (suiteX X a ((a, oe4) :: (X.pn ++ pins))) Wout := fun u2 s2 x2 => by
        obtain ⟨a2, B2, sI2, pn2, σ2, H2, cls2, d2, e2, I2, nb2, up2, sky2, na2, os2, ag2, w2⟩ := x2
        exact tk u2 s2 ⟨a2, B2, sI2, pins, σ2, H2, cls2, d2, e2, unsuiteX I2 ok, nb2, up2, sky2, na2, os2, ag2, w2⟩
      have hot : HotC (suiteX X a ((a, oe4) :: (X.pn ++ pins))) := ⟨(a, oe4), ⟨rfl, vs4, hd4, hz4.2.2 vs4 hd4⟩, List.mem_cons_self⟩
      refine wpAny_mono ((hsu a oe4 cls d (X.pn ++ pins) hz4 ⟨_, hd4⟩ tkS hot).run [] _ _ H' _ (suiteX_of S4) (hyes rfl a na)) (fun f s6 hsp => ?_) (fun e6 s6 z => hpa (some (.ref a)) e6 s6 z)
      cases f with
      | ret u =>
        obtain ⟨v6, σ6, H6, S6, r6, q6⟩ := hsp
        exact ⟨_, _, _, unsuiteX S6 ok, r6, q6⟩
      | next =>
        obtain ⟨σ6, H6, S6, q6⟩ := hsp
        exact ⟨_, _, unsuiteX S6 ok, q6⟩
      | brk =>
        obtain ⟨σ6, H6, S6, q6⟩ := hsp
        exact ⟨_, _, unsuiteX S6 ok, q6⟩
      | cont =>
        obtain ⟨σ6, H6, S6, q6⟩ := hsp
        exact ⟨_, _, unsuiteX S6 ok, q6⟩
    | false =>
      show wpAny _ X.A (handleBy (.ref a) X.env []) _ _ _
      exact flyOn J nb up5 (flyingZ_imp (fun o z => z.zc) fl5) na os ag (hno rfl)
  · obtain ⟨a, B, sI, pins', σ', H', cls, d, rfl, J', nb, up, sky, na, os, ag, hb1, hno⟩ := xx
    have J : Inv X pins σ' H' sI := J'.ofTry ok
    have sky' : Sky B (X.env :: X.outer) a (Zc cls d) X.env.locals s'.heap := by rw [← hs]; exact sky
    show wpAny (model X.prog X.w) X.A (noteFrame (.ref a) X.env) _ _ _
    refine L2.Sky.land Zc.steady hfr hf sky' fun h3 fl3 up3 => ?_
    have J3 : Inv X pins σ' H' { s' with heap := h3 } := J.landed nb fl3.1 (up.trans up3) os ag
    obtain ⟨oe3, vs3, he3, hz3, hd3⟩ := fl3.there
    obtain ⟨nL, nF⟩ := nots fl3.2.2.1 he3 hd3
    have S3 := J3.suite he3 hd3 na nL nF
    refine wpAny_handleBy_cons (codeAny_handlers_test ?_) (by intro q; cases q)
    have LT : PySem.W.Looks (model X.prog X.w) h3 (typeOf (.ref a)) cls := fun A Q E s k q => wpAny_typeOf_ref (k _ _ he3) (by rw [hz3.1]; exact q)
    refine pair_test h1 h2 S3 J3.kIn LT hb1 fun h5 kp => ?_
    show wpAny _ X.A (handleBy (.ref a) X.env []) _ _ _
    exact flyOn J nb ((up.trans up3).trans (Heap.UpToSlots.of_keeps kp)) (flyZ_keeps fl3 kp) na os ag hno
  · cases f with
    | ret u =>
      obtain ⟨v, σ', H', J', r, q⟩ := hsp
      exact ⟨v, σ', H', J'.ofTry ok, r, q⟩
    | next =>
      obtain ⟨σ', H', J', q⟩ := hsp
      exact wpAny_execs_nil ⟨σ', H', J'.ofTry ok, q⟩
    | brk =>
      obtain ⟨σ', H', J', q⟩ := hsp
      exact ⟨σ', H', J'.ofTry ok, q⟩
    | cont =>
      obtain ⟨σ', H', J', q⟩ := hsp
      exact ⟨σ', H', J'.ofTry ok, q⟩
end
/-! ### errors of one's own whose context is None -/
section
variable {X : Cx} {e : Expr} {es : List Expr} {ta : TA} {p pos : Pos}
/-- C(e, ..) where nothing is handled: its context is None -/
theorem pmk_oexN {CX : CXT} {x : Str} {C fI : Addr} {k : Nat} {fd : FuncData} {ps : List Str} {sp : Sp} {ds : List Value} {dvs : List V} (T : OexC X.K C) (iC : PySem.W.findIn X.K (.ref C) "__init__" = some (some (.ref fI))) (tI : PySem.W.typeIn X.K (.ref fI) = some (.type "function"))
    (F1 : FnOk X.prog X.w X.K X.mg X.base CX k fI fd ps sp) (hr : Room (k + 1) X.A) (hb : Binds X.K fd ps ds) (hd : Vals dvs ds) (hx : Passes CX X (fun _ _ _ => False)) (hg : Gl X x) (hm : X.mg x = some (.ref C)) (ha : PA X (e :: es) ta)
    (hdb : (x == ("__debug__" : Str)) = false := by decide) (he : starEach (e :: es) X.env = (false, eval e X.env) :: starEach es X.env := by rfl) (hpl : (backTo pos (starEach es X.env)).any (·.1) = false := by rfl) :
    L2N.PMk X (.Call (.Name x p) (e :: es) [] pos) (tMkO C sp dvs ta) := by
  intro pins s σ H Q I h
  obtain ⟨_, _, _, _, bm, _, _, _, _, _, _, _, _, _, _, hC, hbm⟩ := T.cls
  refine wpAny_Call_Name_kw (ld_glob I hg hm ?_ hdb)
  refine PySem.W.callWith_K (h₀ := X.base) I.ok.mod.kin T.kC (thn (ha.run pos pins s σ H _ I h) fun us s1 ⟨vs, H1, I1, r1, hz, q1⟩ => ⟨I1.kIn, ?_⟩) he hpl
  show wpAny _ _ (call (.ref C) us) _ _ _
  obtain ⟨hp, g, dr, tk, os⟩ := s1
  have new : H1 (hp.objs.size + 1) = none := I1.hok.fresh (Nat.le_succ _)
  have asked := q1 (hp.objs.size + 1) new
  have kk : ∀ b o, hp.get? b = some o → ((hp.push (PySem.W.kdv_tup us)).push (PySem.HandSPX.excO C hp.objs.size)).get? b = some o := fun b o e => Heap.get?_push_of_some _ (Heap.get?_push_of_some _ e)
  have there : ((hp.push (PySem.W.kdv_tup us)).push (PySem.HandSPX.excO C hp.objs.size)).get? (hp.objs.size + 1) = some (PySem.HandSPX.excO C hp.objs.size) := by heap_get
  have I2 : Inv X pins σ (upd H1 (hp.objs.size + 1) (exo (hp.objs.size + 1) C none)) ⟨(hp.push (PySem.W.kdv_tup us)).push (PySem.HandSPX.excO C hp.objs.size), g, dr, tk, os⟩ :=
    I1.laid (t' := tk) (a := hp.objs.size + 1) (o := exo (hp.objs.size + 1) C none) (h' := (hp.push (PySem.W.kdv_tup us)).push (PySem.HandSPX.excO C hp.objs.size)) kk (Nat.le_succ _) (exo_ok there)
  have r2 : Vals (V.ref (hp.objs.size + 1) :: (vs ++ dvs)) (Value.ref (hp.objs.size + 1) :: (us ++ ds)) := .cons rfl (r1.append hd)
  have hl : (Value.ref (hp.objs.size + 1) :: us ++ ds).length = ps.length := by
    have e := r2.length
    rw [F1.len _ _ _ _ asked] at e
    exact e.symm
  have hus : us.length ≤ sizeLine := by
    rw [← Paired.length r1, sizeLine_eq]
    omega
  refine wpAny_call (PySem.HandSPX.call_own F.excBase_ValueError (fun Y => PySem.HandSPX.refsVE_contains Y bm hbm) (I1.kIn _ _ hC) (PySem.W.looks_findIn I1.kIn iC) (fun self => PySem.W.bind_fn I1.kIn self tI) hus
    (codeAny_mono (F1.run _ X.stack _ _ ⟨Value.ref (hp.objs.size + 1) :: us, []⟩ (Value.ref (hp.objs.size + 1) :: (us ++ ds)) _ _ (fun _ _ _ => False) (hr.make C us []) (I2.env0.make C us []) (hb _ (Value.ref (hp.objs.size + 1) :: us) I2.kIn hl) r2 asked) fun r s' hq' => ?_))
  cases r with
  | error er => exact hx pins σ _ _ er s' I2 hq'
  | ok fl =>
    cases fl with
    | next => exact False.elim hq'
    | brk => exact False.elim hq'
    | cont => exact False.elim hq'
    | ret u =>
      obtain ⟨v, H2, os2, bare2, un2, hok2, rv, ev, d, fs, ea, ed, hd1, q2⟩ := hq'
      subst ev
      obtain ⟨h2, g2, d2, t2, os'⟩ := s'
      obtain ⟨t0, G, J, kG, ge, hoe, na⟩ := mk_end0 (d2 := d2) (t2 := t2) I1 (Nat.le_succ _) kk un2 hok2 os2 bare2 ea ed hd1
      exact ⟨rv, hp.objs.size + 1, _, _, ⟨G, g2, d2, t2, os'⟩, _, .ref C, some d, rfl, J, kG, ge, hoe, ⟨rfl, rfl, fun vs hv => by cases hv; rfl⟩, rfl, rfl, na, rfl, bare2, raises_own T.exC T.tyC, q2⟩
end
section
variable {P : Program} {w : World} {K : PySem.W.Frag} {mg : Str → Option Value} {base : Heap}
/-- a def whose errors have no context -/
theorem _root_.L2.Fun.okXN {x qual : Str} {st : Stmt} {f : Addr} {fd : FuncData} {N ps : List Str} {k : Nat} {sp : Sp} (F : Fun K x qual st f fd) (S : FnScope N ps (defScope st)) (len : ∀ vs H Q E, sp vs H Q E → vs.length = ps.length)
    (hbody : ∀ (cdv : Value) (A : Around) (outer : List Env) (s : Shared) (H : Hp) (vs : List V) (Q : VK) (E : XK), Room k (A.deeper (envOfC qual (defScope st) s.heap.objs.size f cdv)) → sp vs H Q E →
      ∃ t, PSs (cxOf (L2N.CX P w) P w K mg base N qual (defScope st) f cdv A outer s H E) (defBody st) t ∧ t { nx := fun _ H' => Q .non H', rt := Q } (start N vs) H) : FnOk P w K mg base (L2N.CX P w) (k + 1) f fd ps sp := by
  obtain ⟨oc, od, kV, doc, pm, an, cdv, ct, osl, rfl, lk, hcd⟩ := F.ex
  exact fn_of lk hcd S len fun A outer s H vs Q E hr hsp => hbody cdv A outer s H vs Q E hr hsp
/-- a def called while an error is handled, which raises none -/
theorem _root_.L2.Fun.okH {x qual : Str} {st : Stmt} {f : Addr} {fd : FuncData} {N ps : List Str} {k : Nat} {sp : Sp} {CX : CXT} (F : Fun K x qual st f fd) (S : FnScope N ps (defScope st)) (len : ∀ vs H Q E, sp vs H Q E → vs.length = ps.length)
    (hbody : ∀ (cdv : Value) (A : Around) (outer : List Env) (s : Shared) (H : Hp) (vs : List V) (Q : VK) (E : XK) (p : Addr × Obj), Hot1 A p → RoomH k (A.deeper (envOfC qual (defScope st) s.heap.objs.size f cdv)) → sp vs H Q E →
      ∃ t, PSs (cxH CX P w K mg base N qual (defScope st) f cdv A outer s H E p) (defBody st) t ∧ t { nx := fun _ H' => Q .non H', rt := Q } (start N vs) H) : FnH P w K mg base CX (k + 1) f fd ps sp := by
  obtain ⟨oc, od, kV, doc, pm, an, cdv, ct, osl, rfl, lk, hcd⟩ := F.ex
  exact fn_ofH lk hcd S len fun A outer s H vs Q E p hot hr hsp => hbody cdv A outer s H vs Q E p hot hr hsp
end
/-! ### C(.., k = v, ..) in a try: what its errors ask may speak of the slots -/
def tMakeKS (C : Addr) (n m : Nat) (sp : Sp) (gV : List V → List V → List V) (E : L2.St → XK) (t tk : TA) : TE := fun σ H Q => t σ H fun vs H1 => tk σ H1 fun zs H2 => vs.length = n ∧ zs.length = m ∧ ∀ x dx, H2 x = none → H2 dx = none → dx ≠ x →
  sp (gV (.ref x :: vs) zs) (upd (upd H2 dx (.own x)) x (.ins C dx [])) (fun v H3 => v = .non ∧ Q (.ref x) H3) (E σ)
section
variable {X : Cx} {CX : CXT} {k n : Nat} {f C : Addr} {fd : FuncData} {ps ks : List Str} {sp : Sp} {E : L2.St → XK} {x : Str} {p pos : Pos} {e : Expr} {es : List Expr} {kws : List Keyword} {t tk : TA} {g : List Value → List Value → List Value} {gV : List V → List V → List V}
theorem pe_makeKS (M : Mk X.K C f) (F : FnOk X.prog X.w X.K X.mg X.base CX k f fd ps sp) (hr : Room (k + 1) X.A) (hg : Gl X x) (hm : X.mg x = some (.ref C)) (hb : KBn X.K fd ps (n + 1) ks g gV) (hx : ∀ σ, PassesAt CX X σ (E σ)) (ha : PA X (e :: es) t) (hkw : PK X kws tk)
    (hall : (backToKw pos (keywordEach kws X.env)).all (·.1.isSome) = true := by rfl) (hks : (backToKw pos (keywordEach kws X.env)).filterMap (·.1) = ks := by rfl) (hdb : (x == ("__debug__" : Str)) = false := by decide)
    (he : starEach (e :: es) X.env = (false, eval e X.env) :: starEach es X.env := by rfl) (hpl : ((backTo pos (starEach (e :: es) X.env)).any (·.1) || (backToKw pos (keywordEach kws X.env)).any (·.1.isNone)) = false := by rfl) :
    PE X (.Call (.Name x p) (e :: es) kws pos) (tMakeKS C n ks.length sp gV E t tk) := by
  refine ⟨fun pins s σ H Q I h => ?_⟩
  refine wpAny_Call_Name_kw (ld_glob I hg hm ?_ hdb)
  refine PySem.W.callWith_KW (h₀ := X.base) I.ok.mod.kin M.kp hall (thn (ha.run pos pins s σ H _ I h) fun us s1 ⟨vs, H1, I1, r, q⟩ => ?_) hpl he
  refine thn (hkw.run pos pins s1 σ H1 _ I1 q) fun ws s2 ⟨zs, H2, I2, rz, l1, l2, q2⟩ => ⟨I2.kIn, ?_⟩
  rw [hks]
  have asked := q2 (s2.heap.objs.size + 1) s2.heap.objs.size (I2.hok.fresh (Nat.le_succ _)) (I2.hok.fresh (Nat.le_refl _)) (Nat.ne_of_lt (Nat.lt_succ_self _))
  have I3 := Inv.made (C := C) I2
  have n1 : (Value.ref (s2.heap.objs.size + 1) :: us).length = n + 1 := by
    rw [List.length_cons, ← r.length, l1]
  have r1 : Vals (V.ref (s2.heap.objs.size + 1) :: vs) (Value.ref (s2.heap.objs.size + 1) :: us) := .cons rfl r
  refine wpAny_call (make_map (f := f) I2.kIn M.makes M.init (beq_iff_eq.mp M.fn) (codeAny_mono (F.run _ X.stack _ _ ⟨Value.ref (s2.heap.objs.size + 1) :: us, ks.zip ws⟩ (g (Value.ref (s2.heap.objs.size + 1) :: us) ws) _ _ (E σ) (hr.make C us (ks.zip ws))
    (I3.env0.make C us (ks.zip ws)) (hb.to _ (Value.ref (s2.heap.objs.size + 1) :: us) ws I3.kIn n1 (rz.length.symm.trans l2)) (hb.rel r1 rz) asked) fun r s' hq' => ?_))
  cases r with
  | error e => exact hx σ pins _ _ e s' I3 hq'
  | ok fl =>
    cases fl with
    | next => exact False.elim hq'
    | brk => exact False.elim hq'
    | cont => exact False.elim hq'
    | ret u =>
      obtain ⟨v, H', I4, rv, ev, q3⟩ := I3.after hq'
      subst ev
      exact ⟨rv, ⟨V.ref (s2.heap.objs.size + 1), H', I4, rfl, q3⟩⟩
end
end TT

set_option Elab.async false
set_option linter.all false
set_option maxRecDepth 100000
set_option maxHeartbeats 4000000
namespace TT
open PySem PySem.Spec PyProof.Rows L2
def top (i : Nat) : Stmt := PySem.Challenge.pw_turnedtunes_k02_texts_of_ties.main.body.getD i (.Pass ⟨0, 0, 0, 0⟩)
abbrev s_E_init : Stmt := inClass (top 1) 0
theorem sc_E_init : FnScope ["self", "value"] ["self", "value"] (defScope s_E_init) := ⟨rfl, rfl, rfl, by decide +kernel, rfl, by decide +kernel, by decide +kernel⟩
abbrev s_is_whole : Stmt := top 16
theorem sc_is_whole : FnScope ["value"] ["value"] (defScope s_is_whole) := ⟨rfl, rfl, rfl, by decide +kernel, rfl, by decide +kernel, by decide +kernel⟩
abbrev s_is_from : Stmt := top 17
theorem sc_is_from : FnScope ["value", "least"] ["value", "least"] (defScope s_is_from) := ⟨rfl, rfl, rfl, by decide +kernel, rfl, by decide +kernel, by decide +kernel⟩
abbrev s_is_between : Stmt := top 18
theorem sc_is_between : FnScope ["value", "least", "greatest"] ["value", "least", "greatest"] (defScope s_is_between) := ⟨rfl, rfl, rfl, by decide +kernel, rfl, by decide +kernel, by decide +kernel⟩
abbrev s_written : Stmt := top 19
theorem sc_written : FnScope ["number", "rest", "chunks"] ["number"] (defScope s_written) := ⟨rfl, rfl, rfl, by decide +kernel, rfl, by decide +kernel, by decide +kernel⟩
abbrev s_number_in : Stmt := top 20
theorem sc_number_in : FnScope ["word", "digits", "number"] ["word"] (defScope s_number_in) := ⟨rfl, rfl, rfl, by decide +kernel, rfl, by decide +kernel, by decide +kernel⟩
abbrev s_number_of : Stmt := top 21
theorem sc_number_of : FnScope ["digits", "head", "number", "at"] ["digits"] (defScope s_number_of) := ⟨rfl, rfl, rfl, by decide +kernel, rfl, by decide +kernel, by decide +kernel⟩
abbrev s_T_init : Stmt := inClass (top 23) 0
theorem sc_T_init : FnScope ["self", "first", "second", "length", "amount", "down", "backward", "way", "back"] ["self", "first", "second", "length", "amount", "down", "backward"] (defScope s_T_init) := ⟨rfl, rfl, rfl, by decide +kernel, rfl, by decide +kernel, by decide +kernel⟩
abbrev s_T_of : Stmt := inClass (top 23) 1
theorem sc_T_of : FnScope ["text", "values", "first", "second", "length", "amount", "down", "backward", "tie"] ["text"] (defScope s_T_of) := ⟨rfl, rfl, rfl, by decide +kernel, rfl, by decide +kernel, by decide +kernel⟩
abbrev s_T_eq : Stmt := inClass (top 23) 8
theorem sc_T_eq : FnScope ["self", "other"] ["self", "other"] (defScope s_T_eq) := ⟨rfl, rfl, rfl, by decide +kernel, rfl, by decide +kernel, by decide +kernel⟩
abbrev s_check_parts : Stmt := top 24
theorem sc_check_parts : FnScope ["first", "second", "length"] ["first", "second", "length"] (defScope s_check_parts) := ⟨rfl, rfl, rfl, by decide +kernel, rfl, by decide +kernel, by decide +kernel⟩
abbrev s_check_leading : Stmt := top 25
theorem sc_check_leading : FnScope ["amount", "down", "backward"] ["amount", "down", "backward"] (defScope s_check_leading) := ⟨rfl, rfl, rfl, by decide +kernel, rfl, by decide +kernel, by decide +kernel⟩
abbrev s_values_in : Stmt := top 26
theorem sc_values_in : FnScope ["text", "words", "backward", "numbers", "word"] ["text"] (defScope s_values_in) := ⟨rfl, rfl, rfl, by decide +kernel, rfl, by decide +kernel, by decide +kernel⟩
abbrev s_l_pot : Stmt := top 32
theorem sc_l_pot : FnScope ["_law_script", "_law_k", "_law_cell", "_law_own", "_law_small"] ["_law_script", "_law_k"] (defScope s_l_pot) := ⟨rfl, rfl, rfl, by decide +kernel, rfl, by decide +kernel, by decide +kernel⟩
abbrev s_l_take : Stmt := top 33
theorem sc_l_take : FnScope ["_law_pot_here", "_law_under", "_law_digit", "_law_prime", "_law_mixed"] ["_law_pot_here", "_law_under"] (defScope s_l_take) := ⟨rfl, rfl, rfl, by decide +kernel, rfl, by decide +kernel, by decide +kernel⟩
abbrev s_l_of : Stmt := top 34
theorem sc_l_of : FnScope ["_law_pot_here", "_law_some"] ["_law_pot_here", "_law_some"] (defScope s_l_of) := ⟨rfl, rfl, rfl, by decide +kernel, rfl, by decide +kernel, by decide +kernel⟩
abbrev s_l_cells : Stmt := top 35
theorem sc_l_cells : FnScope ["_law_script", "_law_most"] ["_law_script", "_law_most"] (defScope s_l_cells) := ⟨rfl, rfl, rfl, by decide +kernel, rfl, by decide +kernel, by decide +kernel⟩
abbrev s_l_met_error : Stmt := top 36
theorem sc_l_met_error : FnScope ["_law_look", "_law_caught", "error"] ["_law_look"] (defScope s_l_met_error) := ⟨rfl, rfl, rfl, by decide +kernel, rfl, by decide +kernel, by decide +kernel⟩
abbrev s_l_odd : Stmt := top 37
theorem sc_l_odd : FnScope ["_law_pot_here", "_law_some"] ["_law_pot_here"] (defScope s_l_odd) := ⟨rfl, rfl, rfl, by decide +kernel, rfl, by decide +kernel, by decide +kernel⟩
abbrev s_l_amount : Stmt := top 38
theorem sc_l_amount : FnScope ["_law_pot_here"] ["_law_pot_here"] (defScope s_l_amount) := ⟨rfl, rfl, rfl, by decide +kernel, rfl, by decide +kernel, by decide +kernel⟩
abbrev s_l_row : Stmt := top 39
theorem sc_l_row : FnScope ["_law_pot_here", "_law_size", "_law_length", "_law_first", "_law_second", "_law_amount_here", "_law_is_down", "_law_is_back"] ["_law_pot_here", "_law_size"] (defScope s_l_row) := ⟨rfl, rfl, rfl, by decide +kernel, rfl, by decide +kernel, by decide +kernel⟩
abbrev s_l_far : Stmt := top 40
theorem sc_l_far : FnScope ["_law_row_here", "_law_far_here"] ["_law_row_here", "_law_far_here"] (defScope s_l_far) := ⟨rfl, rfl, rfl, by decide +kernel, rfl, by decide +kernel, by decide +kernel⟩
abbrev s_l_tie : Stmt := top 41
theorem sc_l_tie : FnScope ["_law_row_here"] ["_law_row_here"] (defScope s_l_tie) := ⟨rfl, rfl, rfl, by decide +kernel, rfl, by decide +kernel, by decide +kernel⟩
abbrev s_l_row_of : Stmt := top 42
theorem sc_l_row_of : FnScope ["_law_tie_here"] ["_law_tie_here"] (defScope s_l_row_of) := ⟨rfl, rfl, rfl, by decide +kernel, rfl, by decide +kernel, by decide +kernel⟩
abbrev s_l_text_of : Stmt := top 43
theorem sc_l_text_of : FnScope ["_law_row_here", "_law_words"] ["_law_row_here"] (defScope s_l_text_of) := ⟨rfl, rfl, rfl, by decide +kernel, rfl, by decide +kernel, by decide +kernel⟩
abbrev s_l_figure : Stmt := top 44
theorem sc_l_figure : FnScope ["_law_word", "_law_size", "_law_sign"] ["_law_word"] (defScope s_l_figure) := ⟨rfl, rfl, rfl, by decide +kernel, rfl, by decide +kernel, by decide +kernel⟩
abbrev s_l_row_told : Stmt := top 45
theorem sc_l_row_told : FnScope ["_law_text", "_law_words", "_law_numbers", "_law_word"] ["_law_text"] (defScope s_l_row_told) := ⟨rfl, rfl, rfl, by decide +kernel, rfl, by decide +kernel, by decide +kernel⟩
abbrev s_l_bent_line : Stmt := top 46
theorem sc_l_bent_line : FnScope ["_law_pot_here", "_law_line", "_law_words", "_law_way", "_law_at", "_law_spot", "_law_sign"] ["_law_pot_here", "_law_line"] (defScope s_l_bent_line) := ⟨rfl, rfl, rfl, by decide +kernel, rfl, by decide +kernel, by decide +kernel⟩
abbrev s_l_is_short : Stmt := top 47
theorem sc_l_is_short : FnScope ["_law_text", "_law_word"] ["_law_text"] (defScope s_l_is_short) := ⟨rfl, rfl, rfl, by decide +kernel, rfl, by decide +kernel, by decide +kernel⟩
abbrev s_l_is_read : Stmt := top 48
theorem sc_l_is_read : FnScope ["_law_value", "_law_caught", "_law_due"] ["_law_value"] (defScope s_l_is_read) := ⟨rfl, rfl, rfl, by decide +kernel, rfl, by decide +kernel, by decide +kernel⟩
abbrev s_l_right : Stmt := top 49
theorem sc_l_right : FnScope ["_law_pot_here", "_law_row_here", "_law_far_here", "_law_near", "_law_text", "_law_turn", "_law_value", "_law_some"] ["_law_pot_here"] (defScope s_l_right) := ⟨rfl, rfl, rfl, by decide +kernel, rfl, by decide +kernel, by decide +kernel⟩
abbrev s_law : Stmt := top 50
theorem sc_law : FnScope ["_law_script", "_law_k", "_law_pot_here", "_law_lap"] ["_law_script"] (defScope s_law) := ⟨rfl, rfl, rfl, by decide +kernel, rfl, by decide +kernel, by decide +kernel⟩
structure Zs where
  c : Nat → Addr
  f_E_init : Addr
  d_E_init : FuncData
  f_is_whole : Addr
  d_is_whole : FuncData
  f_is_from : Addr
  d_is_from : FuncData
  f_is_between : Addr
  d_is_between : FuncData
  f_written : Addr
  d_written : FuncData
  f_number_in : Addr
  d_number_in : FuncData
  f_number_of : Addr
  d_number_of : FuncData
  f_T_init : Addr
  d_T_init : FuncData
  f_T_of : Addr
  d_T_of : FuncData
  f_T_eq : Addr
  d_T_eq : FuncData
  f_check_parts : Addr
  d_check_parts : FuncData
  f_check_leading : Addr
  d_check_leading : FuncData
  f_values_in : Addr
  d_values_in : FuncData
  f_l_pot : Addr
  d_l_pot : FuncData
  f_l_take : Addr
  d_l_take : FuncData
  f_l_of : Addr
  d_l_of : FuncData
  f_l_cells : Addr
  d_l_cells : FuncData
  f_l_met_error : Addr
  d_l_met_error : FuncData
  f_l_odd : Addr
  d_l_odd : FuncData
  f_l_amount : Addr
  d_l_amount : FuncData
  f_l_row : Addr
  d_l_row : FuncData
  f_l_far : Addr
  d_l_far : FuncData
  f_l_tie : Addr
  d_l_tie : FuncData
  f_l_row_of : Addr
  d_l_row_of : FuncData
  f_l_text_of : Addr
  d_l_text_of : FuncData
  f_l_figure : Addr
  d_l_figure : FuncData
  f_l_row_told : Addr
  d_l_row_told : FuncData
  f_l_bent_line : Addr
  d_l_bent_line : FuncData
  f_l_is_short : Addr
  d_l_is_short : FuncData
  f_l_is_read : Addr
  d_l_is_read : FuncData
  f_l_right : Addr
  d_l_right : FuncData
  f_law : Addr
  d_law : FuncData
  c_l_is_read : Addr
  t_l_is_read : Addr
  cC : Addr
  t_GREATEST : Tok
  t__DIGITS : Tok
  t__CHUNK : Tok
  pS : Addr
/-- where the top has put each def, and what it says of them -/
structure Txt (K : PySem.W.Frag) (mg : Str → Option Value) (Z : Zs) : Prop where
  F_E_init : Fun K "__init__" "TuneError.__init__" s_E_init Z.f_E_init Z.d_E_init
  bn_E_init : Binds K Z.d_E_init ["self", "value"] []
  k_E_init : PySem.W.keepIn K (.ref Z.f_E_init) = true
  i_E_init : PySem.W.isFn K (.ref Z.f_E_init) = true
  F_is_whole : Fun K "is_whole" "is_whole" s_is_whole Z.f_is_whole Z.d_is_whole
  bn_is_whole : Binds K Z.d_is_whole ["value"] []
  k_is_whole : PySem.W.keepIn K (.ref Z.f_is_whole) = true
  g_is_whole : mg "is_whole" = some (.ref Z.f_is_whole)
  F_is_from : Fun K "is_from" "is_from" s_is_from Z.f_is_from Z.d_is_from
  bn_is_from : Binds K Z.d_is_from ["value", "least"] []
  k_is_from : PySem.W.keepIn K (.ref Z.f_is_from) = true
  g_is_from : mg "is_from" = some (.ref Z.f_is_from)
  F_is_between : Fun K "is_between" "is_between" s_is_between Z.f_is_between Z.d_is_between
  bn_is_between : Binds K Z.d_is_between ["value", "least", "greatest"] []
  k_is_between : PySem.W.keepIn K (.ref Z.f_is_between) = true
  g_is_between : mg "is_between" = some (.ref Z.f_is_between)
  F_written : Fun K "written" "written" s_written Z.f_written Z.d_written
  bn_written : Binds K Z.d_written ["number"] []
  k_written : PySem.W.keepIn K (.ref Z.f_written) = true
  g_written : mg "written" = some (.ref Z.f_written)
  F_number_in : Fun K "number_in" "number_in" s_number_in Z.f_number_in Z.d_number_in
  bn_number_in : Binds K Z.d_number_in ["word"] []
  k_number_in : PySem.W.keepIn K (.ref Z.f_number_in) = true
  g_number_in : mg "number_in" = some (.ref Z.f_number_in)
  F_number_of : Fun K "_number_of" "_number_of" s_number_of Z.f_number_of Z.d_number_of
  bn_number_of : Binds K Z.d_number_of ["digits"] []
  k_number_of : PySem.W.keepIn K (.ref Z.f_number_of) = true
  g_number_of : mg "_number_of" = some (.ref Z.f_number_of)
  F_T_init : FunD K "__init__" "Tie.__init__" (defArgs s_T_init) (defBody s_T_init) (defScope s_T_init) [.int 0] [("down", .bl false), ("backward", .bl false)] Z.f_T_init Z.d_T_init
  k_T_init : PySem.W.keepIn K (.ref Z.f_T_init) = true
  i_T_init : PySem.W.isFn K (.ref Z.f_T_init) = true
  a_T_init : PySem.W.findIn K (.ref Z.cC) "__init__" = some (some (.ref Z.f_T_init))
  F_T_of : Fun K "of" "Tie.of" s_T_of Z.f_T_of Z.d_T_of
  bn_T_of : Binds K Z.d_T_of ["text"] []
  k_T_of : PySem.W.keepIn K (.ref Z.f_T_of) = true
  i_T_of : PySem.W.isFn K (.ref Z.f_T_of) = true
  F_T_eq : Fun K "__eq__" "Tie.__eq__" s_T_eq Z.f_T_eq Z.d_T_eq
  bn_T_eq : Binds K Z.d_T_eq ["self", "other"] []
  k_T_eq : PySem.W.keepIn K (.ref Z.f_T_eq) = true
  i_T_eq : PySem.W.isFn K (.ref Z.f_T_eq) = true
  a_T_eq : PySem.W.findIn K (.ref Z.cC) "__eq__" = some (some (.ref Z.f_T_eq))
  F_check_parts : Fun K "_check_parts" "_check_parts" s_check_parts Z.f_check_parts Z.d_check_parts
  bn_check_parts : Binds K Z.d_check_parts ["first", "second", "length"] []
  k_check_parts : PySem.W.keepIn K (.ref Z.f_check_parts) = true
  g_check_parts : mg "_check_parts" = some (.ref Z.f_check_parts)
  F_check_leading : Fun K "_check_leading" "_check_leading" s_check_leading Z.f_check_leading Z.d_check_leading
  bn_check_leading : Binds K Z.d_check_leading ["amount", "down", "backward"] []
  k_check_leading : PySem.W.keepIn K (.ref Z.f_check_leading) = true
  g_check_leading : mg "_check_leading" = some (.ref Z.f_check_leading)
  F_values_in : Fun K "_values_in" "_values_in" s_values_in Z.f_values_in Z.d_values_in
  bn_values_in : Binds K Z.d_values_in ["text"] []
  k_values_in : PySem.W.keepIn K (.ref Z.f_values_in) = true
  g_values_in : mg "_values_in" = some (.ref Z.f_values_in)
  F_l_pot : Fun K "_law_pot" "_law_pot" s_l_pot Z.f_l_pot Z.d_l_pot
  bn_l_pot : Binds K Z.d_l_pot ["_law_script", "_law_k"] []
  k_l_pot : PySem.W.keepIn K (.ref Z.f_l_pot) = true
  g_l_pot : mg "_law_pot" = some (.ref Z.f_l_pot)
  F_l_take : Fun K "_law_take" "_law_take" s_l_take Z.f_l_take Z.d_l_take
  bn_l_take : Binds K Z.d_l_take ["_law_pot_here", "_law_under"] []
  k_l_take : PySem.W.keepIn K (.ref Z.f_l_take) = true
  g_l_take : mg "_law_take" = some (.ref Z.f_l_take)
  F_l_of : Fun K "_law_of" "_law_of" s_l_of Z.f_l_of Z.d_l_of
  bn_l_of : Binds K Z.d_l_of ["_law_pot_here", "_law_some"] []
  k_l_of : PySem.W.keepIn K (.ref Z.f_l_of) = true
  g_l_of : mg "_law_of" = some (.ref Z.f_l_of)
  F_l_cells : Fun K "_law_cells" "_law_cells" s_l_cells Z.f_l_cells Z.d_l_cells
  bn_l_cells : Binds K Z.d_l_cells ["_law_script", "_law_most"] []
  k_l_cells : PySem.W.keepIn K (.ref Z.f_l_cells) = true
  g_l_cells : mg "_law_cells" = some (.ref Z.f_l_cells)
  F_l_met_error : Fun K "_law_met_error" "_law_met_error" s_l_met_error Z.f_l_met_error Z.d_l_met_error
  bn_l_met_error : Binds K Z.d_l_met_error ["_law_look"] []
  k_l_met_error : PySem.W.keepIn K (.ref Z.f_l_met_error) = true
  g_l_met_error : mg "_law_met_error" = some (.ref Z.f_l_met_error)
  F_l_odd : Fun K "_law_odd" "_law_odd" s_l_odd Z.f_l_odd Z.d_l_odd
  bn_l_odd : Binds K Z.d_l_odd ["_law_pot_here"] []
  k_l_odd : PySem.W.keepIn K (.ref Z.f_l_odd) = true
  g_l_odd : mg "_law_odd" = some (.ref Z.f_l_odd)
  F_l_amount : Fun K "_law_amount" "_law_amount" s_l_amount Z.f_l_amount Z.d_l_amount
  bn_l_amount : Binds K Z.d_l_amount ["_law_pot_here"] []
  k_l_amount : PySem.W.keepIn K (.ref Z.f_l_amount) = true
  g_l_amount : mg "_law_amount" = some (.ref Z.f_l_amount)
  F_l_row : Fun K "_law_row" "_law_row" s_l_row Z.f_l_row Z.d_l_row
  bn_l_row : Binds K Z.d_l_row ["_law_pot_here", "_law_size"] []
  k_l_row : PySem.W.keepIn K (.ref Z.f_l_row) = true
  g_l_row : mg "_law_row" = some (.ref Z.f_l_row)
  F_l_far : Fun K "_law_far" "_law_far" s_l_far Z.f_l_far Z.d_l_far
  bn_l_far : Binds K Z.d_l_far ["_law_row_here", "_law_far_here"] []
  k_l_far : PySem.W.keepIn K (.ref Z.f_l_far) = true
  g_l_far : mg "_law_far" = some (.ref Z.f_l_far)
  F_l_tie : Fun K "_law_tie" "_law_tie" s_l_tie Z.f_l_tie Z.d_l_tie
  bn_l_tie : Binds K Z.d_l_tie ["_law_row_here"] []
  k_l_tie : PySem.W.keepIn K (.ref Z.f_l_tie) = true
  g_l_tie : mg "_law_tie" = some (.ref Z.f_l_tie)
  F_l_row_of : Fun K "_law_row_of" "_law_row_of" s_l_row_of Z.f_l_row_of Z.d_l_row_of
  bn_l_row_of : Binds K Z.d_l_row_of ["_law_tie_here"] []
  k_l_row_of : PySem.W.keepIn K (.ref Z.f_l_row_of) = true
  g_l_row_of : mg "_law_row_of" = some (.ref Z.f_l_row_of)
  F_l_text_of : Fun K "_law_text_of" "_law_text_of" s_l_text_of Z.f_l_text_of Z.d_l_text_of
  bn_l_text_of : Binds K Z.d_l_text_of ["_law_row_here"] []
  k_l_text_of : PySem.W.keepIn K (.ref Z.f_l_text_of) = true
  g_l_text_of : mg "_law_text_of" = some (.ref Z.f_l_text_of)
  F_l_figure : Fun K "_law_figure" "_law_figure" s_l_figure Z.f_l_figure Z.d_l_figure
  bn_l_figure : Binds K Z.d_l_figure ["_law_word"] []
  k_l_figure : PySem.W.keepIn K (.ref Z.f_l_figure) = true
  g_l_figure : mg "_law_figure" = some (.ref Z.f_l_figure)
  F_l_row_told : Fun K "_law_row_told" "_law_row_told" s_l_row_told Z.f_l_row_told Z.d_l_row_told
  bn_l_row_told : Binds K Z.d_l_row_told ["_law_text"] []
  k_l_row_told : PySem.W.keepIn K (.ref Z.f_l_row_told) = true
  g_l_row_told : mg "_law_row_told" = some (.ref Z.f_l_row_told)
  F_l_bent_line : Fun K "_law_bent_line" "_law_bent_line" s_l_bent_line Z.f_l_bent_line Z.d_l_bent_line
  bn_l_bent_line : Binds K Z.d_l_bent_line ["_law_pot_here", "_law_line"] []
  k_l_bent_line : PySem.W.keepIn K (.ref Z.f_l_bent_line) = true
  g_l_bent_line : mg "_law_bent_line" = some (.ref Z.f_l_bent_line)
  F_l_is_short : Fun K "_law_is_short" "_law_is_short" s_l_is_short Z.f_l_is_short Z.d_l_is_short
  bn_l_is_short : Binds K Z.d_l_is_short ["_law_text"] []
  k_l_is_short : PySem.W.keepIn K (.ref Z.f_l_is_short) = true
  g_l_is_short : mg "_law_is_short" = some (.ref Z.f_l_is_short)
  F_l_is_read : FunC K "_law_is_read" "_law_is_read" s_l_is_read Z.f_l_is_read Z.d_l_is_read Z.c_l_is_read
  bn_l_is_read : Binds K Z.d_l_is_read ["_law_value"] []
  k_l_is_read : PySem.W.keepIn K (.ref Z.f_l_is_read) = true
  g_l_is_read : mg "_law_is_read" = some (.ref Z.f_l_is_read)
  F_l_right : Fun K "_law_right" "_law_right" s_l_right Z.f_l_right Z.d_l_right
  bn_l_right : Binds K Z.d_l_right ["_law_pot_here"] []
  k_l_right : PySem.W.keepIn K (.ref Z.f_l_right) = true
  g_l_right : mg "_law_right" = some (.ref Z.f_l_right)
  F_law : Fun K "law" "law" s_law Z.f_law Z.d_law
  bn_law : Binds K Z.d_law ["_law_script"] []
  k_law : PySem.W.keepIn K (.ref Z.f_law) = true
  g_law : mg "law" = some (.ref Z.f_law)
  b_isinstance : mg "isinstance" = none
  b_int : mg "int" = none
  b_bool : mg "bool" = none
  b_str : mg "str" = none
  b_range : mg "range" = none
  b_len : mg "len" = none
  b_max : mg "max" = none
  b_abs : mg "abs" = none
  b_list : mg "list" = none
  b_min : mg "min" = none
  b_all : mg "all" = none
  b_repr : mg "repr" = none
  c_GREATEST : mg "GREATEST" = some (.int 1000000000000000000000000000000 Z.t_GREATEST)
  c__DIGITS : mg "_DIGITS" = some (.int 64 Z.t__DIGITS)
  c__CHUNK : mg "_CHUNK" = some (.int 10000000000000000000000000000000000000000000000000000000000000000 Z.t__CHUNK)
  cl : Cls K Z.cC
  g_C : mg "Tie" = some (.ref Z.cC)
  mkC : PySem.W.makesIn K Z.cC = true
  kC : PySem.W.keepIn K (.ref Z.cC) = true
  n_first : NoAttr K Z.cC "first"
  n_second : NoAttr K Z.cC "second"
  n_length : NoAttr K Z.cC "length"
  n_amount : NoAttr K Z.cC "amount"
  n_down : NoAttr K Z.cC "down"
  n_backward : NoAttr K Z.cC "backward"
  n_text : NoAttr K Z.cC "text"
  g_BadPlace : mg "BadPlace" = some (.ref (Z.c 0))
  g_BadLength : mg "BadLength" = some (.ref (Z.c 1))
  g_BadAmount : mg "BadAmount" = some (.ref (Z.c 2))
  g_BadWay : mg "BadWay" = some (.ref (Z.c 3))
  g_BadText : mg "BadText" = some (.ref (Z.c 4))
  g_TuneError : mg "TuneError" = some (.ref (Z.c 5))
  ex : ∀ i, i < 6 → ExcT K (Z.c 5) Z.f_E_init (Z.c i)
  nd : ∀ i j, i < 6 → j < 6 → Z.c i = Z.c j → i = j
  z_ve : PySem.W.findCls K (.type "ValueError") (.type "type") "__init__" = some (.val (.builtin "ValueError.__init__"))
  t_E_init : PySem.W.typeIn K (.ref Z.f_E_init) = some (.type "function")
  b_ValueError : mg "ValueError" = none
  z_cls : PySem.W.findIn K (.ref Z.cC) "__class__" = some (some (.builtin "object.__class__"))
  z_get : PySem.W.specialIn K (.builtin "object.__class__") "__get__" = some (some (.builtin "getset_descriptor.__get__"))
  z_tk : PySem.W.takesIn K (.builtin "object.__class__") = some true
  z_mro : PySem.W.mroIn K Z.cC (.type "object") = some true
  z_read : ClX.CRead K Z.cC (.type "type")
  z_sta : CSta K Z.cC (.type "type") "of" Z.pS Z.f_T_of
  z_ty : PySem.W.typeIn K (.ref Z.cC) = some (.type "type")
  z_subT : PySem.W.subIn K (.type "tuple") (.ref Z.cC) = some false
  z_kitT : PySem.W.kitOne K (.type "tuple") (.ref Z.cC) = some false
  z_notT : PySem.W.notFirst K Z.cC (.type "tuple") = true
  z_kit : PySem.W.kitOne K (.ref Z.cC) (.ref Z.cC) = some true
end TT

set_option Elab.async false
set_option linter.all false
set_option maxRecDepth 100000
set_option maxHeartbeats 4000000
namespace TT
open PySem PySem.Spec PyProof.Rows L2
/-! ### the law's draws -/
/-- a pot of draws stands at p: n numbers were mixed so far -/
def Pot (H : Hp) (p : Addr) (n : Nat) : Prop := ∃ own mix : Int, H p = some (.lst [.int own, .int mix, .int (n : Int)]) ∧ 0 ≤ own ∧ own < 10 ^ 300 ∧ 0 ≤ mix ∧ mix < 2305843009213693951
/-- all that was tracked but the object at p is as it was -/
def Keep (p : Addr) (H H' : Hp) : Prop := ∀ b o, b ≠ p → H b = some o → H' b = some o
theorem Keep.rfl' {p : Addr} {H : Hp} : Keep p H H := fun _ _ _ h => h
theorem Keep.trans {p : Addr} {H H1 H2 : Hp} (a : Keep p H H1) (b : Keep p H1 H2) : Keep p H H2 := fun c o n h => b c o n (a c o n h)
theorem Keep.of {p : Addr} {H H1 : Hp} (a : Same H H1) : Keep p H H1 := fun c o _ h => a c o h
theorem Keep.upd {p : Addr} {H H1 : Hp} {o : HO} (a : Keep p H H1) : Keep p H (upd H1 p o) := fun c u n h => by rw [upd_ne n]; exact a c u n h
theorem Keep.new {p q : Addr} {H H1 : Hp} {o : HO} (a : Keep p H H1) (h : H1 q = none) : Keep p H (L2.upd H1 q o) := fun c u n e => by
  have := a c u n e
  rw [upd_ne (ne_of_none this h)]
  exact this
theorem Same.new {q : Addr} {H H1 : Hp} {o : HO} (a : Same H H1) (h : H1 q = none) : Same H (L2.upd H1 q o) := fun c u e => by
  have := a c u e
  rw [upd_ne (ne_of_none this h)]
  exact this
theorem lt200 {u : Int} (h0 : 0 < u) (h : u < 10 ^ 60) : u.natAbs < 2 ^ 200 := by
  have : (10 : Int) ^ 60 < 2 ^ 200 := by decide
  omega
theorem bits62 {y : Int} (h0 : 0 ≤ y) (h : y < 2 ^ 62) : Builtin.Int.intBits y ≤ 64 := intBits_le_64 (by omega) (by omega)
theorem prime_at (i : Int) (h0 : 0 ≤ i) (h : i < 5) : ∃ v : Int, atI [V.int 2147483647, V.int 2147483629, V.int 2147483587, V.int 2147483579, V.int 2147483563] i = some (.int v) ∧ 2 ≤ v ∧ v ≤ 2147483648 := by
  have : i = 0 ∨ i = 1 ∨ i = 2 ∨ i = 3 ∨ i = 4 := by omega
  rcases this with rfl | rfl | rfl | rfl | rfl <;> exact ⟨_, rfl, by decide, by decide⟩
def sp_l_take : Sp := fun vs H Q _ => ∃ (p : Addr) (n : Nat) (u : Int), vs = [.ref p, .int u] ∧ Pot H p n ∧ n < 1000000 ∧ 0 < u ∧ u < 10 ^ 60 ∧
  ∀ (d : Int) (n' : Nat) (H' : Hp), 0 ≤ d → d < u → n' ≤ n + 1 → Pot H' p n' → Keep p H H' → Q (.int d) H'
section
variable {P : Program} {w : World} {K : PySem.W.Frag} {mg : Str → Option Value} {base : Heap} {Z : Zs}
theorem ok_l_take (T : Txt K mg Z) : FnOk P w K mg base CX0 1 Z.f_l_take Z.d_l_take ["_law_pot_here", "_law_under"] sp_l_take := by
  refine T.F_l_take.ok sc_l_take (fun vs H Q E h => ?_) (fun cdv A outer s H vs Q E hr h => ?_)
  · obtain ⟨p, n, u, rfl, _⟩ := h
    rfl
  · obtain ⟨p, n, u, rfl, ⟨own, mix, hp, o0, o1, m0, m1⟩, hn, u0, u1, k⟩ := h
    refine ⟨_, (pss_cons (ps_if (pt_cmpR op_gt (pe_ix ix_list (pv 0) pe_int (fun _ _ => rfl)) pe_int (nomark _)) (pss_cons (ps_set (i := 2) sc_l_take.nd rfl (Or.inl rfl) (pe_op op_mod (pe_callTy call_int1 (by rfl) T.b_int (by decide +kernel) (pa_cons (pe_ix ix_list (pv 0) pe_int (fun _ _ => rfl)) pa_nil)) (pv 1)))
      (pss_cons (ps_asg (pe_op op_fdivW (pe_ix ix_list (pv 0) pe_int (fun _ _ => rfl)) (pv 1)) (pg_sub (pv 0) pe_int set_list))
      (pss_one (ps_ret (pv 2))))) pss_nil)
      (pss_cons (ps_asg (pe_op op_add (pe_ix ix_list (pv 0) pe_int (fun _ _ => rfl)) pe_int) (pg_sub (pv 0) pe_int set_list))
      (pss_cons (ps_set (i := 3) sc_l_take.nd rfl (Or.inl rfl) (pe_ix ix_list (pe_lst (pa_cons pe_int (pa_cons pe_int (pa_cons pe_int (pa_cons pe_int (pa_cons pe_int pa_nil)))))) (pe_op op_mod (pe_callTy call_int1 (by rfl) T.b_int (by decide +kernel) (pa_cons (pe_ix ix_list (pv 0) pe_int (fun _ _ => rfl)) pa_nil)) pe_int) (fun _ _ => rfl)))
      (pss_cons (ps_set (i := 4) sc_l_take.nd rfl (Or.inl rfl) (pe_op op_mod (pe_callTy call_int1 (by rfl) T.b_int (by decide +kernel) (pa_cons (pe_op op_powW (pe_callTy call_int1 (by rfl) T.b_int (by decide +kernel) (pa_cons (pe_op op_add (pe_op op_add (pe_ix ix_list (pv 0) pe_int (fun _ _ => rfl)) (pe_op op_mul (pe_op op_mul pe_int (pe_ix ix_list (pv 0) pe_int (fun _ _ => rfl))) (pe_ix ix_list (pv 0) pe_int (fun _ _ => rfl)))) pe_int) pa_nil)) pe_int) pa_nil)) (pv 3)))
      (pss_cons (ps_set (i := 4) sc_l_take.nd rfl (Or.inl rfl) (pe_op op_mod (pe_callTy call_int1 (by rfl) T.b_int (by decide +kernel) (pa_cons (pe_op op_mul (pv 4) (pe_op op_add (pe_op op_mod (pe_callTy call_int1 (by rfl) T.b_int (by decide +kernel) (pa_cons (pv 4) pa_nil)) pe_int) (pe_op op_mul pe_int (pe_ix ix_list (pv 0) pe_int (fun _ _ => rfl))))) pa_nil)) pe_int))
      (pss_one (ps_ret (pe_op op_mod (pe_callTy call_int1 (by rfl) T.b_int (by decide +kernel) (pa_cons (pe_op op_fdivW (pv 4) pe_int) pa_nil)) (pv 1))))))))), ?_⟩
    refine ⟨_, rfl, p, _, _, _, rfl, rfl, SqL.of hp, rfl, _, _, rfl, rfl, _, rfl, ?_⟩
    refine ite2 (fun c => ?_) (fun c => ?_)
    · have c' : 0 < own := of_decide_eq_true c
      have q0 : 0 ≤ own / u := Int.ediv_nonneg o0 (Int.le_of_lt u0)
      have q1 : own / u < 10 ^ 300 := Int.lt_of_le_of_lt (Int.ediv_le_self _ o0) o1
      refine ⟨_, rfl, p, _, _, _, rfl, rfl, SqL.of hp, rfl, .inl ⟨_, rfl, _, rfl, _, _, rfl, rfl, u0, ?_⟩⟩
      refine ⟨_, rfl, p, _, _, _, rfl, rfl, SqL.of hp, rfl, _, rfl, _, _, rfl, rfl, wide_div u0 (b := 200) (lt200 u0 u1) (by decide) (by decide), _, rfl, p, _, _, _, rfl, rfl, hp, rfl, _, rfl, ?_⟩
      exact k _ n _ (Int.emod_nonneg _ (by omega)) (Int.emod_lt_of_pos _ u0) (Nat.le_succ _) ⟨own / u, mix, upd_same, q0, q1, m0, m1⟩ Keep.rfl'.upd
    · refine ⟨_, rfl, p, _, _, _, rfl, rfl, SqL.of hp, rfl, _, _, rfl, rfl, _, rfl, p, _, _, _, rfl, rfl, hp, rfl, ?_⟩
      obtain ⟨H1, hH1⟩ : ∃ H1, H1 = upd H p (.lst [V.int own, V.int mix, V.int ((n : Int) + 1)]) := ⟨_, rfl⟩
      have hp1 : H1 p = some (.lst [V.int own, V.int mix, V.int ((n : Int) + 1)]) := by rw [hH1]; exact upd_same
      have kp1 : Keep p H H1 := by rw [hH1]; exact Keep.rfl'.upd
      refine Eq.mp (congrArg _ hH1) ?_
      -- the primes
      refine ⟨by show 5 ≤ sizeLine; decide, fun q hq => ?_⟩
      have npq : p ≠ q := ne_of_none hp1 hq
      have hp2 : (upd H1 q (.lst [V.int 2147483647, V.int 2147483629, V.int 2147483587, V.int 2147483579, V.int 2147483563])) p = some (.lst [V.int own, V.int mix, V.int ((n : Int) + 1)]) := by rw [upd_ne npq]; exact hp1
      refine ⟨_, rfl, p, _, _, _, rfl, rfl, SqL.of hp2, rfl, .inl ⟨_, rfl, _, _, rfl, rfl, by show (0 : Int) < 5; decide, ?_⟩⟩
      obtain ⟨v, hv, v0, v1⟩ := prime_at (((n : Int) + 1) % 5) (Int.emod_nonneg _ (by decide)) (Int.emod_lt_of_pos _ (by decide))
      refine ⟨q, _, _, _, rfl, rfl, SqL.of upd_same, hv, ?_⟩
      generalize hH2 : upd H1 q (.lst [V.int 2147483647, V.int 2147483629, V.int 2147483587, V.int 2147483579, V.int 2147483563]) = H2 at hp2 ⊢
      have kp2 : Keep p H H2 := by rw [← hH2]; exact kp1.new hq
      -- mixed
      refine ⟨_, rfl, p, _, _, _, rfl, rfl, SqL.of hp2, rfl, _, rfl, p, _, _, _, rfl, rfl, SqL.of hp2, rfl, _, _, rfl, rfl, .inl (by constructor <;> decide), _, rfl, p, _, _, _, rfl, rfl, SqL.of hp2, rfl, _, _, rfl, rfl, .inr (by constructor <;> omega), _, _, rfl, rfl, _, _, rfl, rfl, .inl ⟨_, rfl, ?_⟩⟩
      have b1 : 0 ≤ 100169 * ((n : Int) + 1) * ((n : Int) + 1) ∧ 100169 * ((n : Int) + 1) * ((n : Int) + 1) ≤ 100169 * 1000000 * 1000000 := by
        have h1 : 0 ≤ (n : Int) + 1 := by omega
        have h2 : (n : Int) + 1 ≤ 1000000 := by omega
        refine ⟨Int.mul_nonneg (Int.mul_nonneg (by decide) h1) h1, ?_⟩
        exact Int.mul_le_mul (Int.mul_le_mul_of_nonneg_left h2 (by decide)) h2 h1 (by decide)
      generalize hz : 100169 * ((n : Int) + 1) * ((n : Int) + 1) = z at b1 ⊢
      have b2 : 0 ≤ mix + z + 53 ∧ mix + z + 53 < 2 ^ 62 := by constructor <;> omega
      generalize mix + z + 53 = y at b2 ⊢
      refine ⟨_, _, rfl, rfl, ⟨by decide, ?_⟩, .inl ⟨_, rfl, ?_⟩⟩
      · have := bits62 b2.1 b2.2
        show ((Builtin.Int.intBits y : Nat) : Int) * 3 ≤ 2 ^ 27
        omega
      refine ⟨_, rfl, _, _, rfl, rfl, by omega, ?_⟩
      have b3 : 0 ≤ y ^ (3 : Int).toNat % v ∧ y ^ (3 : Int).toNat % v < 2147483648 := ⟨Int.emod_nonneg _ (by omega), Int.lt_of_lt_of_le (Int.emod_lt_of_pos _ (by omega)) (by omega)⟩
      refine ⟨_, rfl, _, rfl, .inl ⟨_, rfl, _, _, rfl, rfl, by show (0 : Int) < 10039; decide, _, rfl, p, _, _, _, rfl, rfl, SqL.of hp2, rfl, _, _, rfl, rfl, .inl (by constructor <;> decide), _, _, rfl, rfl, _, _, rfl, rfl, .inl (by constructor <;> omega), .inl ⟨_, rfl, _, _, rfl, rfl, (by decide : (0 : Int) < 2305843009213693907), ?_⟩⟩⟩
      refine ⟨_, rfl, _, _, rfl, rfl, wide_div (j := 127) (by decide) (b := 200) (by decide) (by decide) (by decide), .inl ⟨_, rfl, _, rfl, _, _, rfl, rfl, u0, ?_⟩⟩
      exact k _ (n + 1) _ (Int.emod_nonneg _ (by omega)) (Int.emod_lt_of_pos _ u0) (Nat.le_refl _) ⟨own, mix, hp2, o0, o1, m0, m1⟩ kp2
end
end TT

set_option Elab.async false
set_option linter.all false
set_option maxRecDepth 100000
set_option maxHeartbeats 4000000
namespace TT
open PySem PySem.Spec PyProof.Rows L2
def sp_l_of : Sp := fun vs H Q _ => ∃ (p a : Addr) (n : Nat) (xs : List V), vs = [.ref p, .ref a] ∧ Pot H p n ∧ n < 1000000 ∧ H a = some (.lst xs) ∧ a ≠ p ∧ 0 < xs.length ∧ xs.length ≤ 1000 ∧
  ∀ (v : V) (n' : Nat) (H' : Hp), v ∈ xs → n' ≤ n + 1 → Pot H' p n' → Keep p H H' → Q v H'
def sp_l_cells (K : PySem.W.Frag) : Sp := fun vs H Q _ => ∃ (a : Addr) (ns : List Int) (most : Int), vs = [.ref a, .int most] ∧ SqL K H a (ns.map V.int) ∧ ns.length ≤ 63 ∧ 1 ≤ most ∧ most ≤ 63 ∧
  ∀ (q : Addr) (m : Int), H q = none → 1 ≤ m → m ≤ 63 → Q (.ref q) (upd H q (.lst (rgV 0 m)))
def sp_l_pot (K : PySem.W.Frag) : Sp := fun vs H Q _ => ∃ (a : Addr) (ns : List Int) (i : Int), vs = [.ref a, .int i] ∧ SqL K H a (ns.map V.int) ∧ ns.length ≤ 63 ∧ 0 ≤ i ∧ i < 100 ∧
  ∀ (p : Addr) (H' : Hp), H p = none → Same H H' → Pot H' p 0 → Q (.ref p) H'
theorem at_mem {xs : List V} {i : Int} (h0 : 0 ≤ i) (h : i < (xs.length : Int)) : ∃ v, atI xs i = some v ∧ v ∈ xs := by
  obtain ⟨j, rfl⟩ : ∃ j : Nat, i = (j : Int) := ⟨i.toNat, by omega⟩
  have hj : j < xs.length := by omega
  exact ⟨xs[j], atI_nat (List.getElem?_eq_getElem hj), List.getElem_mem hj⟩
theorem ite01 (b : Bool) : -(2 ^ 64) < (if b = true then (1 : Int) else 0) ∧ (if b = true then (1 : Int) else 0) < 2 ^ 64 := by cases b <;> constructor <;> decide
theorem share {T : Int → Prop} {G : Prop} (h : (∀ z, T z) → G) (t : ∀ z, T z) : G := h t
section
variable {P : Program} {w : World} {K : PySem.W.Frag} {mg : Str → Option Value} {base : Heap} {Z : Zs}
theorem ok_l_of (T : Txt K mg Z) : FnOk P w K mg base CX0 2 Z.f_l_of Z.d_l_of ["_law_pot_here", "_law_some"] sp_l_of := by
  refine T.F_l_of.ok sc_l_of (fun vs H Q E h => ?_) (fun cdv A outer s H vs Q E hr h => ?_)
  · obtain ⟨p, a, n, xs, rfl, _⟩ := h
    rfl
  · obtain ⟨p, a, n, xs, rfl, hp, hn, ha, hne, l0, l1, k⟩ := h
    refine ⟨_, (pss_one (ps_ret (pe_ix ix_list (pv 1) (pe_call (ok_l_take T) (hr.mono (by decide)) rfl T.g_l_take T.k_l_take T.bn_l_take .nil pass0 (pa_cons (pv 0) (pa_cons (pe_callB  call_len (by rfl) T.b_len (by decide +kernel) (pa_cons (pv 1) pa_nil)) pa_nil))) (fun _ _ => rfl)))), ?_⟩
    have big : (xs.length : Int) < 10 ^ 60 := by
      have : (1000 : Int) < 10 ^ 60 := by decide
      omega
    refine ⟨_, rfl, _, rfl, _, rfl, _, _, rfl, .inl ⟨_, SqL.of ha, rfl⟩, p, n, _, rfl, hp, hn, by omega, big, fun d n' H' d0 d1 hn' hp' kp => ?_⟩
    obtain ⟨v, hv, hm⟩ := at_mem d0 d1
    exact ⟨a, xs, d, v, rfl, rfl, SqL.of (kp _ _ hne ha), hv, k v n' H' hm hn' hp' kp⟩
theorem ok_l_cells (T : Txt K mg Z) : FnOk P w K mg base CX0 1 Z.f_l_cells Z.d_l_cells ["_law_script", "_law_most"] (sp_l_cells K) := by
  refine T.F_l_cells.ok sc_l_cells (fun vs H Q E h => ?_) (fun cdv A outer s H vs Q E hr h => ?_)
  · obtain ⟨a, ns, m, rfl, _⟩ := h
    rfl
  · obtain ⟨a, ns, m, rfl, hS, hl, m0, m1, k⟩ := h
    refine ⟨_, (pss_one (ps_ret (pe_listRg rfl rfl T.b_list (prg_1 rfl T.b_range (pe_callB  (call_max2 rfl) (by rfl) T.b_max (by decide +kernel) (pa_cons pe_int (pa_cons (pe_callB  (call_min2 rfl) (by rfl) T.b_min (by decide +kernel) (pa_cons (pv 1) (pa_cons (pe_callB  call_len (by rfl) T.b_len (by decide +kernel) (pa_cons (pv 0) pa_nil)) pa_nil))) pa_nil))))))), ?_⟩
    refine ⟨_, rfl, _, rfl, _, _, rfl, .inl ⟨_, hS, rfl⟩, _, _, rfl, _, _, rfl, ?_⟩
    rw [List.length_map]
    have b : 1 ≤ (if (if (ns.length : Int) < m then (ns.length : Int) else m) > 1 then (if (ns.length : Int) < m then (ns.length : Int) else m) else 1) ∧ (if (if (ns.length : Int) < m then (ns.length : Int) else m) > 1 then (if (ns.length : Int) < m then (ns.length : Int) else m) else 1) ≤ 63 := by
      constructor <;> split <;> first | omega | (split <;> omega)
    exact ⟨_, rfl, RgOk.of_le (by decide) (by omega) (by decide) (by omega), fun q hq => k q _ hq b.1 b.2⟩
theorem own_bound (x : Int) (b : Bool) : 0 ≤ x % ((10 : Int) ^ (60 : Int).toNat) ^ (5 : Int).toNat * (if b = true then 1 else 0) ∧ x % ((10 : Int) ^ (60 : Int).toNat) ^ (5 : Int).toNat * (if b = true then 1 else 0) < 10 ^ 300 := by
  have e : ((10 : Int) ^ (60 : Int).toNat) ^ (5 : Int).toNat = 10 ^ 300 := by decide
  rw [e]
  have h1 := Int.emod_nonneg x (b := 10 ^ 300) (by decide)
  have h2 := Int.emod_lt_of_pos x (b := 10 ^ 300) (by decide)
  cases b
  · simp only [Bool.false_eq_true, if_false, Int.mul_zero]
    exact ⟨Int.le_refl _, by decide⟩
  · simp only [if_true, Int.mul_one]
    exact ⟨h1, h2⟩
theorem ok_l_pot (T : Txt K mg Z) : FnOk P w K mg base CX0 1 Z.f_l_pot Z.d_l_pot ["_law_script", "_law_k"] (sp_l_pot K) := by
  refine T.F_l_pot.ok sc_l_pot (fun vs H Q E h => ?_) (fun cdv A outer s H vs Q E hr h => ?_)
  · obtain ⟨a, ns, i, rfl, _⟩ := h
    rfl
  · obtain ⟨a, ns, i, rfl, hS, hl, i0, i1, k⟩ := h
    refine ⟨_, (pss_cons (ps_set (i := 2) sc_l_pot.nd rfl (Or.inl rfl) (pe_ifExp (pt_cmpR op_lt (pv 1) (pe_callB  call_len (by rfl) T.b_len (by decide +kernel) (pa_cons (pv 0) pa_nil)) (nomark _)) (pe_ix ix_list (pv 0) (pv 1) (fun _ _ => rfl)) (pe_op op_add (pe_op op_mul pe_int (pv 1)) pe_int)))
      (pss_cons (ps_set (i := 3) sc_l_pot.nd rfl (Or.inl rfl) (pe_op op_mul (pe_op op_mod (pe_callTy call_int1 (by rfl) T.b_int (by decide +kernel) (pa_cons (pe_callB  call_abs (by rfl) T.b_abs (by decide +kernel) (pa_cons (pv 2) pa_nil)) pa_nil)) (pe_op op_powW (pe_op op_powW pe_int pe_int) pe_int)) (pe_callTy call_int1 (by rfl) T.b_int (by decide +kernel) (pa_cons (pe_cmpR op_ge (pe_callB  call_abs (by rfl) T.b_abs (by decide +kernel) (pa_cons (pv 2) pa_nil)) (pe_op op_powW pe_int pe_int) (nomark _)) pa_nil))))
      (pss_cons (ps_set (i := 4) sc_l_pot.nd rfl (Or.inl rfl) (pe_op op_mod (pe_callTy call_int1 (by rfl) T.b_int (by decide +kernel) (pa_cons (pv 2) pa_nil)) pe_int))
      (pss_one (ps_ret (pe_lst (pa_cons (pv 3) (pa_cons (pe_op op_mod (pe_callTy call_int1 (by rfl) T.b_int (by decide +kernel) (pa_cons (pe_op op_add (pe_op op_add (pe_op op_mul (pv 4) pe_int) (pe_op op_mul (pe_op op_mul pe_int (pv 1)) (pv 1))) pe_int) pa_nil)) pe_int) (pa_cons pe_int pa_nil))))))))), ?_⟩
    refine ⟨_, rfl, _, rfl, _, _, rfl, .inl ⟨_, hS, rfl⟩, _, _, rfl, rfl, _, rfl, ?_⟩
    rw [List.length_map]
    refine' share (fun tail => ite2 (fun c => ?b1) (fun c => ?b2)) ?b3
    case b1 =>
      have c' : i < (ns.length : Int) := of_decide_eq_true c
      obtain ⟨v, hv, hm⟩ := at_mem (xs := ns.map V.int) i0 (by rw [List.length_map]; exact c')
      obtain ⟨z, _, rfl⟩ := List.mem_map.mp hm
      exact ⟨_, rfl, _, rfl, a, _, _, _, rfl, rfl, hS, hv, tail z⟩
    case b2 => exact ⟨_, rfl, _, _, rfl, rfl, .inl (by constructor <;> decide), _, _, rfl, rfl, tail _⟩
    case b3 =>
      intro z
      refine ⟨_, rfl, _, rfl, .inl ⟨_, rfl, _, _, rfl, rfl, ⟨by decide, by decide +kernel⟩, _, _, rfl, rfl, ⟨by decide, by decide +kernel⟩, _, _, rfl, rfl, (by decide +kernel : (0 : Int) < ((10 : Int) ^ (60 : Int).toNat) ^ (5 : Int).toNat), ?_⟩⟩
      refine ⟨_, rfl, _, rfl, _, _, rfl, rfl, ⟨by decide, by decide +kernel⟩, _, _, rfl, rfl, .inr ⟨_, rfl, _, _, rfl, rfl, .inr (ite01 _), ?_⟩⟩
      have ob := own_bound (if z < 0 then -z else z) (decide ((10 : Int) ^ (18 : Int).toNat ≤ (if z < 0 then -z else z)))
      refine ⟨_, rfl, .inl ⟨_, rfl, _, _, rfl, rfl, by show (0 : Int) < 2305843009213693951; decide, ?_⟩⟩
      refine ⟨_, rfl, _, rfl, _, _, rfl, rfl, .inr (by constructor <;> decide), _, rfl, _, _, rfl, rfl, .inl (by constructor <;> decide), _, rfl, _, _, rfl, rfl, .inr (by constructor <;> omega), _, _, rfl, rfl, _, _, rfl, rfl, .inl ⟨_, rfl, _, _, rfl, rfl, by show (0 : Int) < 2305843009213693921; decide, ?_⟩⟩
      refine ⟨by show 3 ≤ sizeLine; decide, fun p hp => k p _ hp (Same.new (Same.refl H) hp) ⟨_, _, upd_same, ob.1, ob.2, Int.emod_nonneg _ (by decide), ?_⟩⟩
      exact Int.lt_trans (Int.emod_lt_of_pos _ (by decide)) (by decide)
end
end TT

set_option Elab.async false
set_option linter.all false
set_option maxRecDepth 100000
set_option maxHeartbeats 4000000
namespace TT
open PySem PySem.Spec PyProof.Rows L2
theorem Pot.new {H : Hp} {p q : Addr} {n : Nat} {o : HO} (h : Pot H p n) (hq : H q = none) : Pot (upd H q o) p n := by
  obtain ⟨a, m, e, r⟩ := h
  exact ⟨a, m, by rw [upd_ne (ne_of_none e hq)]; exact e, r⟩
theorem free_of {H H' : Hp} {p q : Addr} {n m : Nat} (k : Keep p H H') (hp : Pot H p n) (hq : H' q = none) (hp' : Pot H' p m) : H q = none := by
  cases e : H q with
  | none => rfl
  | some o =>
    have ne : q ≠ p := by
      rintro rfl
      obtain ⟨_, _, z, _⟩ := hp'
      rw [hq] at z; cases z
    rw [k q o ne e] at hq
    cases hq
/-! ### rows: the law's own picture of a tie -/
/-- the six values of a tie -/
structure Row where
  f : Int
  s : Int
  l : Int
  a : Int
  d : Bool
  b : Bool
/-- such as a tie may have: places within 10 ^ 30, amounts below 10 ^ 36 -/
structure Row.Ok (r : Row) : Prop where
  f0 : 0 ≤ r.f
  s0 : 0 ≤ r.s
  l0 : 1 ≤ r.l
  fe : r.f + r.l ≤ 10 ^ 30
  se : r.s + r.l ≤ 10 ^ 30
  al : -(10 ^ 60) < r.a
  ah : r.a < 10 ^ 60
  bk : r.b = true → 1 < r.l
def Row.vs (r : Row) : List V := [.int r.f, .int r.s, .int r.l, .int r.a, .bl r.d, .bl r.b]
def Row.dat (r : Row) : PyData := .tuple [.int r.f, .int r.s, .int r.l, .int r.a, .bool r.d, .bool r.b]
/-- a row as a tuple stands at q -/
def RowAt (H : Hp) (q : Addr) (r : Row) : Prop := H q = some (.tup r.vs)
theorem Keep.row {p q : Addr} {H H' : Hp} {r : Row} {n : Nat} (k : Keep p H H') (hp : Pot H p n) (h : RowAt H q r) : RowAt H' q r := by
  refine k _ _ ?_ h
  obtain ⟨_, _, e, _⟩ := hp
  exact ne_of h e (fun z => by cases z)
def sp_l_amount : Sp := fun vs H Q _ => ∃ (p : Addr) (n : Nat), vs = [.ref p] ∧ Pot H p n ∧ n < 1000000 ∧
  ∀ (v : Int) (n' : Nat) (H' : Hp), -(10 ^ 36) < v → v < 10 ^ 36 → n' ≤ n + 1 → Pot H' p n' → Keep p H H' → Q (.int v) H'
def sp_l_row : Sp := fun vs H Q _ => ∃ (p : Addr) (n : Nat) (z : Int), vs = [.ref p, .int z] ∧ Pot H p n ∧ n + 6 < 1000000 ∧ 1 ≤ z ∧ z ≤ 1000 ∧
  ∀ (r : Row) (q : Addr) (n' : Nat) (H' : Hp), r.Ok → r.f + r.l ≤ z → r.s + r.l ≤ z → -(10 ^ 36) < r.a → r.a < 10 ^ 36 → n' ≤ n + 6 → Pot H' p n' → Keep p H H' → RowAt H' q r → H q = none → Q (.ref q) H'
section
variable {P : Program} {w : World} {K : PySem.W.Frag} {mg : Str → Option Value} {base : Heap} {Z : Zs}
theorem ok_l_amount (T : Txt K mg Z) : FnOk P w K mg base CX0 3 Z.f_l_amount Z.d_l_amount ["_law_pot_here"] sp_l_amount := by
  refine T.F_l_amount.ok sc_l_amount (fun vs H Q E h => ?_) (fun cdv A outer s H vs Q E hr h => ?_)
  · obtain ⟨p, n, rfl, _⟩ := h
    rfl
  · obtain ⟨p, n, rfl, hp, hn, k⟩ := h
    refine ⟨_, (pss_one (ps_ret (pe_call (ok_l_of T) (hr.mono (by decide)) rfl T.g_l_of T.k_l_of T.bn_l_of .nil pass0 (pa_cons (pv 0) (pa_cons (pe_lst (pa_cons pe_int (pa_cons pe_int (pa_cons pe_int (pa_cons (pe_un un_neg pe_int) (pa_cons pe_int (pa_cons pe_int (pa_cons (pe_un un_neg pe_int) (pa_cons pe_int (pa_cons (pe_op op_powW pe_int pe_int) pa_nil)))))))))) pa_nil))))), ?_⟩
    refine ⟨_, rfl, _, rfl, _, rfl, _, _, rfl, rfl, ⟨by decide, by decide +kernel⟩, by show 9 ≤ sizeLine; decide, fun a ha => ?_⟩
    have hpa : p ≠ a := by
      obtain ⟨_, _, e, _⟩ := hp
      exact ne_of_none e ha
    have hp2 : Pot (upd H a (.lst [.int 0, .int 0, .int 1, .int (-1), .int 2, .int 5, .int (-7), .int 12, .int ((10 : Int) ^ (35 : Int).toNat)])) p n := by
      obtain ⟨o, m, e, r⟩ := hp
      exact ⟨o, m, by rw [upd_ne hpa]; exact e, r⟩
    refine ⟨p, a, n, _, rfl, hp2, hn, upd_same, hpa.symm, by decide, by decide, fun v n' H' hv hn' hp' kp => ?_⟩
    have kp' : Keep p H H' := (Keep.new Keep.rfl' ha).trans kp
    simp only [List.mem_cons, List.not_mem_nil, or_false] at hv
    rcases hv with rfl | rfl | rfl | rfl | rfl | rfl | rfl | rfl | rfl <;> exact k _ n' H' (by decide) (by decide) hn' hp' kp'
theorem ok_l_row (T : Txt K mg Z) : FnOk P w K mg base CX0 4 Z.f_l_row Z.d_l_row ["_law_pot_here", "_law_size"] sp_l_row := by
  refine T.F_l_row.ok sc_l_row (fun vs H Q E h => ?_) (fun cdv A outer s H vs Q E hr h => ?_)
  · obtain ⟨p, n, z, rfl, _⟩ := h
    rfl
  · obtain ⟨p, n, z, rfl, hp, hn, z0, z1, k⟩ := h
    refine ⟨_, (pss_cons (ps_set (i := 2) sc_l_row.nd rfl (Or.inl rfl) (pe_op op_add pe_int (pe_call (ok_l_take T) (hr.mono (by decide)) rfl T.g_l_take T.k_l_take T.bn_l_take .nil pass0 (pa_cons (pv 0) (pa_cons (pv 1) pa_nil)))))
      (pss_cons (ps_par (i := 3) (j := 4) (by rfl) sc_l_row.nd rfl rfl (by decide) rfl rfl (pa_cons (pe_call (ok_l_take T) (hr.mono (by decide)) rfl T.g_l_take T.k_l_take T.bn_l_take .nil pass0 (pa_cons (pv 0) (pa_cons (pe_op op_add (pe_op op_sub (pv 1) (pv 2)) pe_int) pa_nil))) (pa_cons (pe_call (ok_l_take T) (hr.mono (by decide)) rfl T.g_l_take T.k_l_take T.bn_l_take .nil pass0 (pa_cons (pv 0) (pa_cons (pe_op op_add (pe_op op_sub (pv 1) (pv 2)) pe_int) pa_nil))) pa_nil)) (by rfl))
      (pss_cons (ps_par3 (i := 5) (j := 6) (l := 7) rfl sc_l_row.nd rfl rfl rfl (by decide) (by decide) (by decide) rfl rfl rfl (pa_cons (pe_call (ok_l_amount T) (hr.mono (by decide)) rfl T.g_l_amount T.k_l_amount T.bn_l_amount .nil pass0 (pa_cons (pv 0) pa_nil)) (pa_cons (pe_cmpR op_eq (pe_call (ok_l_take T) (hr.mono (by decide)) rfl T.g_l_take T.k_l_take T.bn_l_take .nil pass0 (pa_cons (pv 0) (pa_cons pe_int pa_nil))) pe_int (nomark _)) (pa_cons (pe_cmpR op_eq (pe_call (ok_l_take T) (hr.mono (by decide)) rfl T.g_l_take T.k_l_take T.bn_l_take .nil pass0 (pa_cons (pv 0) (pa_cons pe_int pa_nil))) pe_int (nomark _)) pa_nil))) (by rfl))
      (pss_one (ps_ret (pe_tup (pa_cons (pv 3) (pa_cons (pv 4) (pa_cons (pv 2) (pa_cons (pv 5) (pa_cons (pv 6) (pa_cons (pe_and (pv 7) (pe_one (pe_cmpR op_gt (pv 2) pe_int (nomark _)))) pa_nil)))))))))))), ?_⟩
    have big : (1001 : Int) < 10 ^ 60 := by decide
    refine ⟨_, rfl, _, rfl, p, n, _, rfl, hp, by omega, by omega, by omega, fun d1 n1 H1 a0 a1 hn1 hp1 k1 => ?_⟩
    refine ⟨_, _, rfl, rfl, ?_⟩
    refine ⟨_, rfl, _, rfl, _, rfl, _, _, rfl, rfl, _, _, rfl, rfl, p, n1, _, rfl, hp1, by omega, by show 0 < z - (1 + d1) + 1; omega, by show z - (1 + d1) + 1 < 10 ^ 60; omega, fun d2 n2 H2 b0 b1 hn2 hp2 k2 => ?_⟩
    refine ⟨_, rfl, _, rfl, _, rfl, _, _, rfl, rfl, _, _, rfl, rfl, p, n2, _, rfl, hp2, by omega, by show 0 < z - (1 + d1) + 1; omega, by show z - (1 + d1) + 1 < 10 ^ 60; omega, fun d3 n3 H3 c0 c1 hn3 hp3 k3 => ?_⟩
    refine ⟨_, _, rfl, ?_⟩
    refine ⟨_, rfl, p, n3, rfl, hp3, by omega, fun am n4 H4 e0 e1 hn4 hp4 k4 => ?_⟩
    refine ⟨_, rfl, p, n4, _, rfl, hp4, by omega, by decide, by decide, fun d5 n5 H5 _ _ hn5 hp5 k5 => ?_⟩
    refine ⟨rfl, ?_⟩
    refine ⟨_, rfl, p, n5, _, rfl, hp5, by omega, by decide, by decide, fun d6 n6 H6 _ _ hn6 hp6 k6 => ?_⟩
    refine ⟨rfl, ?_⟩
    refine ⟨_, _, _, rfl, ?_⟩
    refine ⟨_, rfl, _, rfl, _, rfl, _, rfl, _, rfl, _, rfl, _, rfl, ?_⟩
    have rok : ∀ bk : Bool, (bk = true → 1 < 1 + d1) → Row.Ok ⟨d2, d3, 1 + d1, am, decide (V.int d5 = V.int 0), bk⟩ := fun bk hb =>
      ⟨b0, c0, by show 1 ≤ 1 + d1; omega, by show d2 + (1 + d1) ≤ 10 ^ 30; omega, by show d3 + (1 + d1) ≤ 10 ^ 30; omega, by show -(10 ^ 60) < am; omega, by show am < 10 ^ 60; omega, hb⟩
    have kp : Keep p H H6 := ((((k1.trans k2).trans k3).trans k4).trans k5).trans k6
    refine ite2 (fun c => ?_) (fun c => ?_)
    · refine ⟨_, rfl, _, _, rfl, rfl, by show 6 ≤ sizeLine; decide, fun q hq => ?_⟩
      have nq : H q = none := free_of kp hp hq hp6
      refine k _ q n6 _ (rok (decide (1 < 1 + d1)) fun h => of_decide_eq_true h) (by show d2 + (1 + d1) ≤ z; omega) (by show d3 + (1 + d1) ≤ z; omega) e0 e1 (by omega) (hp6.new hq) (kp.new hq) upd_same nq
    · refine ⟨by show 6 ≤ sizeLine; decide, fun q hq => ?_⟩
      have nq : H q = none := free_of kp hp hq hp6
      refine k _ q n6 _ (rok false fun h => by cases h) (by show d2 + (1 + d1) ≤ z; omega) (by show d3 + (1 + d1) ≤ z; omega) e0 e1 (by omega) (hp6.new hq) (kp.new hq) upd_same nq
end
end TT

set_option Elab.async false
set_option linter.all false
set_option maxRecDepth 100000
set_option maxHeartbeats 4000000
namespace TT
open PySem PySem.Spec PyProof.Rows L2
/-! ### integers -/
/-- whether a value is an int and no bool -/
def Whole (K : PySem.W.Frag) (H : Hp) (x : V) (b : Bool) : Prop := ∃ (t : Value) (b1 b2 : Bool), TyX K H x t ∧ PySem.W.kitOne K t (.type "int") = some b1 ∧ PySem.W.kitOne K t (.type "bool") = some b2 ∧ (b1 && !b2) = b
theorem whole_int {K : PySem.W.Frag} {H : Hp} (i : Int) : Whole K H (.int i) true := ⟨_, true, false, .base (.int i), kit_ty (by decide +kernel), kit_ty (by decide +kernel), rfl⟩
def sp_is_whole (K : PySem.W.Frag) : Sp := fun vs H Q _ => ∃ (x : V) (b : Bool), vs = [x] ∧ Whole K H x b ∧ Q (.bl b) H
def sp_is_from (K : PySem.W.Frag) : Sp := fun vs H Q _ => (∃ v l : Int, vs = [.int v, .int l] ∧ Q (.bl (decide (l ≤ v))) H) ∨ ∃ x l : V, vs = [x, l] ∧ Whole K H x false ∧ Q (.bl false) H
def sp_is_between (K : PySem.W.Frag) : Sp := fun vs H Q _ => (∃ v l g : Int, vs = [.int v, .int l, .int g] ∧ Q (.bl (decide (l ≤ v) && decide (v ≤ g))) H) ∨ ∃ x l g : V, vs = [x, l, g] ∧ Whole K H x false ∧ Q (.bl false) H
/-- written(n), n below 10 ^ 64 in size: as Python writes it -/
def shownInt (n : Int) : Str := if n < 0 then Str.ofString "-" ++ Str.ofString (toString (-n)) else Str.ofString (toString n)
def sp_written0 : Sp := fun vs H Q _ => ∃ n : Int, vs = [.int n] ∧ 0 ≤ n ∧ n < 10 ^ 64 ∧ ∀ H', Same H H' → Q (.str (Str.ofString (toString n))) H'
def sp_written : Sp := fun vs H Q _ => ∃ n : Int, vs = [.int n] ∧ -(10 ^ 64) < n ∧ n < 10 ^ 64 ∧ ∀ H', Same H H' → Q (.str (shownInt n)) H'
theorem FnOk.or {P : Program} {w : World} {K : PySem.W.Frag} {mg : Str → Option Value} {base : Heap} {CX : CXT} {k : Nat} {f : Addr} {fd : FuncData} {ps : List Str} {sp sp' : Sp} (F : FnOk P w K mg base CX k f fd ps sp) (G : FnOk P w K mg base CX k f fd ps sp') :
    FnOk P w K mg base CX k f fd ps (fun vs H Q E => sp vs H Q E ∨ sp' vs H Q E) :=
  ⟨fun vs H Q E h => h.elim (F.len _ _ _ _) (G.len _ _ _ _), fun A outer s H args us vs Q E r e b v h => h.elim (F.run A outer s H args us vs Q E r e b v) (G.run A outer s H args us vs Q E r e b v)⟩
theorem log_lt {n : Int} (h0 : 0 ≤ n) (h : n < 10 ^ 64) : n.natAbs.log2 < 1920 := PySem.Flt.log2_lt_of (by decide) (by
  have : (10 : Int) ^ 64 < 2 ^ 1920 := by decide +kernel
  omega)
theorem ge_chunk {n : Int} (h : n < 10 ^ 64) : decide ((10000000000000000000000000000000000000000000000000000000000000000 : Int) ≤ n) = false := decide_eq_false (by
  have e : (10 : Int) ^ 64 = 10000000000000000000000000000000000000000000000000000000000000000 := by decide +kernel
  omega)
theorem join1 (x : Str) : Txt.join (Str.ofString "") [x] = x := by
  first | rfl | simp [Txt.join]
section
variable {P : Program} {w : World} {K : PySem.W.Frag} {mg : Str → Option Value} {base : Heap} {Z : Zs}
theorem ok_is_whole (T : Txt K mg Z) : FnOk P w K mg base CX0 1 Z.f_is_whole Z.d_is_whole ["value"] (sp_is_whole K) := by
  refine T.F_is_whole.ok sc_is_whole (fun vs H Q E h => ?_) (fun cdv A outer s H vs Q E hr h => ?_)
  · obtain ⟨x, b, rfl, _⟩ := h
    rfl
  · obtain ⟨x, b, rfl, ⟨t, b1, b2, ty, e1, e2, e3⟩, k⟩ := h
    refine ⟨_, (pss_one (ps_ret (pe_and (pe_callB  call_isi (by rfl) T.b_isinstance (by decide +kernel) (pa_cons (pv 0) (pa_cons (pe_bltn (v := .ty "int") rfl T.b_int (by decide +kernel) rfl) pa_nil))) (pe_one (pe_not (pe_callB  call_isi (by rfl) T.b_isinstance (by decide +kernel) (pa_cons (pv 0) (pa_cons (pe_bltn (v := .ty "bool") rfl T.b_bool (by decide +kernel) rfl) pa_nil)))))))), ?_⟩
    refine ⟨_, rfl, _, _, t, _, b1, rfl, .ty "int", ty, e1, _, rfl, ?_⟩
    subst e3
    cases b1 with
    | true => exact iteT ⟨_, rfl, _, _, t, _, b2, rfl, .ty "bool", ty, e2, _, rfl, k⟩
    | false => exact iteF k
theorem ok_is_from (T : Txt K mg Z) : FnOk P w K mg base CX0 2 Z.f_is_from Z.d_is_from ["value", "least"] (sp_is_from K) := by
  refine T.F_is_from.ok sc_is_from (fun vs H Q E h => ?_) (fun cdv A outer s H vs Q E hr h => ?_)
  · rcases h with ⟨v, l, rfl, _⟩ | ⟨x, l, rfl, _⟩ <;> rfl
  · rcases h with ⟨v, l, rfl, k⟩ | ⟨x, l, rfl, hw, k⟩
    · refine ⟨_, (pss_one (ps_ret (pe_and (pe_call (ok_is_whole T) (hr.mono (by decide)) rfl T.g_is_whole T.k_is_whole T.bn_is_whole .nil pass0 (pa_cons (pv 0) pa_nil)) (pe_one (pe_cmpR op_ge (pv 0) (pv 1) (nomark _)))))), ?_⟩
      exact ⟨_, rfl, _, true, rfl, whole_int v, true, rfl, iteT ⟨_, rfl, _, rfl, _, _, rfl, rfl, k⟩⟩
    · refine ⟨_, (pss_one (ps_ret (pe_and (pe_call (ok_is_whole T) (hr.mono (by decide)) rfl T.g_is_whole T.k_is_whole T.bn_is_whole .nil pass0 (pa_cons (pv 0) pa_nil)) (pe_one (pe_cmpR op_ge (pv 0) (pv 1) (nomark _)))))), ?_⟩
      exact ⟨_, rfl, _, false, rfl, hw, false, rfl, iteF k⟩
theorem ok_is_between (T : Txt K mg Z) : FnOk P w K mg base CX0 3 Z.f_is_between Z.d_is_between ["value", "least", "greatest"] (sp_is_between K) := by
  refine T.F_is_between.ok sc_is_between (fun vs H Q E h => ?_) (fun cdv A outer s H vs Q E hr h => ?_)
  · rcases h with ⟨v, l, g, rfl, _⟩ | ⟨x, l, g, rfl, _⟩ <;> rfl
  · rcases h with ⟨v, l, g, rfl, k⟩ | ⟨x, l, g, rfl, hw, k⟩
    · refine ⟨_, (pss_one (ps_ret (pe_and (pe_call (ok_is_from T) (hr.mono (by decide)) rfl T.g_is_from T.k_is_from T.bn_is_from .nil pass0 (pa_cons (pv 0) (pa_cons (pv 1) pa_nil))) (pe_one (pe_cmpR op_le (pv 0) (pv 2) (nomark _)))))), ?_⟩
      refine ⟨_, rfl, _, rfl, .inl ⟨v, l, rfl, _, rfl, ?_⟩⟩
      cases e : decide (l ≤ v) with
      | true =>
        rw [e] at k
        exact iteT ⟨_, rfl, _, rfl, _, _, rfl, rfl, k⟩
      | false =>
        rw [e] at k
        exact iteF k
    · refine ⟨_, (pss_one (ps_ret (pe_and (pe_call (ok_is_from T) (hr.mono (by decide)) rfl T.g_is_from T.k_is_from T.bn_is_from .nil pass0 (pa_cons (pv 0) (pa_cons (pv 1) pa_nil))) (pe_one (pe_cmpR op_le (pv 0) (pv 2) (nomark _)))))), ?_⟩
      exact ⟨_, rfl, _, rfl, .inr ⟨x, l, rfl, hw, false, rfl, iteF k⟩⟩
theorem ok_written0 (T : Txt K mg Z) : FnOk P w K mg base CX0 1 Z.f_written Z.d_written ["number"] sp_written0 := by
  refine T.F_written.ok sc_written (fun vs H Q E h => ?_) (fun cdv A outer s H vs Q E hr h => ?_)
  · obtain ⟨n, rfl, _⟩ := h
    rfl
  · obtain ⟨n, rfl, n0, n1, k⟩ := h
    refine ⟨_, (pss_cons (ps_if (pt_cmpR op_lt (pv 0) pe_int (nomark _)) pss_never pss_nil)
      (pss_cons (ps_set (i := 1) sc_written.nd rfl (Or.inl rfl) (pv 0))
      (pss_cons (ps_set (i := 2) sc_written.nd rfl (Or.inl rfl) (pe_lst pa_nil))
      (pss_cons (ps_while PassesOwn.never (pt_cmpR op_ge (pv 1) (pe_glob (v := .int 10000000000000000000000000000000000000000000000000000000000000000) rfl T.c__CHUNK ⟨_, rfl⟩) (nomark _)) pss_never)
      (pss_cons (ps_expr (pe_bm PySem.F.plainAttrs_list PySem.F.slot_list_append PySem.F.type_list_append mt_append (pv 2) (pa_cons (pe_callTy call_str_int (by rfl) T.b_str (by decide +kernel) (pa_cons (pv 1) pa_nil)) pa_nil)))
      (pss_one (ps_ret (pe_join pe_str (pe_revL (pv 2)))))))))), ?_⟩
    refine ⟨_, rfl, _, _, rfl, rfl, _, rfl, ?_⟩
    rw [decide_eq_false (by omega : ¬ n < 0)]
    refine iteF ⟨_, rfl, by show 0 ≤ sizeLine; exact Nat.zero_le _, fun q hq => ?_⟩
    refine while_by (fun σ H2 => σ = [some (.int n), some (.int n), some (.ref q)] ∧ H2 = upd H q (.lst [])) (fun _ _ => 0) ⟨rfl, rfl⟩ ?_ ?_
    · rintro σ H2 ⟨rfl, rfl⟩
      refine ⟨_, rfl, _, _, rfl, rfl, _, rfl, ?_⟩
      rw [ge_chunk n1]
      refine iteF ?_
      refine ⟨_, rfl, .inl ⟨rfl, _, SqL.of upd_same⟩, _, rfl, _, rfl, log_lt n0 n1, q, _, _, rfl, rfl, upd_same, (by show 0 < sizeLine; decide), ?_⟩
      have n640 : (Str.ofString (toString n)).length ≤ 64 := toString_length_le n0 (by decide) n1
      refine ⟨⟨_, rfl⟩, _, rfl, q, _, rfl, SqL.of upd_same, fun p2 hp2 => ⟨_, p2, [Str.ofString (toString n)], rfl, rfl, .inl (SqL.of upd_same), ?_, ?_⟩⟩
      · show (Str.ofString (toString n)).length + 0 + 1 * 0 ≤ 16777216
        omega
      · rw [join1]
        refine k _ (Same.new (fun b o e => ?_) hp2)
        rw [upd_ne (ne_of_none e hq), upd_ne (ne_of_none e hq)]
        exact e
    · rintro σ H2 Q1 Q2 hQ ⟨v, e, i, j, e1, e2, b, e3, q1⟩
      exact ⟨v, e, i, j, e1, e2, b, e3, hQ _ _ q1⟩
theorem ok_written (T : Txt K mg Z) : FnOk P w K mg base CX0 2 Z.f_written Z.d_written ["number"] sp_written := by
  have neg : FnOk P w K mg base CX0 2 Z.f_written Z.d_written ["number"] (fun vs H Q _ => ∃ n : Int, vs = [.int n] ∧ -(10 ^ 64) < n ∧ n < 0 ∧ ∀ H', Same H H' → Q (.str (shownInt n)) H') := by
    refine T.F_written.ok sc_written (fun vs H Q E h => ?_) (fun cdv A outer s H vs Q E hr h => ?_)
    · obtain ⟨n, rfl, _⟩ := h
      rfl
    · obtain ⟨n, rfl, n0, n1, k⟩ := h
      refine ⟨_, (pss_cons (ps_if (pt_cmpR op_lt (pv 0) pe_int (nomark _)) (pss_one (ps_ret (pe_joined (.cons pe_str (.cons (pe_fmt (pe_call (ok_written0 T) (hr.mono (by decide)) rfl T.g_written T.k_written T.bn_written .nil pass0 (pa_cons (pe_un un_neg (pv 0)) pa_nil))) .nil))))) pss_nil) pss_never), ?_⟩
      refine ⟨_, rfl, _, _, rfl, rfl, _, rfl, ?_⟩
      rw [decide_eq_true (by omega : n < 0)]
      have sz : (Str.ofString (toString (-n))).length ≤ 64 := toString_length_le (by omega) (by decide) (by omega)
      have sl : sizeLine = 16777216 := sizeLine_eq
      refine iteT ⟨_, rfl, by decide, _, rfl, _, rfl, -n, rfl, by omega, by omega, fun H' sm => .inl ⟨_, rfl, by omega, _, rfl, ?_, ?_⟩⟩
      · rw [Str.length_append, Str.length_append]
        have : Str.empty.length = 0 := rfl
        have : (Str.ofString "-").length = 1 := by decide
        omega
      · have e : Str.empty ++ Str.ofString "-" ++ Str.ofString (toString (-n)) = shownInt n := by
          unfold shownInt
          rw [if_pos n1]
          rfl
        rw [e]
        exact k H' sm
  have pos : FnOk P w K mg base CX0 2 Z.f_written Z.d_written ["number"] sp_written0 := (ok_written0 T).mono (by decide)
  refine (FnOk.or neg pos).imp fun vs H Q E h => ?_
  obtain ⟨n, rfl, n0, n1, k⟩ := h
  by_cases c : n < 0
  · exact .inl ⟨n, rfl, n0, c, k⟩
  · refine .inr ⟨n, rfl, by omega, n1, fun H' sm => ?_⟩
    have := k H' sm
    rw [shownInt, if_neg c] at this
    exact this
end
end TT

set_option Elab.async false
set_option linter.all false
set_option maxRecDepth 100000
set_option maxHeartbeats 4000000
namespace TT
open PySem PySem.Spec PyProof.Rows L2
/-! ### ties -/
def way (b : Bool) : Str := if b = true then Str.ofString "down" else Str.ofString "up"
def backs (b : Bool) : Str := if b = true then Str.ofString " back" else Str.ofString ""
def tieText (r : Row) : Str := Str.empty ++ Str.ofString (toString r.f) ++ Str.ofString " " ++ Str.ofString (toString r.s) ++ Str.ofString " " ++ Str.ofString (toString r.l) ++ Str.ofString " " ++ way r.d ++ Str.ofString " " ++ shownInt r.a ++ backs r.b
/-- the attributes of a tie, in the sequence in which __init__ stores them -/
def fs1 (r : Row) : List (Str × V) := putF "first" (.int r.f) []
def fs2 (r : Row) : List (Str × V) := putF "second" (.int r.s) (fs1 r)
def fs3 (r : Row) : List (Str × V) := putF "length" (.int r.l) (fs2 r)
def fs4 (r : Row) : List (Str × V) := putF "amount" (.int r.a) (fs3 r)
def fs5 (r : Row) : List (Str × V) := putF "down" (.bl r.d) (fs4 r)
def fs6 (r : Row) : List (Str × V) := putF "backward" (.bl r.b) (fs5 r)
def tfs (r : Row) : List (Str × V) := putF "text" (.str (tieText r)) (fs6 r)
theorem len_putF {f : Str} {v : V} {fs : List (Str × V)} {n : Nat} (h : fs.length ≤ n) : (putF f v fs).length ≤ n + 1 := Nat.le_trans (length_putF f v fs) (Nat.succ_le_succ h)
theorem len1 (r : Row) : (fs1 r).length ≤ 1 := len_putF (Nat.le_refl 0)
theorem len2 (r : Row) : (fs2 r).length ≤ 2 := len_putF (len1 r)
theorem len3 (r : Row) : (fs3 r).length ≤ 3 := len_putF (len2 r)
theorem len4 (r : Row) : (fs4 r).length ≤ 4 := len_putF (len3 r)
theorem len5 (r : Row) : (fs5 r).length ≤ 5 := len_putF (len4 r)
theorem len6 (r : Row) : (fs6 r).length ≤ 6 := len_putF (len5 r)
theorem tfs_lookup (r : Row) (g : Str) : (tfs r).lookup g = if g = "text" then some (.str (tieText r)) else if g = "backward" then some (.bl r.b) else if g = "down" then some (.bl r.d) else if g = "amount" then some (.int r.a) else
    if g = "length" then some (.int r.l) else if g = "second" then some (.int r.s) else if g = "first" then some (.int r.f) else none := by
  unfold tfs fs6 fs5 fs4 fs3 fs2 fs1
  rw [lookup_putF, lookup_putF, lookup_putF, lookup_putF, lookup_putF, lookup_putF, lookup_putF]
  rfl
theorem fs6_backward (r : Row) : (fs6 r).lookup ("backward" : Str) = some (.bl r.b) := by
  unfold fs6
  rw [lookup_putF, if_pos rfl]
theorem tfs_text (r : Row) : (tfs r).lookup ("text" : Str) = some (.str (tieText r)) := by rw [tfs_lookup, if_pos rfl]
theorem tfs_backward (r : Row) : (tfs r).lookup ("backward" : Str) = some (.bl r.b) := by rw [tfs_lookup, if_neg (by decide +kernel), if_pos rfl]
theorem tfs_down (r : Row) : (tfs r).lookup ("down" : Str) = some (.bl r.d) := by rw [tfs_lookup, if_neg (by decide +kernel), if_neg (by decide +kernel), if_pos rfl]
theorem tfs_amount (r : Row) : (tfs r).lookup ("amount" : Str) = some (.int r.a) := by rw [tfs_lookup, if_neg (by decide +kernel), if_neg (by decide +kernel), if_neg (by decide +kernel), if_pos rfl]
theorem tfs_length (r : Row) : (tfs r).lookup ("length" : Str) = some (.int r.l) := by rw [tfs_lookup, if_neg (by decide +kernel), if_neg (by decide +kernel), if_neg (by decide +kernel), if_neg (by decide +kernel), if_pos rfl]
theorem tfs_second (r : Row) : (tfs r).lookup ("second" : Str) = some (.int r.s) := by rw [tfs_lookup, if_neg (by decide +kernel), if_neg (by decide +kernel), if_neg (by decide +kernel), if_neg (by decide +kernel), if_neg (by decide +kernel), if_pos rfl]
theorem tfs_first (r : Row) : (tfs r).lookup ("first" : Str) = some (.int r.f) := by rw [tfs_lookup, if_neg (by decide +kernel), if_neg (by decide +kernel), if_neg (by decide +kernel), if_neg (by decide +kernel), if_neg (by decide +kernel), if_neg (by decide +kernel), if_pos rfl]
/-- a tie of the six values stands at q -/
def TieAt (C : Addr) (H : Hp) (q : Addr) (r : Row) : Prop := ∃ dx, H q = some (.ins C dx (tfs r))
def sp_check_parts : Sp := fun vs H Q _ => ∃ f s l : Int, vs = [.int f, .int s, .int l] ∧ 0 ≤ f ∧ 0 ≤ s ∧ 1 ≤ l ∧ f + l ≤ 10 ^ 30 ∧ s + l ≤ 10 ^ 30 ∧ Q .non H
def sp_check_leading : Sp := fun vs H Q _ => ∃ (a : Int) (d b : Bool), vs = [.int a, .bl d, .bl b] ∧ Q .non H
/-- a tie of these values is made -/
def sp_T_init (C : Addr) : Sp := fun vs H Q _ => ∃ (p dx : Addr) (r : Row) (b : Bool), vs = [.ref p, .int r.f, .int r.s, .int r.l, .int r.a, .bl r.d, .bl b] ∧ r.Ok ∧ r.b = (b && decide (1 < r.l)) ∧ H p = some (.ins C dx []) ∧
  ∀ H', H' p = some (.ins C dx (tfs r)) → Keep p H H' → Q .non H'
theorem share0 {T G : Prop} (h : T → G) (t : T) : G := h t
local macro_rules | `(tactic| walk_at "len") => `(tactic| ((try simp only [Str.length_append]); omega))
theorem shown_len {n : Int} (h0 : -(10 ^ 64) < n) (h1 : n < 10 ^ 64) : (shownInt n).length ≤ 66 := by
  unfold shownInt
  split
  · have := toString_length_le (v := -n) (by omega) (k := 64) (by decide) (by omega)
    have e : (Str.ofString "-").length = 1 := by decide
    rw [Str.length_append]
    omega
  · have := toString_length_le (v := n) (by omega) (k := 64) (by decide) h1
    omega
section
variable {P : Program} {w : World} {K : PySem.W.Frag} {mg : Str → Option Value} {base : Heap} {Z : Zs}
theorem ok_check_parts (T : Txt K mg Z) : FnOk P w K mg base CX0 3 Z.f_check_parts Z.d_check_parts ["first", "second", "length"] sp_check_parts := by
  refine T.F_check_parts.ok sc_check_parts (fun vs H Q E h => ?_) (fun cdv A outer s H vs Q E hr h => ?_)
  · obtain ⟨f, g, l, rfl, _⟩ := h
    rfl
  · obtain ⟨f, g, l, rfl, f0, g0, l0, fe, ge, k⟩ := h
    refine ⟨_, (pss_cons (ps_if (pt_not (pt_val (pe_call (ok_is_from T) (hr.mono (by decide)) rfl T.g_is_from T.k_is_from T.bn_is_from .nil pass0 (pa_cons (pv 0) (pa_cons pe_int pa_nil))))) (pss_one ps_never) pss_nil)
      (pss_cons (ps_if (pt_not (pt_val (pe_call (ok_is_from T) (hr.mono (by decide)) rfl T.g_is_from T.k_is_from T.bn_is_from .nil pass0 (pa_cons (pv 1) (pa_cons pe_int pa_nil))))) (pss_one ps_never) pss_nil)
      (pss_one (ps_if (PW.pt (pw_or (pt_not (pt_val (pe_call (ok_is_from T) (hr.mono (by decide)) rfl T.g_is_from T.k_is_from T.bn_is_from .nil pass0 (pa_cons (pv 2) (pa_cons pe_int pa_nil))))) (pw_or1 (pt_cmpR op_gt (pe_op op_add (pe_callB  (call_max2 rfl) (by rfl) T.b_max (by decide +kernel) (pa_cons (pv 0) (pa_cons (pv 1) pa_nil))) (pv 2)) (pe_glob (v := .int 1000000000000000000000000000000) rfl T.c_GREATEST ⟨_, rfl⟩) (nomark _))))) (pss_one ps_never) pss_nil)))), ?_⟩
    refine ⟨_, rfl, .inl ⟨f, 0, rfl, true, by rw [decide_eq_true f0], iteF ?_⟩⟩
    refine ⟨_, rfl, .inl ⟨g, 0, rfl, true, by rw [decide_eq_true g0], iteF ?_⟩⟩
    refine ⟨_, rfl, .inl ⟨l, 1, rfl, true, by rw [decide_eq_true l0], iteF ?_⟩⟩
    refine ⟨_, rfl, _, rfl, _, _, rfl, _, rfl, _, _, rfl, rfl, _, _, rfl, rfl, _, rfl, ?_⟩
    rw [decide_eq_false]
    · exact iteF k
    · have e : (10 : Int) ^ 30 = 1000000000000000000000000000000 := by decide +kernel
      split <;> omega
theorem ok_check_leading (T : Txt K mg Z) : FnOk P w K mg base CX0 2 Z.f_check_leading Z.d_check_leading ["amount", "down", "backward"] sp_check_leading := by
  refine T.F_check_leading.ok sc_check_leading (fun vs H Q E h => ?_) (fun cdv A outer s H vs Q E hr h => ?_)
  · obtain ⟨a, d, b, rfl, _⟩ := h
    rfl
  · obtain ⟨a, d, b, rfl, k⟩ := h
    refine ⟨_, (pss_cons (ps_if (pt_not (pt_val (pe_call (ok_is_whole T) (hr.mono (by decide)) rfl T.g_is_whole T.k_is_whole T.bn_is_whole .nil pass0 (pa_cons (pv 0) pa_nil)))) (pss_one ps_never) pss_nil)
      (pss_cons (ps_if (pt_not (pt_val (pe_callB  call_isi (by rfl) T.b_isinstance (by decide +kernel) (pa_cons (pv 1) (pa_cons (pe_bltn (v := .ty "bool") rfl T.b_bool (by decide +kernel) rfl) pa_nil))))) (pss_one ps_never) pss_nil)
      (pss_one (ps_if (pt_not (pt_val (pe_callB  call_isi (by rfl) T.b_isinstance (by decide +kernel) (pa_cons (pv 2) (pa_cons (pe_bltn (v := .ty "bool") rfl T.b_bool (by decide +kernel) rfl) pa_nil))))) (pss_one ps_never) pss_nil)))), ?_⟩
    refine ⟨_, rfl, _, true, rfl, whole_int a, true, rfl, iteF ?_⟩
    refine ⟨_, rfl, _, _, _, _, true, rfl, .ty "bool", .base (.bl d), kit_ty (by decide +kernel), true, rfl, iteF ?_⟩
    exact ⟨_, rfl, _, _, _, _, true, rfl, .ty "bool", .base (.bl b), kit_ty (by decide +kernel), true, rfl, iteF k⟩
theorem ok_T_init (T : Txt K mg Z) : FnOk P w K mg base CX0 4 Z.f_T_init Z.d_T_init ["self", "first", "second", "length", "amount", "down", "backward"] (sp_T_init Z.cC) := by
  refine T.F_T_init.ok sc_T_init (fun vs H Q E h => ?_) (fun cdv A outer s H vs Q E hr h => ?_)
  · obtain ⟨p, dx, r, b, rfl, _⟩ := h
    rfl
  · obtain ⟨p, dx, r, b, rfl, ok, hb, hp, k⟩ := h
    refine ⟨_, (pss_cons (ps_expr (pe_call (ok_check_parts T) (hr.mono (by decide)) rfl T.g_check_parts T.k_check_parts T.bn_check_parts .nil pass0 (pa_cons (pv 1) (pa_cons (pv 2) (pa_cons (pv 3) pa_nil)))))
      (pss_cons (ps_expr (pe_call (ok_check_leading T) (hr.mono (by decide)) rfl T.g_check_leading T.k_check_leading T.bn_check_leading .nil pass0 (pa_cons (pv 4) (pa_cons (pv 5) (pa_cons (pv 6) pa_nil)))))
      (pss_cons (ps_fld (pv 0) (pv 1) rfl)
      (pss_cons (ps_fld (pv 0) (pv 2) rfl)
      (pss_cons (ps_fld (pv 0) (pv 3) rfl)
      (pss_cons (ps_fld (pv 0) (pv 4) rfl)
      (pss_cons (ps_fld (pv 0) (pv 5) rfl)
      (pss_cons (ps_fld (pv 0) (pe_and (pv 6) (pe_one (pe_cmpR op_gt (pv 3) pe_int (nomark _)))) rfl)
      (pss_cons (ps_set (i := 7) sc_T_init.nd rfl (Or.inl rfl) (pe_ifExp (pt_val (pv 5)) pe_str pe_str))
      (pss_cons (ps_set (i := 8) sc_T_init.nd rfl (Or.inl rfl) (pe_ifExp (pt_val (pe_fld (pv 0) rfl)) pe_str pe_str))
      (pss_one (ps_fld (pv 0) (pe_joined (.cons (pe_fmt (pv 1)) (.cons pe_str (.cons (pe_fmt (pv 2)) (.cons pe_str (.cons (pe_fmt (pv 3)) (.cons pe_str (.cons (pe_fmt (pv 7)) (.cons pe_str (.cons (pe_fmt (pe_call (ok_written T) (hr.mono (by decide)) rfl T.g_written T.k_written T.bn_written .nil pass0 (pa_cons (pv 4) pa_nil))) (.cons (pe_fmt (pv 8)) .nil))))))))))) rfl)))))))))))), ?_⟩
    refine ⟨_, rfl, _, rfl, _, rfl, _, _, _, rfl, ok.f0, ok.s0, ok.l0, ok.fe, ok.se, ?_⟩
    refine ⟨_, rfl, _, rfl, _, rfl, _, _, _, rfl, ?_⟩
    refine ⟨_, rfl, _, rfl, p, _, dx, _, rfl, hp, T.cl, T.n_first, (by decide : 0 < 1000), ?_⟩
    refine ⟨_, rfl, _, rfl, p, _, dx, _, rfl, upd_same, T.cl, T.n_second, Nat.lt_of_le_of_lt (len1 r) (by decide), ?_⟩
    refine ⟨_, rfl, _, rfl, p, _, dx, _, rfl, upd_same, T.cl, T.n_length, Nat.lt_of_le_of_lt (len2 r) (by decide), ?_⟩
    refine ⟨_, rfl, _, rfl, p, _, dx, _, rfl, upd_same, T.cl, T.n_amount, Nat.lt_of_le_of_lt (len3 r) (by decide), ?_⟩
    refine ⟨_, rfl, _, rfl, p, _, dx, _, rfl, upd_same, T.cl, T.n_down, Nat.lt_of_le_of_lt (len4 r) (by decide), ?_⟩
    refine ⟨_, rfl, b, rfl, ?_⟩
    refine' share0 (fun tail => ite2 (fun c => ?b1) (fun c => ?b2)) ?b3
    case b1 =>
      refine ⟨_, rfl, _, _, rfl, rfl, ?_⟩
      have e : decide (1 < r.l) = r.b := by rw [hb, c] <;> rfl
      dsimp only
      rw [e]
      exact tail
    case b2 =>
      have e : V.bl false = V.bl r.b := by
        cases b with
        | true => exact absurd rfl c
        | false => rw [hb] <;> rfl
      dsimp only
      rw [e]
      exact tail
    case b3 =>
      have sl : sizeLine = 16777216 := sizeLine_eq
      have l30 : (10 : Int) ^ 30 < 10 ^ 31 := by decide +kernel
      have l64 : (10 : Int) ^ 60 < 10 ^ 64 := by decide +kernel
      have hf := ok.f0; have hs := ok.s0; have hl := ok.l0; have hfe := ok.fe; have hse := ok.se
      have ll1 := ok.al; have ll2 := ok.ah
      have zf : (Str.ofString (toString r.f)).length ≤ 31 := toString_length_le hf (by decide) (by omega)
      have zs : (Str.ofString (toString r.s)).length ≤ 31 := toString_length_le hs (by decide) (by omega)
      have zl : (Str.ofString (toString r.l)).length ≤ 31 := toString_length_le (by omega) (by decide) (by omega)
      have za : (shownInt r.a).length ≤ 66 := shown_len (by omega) (by omega)
      have z0 : Str.empty.length = 0 := rfl
      have z1 : (Str.ofString " ").length = 1 := by decide
      have zw : (Str.ofString "down").length = 4 := by decide
      have zu : (Str.ofString "up").length = 2 := by decide
      have zb : (Str.ofString " back").length = 5 := by decide
      have ze : (Str.ofString "").length = 0 := by decide
      have gf : r.f.natAbs.log2 < 1920 := log_lt hf (by omega)
      have gs : r.s.natAbs.log2 < 1920 := log_lt hs (by omega)
      have gl : r.l.natAbs.log2 < 1920 := log_lt (by omega) (by omega)
      refine ⟨_, rfl, p, _, dx, _, rfl, upd_same, T.cl, T.n_backward, Nat.lt_of_le_of_lt (len5 r) (by decide), _, rfl, r.d, rfl, ?_⟩
      refine ite2 (fun c1 => ?_) (fun c1 => ?_)
      all_goals
        refine ⟨_, rfl, p, _, dx, _, _, rfl, upd_same, T.cl, T.n_backward, fs6_backward r, r.b, rfl, ?_⟩
        refine ite2 (fun c2 => ?_) (fun c2 => ?_)
      all_goals
        refine ⟨_, rfl, .inr ⟨r.f, rfl, gf, _, rfl, by walk_at "len", _, rfl, by walk_at "len", ?_⟩⟩
        refine ⟨_, rfl, .inr ⟨r.s, rfl, gs, _, rfl, by walk_at "len", _, rfl, by walk_at "len", ?_⟩⟩
        refine ⟨_, rfl, .inr ⟨r.l, rfl, gl, _, rfl, by walk_at "len", _, rfl, by walk_at "len", ?_⟩⟩
        refine ⟨_, rfl, .inl ⟨_, rfl, by walk_at "len", _, rfl, by walk_at "len", _, rfl, by walk_at "len", ?_⟩⟩
        refine ⟨_, rfl, r.a, rfl, by omega, by omega, fun H' sm => .inl ⟨_, rfl, by walk_at "len", _, rfl, by walk_at "len", ?_⟩⟩
        refine ⟨_, rfl, .inl ⟨_, rfl, by walk_at "len", _, rfl, by walk_at "len", ?_⟩⟩
        refine ⟨_, rfl, p, _, dx, _, rfl, sm _ _ upd_same, T.cl, T.n_text, Nat.lt_of_le_of_lt (len6 r) (by decide), ?_⟩
        refine k _ ?_ ?_
        · have e : tieText r = Str.empty ++ Str.ofString (toString r.f) ++ Str.ofString " " ++ Str.ofString (toString r.s) ++ Str.ofString " " ++ Str.ofString (toString r.l) ++ Str.ofString " " ++ way r.d ++ Str.ofString " " ++ shownInt r.a ++ backs r.b := rfl
          simp only [way, backs, c1, c2, if_true, if_false, Bool.false_eq_true] at e
          unfold tfs
          rw [e]
          exact upd_same
        · intro q o n h
          rw [upd_ne n]
          refine sm _ _ ?_
          rw [upd_ne n, upd_ne n, upd_ne n, upd_ne n, upd_ne n, upd_ne n]
          exact h
end
end TT

namespace TT
open PySem PySem.Spec PyProof.Rows L2
/-! ### the errors are made -/
/-- in a dict of its own, that was not there -/
def sp_E_init (K : PySem.W.Frag) (Z : Zs) : Sp := fun vs H Q _ => ∃ (a C : Addr) (v : V), vs = [.ref a, v] ∧ H a = some (exo a C none) ∧ ExcT K (Z.c 5) Z.f_E_init C ∧
  ∀ (d : Addr) (H' : Hp), Keep a H H' → H d = none → H' a = some (exo a C (some d)) → H' d = some (exd d [("value", v)]) → Q .non H'
/-- what a def lets out: C of v -/
def Out (E : XK) (C : Addr) (v : V) (H : Hp) : Prop := ∀ (d : Addr) (H' : Hp), Same H H' → H d = none → H' d = some (.xd [("value", v)]) → E (.ref C) (some d) H'
section
variable {P : Program} {w : World} {K : PySem.W.Frag} {mg : Str → Option Value} {base : Heap} {Z : Zs}
theorem ok_E_init (T : Txt K mg Z) : FnOk P w K mg base CX0 1 Z.f_E_init Z.d_E_init ["self", "value"] (sp_E_init K Z) := by
  refine T.F_E_init.ok sc_E_init (fun vs H Q E h => ?_) (fun cdv A outer s H vs Q E hr h => ?_)
  · obtain ⟨a, C, v, rfl, _⟩ := h
    rfl
  · obtain ⟨a, C, v, rfl, ha, X, k⟩ := h
    refine ⟨_, (pss_cons (ps_expr (pe_veinit rfl T.b_ValueError T.z_ve (pa_cons (pv 0) (pa_cons (pv 1) pa_nil))))
      (pss_one (ps_ost (pv 0) (pv 1)))), ?_⟩
    refine ⟨_, rfl, _, rfl, a, C, [v], rfl, by show 1 ≤ 1000; decide, X.ox, ha, ?_⟩
    refine ⟨_, rfl, _, rfl, a, C, rfl, X.ox, X.nv, .inl ⟨ha, fun d hd hne => ?_⟩⟩
    refine k d _ (fun b o n e => ?_) hd upd_same ?_
    · rw [upd_ne n, upd_ne (ne_of_none e hd)]
      exact e
    · rw [upd_ne hne]
      exact upd_same
/-- raise C(x): what its reading asks -/
theorem mkR {C : Addr} {x : V} {E : XK} {H : Hp} (T : ExcT K (Z.c 5) Z.f_E_init C) (h : Out E C x H) :
    ([x] : List V).length ≤ 1000 ∧ ∀ a, H a = none → sp_E_init K Z (.ref a :: ([x] ++ [])) (upd H a (exo a C none))
      (fun v H2 => v = .non ∧ ∃ (d : Addr) (fs : List (Str × V)), H2 a = some (exo a C (some d)) ∧ H2 d = some (exd d fs) ∧ H d = none ∧ E (.ref C) (some d) (upd (del H2 a) d (.xd fs))) (fun _ _ _ => False) := by
  refine ⟨by show 1 ≤ 1000; decide, fun a ha => ⟨a, C, x, rfl, upd_same, T, fun d H' k hd e1 e2 => ⟨rfl, d, _, e1, e2, ?_, ?_⟩⟩⟩
  · by_cases c : d = a
    · rw [c]; exact ha
    · rw [upd_ne c] at hd; exact hd
  · have nd : d ≠ a := by
      rintro rfl
      rw [upd_same] at hd
      cases hd
    rw [upd_ne nd] at hd
    refine h d _ (fun b o e => ?_) hd upd_same
    have nb := ne_of_none e ha
    rw [upd_ne (ne_of_none e hd), del_ne nb]
    exact k b o nb (by rw [upd_ne nb]; exact e)
/-- caught as a TuneError, it stands behind the suite -/
theorem Out.met {C : Addr} {v : V} {H : Hp} {G : VK} (T : ExcT K (Z.c 5) Z.f_E_init C) (Te : ExcT K (Z.c 5) Z.f_E_init (Z.c 5)) (h : ∀ a H', Same H H' → Met H' a C [("value", v)] → G (.ref a) H') :
    Out (fun cls d H' => PySem.W.exmOne K cls (.ref (Z.c 5)) = some true ∧ ∀ a, H' a = none → G (.ref a) (upd H' a (exk a cls d))) C v H := fun d H' s hd e => by
  refine ⟨T.exm Te, fun a ha => h a _ (fun b o z => ?_) ⟨d, upd_same, ?_⟩⟩
  · rw [upd_ne (ne_of_none (s _ _ z) ha)]; exact s _ _ z
  · rw [upd_ne (ne_of_none e ha)]; exact e
end
/-- _law_met_error(look): None, or the error -/
def sp_met (K : PySem.W.Frag) (Z : Zs) : (XK → Hp → VK → Prop) → List V → Hp → VK → Prop := fun tl vs H Q =>
  vs = [] ∧ ∃ G : VK, (∀ v H', G v H' → Q v H') ∧ tl (fun cls d H' => PySem.W.exmOne K cls (.ref (Z.c 5)) = some true ∧ ∀ a, H' a = none → G (.ref a) (upd H' a (exk a cls d))) H (fun _ H' => G .non H')
section
variable {P : Program} {w : World} {K : PySem.W.Frag} {mg : Str → Option Value} {base : Heap} {Z : Zs} {k : Nat}
theorem ok_l_met_error (T : Txt K mg Z) : LOk P w K mg base (k + 2) k Z.f_l_met_error Z.d_l_met_error ["_law_look"] (sp_met K Z) := by
  refine okL T.F_l_met_error sc_l_met_error (fun tl vs H Q h => ?_) (fun cdv A outer s H vs Q f tl g hr R h => ?_)
  · obtain ⟨rfl, _⟩ := h
    rfl
  · obtain ⟨rfl, G, hG, t⟩ := h
    refine ⟨_, pss_cons (ps_set (i := 1) sc_l_met_error.nd rfl (Or.inl rfl) pe_non)
      (pss_cons (ps_try_kept (i := 2) (c := .ref (Z.c 5)) rfl rfl rfl sc_l_met_error.nd rfl rfl ⟨by rfl, by decide, .inl T.g_TuneError⟩ (fun W pn xe tk _ => pss_one (ps_expr (pe_lookS (i := 0) tk R rfl hr rfl (.inl rfl))))
        (fun a oe cls d pn _ _ => pss_one (ps_set (i := 1) sc_l_met_error.nd rfl (Or.inl rfl) (pv 2))))
      (pss_one (ps_ret (pv 1)))), ?_⟩
    exact ⟨_, _, fun cls d H' e => ⟨e.1, fun a ha => ⟨_, rfl, fun ha' => ⟨_, rfl, hG _ _ (e.2 a ha')⟩⟩⟩, fun v H' q => ⟨_, rfl, hG _ _ q⟩, rfl, t⟩
end
end TT

namespace TT
open PySem PySem.Spec PyProof.Rows L2
/-- v is an int i, or none -/
inductive IsI (K : PySem.W.Frag) (H : Hp) : V → Option Int → Prop
  | int (i : Int) : IsI K H (.int i) (some i)
  | no {v : V} (h : Whole K H v false) : IsI K H v none
section
variable {P : Program} {w : World} {K : PySem.W.Frag} {mg : Str → Option Value} {base : Heap} {Z : Zs}
end
end TT


namespace TT
open PySem PySem.Spec PyProof.Rows L2
theorem Same.fresh {H H' : Hp} {q : Addr} (s : Same H H') (n : H' q = none) : H q = none := by
  cases h : H q with
  | none => rfl
  | some o => rw [s _ _ h] at n; cases n
theorem Same.updN {H H1 : Hp} {q : Addr} {o : HO} (s : Same H H1) (n : H q = none) : Same H (L2.upd H1 q o) := fun b u e => by
  rw [upd_ne (ne_of_none e n)]
  exact s _ _ e
end TT

set_option Elab.async false
set_option linter.all false
set_option maxRecDepth 100000
set_option maxHeartbeats 4000000
namespace TT
open PySem PySem.Spec PyProof.Rows L2
theorem fnR_of {P : Program} {w : World} {K : PySem.W.Frag} {mg : Str → Option Value} {base : Heap} {CX : CXT} {k : Nat} {f : Addr} {fd : FuncData} {ps : List Str} {sp : Sp} (F : FnOk P w K mg base CX k f fd ps sp) (hb : Binds K fd ps []) : FnR P w K mg base CX k f sp := by
  intro A outer s H us vs Q E hr e0 rv h
  have n : us.length = ps.length := rv.length ▸ F.len _ _ _ _ h
  have b := hb s us (e0.mod.kin.keeps fun b o e => (e0.bs b o e).1) (by rw [List.append_nil]; exact n)
  rw [List.append_nil] at b
  exact F.run A outer s H ⟨us, []⟩ us vs Q E hr e0 b rv h
def partner (r : Row) (p : Int) : Int := if r.b = true then r.s + r.l - 1 - (p - r.f) else r.s + (p - r.f)
def led (r : Row) (n : Int) : Int := if r.d = true then r.a - n else r.a + n
def Row.back (r : Row) : Row := ⟨r.s, r.f, r.l, if r.d = true then r.a else -r.a, r.d, r.b⟩
theorem Row.Ok.back {r : Row} (h : r.Ok) : r.back.Ok := by
  obtain ⟨f0, s0, l0, fe, se, al, ah, bk⟩ := h
  refine ⟨s0, f0, l0, se, fe, ?_, ?_, bk⟩
  · show -(10 ^ 60) < if r.d = true then r.a else -r.a
    split <;> omega
  · show (if r.d = true then r.a else -r.a) < 10 ^ 60
    split <;> omega
theorem Same.tie {C q : Addr} {H H' : Hp} {r : Row} (k : Same H H') (h : TieAt C H q r) : TieAt C H' q r := by
  obtain ⟨dx, e⟩ := h
  exact ⟨dx, k _ _ e⟩
theorem Same.row {q : Addr} {H H' : Hp} {r : Row} (k : Same H H') (h : RowAt H q r) : RowAt H' q r := k _ _ h
/-- behind the making of a tie -/
theorem made {H H' : Hp} {x dx C : Addr} (nx : H x = none) (nd : H dx = none) (k : Keep x (upd (upd H dx (.own x)) x (.ins C dx [])) H') : Same H H' := fun b o e => by
  refine k b o (ne_of_none e nx) ?_
  rw [upd_ne (ne_of_none e nx), upd_ne (ne_of_none e nd)]
  exact e
def sp_l_tie (C : Addr) : Sp := fun vs H Q _ => ∃ (q : Addr) (r : Row), vs = [.ref q] ∧ RowAt H q r ∧ r.Ok ∧ ∀ x H', H x = none → Same H H' → TieAt C H' x r → Q (.ref x) H'
def sp_l_row_of (C : Addr) : Sp := fun vs H Q _ => ∃ (q : Addr) (r : Row), vs = [.ref q] ∧ TieAt C H q r ∧ ∀ x, H x = none → Q (.ref x) (upd H x (.tup r.vs))
def sp_l_far : Sp := fun vs H Q _ => ∃ (q : Addr) (r : Row) (z : Int), vs = [.ref q, .int z] ∧ RowAt H q r ∧ ∀ x H', H x = none → Same H H' → RowAt H' x { r with f := r.f + z, s := r.s + z } → Q (.ref x) H'
/-- two ties of the same values are equal -/
def TieEq (C : Addr) (a b : Addr) (H : Hp) : Prop := ∃ r, TieAt C H a r ∧ TieAt C H b r
section
variable {P : Program} {w : World} {K : PySem.W.Frag} {mg : Str → Option Value} {base : Heap} {Z : Zs}
theorem mkT (T : Txt K mg Z) : Mk K Z.cC Z.f_T_init := ⟨T.mkC, T.a_T_init, T.i_T_init, T.kC⟩
/-- Tie(first, second, length, amount, down=.., backward=..) -/
theorem kb_tie (T : Txt K mg Z) : ∃ its mv : List Value, KBn K Z.d_T_init ["self", "first", "second", "length", "amount", "down", "backward"] 5 ["down", "backward"] (fun us ws => us ++ ws) (fun vs zs => vs ++ zs) := by
  obtain ⟨its, mv, h⟩ := T.F_T_init.kbinds (ps := ["self", "first", "second", "length", "amount", "down", "backward"]) 5 ["down", "backward"] [] (fun us _ _ ws => us ++ ws) (by decide) (by decide) (fun q hq => by cases hq)
    (fun r1 _ _ r4 => r1.append r4) (fun T D doc pm an cdv ct us its mv ws l1 l2 l3 l4 => by
      match us, its, mv, ws, l1, l2, l3, l4 with
      | [_, _, _, _, _], [_], [], [_, _], _, _, _, _ => exact ⟨_, rfl, rfl⟩)
  exact ⟨its, mv, h⟩
theorem ok_l_tie (T : Txt K mg Z) : FnOk P w K mg base CX0 6 Z.f_l_tie Z.d_l_tie ["_law_row_here"] (sp_l_tie Z.cC) := by
  refine T.F_l_tie.ok sc_l_tie (fun vs H Q E h => ?_) (fun cdv A outer s H vs Q E hr h => ?_)
  · obtain ⟨q, r, rfl, _⟩ := h
    rfl
  · obtain ⟨q, r, rfl, hq, ok, k⟩ := h
    obtain ⟨its, mv, kb⟩ := kb_tie T
    refine ⟨_, (pss_one (ps_ret (pe_makeK (mkT T) (ok_T_init T) (hr.mono (by decide)) rfl T.g_C kb pass0 (pa_cons (pe_ix ix_tup (pv 0) pe_int (fun _ _ => rfl)) (pa_cons (pe_ix ix_tup (pv 0) pe_int (fun _ _ => rfl)) (pa_cons (pe_ix ix_tup (pv 0) pe_int (fun _ _ => rfl)) (pa_cons (pe_ix ix_tup (pv 0) pe_int (fun _ _ => rfl)) pa_nil)))) (pk_cons (pe_ix ix_tup (pv 0) pe_int (fun _ _ => rfl)) (pk_cons (pe_ix ix_tup (pv 0) pe_int (fun _ _ => rfl)) pk_nil))))), ?_⟩
    refine ⟨_, rfl, q, _, _, _, rfl, rfl, SqT.of hq, rfl, _, rfl, q, _, _, _, rfl, rfl, SqT.of hq, rfl, _, rfl, q, _, _, _, rfl, rfl, SqT.of hq, rfl, _, rfl, q, _, _, _, rfl, rfl, SqT.of hq, rfl, ?_⟩
    refine ⟨_, rfl, q, _, _, _, rfl, rfl, SqT.of hq, rfl, _, rfl, q, _, _, _, rfl, rfl, SqT.of hq, rfl, rfl, rfl, fun x dx nx nd ne => ?_⟩
    refine ⟨x, dx, r, r.b, rfl, ok, ?_, upd_same, fun H' hx kp => ⟨rfl, k x H' nx (made nx nd kp) ⟨dx, hx⟩⟩⟩
    cases hb : r.b with
    | true => rw [decide_eq_true (ok.bk hb)] <;> rfl
    | false => rfl
theorem ok_l_row_of (T : Txt K mg Z) : FnOk P w K mg base CX0 1 Z.f_l_row_of Z.d_l_row_of ["_law_tie_here"] (sp_l_row_of Z.cC) := by
  refine T.F_l_row_of.ok sc_l_row_of (fun vs H Q E h => ?_) (fun cdv A outer s H vs Q E hr h => ?_)
  · obtain ⟨q, r, rfl, _⟩ := h
    rfl
  · obtain ⟨q, r, rfl, ⟨dx, hq⟩, k⟩ := h
    refine ⟨_, (pss_one (ps_ret (pe_tup (pa_cons (pe_fld (pv 0) rfl) (pa_cons (pe_fld (pv 0) rfl) (pa_cons (pe_fld (pv 0) rfl) (pa_cons (pe_fld (pv 0) rfl) (pa_cons (pe_fld (pv 0) rfl) (pa_cons (pe_fld (pv 0) rfl) pa_nil))))))))), ?_⟩
    refine ⟨_, rfl, q, _, dx, _, _, rfl, hq, T.cl, T.n_first, tfs_first r, _, rfl, q, _, dx, _, _, rfl, hq, T.cl, T.n_second, tfs_second r, _, rfl, q, _, dx, _, _, rfl, hq, T.cl, T.n_length, tfs_length r, _, rfl, q, _, dx, _, _, rfl, hq, T.cl, T.n_amount, tfs_amount r, _, rfl, q, _, dx, _, _, rfl, hq, T.cl, T.n_down, tfs_down r, _, rfl, q, _, dx, _, _, rfl, hq, T.cl, T.n_backward, tfs_backward r, by show 6 ≤ sizeLine; decide, fun x hx => k x hx⟩
theorem ok_l_far (T : Txt K mg Z) : FnOk P w K mg base CX0 1 Z.f_l_far Z.d_l_far ["_law_row_here", "_law_far_here"] sp_l_far := by
  refine T.F_l_far.ok sc_l_far (fun vs H Q E h => ?_) (fun cdv A outer s H vs Q E hr h => ?_)
  · obtain ⟨q, r, z, rfl, _⟩ := h
    rfl
  · obtain ⟨q, r, z, rfl, hq, k⟩ := h
    refine ⟨_, (pss_one (ps_ret (pe_op op_catA (pe_tup (pa_cons (pe_op op_add (pe_ix ix_tup (pv 0) pe_int (fun _ _ => rfl)) (pv 1)) (pa_cons (pe_op op_add (pe_ix ix_tup (pv 0) pe_int (fun _ _ => rfl)) (pv 1)) pa_nil))) (pe_slice sl_tupA (pv 0) (po_some pe_int) po_none)))), ?_⟩
    refine ⟨_, rfl, q, _, _, _, rfl, rfl, SqT.of hq, rfl, _, rfl, _, _, rfl, rfl, _, rfl, q, _, _, _, rfl, rfl, SqT.of hq, rfl, _, rfl, _, _, rfl, rfl, by show 2 ≤ sizeLine; decide, fun t ht => ?_⟩
    have hq1 : upd H t (.tup [.int (r.f + z), .int (r.s + z)]) q = some (.tup r.vs) := by rw [upd_ne (ne_of_none hq ht)]; exact hq
    refine ⟨_, rfl, _, rfl, q, _, rfl, SqT.of hq1, fun c => absurd (show (2 : Nat) = 0 from c.1) (by decide), fun _ u hu => ?_⟩
    have hne : t ≠ u := ne_of_none (H := upd H t (.tup [.int (r.f + z), .int (r.s + z)])) upd_same hu
    refine ⟨t, u, [.int (r.f + z), .int (r.s + z)], [.int r.l, .int r.a, .bl r.d, .bl r.b], rfl, rfl, SqT.of (by rw [upd_ne hne]; exact upd_same), SqT.of upd_same, (by show 2 + 4 ≤ sizeLine; decide), (fun c => by cases c), (fun _ c => by cases c), fun _ _ x hx => ?_⟩
    · have s1 : Same H (upd (upd H t (.tup [.int (r.f + z), .int (r.s + z)])) u (.tup [.int r.l, .int r.a, .bl r.d, .bl r.b])) := Same.new (Same.new (Same.refl H) ht) hu
      exact k x _ (s1.free hx) (Same.new s1 hx) upd_same
end
end TT


set_option Elab.async false
set_option linter.all false
set_option maxRecDepth 100000
set_option maxHeartbeats 4000000
namespace TT
open PySem PySem.Spec PyProof.Rows L2
theorem Pot.ne {H : Hp} {p q : Addr} {n : Nat} (hp : Pot H p n) (hq : H q = none) : p ≠ q := by
  obtain ⟨_, _, e, _⟩ := hp
  exact ne_of_none e hq
theorem Pot.same {H H' : Hp} {p : Addr} {n : Nat} (hp : Pot H p n) (s : Same H H') : Pot H' p n := by
  obtain ⟨a, m, e, r⟩ := hp
  exact ⟨a, m, s _ _ e, r⟩
theorem Keep.same {H H' H2 : Hp} {p : Addr} (k : Keep p H H') (s : Same H' H2) : Keep p H H2 := fun b o n e => s _ _ (k b o n e)
/-! ### odd things -/
inductive Fl : V → PyData → Prop
  | non : Fl .non .none
  | bl (b : Bool) : Fl (.bl b) (.bool b)
  | int (i : Int) : Fl (.int i) (.int i)
  | str (x : Str) : Fl (.str x) (.str x)
inductive Fls : List V → List PyData → Prop
  | nil : Fls [] []
  | cons {v : V} {d : PyData} {vs : List V} {ds : List PyData} (h : Fl v d) (t : Fls vs ds) : Fls (v :: vs) (d :: ds)
/-- v stands for d, in things other than the pot -/
inductive Odd (p : Addr) (H : Hp) : V → PyData → Prop
  | fl {v : V} {d : PyData} (h : Fl v d) : Odd p H v d
  | t {a : Addr} {xs : List V} {ds : List PyData} (n : a ≠ p) (h : H a = some (.tup xs)) (f : Fls xs ds) : Odd p H (.ref a) (.tuple ds)
  | l {a : Addr} {xs : List V} {ds : List PyData} (n : a ≠ p) (h : H a = some (.lst xs)) (f : Fls xs ds) : Odd p H (.ref a) (.list ds)
  | tt {a b : Addr} (n : a ≠ p) (m : b ≠ p) (h : H a = some (.tup [.ref b])) (h2 : H b = some (.tup [])) : Odd p H (.ref a) (.tuple [.tuple []])
  | d0 {a : Addr} (n : a ≠ p) (h : H a = some (.dK [])) : Odd p H (.ref a) (.dict [])
  | d1 {a : Addr} {k : Str} {i : Int} (n : a ≠ p) (h : H a = some (.dK [(.inr k, .int i)])) : Odd p H (.ref a) (.dict [(.str k, .int i)])
theorem Odd.keep {p : Addr} {H H' : Hp} {v : V} {d : PyData} (k : Keep p H H') (o : Odd p H v d) : Odd p H' v d := by
  cases o with
  | fl h => exact .fl h
  | t n h f => exact .t n (k _ _ n h) f
  | l n h f => exact .l n (k _ _ n h) f
  | tt n m h h2 => exact .tt n m (k _ _ n h) (k _ _ m h2)
  | d0 n h => exact .d0 n (k _ _ n h)
  | d1 n h => exact .d1 n (k _ _ n h)
def menu : List PyData := [.none, .bool true, .bool false, .int (-1), .str "", .str "0", .str "up", .str "back", .tuple [], .list [], .dict [], .tuple [.tuple []], .tuple [.int 0], .list [.int 0], .tuple [.int 0, .int 1], .str "0 1 1 up 0", .str "tie",
  .tuple [.bool true], .list [.str "0"], .dict [(.str "a", .int 0)], .str "size 1", .tuple [.str "down", .int 1]]
/-- all that repr wants of it, alone and thirty times in a list -/
def fine (d : PyData) : Bool := d.showable && decide (d.depth ≤ 60) && decide (d.shown.length ≤ 1000) && (PyData.list (List.replicate 30 d)).showable && decide ((PyData.list (List.replicate 30 d)).depth ≤ 60) && decide ((PyData.list (List.replicate 30 d)).shown.length ≤ 100000)
theorem menu_fine : menu.all fine = true := by decide +kernel
def sp_l_odd : Sp := fun vs H Q _ => ∃ (p : Addr) (n : Nat), vs = [.ref p] ∧ Pot H p n ∧ n < 1000000 ∧ ∀ (v : V) (d : PyData) (n' : Nat) (H' : Hp), d ∈ menu → Odd p H' v d → n' ≤ n + 1 → Pot H' p n' → Keep p H H' → Q v H'
section
variable {P : Program} {w : World} {K : PySem.W.Frag} {mg : Str → Option Value} {base : Heap} {Z : Zs}
theorem ok_l_odd (T : Txt K mg Z) : FnOk P w K mg base CX0 3 Z.f_l_odd Z.d_l_odd ["_law_pot_here"] sp_l_odd := by
  refine T.F_l_odd.ok sc_l_odd (fun vs H Q E h => ?_) (fun cdv A outer s H vs Q E hr h => ?_)
  · obtain ⟨p, n, rfl, _⟩ := h
    rfl
  · obtain ⟨p, n, rfl, hp, hn, k⟩ := h
    refine ⟨_, (pss_cons (ps_set (i := 1) sc_l_odd.nd rfl (Or.inl rfl) (pe_lst (pa_cons pe_non (pa_cons pe_bl (pa_cons pe_bl (pa_cons (pe_un un_neg pe_int) (pa_cons pe_str (pa_cons pe_str (pa_cons pe_str (pa_cons pe_str (pa_cons (pe_tup pa_nil) (pa_cons (pe_lst pa_nil) (pa_cons pe_dnewK (pa_cons (pe_tup (pa_cons (pe_tup pa_nil) pa_nil)) (pa_cons (pe_tup (pa_cons pe_int pa_nil)) (pa_cons (pe_lst (pa_cons pe_int pa_nil)) (pa_cons (pe_tup (pa_cons pe_int (pa_cons pe_int pa_nil))) (pa_cons pe_str (pa_cons pe_str pa_nil)))))))))))))))))))
      (pss_one (ps_ret (pe_call (ok_l_of T) (hr.mono (by decide)) rfl T.g_l_of T.k_l_of T.bn_l_of .nil pass0 (pa_cons (pv 0) (pa_cons (pe_op op_cat (pv 1) (pe_lst (pa_cons (pe_tup (pa_cons pe_bl pa_nil)) (pa_cons (pe_lst (pa_cons pe_str pa_nil)) (pa_cons (pe_disp (pps_cons pe_str pe_int pps_nil) (by rfl) (by rfl) (fun z => by cases z) (by decide)) (pa_cons pe_str (pa_cons (pe_tup (pa_cons pe_str (pa_cons pe_int pa_nil))) pa_nil))))))) pa_nil)))))), ?_⟩
    obtain ⟨G0, eG⟩ : ∃ G0, G0 = H := ⟨_, rfl⟩
    have s : Same H G0 := by rw [eG]; exact Same.refl H
    replace hp : Pot G0 p n := by rw [eG]; exact hp
    refine Eq.mp (congrArg _ eG) ?_
    refine ⟨_, rfl, ?_⟩
    refine ⟨by show 0 ≤ sizeLine; decide, fun a8 ha8 => ?_⟩
    have ne_a8 : a8 ≠ p := (hp.ne ha8).symm
    have t : Same G0 (upd G0 a8 (.tup [])) := Same.new (Same.refl G0) ha8
    replace hp := hp.same t
    replace s := s.trans t
    have ca8 : (upd G0 a8 (.tup [])) a8 = some (.tup []) := upd_same
    clear t ha8
    generalize upd G0 a8 (.tup []) = G1 at hp s ca8 ⊢
    refine ⟨by show 0 ≤ sizeLine; decide, fun a9 ha9 => ?_⟩
    have ne_a9 : a9 ≠ p := (hp.ne ha9).symm
    have t : Same G1 (upd G1 a9 (.lst [])) := Same.new (Same.refl G1) ha9
    replace ca8 := t _ _ ca8
    replace hp := hp.same t
    replace s := s.trans t
    have ca9 : (upd G1 a9 (.lst [])) a9 = some (.lst []) := upd_same
    clear t ha9
    generalize upd G1 a9 (.lst []) = G2 at ca8 hp s ca9 ⊢
    intro a10 ha10
    have ne_a10 : a10 ≠ p := (hp.ne ha10).symm
    have t : Same G2 (upd G2 a10 (.dK [])) := Same.new (Same.refl G2) ha10
    replace ca8 := t _ _ ca8
    replace ca9 := t _ _ ca9
    replace hp := hp.same t
    replace s := s.trans t
    have ca10 : (upd G2 a10 (.dK [])) a10 = some (.dK []) := upd_same
    clear t ha10
    generalize upd G2 a10 (.dK []) = G3 at ca8 ca9 hp s ca10 ⊢
    refine ⟨by show 0 ≤ sizeLine; decide, fun b11 hb11 => ?_⟩
    have ne_b11 : b11 ≠ p := (hp.ne hb11).symm
    have t : Same G3 (upd G3 b11 (.tup [])) := Same.new (Same.refl G3) hb11
    replace ca8 := t _ _ ca8
    replace ca9 := t _ _ ca9
    replace ca10 := t _ _ ca10
    replace hp := hp.same t
    replace s := s.trans t
    have cb11 : (upd G3 b11 (.tup [])) b11 = some (.tup []) := upd_same
    clear t hb11
    generalize upd G3 b11 (.tup []) = G4 at ca8 ca9 ca10 hp s cb11 ⊢
    refine ⟨by show 1 ≤ sizeLine; decide, fun a11 ha11 => ?_⟩
    have ne_a11 : a11 ≠ p := (hp.ne ha11).symm
    have t : Same G4 (upd G4 a11 (.tup [.ref b11])) := Same.new (Same.refl G4) ha11
    replace ca8 := t _ _ ca8
    replace ca9 := t _ _ ca9
    replace ca10 := t _ _ ca10
    replace cb11 := t _ _ cb11
    replace hp := hp.same t
    replace s := s.trans t
    have ca11 : (upd G4 a11 (.tup [.ref b11])) a11 = some (.tup [.ref b11]) := upd_same
    clear t ha11
    generalize upd G4 a11 (.tup [.ref b11]) = G5 at ca8 ca9 ca10 cb11 hp s ca11 ⊢
    refine ⟨by show 1 ≤ sizeLine; decide, fun a12 ha12 => ?_⟩
    have ne_a12 : a12 ≠ p := (hp.ne ha12).symm
    have t : Same G5 (upd G5 a12 (.tup [.int 0])) := Same.new (Same.refl G5) ha12
    replace ca8 := t _ _ ca8
    replace ca9 := t _ _ ca9
    replace ca10 := t _ _ ca10
    replace cb11 := t _ _ cb11
    replace ca11 := t _ _ ca11
    replace hp := hp.same t
    replace s := s.trans t
    have ca12 : (upd G5 a12 (.tup [.int 0])) a12 = some (.tup [.int 0]) := upd_same
    clear t ha12
    generalize upd G5 a12 (.tup [.int 0]) = G6 at ca8 ca9 ca10 cb11 ca11 hp s ca12 ⊢
    refine ⟨by show 1 ≤ sizeLine; decide, fun a13 ha13 => ?_⟩
    have ne_a13 : a13 ≠ p := (hp.ne ha13).symm
    have t : Same G6 (upd G6 a13 (.lst [.int 0])) := Same.new (Same.refl G6) ha13
    replace ca8 := t _ _ ca8
    replace ca9 := t _ _ ca9
    replace ca10 := t _ _ ca10
    replace cb11 := t _ _ cb11
    replace ca11 := t _ _ ca11
    replace ca12 := t _ _ ca12
    replace hp := hp.same t
    replace s := s.trans t
    have ca13 : (upd G6 a13 (.lst [.int 0])) a13 = some (.lst [.int 0]) := upd_same
    clear t ha13
    generalize upd G6 a13 (.lst [.int 0]) = G7 at ca8 ca9 ca10 cb11 ca11 ca12 hp s ca13 ⊢
    refine ⟨by show 2 ≤ sizeLine; decide, fun a14 ha14 => ?_⟩
    have ne_a14 : a14 ≠ p := (hp.ne ha14).symm
    have t : Same G7 (upd G7 a14 (.tup [.int 0, .int 1])) := Same.new (Same.refl G7) ha14
    replace ca8 := t _ _ ca8
    replace ca9 := t _ _ ca9
    replace ca10 := t _ _ ca10
    replace cb11 := t _ _ cb11
    replace ca11 := t _ _ ca11
    replace ca12 := t _ _ ca12
    replace ca13 := t _ _ ca13
    replace hp := hp.same t
    replace s := s.trans t
    have ca14 : (upd G7 a14 (.tup [.int 0, .int 1])) a14 = some (.tup [.int 0, .int 1]) := upd_same
    clear t ha14
    generalize upd G7 a14 (.tup [.int 0, .int 1]) = G8 at ca8 ca9 ca10 cb11 ca11 ca12 ca13 hp s ca14 ⊢
    refine ⟨by show 17 ≤ sizeLine; decide, fun q1 hq1 => ?_⟩
    have ne_q1 : q1 ≠ p := (hp.ne hq1).symm
    have t : Same G8 (upd G8 q1 (.lst [.non, .bl true, .bl false, .int (-1), .str "", .str "0", .str "up", .str "back", .ref a8, .ref a9, .ref a10, .ref a11, .ref a12, .ref a13, .ref a14, .str "0 1 1 up 0", .str "tie"])) := Same.new (Same.refl G8) hq1
    replace ca8 := t _ _ ca8
    replace ca9 := t _ _ ca9
    replace ca10 := t _ _ ca10
    replace cb11 := t _ _ cb11
    replace ca11 := t _ _ ca11
    replace ca12 := t _ _ ca12
    replace ca13 := t _ _ ca13
    replace ca14 := t _ _ ca14
    replace hp := hp.same t
    replace s := s.trans t
    have cq1 : (upd G8 q1 (.lst [.non, .bl true, .bl false, .int (-1), .str "", .str "0", .str "up", .str "back", .ref a8, .ref a9, .ref a10, .ref a11, .ref a12, .ref a13, .ref a14, .str "0 1 1 up 0", .str "tie"])) q1 = some (.lst [.non, .bl true, .bl false, .int (-1), .str "", .str "0", .str "up", .str "back", .ref a8, .ref a9, .ref a10, .ref a11, .ref a12, .ref a13, .ref a14, .str "0 1 1 up 0", .str "tie"]) := upd_same
    clear t hq1
    generalize upd G8 q1 (.lst [.non, .bl true, .bl false, .int (-1), .str "", .str "0", .str "up", .str "back", .ref a8, .ref a9, .ref a10, .ref a11, .ref a12, .ref a13, .ref a14, .str "0 1 1 up 0", .str "tie"]) = G9 at ca8 ca9 ca10 cb11 ca11 ca12 ca13 ca14 hp s cq1 ⊢
    refine ⟨_, rfl, _, rfl, ?_⟩
    refine ⟨by show 1 ≤ sizeLine; decide, fun a17 ha17 => ?_⟩
    have ne_a17 : a17 ≠ p := (hp.ne ha17).symm
    have t : Same G9 (upd G9 a17 (.tup [.bl true])) := Same.new (Same.refl G9) ha17
    replace ca8 := t _ _ ca8
    replace ca9 := t _ _ ca9
    replace ca10 := t _ _ ca10
    replace cb11 := t _ _ cb11
    replace ca11 := t _ _ ca11
    replace ca12 := t _ _ ca12
    replace ca13 := t _ _ ca13
    replace ca14 := t _ _ ca14
    replace cq1 := t _ _ cq1
    replace hp := hp.same t
    replace s := s.trans t
    have ca17 : (upd G9 a17 (.tup [.bl true])) a17 = some (.tup [.bl true]) := upd_same
    clear t ha17
    generalize upd G9 a17 (.tup [.bl true]) = G10 at ca8 ca9 ca10 cb11 ca11 ca12 ca13 ca14 cq1 hp s ca17 ⊢
    refine ⟨by show 1 ≤ sizeLine; decide, fun a18 ha18 => ?_⟩
    have ne_a18 : a18 ≠ p := (hp.ne ha18).symm
    have t : Same G10 (upd G10 a18 (.lst [.str "0"])) := Same.new (Same.refl G10) ha18
    replace ca8 := t _ _ ca8
    replace ca9 := t _ _ ca9
    replace ca10 := t _ _ ca10
    replace cb11 := t _ _ cb11
    replace ca11 := t _ _ ca11
    replace ca12 := t _ _ ca12
    replace ca13 := t _ _ ca13
    replace ca14 := t _ _ ca14
    replace cq1 := t _ _ cq1
    replace ca17 := t _ _ ca17
    replace hp := hp.same t
    replace s := s.trans t
    have ca18 : (upd G10 a18 (.lst [.str "0"])) a18 = some (.lst [.str "0"]) := upd_same
    clear t ha18
    generalize upd G10 a18 (.lst [.str "0"]) = G11 at ca8 ca9 ca10 cb11 ca11 ca12 ca13 ca14 cq1 ca17 hp s ca18 ⊢
    intro a19 ha19
    refine ⟨upd_same, [(.inr "a", .int 0)], rfl, by show 1 ≤ 15; decide, ?_⟩
    have ne_a19 : a19 ≠ p := (hp.ne ha19).symm
    have t : Same G11 (upd (upd G11 a19 (.dK [])) a19 (.dK (mergeK [] [(.inr "a", .int 0)]))) := Same.updN (Same.new (Same.refl G11) ha19) ha19
    replace ca8 := t _ _ ca8
    replace ca9 := t _ _ ca9
    replace ca10 := t _ _ ca10
    replace cb11 := t _ _ cb11
    replace ca11 := t _ _ ca11
    replace ca12 := t _ _ ca12
    replace ca13 := t _ _ ca13
    replace ca14 := t _ _ ca14
    replace cq1 := t _ _ cq1
    replace ca17 := t _ _ ca17
    replace ca18 := t _ _ ca18
    replace hp := hp.same t
    replace s := s.trans t
    have ca19 : (upd (upd G11 a19 (.dK [])) a19 (.dK (mergeK [] [(.inr "a", .int 0)]))) a19 = some (.dK [(.inr "a", .int 0)]) := upd_same
    clear t ha19
    generalize upd (upd G11 a19 (.dK [])) a19 (.dK (mergeK [] [(.inr "a", .int 0)])) = G12 at ca8 ca9 ca10 cb11 ca11 ca12 ca13 ca14 cq1 ca17 ca18 hp s ca19 ⊢
    refine ⟨by show 2 ≤ sizeLine; decide, fun a21 ha21 => ?_⟩
    have ne_a21 : a21 ≠ p := (hp.ne ha21).symm
    have t : Same G12 (upd G12 a21 (.tup [.str "down", .int 1])) := Same.new (Same.refl G12) ha21
    replace ca8 := t _ _ ca8
    replace ca9 := t _ _ ca9
    replace ca10 := t _ _ ca10
    replace cb11 := t _ _ cb11
    replace ca11 := t _ _ ca11
    replace ca12 := t _ _ ca12
    replace ca13 := t _ _ ca13
    replace ca14 := t _ _ ca14
    replace cq1 := t _ _ cq1
    replace ca17 := t _ _ ca17
    replace ca18 := t _ _ ca18
    replace ca19 := t _ _ ca19
    replace hp := hp.same t
    replace s := s.trans t
    have ca21 : (upd G12 a21 (.tup [.str "down", .int 1])) a21 = some (.tup [.str "down", .int 1]) := upd_same
    clear t ha21
    generalize upd G12 a21 (.tup [.str "down", .int 1]) = G13 at ca8 ca9 ca10 cb11 ca11 ca12 ca13 ca14 cq1 ca17 ca18 ca19 hp s ca21 ⊢
    refine ⟨by show 5 ≤ sizeLine; decide, fun q2 hq2 => ?_⟩
    have ne_q2 : q2 ≠ p := (hp.ne hq2).symm
    have t : Same G13 (upd G13 q2 (.lst [.ref a17, .ref a18, .ref a19, .str "size 1", .ref a21])) := Same.new (Same.refl G13) hq2
    replace ca8 := t _ _ ca8
    replace ca9 := t _ _ ca9
    replace ca10 := t _ _ ca10
    replace cb11 := t _ _ cb11
    replace ca11 := t _ _ ca11
    replace ca12 := t _ _ ca12
    replace ca13 := t _ _ ca13
    replace ca14 := t _ _ ca14
    replace cq1 := t _ _ cq1
    replace ca17 := t _ _ ca17
    replace ca18 := t _ _ ca18
    replace ca19 := t _ _ ca19
    replace ca21 := t _ _ ca21
    replace hp := hp.same t
    replace s := s.trans t
    have cq2 : (upd G13 q2 (.lst [.ref a17, .ref a18, .ref a19, .str "size 1", .ref a21])) q2 = some (.lst [.ref a17, .ref a18, .ref a19, .str "size 1", .ref a21]) := upd_same
    clear t hq2
    generalize upd G13 q2 (.lst [.ref a17, .ref a18, .ref a19, .str "size 1", .ref a21]) = G14 at ca8 ca9 ca10 cb11 ca11 ca12 ca13 ca14 cq1 ca17 ca18 ca19 ca21 hp s cq2 ⊢
    refine ⟨q1, q2, _, _, rfl, rfl, cq1, cq2, by show 17 + 5 ≤ sizeLine; decide, fun q3 hq3 => ?_⟩
    have ne_q3 : q3 ≠ p := (hp.ne hq3).symm
    have t : Same G14 (upd G14 q3 (.lst ([.non, .bl true, .bl false, .int (-1), .str "", .str "0", .str "up", .str "back", .ref a8, .ref a9, .ref a10, .ref a11, .ref a12, .ref a13, .ref a14, .str "0 1 1 up 0", .str "tie"] ++ [.ref a17, .ref a18, .ref a19, .str "size 1", .ref a21]))) := Same.new (Same.refl G14) hq3
    replace ca8 := t _ _ ca8
    replace ca9 := t _ _ ca9
    replace ca10 := t _ _ ca10
    replace cb11 := t _ _ cb11
    replace ca11 := t _ _ ca11
    replace ca12 := t _ _ ca12
    replace ca13 := t _ _ ca13
    replace ca14 := t _ _ ca14
    replace cq1 := t _ _ cq1
    replace ca17 := t _ _ ca17
    replace ca18 := t _ _ ca18
    replace ca19 := t _ _ ca19
    replace ca21 := t _ _ ca21
    replace cq2 := t _ _ cq2
    replace hp := hp.same t
    replace s := s.trans t
    refine ⟨p, q3, n, [.non, .bl true, .bl false, .int (-1), .str "", .str "0", .str "up", .str "back", .ref a8, .ref a9, .ref a10, .ref a11, .ref a12, .ref a13, .ref a14, .str "0 1 1 up 0", .str "tie"] ++ [.ref a17, .ref a18, .ref a19, .str "size 1", .ref a21], rfl, hp, hn, upd_same, ne_q3, by show 0 < 22; decide, by show 22 ≤ 1000; decide, fun v n' H' hv hn' hp' kp => ?_⟩
    have kk : Keep p H H' := (Keep.of s).trans kp
    simp only [List.cons_append, List.nil_append, List.mem_cons, List.not_mem_nil, or_false] at hv
    rcases hv with rfl | rfl | rfl | rfl | rfl | rfl | rfl | rfl | rfl | rfl | rfl | rfl | rfl | rfl | rfl | rfl | rfl | rfl | rfl | rfl | rfl | rfl
    · exact k _ .none n' H' (by simp [menu]) (.fl .non) hn' hp' kk
    · exact k _ (.bool true) n' H' (by simp [menu]) (.fl (.bl true)) hn' hp' kk
    · exact k _ (.bool false) n' H' (by simp [menu]) (.fl (.bl false)) hn' hp' kk
    · exact k _ (.int (-1)) n' H' (by simp [menu]) (.fl (.int (-1))) hn' hp' kk
    · exact k _ (.str "") n' H' (by simp [menu]) (.fl (.str "")) hn' hp' kk
    · exact k _ (.str "0") n' H' (by simp [menu]) (.fl (.str "0")) hn' hp' kk
    · exact k _ (.str "up") n' H' (by simp [menu]) (.fl (.str "up")) hn' hp' kk
    · exact k _ (.str "back") n' H' (by simp [menu]) (.fl (.str "back")) hn' hp' kk
    · exact k _ (.tuple []) n' H' (by simp [menu]) (Odd.keep kp (.t ne_a8 ca8 .nil)) hn' hp' kk
    · exact k _ (.list []) n' H' (by simp [menu]) (Odd.keep kp (.l ne_a9 ca9 .nil)) hn' hp' kk
    · exact k _ (.dict []) n' H' (by simp [menu]) (Odd.keep kp (.d0 ne_a10 ca10)) hn' hp' kk
    · exact k _ (.tuple [.tuple []]) n' H' (by simp [menu]) (Odd.keep kp (.tt ne_a11 ne_b11 ca11 cb11)) hn' hp' kk
    · exact k _ (.tuple [.int 0]) n' H' (by simp [menu]) (Odd.keep kp (.t ne_a12 ca12 (.cons (.int 0) .nil))) hn' hp' kk
    · exact k _ (.list [.int 0]) n' H' (by simp [menu]) (Odd.keep kp (.l ne_a13 ca13 (.cons (.int 0) .nil))) hn' hp' kk
    · exact k _ (.tuple [.int 0, .int 1]) n' H' (by simp [menu]) (Odd.keep kp (.t ne_a14 ca14 (.cons (.int 0) (.cons (.int 1) .nil)))) hn' hp' kk
    · exact k _ (.str "0 1 1 up 0") n' H' (by simp [menu]) (.fl (.str "0 1 1 up 0")) hn' hp' kk
    · exact k _ (.str "tie") n' H' (by simp [menu]) (.fl (.str "tie")) hn' hp' kk
    · exact k _ (.tuple [.bool true]) n' H' (by simp [menu]) (Odd.keep kp (.t ne_a17 ca17 (.cons (.bl true) .nil))) hn' hp' kk
    · exact k _ (.list [.str "0"]) n' H' (by simp [menu]) (Odd.keep kp (.l ne_a18 ca18 (.cons (.str "0") .nil))) hn' hp' kk
    · exact k _ (.dict [(.str "a", .int 0)]) n' H' (by simp [menu]) (Odd.keep kp (.d1 ne_a19 ca19)) hn' hp' kk
    · exact k _ (.str "size 1") n' H' (by simp [menu]) (.fl (.str "size 1")) hn' hp' kk
    · exact k _ (.tuple [.str "down", .int 1]) n' H' (by simp [menu]) (Odd.keep kp (.t ne_a21 ca21 (.cons (.str "down") (.cons (.int 1) .nil)))) hn' hp' kk
end
end TT
set_option Elab.async false
set_option linter.all false
set_option maxRecDepth 100000
set_option maxHeartbeats 4000000
namespace TT
open PySem PySem.Spec PyProof.Rows L2
/-! ### the texts of rows -/
theorem shown_int (i : Int) : (PyData.int i).shown = Str.ofString (toString i) := by simp [PyData.shown]
theorem bool_len (b : Bool) : ((PyData.bool b).shown).length ≤ 5 := by cases b <;> simp [PyData.shown] <;> decide
theorem int_len64 {i : Int} (h0 : -(10 ^ 64) < i) (h1 : i < 10 ^ 64) : (Str.ofString (toString i)).length ≤ 65 := by
  have h := PySem.int_text_length_le10 (a := i) (k := 64) (by decide) (by
    have e : ((10 ^ 64 : Nat) : Int) = 10 ^ 64 := by decide +kernel
    omega)
  rw [PySem.ofString_length]
  omega
theorem int_ok64 {i : Int} (h0 : -(10 ^ 64) < i) (h1 : i < 10 ^ 64) : (PyData.int i).showable = true := by
  have h : i.natAbs.log2 < 1920 := PySem.Flt.log2_lt_of (by decide) (by
    have : (10 : Int) ^ 64 < 2 ^ 1920 := by decide +kernel
    omega)
  simpa [PyData.showable] using h
theorem dat_ok {r : Row} (ok : r.Ok) : r.dat.showable = true ∧ r.dat.hasDict = false ∧ r.dat.depth ≤ 60 ∧ r.dat.shown.length ≤ sizeLine := by
  have e30 : (10 : Int) ^ 30 < 10 ^ 64 := by decide +kernel
  have e60 : (10 : Int) ^ 60 < 10 ^ 64 := by decide +kernel
  have f0 := ok.f0; have s0 := ok.s0; have l0 := ok.l0; have fe := ok.fe; have se := ok.se; have al := ok.al; have ah := ok.ah
  have bf : -(10 ^ 64) < r.f ∧ r.f < 10 ^ 64 := by constructor <;> omega
  have bs : -(10 ^ 64) < r.s ∧ r.s < 10 ^ 64 := by constructor <;> omega
  have bl : -(10 ^ 64) < r.l ∧ r.l < 10 ^ 64 := by constructor <;> omega
  have ba : -(10 ^ 64) < r.a ∧ r.a < 10 ^ 64 := by constructor <;> omega
  refine ⟨?_, ?_, ?_, ?_⟩
  · unfold Row.dat
    rw [PyData.showable]
    simp only [PyData.showableAll, int_ok64 bf.1 bf.2, int_ok64 bs.1 bs.2, int_ok64 bl.1 bl.2, int_ok64 ba.1 ba.2, Bool.true_and, Bool.and_true]
    simp [PyData.showable]
  · simp [Row.dat, PyData.hasDict, PyData.hasDictAll]
  · simp [Row.dat, PyData.depth, PyData.depthAll]
  · unfold Row.dat
    rw [PyData.shown]
    simp only [PyData.shownAll]
    have sl : sizeLine = 16777216 := sizeLine_eq
    have j := join_length_add [(PyData.int r.f).shown, (PyData.int r.s).shown, (PyData.int r.l).shown, (PyData.int r.a).shown, (PyData.bool r.d).shown, (PyData.bool r.b).shown] (by simp)
    have z1 := int_len64 bf.1 bf.2; have z2 := int_len64 bs.1 bs.2; have z3 := int_len64 bl.1 bl.2; have z4 := int_len64 ba.1 ba.2; have z5 := bool_len r.d; have z6 := bool_len r.b
    rw [← shown_int] at z1 z2 z3 z4
    unfold tupleText
    rw [Str.length_append, Str.length_append]
    simp only [piled, List.map_cons, List.map_nil, List.sum_cons, List.sum_nil] at j
    have y1 : (Str.ofString "(").length = 1 := by decide
    have y2 : (Str.ofString ")").length = 1 := by decide
    simp only [List.length_cons, List.length_nil]
    have y3 : (Str.ofString (if (0 + 1 + 1 + 1 + 1 + 1 + 1 == 1) = true then ",)" else ")")).length = 1 := by decide
    omega
theorem Row.dp {K : PySem.W.Frag} {H : Hp} {q : Addr} {r : Row} (h : H q = some (.tup r.vs)) : Dp K H (.ref q) r.dat :=
  .tup (SqT.of h) (.cons (.int _) (.cons (.int _) (.cons (.int _) (.cons (.int _) (.cons (.bl _) (.cons (.bl _) .nil))))))
theorem tfs_none (r : Row) {g : Str} (h1 : ¬ g = "text") (h2 : ¬ g = "backward") (h3 : ¬ g = "down") (h4 : ¬ g = "amount") (h5 : ¬ g = "length") (h6 : ¬ g = "second") (h7 : ¬ g = "first") : (tfs r).lookup g = none := by
  rw [tfs_lookup, if_neg h1, if_neg h2, if_neg h3, if_neg h4, if_neg h5, if_neg h6, if_neg h7]
theorem tfs_led (r : Row) : (tfs r).lookup ("led" : Str) = none := tfs_none r (by decide +kernel) (by decide +kernel) (by decide +kernel) (by decide +kernel) (by decide +kernel) (by decide +kernel) (by decide +kernel)
/-! ### told back -/
theorem Row.back_back (r : Row) : r.back.back = r := by
  obtain ⟨f, s, l, a, d, b⟩ := r
  cases d <;> simp [Row.back]
theorem partner_in {r : Row} (z : Int) (h0 : r.f ≤ z) (h1 : z < r.f + r.l) : r.back.f ≤ partner r z ∧ partner r z < r.back.f + r.back.l := by
  obtain ⟨f, s, l, a, d, b⟩ := r
  simp only [partner, Row.back]
  simp only at h0 h1
  cases b <;> simp <;> omega
theorem partner_back {r : Row} (z : Int) : partner r.back (partner r z) = z := by
  obtain ⟨f, s, l, a, d, b⟩ := r
  simp only [partner, Row.back]
  cases b <;> simp <;> omega
theorem led_back (r : Row) (n : Int) : led r.back (led r n) = n := by
  obtain ⟨f, s, l, a, d, b⟩ := r
  simp only [led, Row.back]
  cases d <;> simp <;> omega
end TT

namespace TT
open PySem PySem.Spec PyProof.Rows L2 LamX
/-! ### odd things: whether they are ints; their texts -/
def isInt : V → Option Int
  | .int i => some i
  | _ => none
theorem whole_non {K : PySem.W.Frag} {H : Hp} : Whole K H .non false := ⟨_, false, false, .base .non, kit_ty (by decide +kernel), kit_ty (by decide +kernel), rfl⟩
theorem whole_bl {K : PySem.W.Frag} {H : Hp} (b : Bool) : Whole K H (.bl b) false := ⟨_, true, true, .base (.bl b), kit_ty (by decide +kernel), kit_ty (by decide +kernel), rfl⟩
theorem whole_str {K : PySem.W.Frag} {H : Hp} (x : Str) : Whole K H (.str x) false := ⟨_, false, false, .base (.str x), kit_ty (by decide +kernel), kit_ty (by decide +kernel), rfl⟩
theorem whole_tup {K : PySem.W.Frag} {H : Hp} {a : Addr} {xs : List V} (h : H a = some (.tup xs)) : Whole K H (.ref a) false := ⟨_, false, false, .base (.tup h), kit_ty (by decide +kernel), kit_ty (by decide +kernel), rfl⟩
theorem whole_lst {K : PySem.W.Frag} {H : Hp} {a : Addr} {xs : List V} (h : H a = some (.lst xs)) : Whole K H (.ref a) false := ⟨_, false, false, .base (.lst h), kit_ty (by decide +kernel), kit_ty (by decide +kernel), rfl⟩
theorem whole_dK {K : PySem.W.Frag} {H : Hp} {a : Addr} {kvs : List (Key × V)} (h : H a = some (.dK kvs)) : Whole K H (.ref a) false := ⟨_, false, false, .base (.dK h), kit_ty (by decide +kernel), kit_ty (by decide +kernel), rfl⟩
theorem Odd.isI {K : PySem.W.Frag} {p : Addr} {H : Hp} {v : V} {d : PyData} (o : Odd p H v d) : IsI K H v (isInt v) := by
  cases o with
  | fl h =>
    cases h with
    | non => exact .no whole_non
    | bl b => exact .no (whole_bl b)
    | int i => exact .int i
    | str x => exact .no (whole_str x)
  | t n h f => exact .no (whole_tup h)
  | l n h f => exact .no (whole_lst h)
  | tt n m h h2 => exact .no (whole_tup h)
  | d0 n h => exact .no (whole_dK h)
  | d1 n h => exact .no (whole_dK h)
theorem IsI.whole {K : PySem.W.Frag} {H : Hp} {v : V} {o : Option Int} (h : IsI K H v o) : Whole K H v o.isSome := by
  cases h with
  | int i => exact whole_int i
  | no h => exact h
/-- what repr wants -/
structure Shown (d : PyData) : Prop where
  ok : d.showable = true
  dep : d.depth ≤ 60
  len : d.shown.length ≤ sizeLine
theorem shown_menu {d : PyData} (h : d ∈ menu) : Shown d := by
  have hf := List.all_eq_true.mp menu_fine d h
  unfold fine at hf
  simp only [Bool.and_eq_true, decide_eq_true_eq] at hf
  have sl : sizeLine = 16777216 := sizeLine_eq
  obtain ⟨⟨⟨⟨⟨f1, f2⟩, f3⟩, f4⟩, f5⟩, f6⟩ := hf
  exact ⟨f1, f2, by omega⟩
theorem shown_i {i : Int} (h0 : -(10 ^ 64) < i) (h1 : i < 10 ^ 64) : Shown (.int i) := by
  refine ⟨int_ok64 h0 h1, by simp [PyData.depth], ?_⟩
  rw [shown_int]
  have := int_len64 h0 h1
  have sl : sizeLine = 16777216 := sizeLine_eq
  omega
theorem shown_os {x : String} (h : x.length ≤ 1000) : Shown (.str (Str.ofString x)) := by
  have sl : sizeLine = 16777216 := sizeLine_eq
  refine ⟨by simp [PyData.showable], by simp [PyData.depth], ?_⟩
  have b : (PyData.str (Str.ofString x)).leavesShort 13 = true := by
    simp only [PyData.leavesShort, List.all_eq_true, decide_eq_true_eq]
    intro c hc
    rw [Str.ofString_eq_toList] at hc
    simp only [List.toList_toArray, List.mem_map] at hc
    obtain ⟨ch, _, rfl⟩ := hc
    have h1 : ch.toNat < 1114112 := by
      have := ch.valid
      unfold UInt32.isValidChar Nat.isValidChar at this
      show ch.val.toNat < 1114112
      omega
    omega
  have q := PyData.shown_le 13 (by decide) _ b
  have w : (PyData.str (Str.ofString x)).weight ≤ 1000 := by
    show (Str.ofString x).length ≤ 1000
    rw [PySem.ofString_length]
    exact h
  omega
theorem dig_len {n : Int} (h0 : 0 ≤ n) (h1 : n < 10 ^ 64) : (toString n : String).length ≤ 1000 := by
  have h := int_len64 (i := n) (by have : (0 : Int) < 10 ^ 64 := by decide +kernel
                                   omega) h1
  rw [PySem.ofString_length] at h
  omega
theorem shown_t1 {i : Int} (h0 : -(10 ^ 64) < i) (h1 : i < 10 ^ 64) : Shown (.tuple [.int i]) := by
  have s := shown_i h0 h1
  refine ⟨?_, ?_, ?_⟩
  · have := s.ok
    simp only [PyData.showable, PyData.showableAll, Bool.and_true] at this ⊢
    exact this
  · simp [PyData.depth, PyData.depthAll]
  · have l := int_len64 h0 h1
    have j := tupleText_len_le [(PyData.int i).shown]
    rw [PyData.shown]
    simp only [PyData.shownAll]
    rw [shown_int] at j ⊢
    simp only [List.map_cons, List.map_nil, List.sum_cons, List.sum_nil, List.length_cons, List.length_nil] at j
    have sl : sizeLine = 16777216 := sizeLine_eq
    omega
theorem isInt_some {v : V} {i : Int} (h : isInt v = some i) : v = .int i := by
  cases v <;> simp [isInt] at h
  rw [h]
theorem all_rep (n : Nat) : (List.replicate n true).all id = true := by simp
theorem ExtN.keep {p : Addr} {H H' : Hp} (h : ∀ b o, b ≠ p → H b = some o → (∀ ps, o ≠ .tbl ps) → H' b = some o) {v : V} {d : PyData} (o : Odd p H v d) : Odd p H' v d := by
  cases o with
  | fl h => exact .fl h
  | t n e f => exact .t n (h _ _ n e fun _ z => by cases z) f
  | l n e f => exact .l n (h _ _ n e fun _ z => by cases z) f
  | tt n m e e2 => exact .tt n m (h _ _ n e fun _ z => by cases z) (h _ _ m e2 fun _ z => by cases z)
  | d0 n e => exact .d0 n (h _ _ n e fun _ z => by cases z)
  | d1 n e => exact .d1 n (h _ _ n e fun _ z => by cases z)
theorem Odd.extN {p : Addr} {H H' : Hp} (h : ExtN H H') {v : V} {d : PyData} (o : Odd p H v d) : Odd p H' v d := ExtN.keep (fun b u _ e n => h b u e n) o
/-- repr of an odd thing -/
theorem fls_dp {K : PySem.W.Frag} {H : Hp} {vs : List V} {ds : List PyData} (f : Fls vs ds) : DpAll K H vs ds ∧ PyData.hasDictAll ds = false := by
  induction f with
  | nil => exact ⟨.nil, by simp [PyData.hasDictAll]⟩
  | cons h t ih =>
    refine ⟨.cons (by cases h <;> constructor) ih.1, ?_⟩
    cases h <;> simp [PyData.hasDictAll, PyData.hasDict, ih.2]
theorem Odd.dp {K : PySem.W.Frag} {p : Addr} {H : Hp} {v : V} {d : PyData} (o : Odd p H v d) : DpD K H v d := by
  cases o with
  | fl h => exact .dp (by cases h <;> constructor) (by cases h <;> simp [PyData.hasDict])
  | t n h f => exact .dp (.tup (SqT.of h) (fls_dp f).1) (by simp only [PyData.hasDict]; exact (fls_dp (K := K) (H := H) f).2)
  | l n h f => exact .dp (.lst (SqL.of h) (fls_dp f).1) (by simp only [PyData.hasDict]; exact (fls_dp (K := K) (H := H) f).2)
  | tt n m h h2 => exact .tt h h2
  | d0 n h => exact .d0 h
  | d1 n h => exact .d1 h
end TT

namespace TT
open PySem PySem.Spec PyProof.Rows L2
/-! ### ties made of any values, or refused -/
def isBl : V → Bool
  | .bl _ => true
  | _ => false
/-- the checks can tell what v is -/
structure Kn (K : PySem.W.Frag) (H : Hp) (v : V) : Prop where
  i : IsI K H v (isInt v)
  b : ∃ t, TyX K H v t ∧ PySem.W.kitOne K t (.type "bool") = some (isBl v)
theorem Odd.kn {K : PySem.W.Frag} {p : Addr} {H : Hp} {v : V} {d : PyData} (o : Odd p H v d) : Kn K H v := by
  refine ⟨o.isI, ?_⟩
  cases o with
  | fl h =>
    cases h with
    | non => exact ⟨_, .base .non, kit_ty (by decide +kernel)⟩
    | bl b => exact ⟨_, .base (.bl b), kit_ty (by show kitB "bool" "bool" = some true; decide +kernel)⟩
    | int i => exact ⟨_, .base (.int i), kit_ty (by show kitB "int" "bool" = some false; decide +kernel)⟩
    | str x => exact ⟨_, .base (.str x), kit_ty (by show kitB "str" "bool" = some false; decide +kernel)⟩
  | t n h f => exact ⟨_, .base (.tup h), kit_ty (by show kitB "tuple" "bool" = some false; decide +kernel)⟩
  | l n h f => exact ⟨_, .base (.lst h), kit_ty (by show kitB "list" "bool" = some false; decide +kernel)⟩
  | tt n m h h2 => exact ⟨_, .base (.tup h), kit_ty (by show kitB "tuple" "bool" = some false; decide +kernel)⟩
  | d0 n h => exact ⟨_, .base (.dK h), kit_ty (by show kitB "dict" "bool" = some false; decide +kernel)⟩
  | d1 n h => exact ⟨_, .base (.dK h), kit_ty (by show kitB "dict" "bool" = some false; decide +kernel)⟩
/-- an int from m on -/
def from0 (m : Int) (v : V) : Bool := match isInt v with
  | some i => decide (m ≤ i)
  | none => false
theorem from0_int {m i : Int} : from0 m (.int i) = decide (m ≤ i) := rfl
theorem is_from0 {K : PySem.W.Frag} {H : Hp} {v : V} {m : Int} {Q : VK} {E : XK} (k : IsI K H v (isInt v)) (q : Q (.bl (from0 m v)) H) : sp_is_from K [v, .int m] H Q E := by
  unfold from0 at q
  cases e : isInt v with
  | some i =>
    rw [e] at q
    exact .inl ⟨i, m, by rw [isInt_some e], q⟩
  | none =>
    rw [e] at q k
    cases k with
    | no h => exact .inr ⟨v, .int m, rfl, h, q⟩
theorem from0_some {m : Int} {v : V} (h : from0 m v = true) : ∃ i, v = .int i ∧ m ≤ i := by
  unfold from0 at h
  cases e : isInt v with
  | some i =>
    rw [e] at h
    exact ⟨i, isInt_some e, of_decide_eq_true h⟩
  | none =>
    rw [e] at h
    cases h
theorem isBl_some {v : V} (h : isBl v = true) : ∃ b, v = .bl b := by
  cases v <;> first | exact ⟨_, rfl⟩ | cases h
/-- which of the values is refused first, by which error -/
def verP (v1 v2 v3 : V) : Option (Nat × Nat) :=
  if from0 0 v1 = true then if from0 0 v2 = true then if from0 1 v3 = true then match v1, v2, v3 with
    | .int f, .int s, .int l => if (if s > f then s else f) + l > 10 ^ 30 then some (1, 2) else none
    | _, _, _ => none
  else some (1, 2) else some (0, 1) else some (0, 0)
def verL (v4 v5 v6 : V) : Option (Nat × Nat) := if (isInt v4).isSome = true then if isBl v5 = true then if isBl v6 = true then none else some (3, 2) else some (3, 1) else some (2, 0)
def sp_check_partsN (Z : Zs) : PySem.W.Frag → Sp := fun K vs H Q E => ∃ v1 v2 v3, vs = [v1, v2, v3] ∧ Kn K H v1 ∧ Kn K H v2 ∧ Kn K H v3 ∧ (verP v1 v2 v3 = none → Q .non H) ∧ ∀ i j, verP v1 v2 v3 = some (i, j) → Out E (Z.c i) ([v1, v2, v3].getD j .non) H
def sp_check_leadingN (Z : Zs) : PySem.W.Frag → Sp := fun K vs H Q E => ∃ v4 v5 v6, vs = [v4, v5, v6] ∧ Kn K H v4 ∧ Kn K H v5 ∧ Kn K H v6 ∧ (verL v4 v5 v6 = none → Q .non H) ∧ ∀ i j, verL v4 v5 v6 = some (i, j) → Out E (Z.c i) ([v4, v5, v6].getD j .non) H
def ver (v1 v2 v3 v4 v5 v6 : V) : Option (Nat × Nat) := match verP v1 v2 v3 with
  | some x => some x
  | none => (verL v4 v5 v6).map fun x => (x.1, x.2 + 3)
theorem verP_lt {v1 v2 v3 : V} {i j : Nat} (h : verP v1 v2 v3 = some (i, j)) : j < 3 := by
  unfold verP at h
  split at h
  · split at h
    · split at h
      · split at h
        · rename_i f s l _ _ _
          by_cases c : (if s > f then s else f) + l > (10 : Int) ^ 30
          · rw [if_pos c] at h
            cases h
            decide
          · rw [if_neg c] at h
            cases h
        · cases h
      · cases h
        decide
    · cases h
      decide
  · cases h
    decide
def sp_T_initN (Z : Zs) : PySem.W.Frag → Sp := fun K vs H Q E => ∃ (p dx : Addr) (v1 v2 v3 v4 v5 v6 : V), vs = [.ref p, v1, v2, v3, v4, v5, v6] ∧ H p = some (.ins Z.cC dx []) ∧ Kn K H v1 ∧ Kn K H v2 ∧ Kn K H v3 ∧ Kn K H v4 ∧ Kn K H v5 ∧ Kn K H v6 ∧
  (ver v1 v2 v3 v4 v5 v6 = none → ∃ (r : Row) (b : Bool), [v1, v2, v3, v4, v5, v6] = [.int r.f, .int r.s, .int r.l, .int r.a, .bl r.d, .bl b] ∧ r.Ok ∧ r.b = (b && decide (1 < r.l)) ∧ ∀ H', H' p = some (.ins Z.cC dx (tfs r)) → Keep p H H' → Q .non H') ∧
  ∀ i j, ver v1 v2 v3 v4 v5 v6 = some (i, j) → Out E (Z.c i) ([v1, v2, v3, v4, v5, v6].getD j .non) H
local macro_rules | `(tactic| walk_at "len") => `(tactic| ((try simp only [Str.length_append]); omega))
section
variable {P : Program} {w : World} {K : PySem.W.Frag} {mg : Str → Option Value} {base : Heap} {Z : Zs}
end
/-! a copy that stays folded: found by its name alone -/
namespace Fr
@[irreducible] def sp_is_from (K : PySem.W.Frag) : Sp := TT.sp_is_from K
theorem is_from0 {K : PySem.W.Frag} {H : Hp} {v : V} {m : Int} {Q : VK} {E : XK} (k : IsI K H v (isInt v)) (q : Q (.bl (from0 m v)) H) : sp_is_from K [v, .int m] H Q E := by
  unfold sp_is_from
  exact TT.is_from0 k q
section
variable {P : Program} {w : World} {K : PySem.W.Frag} {mg : Str → Option Value} {base : Heap} {Z : Zs}
theorem ok_is_from (T : Txt K mg Z) : FnOk P w K mg base CX0 2 Z.f_is_from Z.d_is_from ["value", "least"] (sp_is_from K) := by
  unfold sp_is_from
  exact TT.ok_is_from T
theorem ok_check_partsN (T : Txt K mg Z) : FnOk P w K mg base (L2N.CX P w) 3 Z.f_check_parts Z.d_check_parts ["first", "second", "length"] (sp_check_partsN Z K) := by
  refine T.F_check_parts.okXN sc_check_parts (fun vs H Q E h => ?_) (fun cdv A outer s H vs Q E hr h => ?_)
  · obtain ⟨v1, v2, v3, rfl, _⟩ := h
    rfl
  · obtain ⟨v1, v2, v3, rfl, k1, k2, k3, ok, out⟩ := h
    refine ⟨_, (pss_cons (ps_if (pt_not (pt_val (pe_call (ok_is_from T) (hr.mono (by decide)) rfl T.g_is_from T.k_is_from T.bn_is_from .nil pass0 (pa_cons (pv 0) (pa_cons pe_int pa_nil))))) (pss_one (L2N.ps_raise rfl (L2N.takes_of rfl rfl rfl rfl) (pmk_oexN (T.ex 0 (by decide)).ox (T.ex 0 (by decide)).ini T.t_E_init (ok_E_init T) (hr.mono (by decide)) T.bn_E_init .nil pass0 rfl T.g_BadPlace (pa_cons (pv 0) pa_nil)))) pss_nil)
      (pss_cons (ps_if (pt_not (pt_val (pe_call (ok_is_from T) (hr.mono (by decide)) rfl T.g_is_from T.k_is_from T.bn_is_from .nil pass0 (pa_cons (pv 1) (pa_cons pe_int pa_nil))))) (pss_one (L2N.ps_raise rfl (L2N.takes_of rfl rfl rfl rfl) (pmk_oexN (T.ex 0 (by decide)).ox (T.ex 0 (by decide)).ini T.t_E_init (ok_E_init T) (hr.mono (by decide)) T.bn_E_init .nil pass0 rfl T.g_BadPlace (pa_cons (pv 1) pa_nil)))) pss_nil)
      (pss_one (ps_if (PW.pt (pw_or (pt_not (pt_val (pe_call (ok_is_from T) (hr.mono (by decide)) rfl T.g_is_from T.k_is_from T.bn_is_from .nil pass0 (pa_cons (pv 2) (pa_cons pe_int pa_nil))))) (pw_or1 (pt_cmpR op_gt (pe_op op_add (pe_callB  (call_max2 rfl) (by rfl) T.b_max (by decide +kernel) (pa_cons (pv 0) (pa_cons (pv 1) pa_nil))) (pv 2)) (pe_glob (v := .int 1000000000000000000000000000000) rfl T.c_GREATEST ⟨_, rfl⟩) (nomark _))))) (pss_one (L2N.ps_raise rfl (L2N.takes_of rfl rfl rfl rfl) (pmk_oexN (T.ex 1 (by decide)).ox (T.ex 1 (by decide)).ini T.t_E_init (ok_E_init T) (hr.mono (by decide)) T.bn_E_init .nil pass0 rfl T.g_BadLength (pa_cons (pv 2) pa_nil)))) pss_nil)))), ?_⟩
    unfold verP at ok out
    refine ⟨_, rfl, is_from0 k1.i ⟨_, rfl, ?_⟩⟩
    by_cases c1 : from0 0 v1 = true
    case neg =>
      rw [if_neg c1] at out
      rw [show from0 0 v1 = false by simpa using c1]
      exact iteT ⟨_, rfl, mkR (T.ex 0 (by decide)) (out _ _ rfl)⟩
    rw [if_pos c1] at ok out
    rw [c1]
    refine iteF ⟨_, rfl, is_from0 k2.i ⟨_, rfl, ?_⟩⟩
    by_cases c2 : from0 0 v2 = true
    case neg =>
      rw [if_neg c2] at out
      rw [show from0 0 v2 = false by simpa using c2]
      exact iteT ⟨_, rfl, mkR (T.ex 0 (by decide)) (out _ _ rfl)⟩
    rw [if_pos c2] at ok out
    rw [c2]
    refine iteF ⟨_, rfl, is_from0 k3.i ⟨_, rfl, ?_⟩⟩
    by_cases c3 : from0 1 v3 = true
    case neg =>
      rw [if_neg c3] at out
      rw [show from0 1 v3 = false by simpa using c3]
      exact iteT (iteT ⟨_, rfl, mkR (T.ex 1 (by decide)) (out _ _ rfl)⟩)
    rw [if_pos c3] at ok out
    rw [c3]
    obtain ⟨f, rfl, _⟩ := from0_some c1
    obtain ⟨s, rfl, _⟩ := from0_some c2
    obtain ⟨l, rfl, _⟩ := from0_some c3
    refine iteF ⟨_, rfl, _, rfl, _, _, rfl, _, rfl, _, _, rfl, rfl, _, _, rfl, rfl, _, rfl, ?_⟩
    have e : (10 : Int) ^ 30 = 1000000000000000000000000000000 := by decide +kernel
    dsimp only at ok out
    rw [e] at ok out
    by_cases c4 : (if s > f then s else f) + l > 1000000000000000000000000000000
    · rw [if_pos c4] at out
      rw [decide_eq_true c4]
      exact iteT ⟨_, rfl, mkR (T.ex 1 (by decide)) (out _ _ rfl)⟩
    · rw [if_neg c4] at ok
      rw [decide_eq_false c4]
      exact iteF (ok rfl)
end
end Fr
section
variable {P : Program} {w : World} {K : PySem.W.Frag} {mg : Str → Option Value} {base : Heap} {Z : Zs}
theorem ok_check_partsN (T : Txt K mg Z) : FnOk P w K mg base (L2N.CX P w) 3 Z.f_check_parts Z.d_check_parts ["first", "second", "length"] (sp_check_partsN Z K) := Fr.ok_check_partsN T
theorem ok_check_leadingN (T : Txt K mg Z) : FnOk P w K mg base (L2N.CX P w) 3 Z.f_check_leading Z.d_check_leading ["amount", "down", "backward"] (sp_check_leadingN Z K) := by
  refine T.F_check_leading.okXN sc_check_leading (fun vs H Q E h => ?_) (fun cdv A outer s H vs Q E hr h => ?_)
  · obtain ⟨v4, v5, v6, rfl, _⟩ := h
    rfl
  · obtain ⟨v4, v5, v6, rfl, k4, ⟨_, ⟨t5, ty5, e5⟩⟩, ⟨_, ⟨t6, ty6, e6⟩⟩, ok, out⟩ := h
    refine ⟨_, (pss_cons (ps_if (pt_not (pt_val (pe_call (ok_is_whole T) (hr.mono (by decide)) rfl T.g_is_whole T.k_is_whole T.bn_is_whole .nil pass0 (pa_cons (pv 0) pa_nil)))) (pss_one (L2N.ps_raise rfl (L2N.takes_of rfl rfl rfl rfl) (pmk_oexN (T.ex 2 (by decide)).ox (T.ex 2 (by decide)).ini T.t_E_init (ok_E_init T) (hr.mono (by decide)) T.bn_E_init .nil pass0 rfl T.g_BadAmount (pa_cons (pv 0) pa_nil)))) pss_nil)
      (pss_cons (ps_if (pt_not (pt_val (pe_callB  call_isi (by rfl) T.b_isinstance (by decide +kernel) (pa_cons (pv 1) (pa_cons (pe_bltn (v := .ty "bool") rfl T.b_bool (by decide +kernel) rfl) pa_nil))))) (pss_one (L2N.ps_raise rfl (L2N.takes_of rfl rfl rfl rfl) (pmk_oexN (T.ex 3 (by decide)).ox (T.ex 3 (by decide)).ini T.t_E_init (ok_E_init T) (hr.mono (by decide)) T.bn_E_init .nil pass0 rfl T.g_BadWay (pa_cons (pv 1) pa_nil)))) pss_nil)
      (pss_one (ps_if (pt_not (pt_val (pe_callB  call_isi (by rfl) T.b_isinstance (by decide +kernel) (pa_cons (pv 2) (pa_cons (pe_bltn (v := .ty "bool") rfl T.b_bool (by decide +kernel) rfl) pa_nil))))) (pss_one (L2N.ps_raise rfl (L2N.takes_of rfl rfl rfl rfl) (pmk_oexN (T.ex 3 (by decide)).ox (T.ex 3 (by decide)).ini T.t_E_init (ok_E_init T) (hr.mono (by decide)) T.bn_E_init .nil pass0 rfl T.g_BadWay (pa_cons (pv 2) pa_nil)))) pss_nil)))), ?_⟩
    unfold verL at ok out
    refine ⟨_, rfl, v4, _, rfl, k4.i.whole, _, rfl, ?_⟩
    by_cases c1 : (isInt v4).isSome = true
    case neg =>
      rw [if_neg c1] at out
      rw [show (isInt v4).isSome = false by simpa using c1]
      exact iteT ⟨_, rfl, mkR (T.ex 2 (by decide)) (out _ _ rfl)⟩
    rw [if_pos c1] at ok out
    rw [c1]
    refine iteF ⟨_, rfl, _, _, t5, _, _, rfl, .ty "bool", ty5, e5, _, rfl, ?_⟩
    by_cases c2 : isBl v5 = true
    case neg =>
      rw [if_neg c2] at out
      rw [show isBl v5 = false by simpa using c2]
      exact iteT ⟨_, rfl, mkR (T.ex 3 (by decide)) (out _ _ rfl)⟩
    rw [if_pos c2] at ok out
    rw [c2]
    refine iteF ⟨_, rfl, _, _, t6, _, _, rfl, .ty "bool", ty6, e6, _, rfl, ?_⟩
    by_cases c3 : isBl v6 = true
    case neg =>
      rw [if_neg c3] at out
      rw [show isBl v6 = false by simpa using c3]
      exact iteT ⟨_, rfl, mkR (T.ex 3 (by decide)) (out _ _ rfl)⟩
    rw [if_pos c3] at ok
    rw [c3]
    exact iteF (ok rfl)
theorem ok_T_initN (T : Txt K mg Z) : FnOk P w K mg base (L2N.CX P w) 5 Z.f_T_init Z.d_T_init ["self", "first", "second", "length", "amount", "down", "backward"] (sp_T_initN Z K) := by
  refine T.F_T_init.ok sc_T_init (fun vs H Q E h => ?_) (fun cdv A outer s H vs Q E hr h => ?_)
  · obtain ⟨p, dx, v1, v2, v3, v4, v5, v6, rfl, _⟩ := h
    rfl
  · obtain ⟨p, dx, v1, v2, v3, v4, v5, v6, rfl, hp, k1, k2, k3, k4, k5, k6, fine, out⟩ := h
    refine ⟨_, (pss_cons (ps_expr (pe_call (ok_check_partsN T) (hr.mono (by decide)) rfl T.g_check_parts T.k_check_parts T.bn_check_parts .nil (L2N.passes_call (L2N.takes_of rfl rfl rfl rfl) (fun _ _ _ _ h => h)) (pa_cons (pv 1) (pa_cons (pv 2) (pa_cons (pv 3) pa_nil)))))
      (pss_cons (ps_expr (pe_call (ok_check_leadingN T) (hr.mono (by decide)) rfl T.g_check_leading T.k_check_leading T.bn_check_leading .nil (L2N.passes_call (L2N.takes_of rfl rfl rfl rfl) (fun _ _ _ _ h => h)) (pa_cons (pv 4) (pa_cons (pv 5) (pa_cons (pv 6) pa_nil)))))
      (pss_cons (ps_fld (pv 0) (pv 1) rfl)
      (pss_cons (ps_fld (pv 0) (pv 2) rfl)
      (pss_cons (ps_fld (pv 0) (pv 3) rfl)
      (pss_cons (ps_fld (pv 0) (pv 4) rfl)
      (pss_cons (ps_fld (pv 0) (pv 5) rfl)
      (pss_cons (ps_fld (pv 0) (pe_and (pv 6) (pe_one (pe_cmpR op_gt (pv 3) pe_int (nomark _)))) rfl)
      (pss_cons (ps_set (i := 7) sc_T_init.nd rfl (Or.inl rfl) (pe_ifExp (pt_val (pv 5)) pe_str pe_str))
      (pss_cons (ps_set (i := 8) sc_T_init.nd rfl (Or.inl rfl) (pe_ifExp (pt_val (pe_fld (pv 0) rfl)) pe_str pe_str))
      (pss_one (ps_fld (pv 0) (pe_joined (.cons (pe_fmt (pv 1)) (.cons pe_str (.cons (pe_fmt (pv 2)) (.cons pe_str (.cons (pe_fmt (pv 3)) (.cons pe_str (.cons (pe_fmt (pv 7)) (.cons pe_str (.cons (pe_fmt (pe_call (ok_written T) (hr.mono (by decide)) rfl T.g_written T.k_written T.bn_written .nil pass0 (pa_cons (pv 4) pa_nil))) (.cons (pe_fmt (pv 8)) .nil))))))))))) rfl)))))))))))), ?_⟩
    unfold ver at fine out
    refine ⟨_, rfl, _, rfl, _, rfl, v1, v2, v3, rfl, k1, k2, k3, fun e1 => ?_, fun i j e1 => ?_⟩
    case refine_2 =>
      rw [e1] at out
      have o := out _ _ rfl
      have lt := verP_lt e1
      rcases j with _ | _ | _ | j
      · exact o
      · exact o
      · exact o
      · omega
    rw [e1] at fine out
    refine ⟨_, rfl, _, rfl, _, rfl, v4, v5, v6, rfl, k4, k5, k6, fun e2 => ?_, fun i j e2 => ?_⟩
    case refine_2 => exact out i (j + 3) (by rw [e2] <;> rfl)
    obtain ⟨r, b, ev, ok, hb, k⟩ := fine (by rw [e2] <;> rfl)
    clear fine out e1 e2 k1 k2 k3 k4 k5 k6
    injection ev with e1 ev
    injection ev with e2 ev
    injection ev with e3 ev
    injection ev with e4 ev
    injection ev with e5 ev
    injection ev with e6 ev
    subst e1 e2 e3 e4 e5 e6
    refine ⟨_, rfl, _, rfl, p, _, dx, _, rfl, hp, T.cl, T.n_first, (by decide : 0 < 1000), ?_⟩
    refine ⟨_, rfl, _, rfl, p, _, dx, _, rfl, upd_same, T.cl, T.n_second, Nat.lt_of_le_of_lt (len1 r) (by decide), ?_⟩
    refine ⟨_, rfl, _, rfl, p, _, dx, _, rfl, upd_same, T.cl, T.n_length, Nat.lt_of_le_of_lt (len2 r) (by decide), ?_⟩
    refine ⟨_, rfl, _, rfl, p, _, dx, _, rfl, upd_same, T.cl, T.n_amount, Nat.lt_of_le_of_lt (len3 r) (by decide), ?_⟩
    refine ⟨_, rfl, _, rfl, p, _, dx, _, rfl, upd_same, T.cl, T.n_down, Nat.lt_of_le_of_lt (len4 r) (by decide), ?_⟩
    refine ⟨_, rfl, b, rfl, ?_⟩
    refine' share0 (fun tail => ite2 (fun c => ?b1) (fun c => ?b2)) ?b3
    case b1 =>
      refine ⟨_, rfl, _, _, rfl, rfl, ?_⟩
      have e : decide (1 < r.l) = r.b := by rw [hb, c] <;> rfl
      dsimp only
      rw [e]
      exact tail
    case b2 =>
      have e : V.bl false = V.bl r.b := by
        cases b with
        | true => exact absurd rfl c
        | false => rw [hb] <;> rfl
      dsimp only
      rw [e]
      exact tail
    case b3 =>
      have sl : sizeLine = 16777216 := sizeLine_eq
      have l30 : (10 : Int) ^ 30 < 10 ^ 31 := by decide +kernel
      have l64 : (10 : Int) ^ 60 < 10 ^ 64 := by decide +kernel
      have hf := ok.f0; have hs := ok.s0; have hl := ok.l0; have hfe := ok.fe; have hse := ok.se
      have ll1 := ok.al; have ll2 := ok.ah
      have zf : (Str.ofString (toString r.f)).length ≤ 31 := toString_length_le hf (by decide) (by omega)
      have zs : (Str.ofString (toString r.s)).length ≤ 31 := toString_length_le hs (by decide) (by omega)
      have zl : (Str.ofString (toString r.l)).length ≤ 31 := toString_length_le (by omega) (by decide) (by omega)
      have za : (shownInt r.a).length ≤ 66 := shown_len (by omega) (by omega)
      have z0 : Str.empty.length = 0 := rfl
      have z1 : (Str.ofString " ").length = 1 := by decide
      have zw : (Str.ofString "down").length = 4 := by decide
      have zu : (Str.ofString "up").length = 2 := by decide
      have zb : (Str.ofString " back").length = 5 := by decide
      have ze : (Str.ofString "").length = 0 := by decide
      have gf : r.f.natAbs.log2 < 1920 := log_lt hf (by omega)
      have gs : r.s.natAbs.log2 < 1920 := log_lt hs (by omega)
      have gl : r.l.natAbs.log2 < 1920 := log_lt (by omega) (by omega)
      refine ⟨_, rfl, p, _, dx, _, rfl, upd_same, T.cl, T.n_backward, Nat.lt_of_le_of_lt (len5 r) (by decide), _, rfl, r.d, rfl, ?_⟩
      refine ite2 (fun c1 => ?_) (fun c1 => ?_)
      all_goals
        refine ⟨_, rfl, p, _, dx, _, _, rfl, upd_same, T.cl, T.n_backward, fs6_backward r, r.b, rfl, ?_⟩
        refine ite2 (fun c2 => ?_) (fun c2 => ?_)
      all_goals
        refine ⟨_, rfl, .inr ⟨r.f, rfl, gf, _, rfl, by walk_at "len", _, rfl, by walk_at "len", ?_⟩⟩
        refine ⟨_, rfl, .inr ⟨r.s, rfl, gs, _, rfl, by walk_at "len", _, rfl, by walk_at "len", ?_⟩⟩
        refine ⟨_, rfl, .inr ⟨r.l, rfl, gl, _, rfl, by walk_at "len", _, rfl, by walk_at "len", ?_⟩⟩
        refine ⟨_, rfl, .inl ⟨_, rfl, by walk_at "len", _, rfl, by walk_at "len", _, rfl, by walk_at "len", ?_⟩⟩
        refine ⟨_, rfl, r.a, rfl, by omega, by omega, fun H' sm => .inl ⟨_, rfl, by walk_at "len", _, rfl, by walk_at "len", ?_⟩⟩
        refine ⟨_, rfl, .inl ⟨_, rfl, by walk_at "len", _, rfl, by walk_at "len", ?_⟩⟩
        refine ⟨_, rfl, p, _, dx, _, rfl, sm _ _ upd_same, T.cl, T.n_text, Nat.lt_of_le_of_lt (len6 r) (by decide), ?_⟩
        refine k _ ?_ ?_
        · have e : tieText r = Str.empty ++ Str.ofString (toString r.f) ++ Str.ofString " " ++ Str.ofString (toString r.s) ++ Str.ofString " " ++ Str.ofString (toString r.l) ++ Str.ofString " " ++ way r.d ++ Str.ofString " " ++ shownInt r.a ++ backs r.b := rfl
          simp only [way, backs, c1, c2, if_true, if_false, Bool.false_eq_true] at e
          unfold tfs
          rw [e]
          exact upd_same
        · intro q o n h
          rw [upd_ne n]
          refine sm _ _ ?_
          rw [upd_ne n, upd_ne n, upd_ne n, upd_ne n, upd_ne n, upd_ne n]
          exact h
end
end TT

set_option maxHeartbeats 4000000
namespace TT
open PySem PySem.Spec PyProof.Rows L2 LamX TL
/-! ### numbers read -/
def sp_number_of : Sp := fun vs H Q _ => ∃ d : Str, vs = [.str d] ∧ allDig (tl d) = true ∧ d.length ≤ 63 ∧ Q (.int ((NumText.digitsVal (tl d) : Nat) : Int)) H
/-- a number, or None -/
def numV : Option Int → V
  | some n => .int n
  | none => .non
def sp_number_in : Sp := fun vs H Q _ => ∃ w : Str, vs = [.str w] ∧ w.length ≤ 63 ∧ Q (numV (numRead w)) H
theorem small_none : ∀ n : Nat, n < 65 → Builtin.Range.small (n : Int) (n : Int) 64 = true := by decide +kernel
theorem range_none {n : Int} (h0 : 0 ≤ n) (h1 : n ≤ 64) : RgC n n 64 0 := by
  obtain ⟨m, rfl⟩ : ∃ m : Nat, n = (m : Int) := ⟨n.toNat, by omega⟩
  refine ⟨by decide, by decide, small_none m (by omega), ?_⟩
  unfold Builtin.Range.rangeSize
  simp
theorem shareS {T : Str → Prop} {G : Prop} (C : Str → Prop) (h : (∀ g, C g → T g) → G) (t : ∀ g, C g → T g) : G := h t
theorem cut_all {d : Str} {n : Int} (h : n = (d.length : Int)) : cutS d none (some n) = d := by
  subst h
  refine ext_tl ?_
  have hl := len_tl d
  have e2 : HT.sIx d.length d.length (some (d.length : Int)) = d.length := by
    show (if ((d.length : Nat) : Int) < 0 then (((d.length : Nat) : Int) + (d.length : Int)).toNat else min ((d.length : Nat) : Int).toNat d.length) = d.length
    rw [if_neg (by omega)]
    omega
  unfold cutS
  show (((tl d).drop (HT.sIx d.length 0 none)).take (HT.sIx d.length d.length (some (d.length : Int)) - HT.sIx d.length 0 none)) = tl d
  rw [e2]
  show ((tl d).drop 0).take (d.length - 0) = tl d
  rw [List.drop_zero]
  exact List.take_of_length_le (by omega)
section
variable {P : Program} {w : World} {K : PySem.W.Frag} {mg : Str → Option Value} {base : Heap} {Z : Zs}
theorem ok_number_of (T : Txt K mg Z) : FnOk P w K mg base CX0 1 Z.f_number_of Z.d_number_of ["digits"] sp_number_of := by
  refine T.F_number_of.ok sc_number_of (fun vs H Q E h => ?_) (fun cdv A outer s H vs Q E hr h => ?_)
  · obtain ⟨d, rfl, _⟩ := h
    rfl
  · obtain ⟨d, rfl, hd, hl, k⟩ := h
    have sl : sizeLine = 16777216 := sizeLine_eq
    refine ⟨_, (pss_cons (ps_set (i := 1) sc_number_of.nd rfl (Or.inl rfl) (pe_op op_mod (pe_callB  call_len_str (by rfl) T.b_len (by decide +kernel) (pa_cons (pv 0) pa_nil)) (pe_glob (v := .int 64) rfl T.c__DIGITS ⟨_, rfl⟩)))
      (pss_cons (ps_set (i := 2) sc_number_of.nd rfl (Or.inl rfl) (pe_callTy call_int_str (by rfl) T.b_int (by decide +kernel) (pa_cons (pe_op op_add_str pe_str (pe_slice sl_str (pv 0) po_none (po_some (pv 1)))) pa_nil)))
      (pss_cons (ps_for PassesOwn.never rfl (pi_range3 rfl T.b_range (pa_cons (pv 1) (pa_cons (pe_callB  call_len_str (by rfl) T.b_len (by decide +kernel) (pa_cons (pv 0) pa_nil)) (pa_cons (pe_glob (v := .int 64) rfl T.c__DIGITS ⟨_, rfl⟩) pa_nil)))) (pg_name (i := 3) sc_number_of.nd rfl (Or.inl rfl)) (pss_one (ps_set (i := 2) sc_number_of.nd rfl (Or.inl rfl) (pe_op op_add (pe_op op_mul (pv 2) (pe_glob (v := .int 10000000000000000000000000000000000000000000000000000000000000000) rfl T.c__CHUNK ⟨_, rfl⟩)) (pe_callTy call_int_str (by rfl) T.b_int (by decide +kernel) (pa_cons (pe_slice sl_str (pv 0) (po_some (pv 3)) (po_some (pe_op op_add (pv 3) (pe_glob (v := .int 64) rfl T.c__DIGITS ⟨_, rfl⟩)))) pa_nil))))))
      (pss_one (ps_ret (pv 2)))))), ?_⟩
    refine ⟨_, rfl, _, rfl, by omega, _, _, rfl, rfl, by show (0 : Int) < 64; decide, ?_⟩
    have hm : ((d.length : Nat) : Int) % 64 = (d.length : Int) := by omega
    have l0 : (Str.ofString "0").length = 1 := by decide
    refine ⟨_, rfl, _, rfl, _, rfl, d, rfl, by omega, ?_⟩
    rw [cut_all hm]
    refine ⟨_, _, rfl, rfl, by omega, _, _, rfl, int_zero hd (by omega), by rw [Str.length_append]; omega, ?_⟩
    refine ⟨_, rfl, _, rfl, _, rfl, by omega, _, _, _, 0, rfl, by rw [hm]; exact range_none (by omega) (by omega), ?_⟩
    refine for_rangeC (n := 0) (fun _ σ H' => σ = [some (.str d), some (.int (((d.length : Nat) : Int) % 64)), some (.int ((NumText.digitsVal (tl d) : Nat) : Int)), none] ∧ H' = H) ⟨rfl, rfl⟩ (fun i σ H' hi => absurd hi (Nat.not_lt_zero i)) ?_
    rintro σ H' ⟨rfl, rfl⟩
    exact ⟨_, rfl, k⟩
theorem ok_number_in (T : Txt K mg Z) : FnOk P w K mg base CX0 2 Z.f_number_in Z.d_number_in ["word"] sp_number_in := by
  refine T.F_number_in.ok sc_number_in (fun vs H Q E h => ?_) (fun cdv A outer s H vs Q E hr h => ?_)
  · obtain ⟨d, rfl, _⟩ := h
    rfl
  · obtain ⟨d, rfl, hl, k⟩ := h
    have sl : sizeLine = 16777216 := sizeLine_eq
    refine ⟨_, (pss_cons (ps_set (i := 1) sc_number_in.nd rfl (Or.inl rfl) (pe_ifExp (pt_val (pe_m1 PySem.F.slot_str_startswith PySem.F.type_str_startswith mt_startswith (pv 0) pe_str)) (pe_slice sl_str (pv 0) (po_some pe_int) po_none) (pv 0)))
      (pss_cons (ps_if (PW.pt (pw_or (pt_not (pt_val (pe_m0 PySem.F.slot_str_isascii PySem.F.type_str_isascii mt_isascii (pv 1)))) (pw_or1 (pt_not (pt_val (pe_m0 PySem.F.slot_str_isdigit PySem.F.type_str_isdigit mt_isdigit (pv 1))))))) (pss_one (ps_ret pe_non)) pss_nil)
      (pss_cons (ps_if (PW.pt (pw_and (pt_val (pe_m1 PySem.F.slot_str_startswith PySem.F.type_str_startswith mt_startswith (pv 1) pe_str)) (pw_and1 (pt_cmpR op_ne (pv 0) pe_str (nomark _))))) (pss_one (ps_ret pe_non)) pss_nil)
      (pss_cons (ps_set (i := 2) sc_number_in.nd rfl (Or.inl rfl) (pe_call (ok_number_of T) (hr.mono (by decide)) rfl T.g_number_of T.k_number_of T.bn_number_of .nil pass0 (pa_cons (pv 1) pa_nil)))
      (pss_one (ps_ret (pe_ifExp (pt_cmpR op_eq (pv 1) (pv 0) (nomark _)) (pv 2) (pe_un un_neg (pv 2))))))))), ?_⟩
    have sm : Txt.startswith d (Str.ofString "-") = ((tl d).head? == some 45) := by
      rw [show Str.ofString "-" = ⟨#[45]⟩ by decide +kernel]
      exact starts_one d 45
    refine ⟨_, rfl, ⟨_, rfl⟩, _, _, rfl, rfl, _, rfl, ?_⟩
    refine' shareS (fun g => tl g = digs d) (fun tail => ite2 (fun c => ?b1) (fun c => ?b2)) ?b3
    case b1 =>
      rw [sm] at c
      refine ⟨_, rfl, _, rfl, d, rfl, by omega, ?_⟩
      obtain ⟨g, hg⟩ : ∃ g, g = cutS d (some 1) none := ⟨_, rfl⟩
      rw [← hg]
      refine tail g ?_
      rw [hg, cut_one]
      unfold digs
      rw [if_pos (by simpa using c)]
    case b2 =>
      rw [sm] at c
      refine ⟨_, rfl, tail d ?_⟩
      unfold digs
      rw [if_neg (by simpa using c)]
    case b3 =>
      intro g hg
      have hlg : g.length ≤ 63 := by
        rw [len_tl, hg]
        have := len_tl d
        unfold digs
        split
        · rw [List.length_drop]
          omega
        · omega
      have same : decide (V.str g = V.str d) = !decide ((tl d).head? = some 45) := by
        rw [str_eq_tl, hg]
        unfold digs
        by_cases c : (tl d).head? = some 45
        · rw [if_pos c, decide_eq_true c]
          rw [decide_eq_false]
          · rfl
          · intro z
            have := congrArg List.length z
            rw [List.length_drop] at this
            cases e : tl d with
            | nil => rw [e] at c; simp at c
            | cons a l => rw [e] at this; simp at this
        · rw [if_neg c, decide_eq_false c, decide_eq_true rfl]
          rfl
      refine ⟨_, rfl, ⟨_, rfl⟩, _, rfl, rfl, trivial, _, rfl, ?_⟩
      by_cases ad : allDig (tl g) = true
      case neg =>
        have nr : numRead d = none := by
          unfold numRead
          rw [← hg, if_neg ad]
        rw [nr] at k
        cases ha : Txt.isascii g with
        | false => exact iteT (iteT k)
        | true =>
          refine iteF ⟨_, rfl, ⟨_, rfl⟩, _, rfl, rfl, trivial, _, rfl, ?_⟩
          rw [isdigit_ascii g ha, show allDig (tl g) = false by simpa using ad]
          exact iteT k
      case pos =>
        rw [ascii_of ad]
        refine iteF ⟨_, rfl, ⟨_, rfl⟩, _, rfl, rfl, trivial, _, rfl, ?_⟩
        rw [isdigit_ascii g (ascii_of ad), ad]
        have s0 : Txt.startswith g (Str.ofString "0") = ((tl g).head? == some 48) := by
          rw [show Str.ofString "0" = ⟨#[48]⟩ by decide +kernel]
          exact starts_one g 48
        have e0 : decide (V.str d = V.str (Str.ofString "0")) = decide (tl d = [48]) := by
          rw [str_eq_tl]
          rfl
        refine iteF ⟨_, rfl, ⟨_, rfl⟩, _, _, rfl, rfl, _, rfl, ?_⟩
        rw [s0]
        have fin : ¬ ((digs d).head? = some 48 ∧ tl d ≠ [48]) → Q (.int (if (tl d).head? = some 45 then -((NumText.digitsVal (tl g) : Nat) : Int) else ((NumText.digitsVal (tl g) : Nat) : Int))) H := fun no => by
          unfold numRead at k
          rw [← hg, if_pos ad, if_neg (by rw [hg]; exact no)] at k
          exact k
        by_cases c45 : (tl d).head? = some 45
        all_goals
          have same' := same
          first
            | rw [decide_eq_true c45] at same'
            | rw [decide_eq_false c45] at same'
          first
            | rw [if_pos c45] at fin
            | rw [if_neg c45] at fin
          by_cases z : (tl g).head? = some 48
          · rw [show ((tl g).head? == some 48) = true by rw [z]; rfl]
            refine iteT ⟨_, rfl, rfl, _, rfl, ?_⟩
            rw [e0]
            by_cases z2 : tl d = [48]
            · rw [decide_eq_true z2]
              refine iteF ⟨_, rfl, g, rfl, ad, hlg, _, rfl, _, rfl, rfl, _, rfl, ?_⟩
              rw [same']
              first
                | exact iteF ⟨_, rfl, _, rfl, fin fun q => q.2 z2⟩
                | exact iteT ⟨_, rfl, fin fun q => q.2 z2⟩
            · rw [decide_eq_false z2]
              have nr : numRead d = none := by
                unfold numRead
                rw [← hg, if_pos ad, if_pos ⟨z, z2⟩]
              rw [nr] at k
              exact iteT k
          · rw [show ((tl g).head? == some 48) = false by simpa using z]
            refine iteF (iteF ⟨_, rfl, g, rfl, ad, hlg, _, rfl, _, rfl, rfl, _, rfl, ?_⟩)
            rw [same']
            first
              | exact iteF ⟨_, rfl, _, rfl, fin fun q => z (hg ▸ q.1)⟩
              | exact iteT ⟨_, rfl, fin fun q => z (hg ▸ q.1)⟩
end
end TT

set_option maxHeartbeats 4000000
namespace TT
open PySem PySem.Spec PyProof.Rows L2 LamX TL
/-! ### texts of ties read -/
def six (r : Row) (bk : Bool) : List V := [.int r.f, .int r.s, .int r.l, .int r.a, .bl r.d, .bl bk]
def wordsOf (r : Row) (bk : Bool) : List Str := [Str.ofString (toString r.f), Str.ofString (toString r.s), Str.ofString (toString r.l), way r.d, shownInt r.a] ++ (if bk = true then [Str.ofString "back"] else [])
def rowText (r : Row) (bk : Bool) : Str := Txt.join (Str.ofString " ") (wordsOf r bk)
theorem nat_of {n : Int} (h : 0 ≤ n) : ∃ m : Nat, n = (m : Int) := ⟨n.toNat, by omega⟩
theorem tl_int {n : Int} (h : 0 ≤ n) : tl (Str.ofString (toString n)) = numL n.toNat := by
  obtain ⟨m, rfl⟩ := nat_of h
  rw [tl_num] <;> rfl
theorem read_int {n : Int} (h : 0 ≤ n) : numRead (Str.ofString (toString n)) = some n := by
  obtain ⟨m, rfl⟩ := nat_of h
  exact numRead_nat m
theorem read_shown (n : Int) : numRead (shownInt n) = some n := by
  unfold shownInt
  split
  · obtain ⟨m, hm⟩ := nat_of (n := -n) (by omega)
    rw [hm, numRead_neg (by omega)]
    congr 1
    omega
  · exact read_int (by omega)
theorem shown_free {n : Int} {c : Nat} (h : c < 45 ∨ 57 < c) : c ∉ tl (shownInt n) := by
  unfold shownInt
  split
  · rw [tl_append, tl_int (by omega)]
    intro z
    rcases List.mem_append.mp z with z | z
    · have : tl (Str.ofString "-") = [45] := by decide +kernel
      rw [this] at z
      simp at z
      omega
    · exact numL_free (by omega) z
  · rw [tl_int (by omega)]
    exact numL_free (by omega)
theorem shown_len60 {n : Int} (h0 : -(10 ^ 60) < n) (h1 : n < 10 ^ 60) : (shownInt n).length ≤ 61 := by
  unfold shownInt
  split
  · have := toString_length_le (v := -n) (by omega) (k := 60) (by decide) (by omega)
    have e : (Str.ofString "-").length = 1 := by decide
    rw [Str.length_append]
    omega
  · have := toString_length_le (v := n) (by omega) (k := 60) (by decide) h1
    omega
theorem tieText_eq (r : Row) : tieText r = rowText r r.b := by
  refine ext_tl ?_
  unfold tieText rowText wordsOf backs
  rw [show Txt.join (Str.ofString " ") ([Str.ofString (toString r.f), Str.ofString (toString r.s), Str.ofString (toString r.l), way r.d, shownInt r.a] ++ (if r.b = true then [Str.ofString "back"] else [])) = _ from join_eq _ _, tl_join]
  have e0 : tl Str.empty = [] := rfl
  have e1 : tl (Str.ofString " back") = tl (Str.ofString " ") ++ tl (Str.ofString "back") := by decide +kernel
  cases r.b <;> simp [tl_append, joinL, e0, e1, show tl (Str.ofString "") = [] from rfl]
theorem word_free {r : Row} (ok : r.Ok) {bk : Bool} {c : Nat} (hc : c = 32 ∨ c = 10) : ∀ p ∈ wordsOf r bk, c ∉ tl p := by
  intro p hp
  have hf := ok.f0; have hs := ok.s0; have hl := ok.l0
  have fr : ∀ {n : Int}, 0 ≤ n → c ∉ tl (Str.ofString (toString n)) := fun h => by
    rw [tl_int h]
    exact numL_free (by omega)
  unfold wordsOf at hp
  rcases List.mem_append.mp hp with hp | hp
  · simp only [List.mem_cons, List.not_mem_nil, or_false] at hp
    rcases hp with rfl | rfl | rfl | rfl | rfl
    · exact fr hf
    · exact fr hs
    · exact fr (by omega)
    · unfold way
      split <;> rcases hc with rfl | rfl <;> decide +kernel
    · exact shown_free (by omega)
  · split at hp
    · rw [List.mem_singleton.mp hp]
      rcases hc with rfl | rfl <;> decide +kernel
    · cases hp
theorem sp_tl : tl (Str.ofString " ") = [32] := by decide +kernel
theorem split_row {r : Row} (ok : r.Ok) (bk : Bool) : Txt.split (rowText r bk) (Str.ofString " ") = wordsOf r bk :=
  split_join (s := 32) (S := []) sp_tl (by decide +kernel) (by unfold wordsOf; simp) (word_free ok (.inl rfl))
theorem row_len {r : Row} (ok : r.Ok) (bk : Bool) : (rowText r bk).length ≤ 200 := by
  have j := StrLaws.join_length_le (Str.ofString " ") (wordsOf r bk)
  have e : rowText r bk = (Str.ofString " ").join (wordsOf r bk) := join_eq _ _
  have hf := ok.f0; have hs := ok.s0; have hl := ok.l0; have hfe := ok.fe; have hse := ok.se
  have l30 : (10 : Int) ^ 30 < 10 ^ 31 := by decide +kernel
  have zf : (Str.ofString (toString r.f)).length ≤ 31 := toString_length_le hf (by decide) (by omega)
  have zs : (Str.ofString (toString r.s)).length ≤ 31 := toString_length_le hs (by decide) (by omega)
  have zl : (Str.ofString (toString r.l)).length ≤ 31 := toString_length_le (by omega) (by decide) (by omega)
  have za := shown_len60 ok.al ok.ah
  have zw : (way r.d).length ≤ 4 := by
    unfold way
    split <;> decide
  have z1 : (Str.ofString " ").length = 1 := by decide
  have zb : (Str.ofString "back").length = 4 := by decide
  rw [e]
  refine Nat.le_trans j ?_
  rw [z1]
  unfold wordsOf
  cases bk <;> simp only [Bool.false_eq_true, if_true, if_false, List.cons_append, List.nil_append, List.append_nil, List.map_cons, List.map_nil, List.sum_cons, List.sum_nil, List.length_cons, List.length_nil] <;> omega
section
variable {P : Program} {w : World} {K : PySem.W.Frag} {mg : Str → Option Value} {base : Heap} {Z : Zs}
end
end TT


set_option maxHeartbeats 4000000
namespace TT
open PySem PySem.Spec PyProof.Rows L2 LamX TL L2H HotX
/-! ### what any text tells -/
theorem val_lt : ∀ (n : Nat) (cs : List Nat), cs.length = n → NumText.AllDigits cs → NumText.digitsVal cs < 10 ^ n := by
  intro n
  induction n with
  | zero =>
    intro cs hl _
    rw [List.length_eq_zero_iff.mp hl]
    decide
  | succ n ih =>
    intro cs hl h
    have ne : cs ≠ [] := by
      rintro rfl
      cases hl
    have e := List.dropLast_concat_getLast ne
    have h0 := ih cs.dropLast (by rw [List.length_dropLast]; omega) (fun x hx => h x (List.dropLast_subset _ hx))
    have hc := h _ (List.getLast_mem ne)
    rw [← e, NumText.digitsVal_snoc, Nat.pow_succ]
    omega
/-- a raw row: backward as it is written -/
def quad (a b c d e : Str) (bk : Bool) : Option Row :=
  if d = Str.ofString "up" ∨ d = Str.ofString "down" then
    match numRead a, numRead b, numRead c, numRead e with
    | some f, some s, some l, some m => some ⟨f, s, l, m, decide (d = Str.ofString "down"), bk⟩
    | _, _, _, _ => none
  else none
def vals : List Str → Option Row
  | [a, b, c, d, e] => quad a b c d e false
  | [a, b, c, d, e, f] => if f = Str.ofString "back" then quad a b c d e true else none
  | _ => none
def NoStr (K : PySem.W.Frag) (H : Hp) (v : V) : Prop := ∃ t, TyX K H v t ∧ PySem.W.kitOne K t (.type "str") = some false
/-- a text that is read: not too long, nor its words -/
structure Fine (t : Str) : Prop where
  len : t.length ≤ 1000
  wd : ∀ p ∈ Txt.split t (Str.ofString " "), p.length ≤ 50
  ok : ∀ p ∈ Txt.split t (Str.ofString " "), PyData.strOk p = true
def sp_values_any (K : PySem.W.Frag) : Sp := fun vs H Q _ => ∃ v, vs = [v] ∧ ((∃ t, v = .str t ∧ Fine t ∧
  (∀ r, vals (Txt.split t (Str.ofString " ")) = some r → ∀ x H', H x = none → Same H H' → H' x = some (.tup r.vs) → Q (.ref x) H') ∧ (vals (Txt.split t (Str.ofString " ")) = none → ∀ H', Same H H' → Q .non H')) ∨ (NoStr K H v ∧ Q .non H))
theorem in_way (d : Str) : inV (V.str d) [V.str (Str.ofString "up"), V.str (Str.ofString "down")] = decide (d = Str.ofString "up" ∨ d = Str.ofString "down") := by
  have e : ∀ a b : Str, eqV (V.str a) (V.str b) = decide (b = a) := fun a b => by
    by_cases c : b = a
    · subst c
      simp [eqV]
    · rw [decide_eq_false c]
      simp [eqV]
      exact fun z => c z.symm
  simp [inV, List.any, e]
theorem shapes (ws : List Str) : (∃ a b c d e, ws = [a, b, c, d, e]) ∨ (∃ a b c d e f, ws = [a, b, c, d, e, f]) ∨ (ws.length ≠ 5 ∧ ws.length ≠ 6 ∧ vals ws = none) := by
  match ws with
  | [a, b, c, d, e] => exact .inl ⟨a, b, c, d, e, rfl⟩
  | [a, b, c, d, e, f] => exact .inr (.inl ⟨a, b, c, d, e, f, rfl⟩)
  | [] => exact .inr (.inr ⟨by decide, by decide, rfl⟩)
  | [_] => exact .inr (.inr ⟨by simp, by simp, rfl⟩)
  | [_, _] => exact .inr (.inr ⟨by simp, by simp, rfl⟩)
  | [_, _, _] => exact .inr (.inr ⟨by simp, by simp, rfl⟩)
  | [_, _, _, _] => exact .inr (.inr ⟨by simp, by simp, rfl⟩)
  | _ :: _ :: _ :: _ :: _ :: _ :: _ :: l => exact .inr (.inr ⟨by simp, by simp, rfl⟩)
section
variable {P : Program} {w : World} {K : PySem.W.Frag} {mg : Str → Option Value} {base : Heap} {Z : Zs}
theorem ok_E_initH (T : Txt K mg Z) : FnH P w K mg base CX0 1 Z.f_E_init Z.d_E_init ["self", "value"] (sp_E_init K Z) := by
  refine T.F_E_init.okH sc_E_init (fun vs H Q E h => ?_) (fun cdv A outer s H vs Q E p hot hr h => ?_)
  · obtain ⟨a, C, v, rfl, _⟩ := h
    rfl
  · obtain ⟨a, C, v, rfl, ha, X, k⟩ := h
    refine ⟨_, (pss_cons (ps_expr (pe_veinit rfl T.b_ValueError T.z_ve (pa_cons (pv 0) (pa_cons (pv 1) pa_nil))))
      (pss_one (ps_ost (pv 0) (pv 1)))), ?_⟩
    refine ⟨_, rfl, _, rfl, a, C, [v], rfl, by show 1 ≤ 1000; decide, X.ox, ha, ?_⟩
    refine ⟨_, rfl, _, rfl, a, C, rfl, X.ox, X.nv, .inl ⟨ha, fun d hd hne => ?_⟩⟩
    refine k d _ (fun b o n e => ?_) hd upd_same ?_
    · rw [upd_ne n, upd_ne (ne_of_none e hd)]
      exact e
    · rw [upd_ne hne]
      exact upd_same
theorem ok_values_in (T : Txt K mg Z) : FnOk P w K mg base CX0 3 Z.f_values_in Z.d_values_in ["text"] (sp_values_any K) := by
  refine T.F_values_in.ok sc_values_in (fun vs H Q E h => ?_) (fun cdv A outer s H vs Q E hr h => ?_)
  · obtain ⟨v, rfl, _⟩ := h
    rfl
  · obtain ⟨v, rfl, h⟩ := h
    have sl : sizeLine = 16777216 := sizeLine_eq
    refine ⟨_, (pss_cons (ps_if (pt_not (pt_val (pe_callB  call_isi (by rfl) T.b_isinstance (by decide +kernel) (pa_cons (pv 0) (pa_cons (pe_bltn (v := .ty "str") rfl T.b_str (by decide +kernel) rfl) pa_nil))))) (pss_one (ps_ret pe_non)) pss_nil)
      (pss_cons (ps_set (i := 1) sc_values_in.nd rfl (Or.inl rfl) (pe_split (pv 0) pe_str))
      (pss_cons (ps_set (i := 2) sc_values_in.nd rfl (Or.inl rfl) (pe_and (pe_cmpR op_eq (pe_callB  call_len (by rfl) T.b_len (by decide +kernel) (pa_cons (pv 1) pa_nil)) pe_int (nomark _)) (pe_one (pe_cmpR op_eq (pe_ix ix_list (pv 1) pe_int (fun _ _ => rfl)) pe_str (nomark _)))))
      (pss_cons (ps_if (PW.pt (pw_or (PW.pt (pw_and (pt_cmpR op_ne (pe_callB  call_len (by rfl) T.b_len (by decide +kernel) (pa_cons (pv 1) pa_nil)) pe_int (nomark _)) (pw_and1 (pt_not (pt_val (pv 2)))))) (pw_or1 (pt_cmpR op_notIn_seq (pe_ix ix_list (pv 1) pe_int (fun _ _ => rfl)) (pe_tup (pa_cons pe_str (pa_cons pe_str pa_nil))) (by with_unfolding_all rfl))))) (pss_one (ps_ret pe_non)) pss_nil)
      (pss_cons (ps_setLc (i := 3) (own := [("word", 4)]) rfl sc_values_in.nd rfl rfl (sw_true rfl rfl rfl (by decide +kernel)) (pi_tup (pe_tup (pa_cons (pe_ix ix_list (pv 1) pe_int (fun _ _ => rfl)) (pa_cons (pe_ix ix_list (pv 1) pe_int (fun _ _ => rfl)) (pa_cons (pe_ix ix_list (pv 1) pe_int (fun _ _ => rfl)) (pa_cons (pe_ix ix_list (pv 1) pe_int (fun _ _ => rfl)) pa_nil)))))) (blkOk_by (own := [("word", 4)]) (N := ["text", "words", "backward", "numbers", "word"]) (sc := defScope s_values_in) (by decide +kernel)) (fun _ _ _ _ _ => (pg_name (i := 4) sc_values_in.nd rfl (Or.inl rfl))) (fun _ _ _ _ _ => pts_nil) (fun _ _ _ _ _ => (pe_call (ok_number_in T) (hr.mono (by decide)) rfl T.g_number_in T.k_number_in T.bn_number_in .nil pass0 (pa_cons (pv 4) pa_nil))))
      (pss_cons (ps_if (pt_cmpR op_in_seq pe_non (pv 3) (by with_unfolding_all rfl)) (pss_one (ps_ret pe_non)) pss_nil)
      (pss_one (ps_ret (pe_tup (StX.pa_star (pv 3) (pa_cons (pe_cmpR op_eq (pe_ix ix_list (pv 1) pe_int (fun _ _ => rfl)) pe_str (nomark _)) (pa_cons (pv 2) pa_nil)))))))))))), ?_⟩
    rcases h with ⟨t, rfl, fine, some_, none_⟩ | ⟨⟨ty, ht, hk⟩, k⟩
    case inr => exact ⟨_, rfl, _, _, _, _, false, rfl, .ty "str", ht, hk, false, rfl, iteT k⟩
    refine ⟨_, rfl, _, _, _, _, true, rfl, .ty "str", .base (.str _), kit_ty (by decide +kernel), true, rfl, iteF ?_⟩
    have l1 : (Str.ofString " ").length = 1 := by decide
    have tl_ := fine.len
    refine ⟨_, rfl, ⟨_, rfl⟩, _, _, rfl, rfl, by decide, by omega, fun wl hwl => ?_⟩
    have wd := fine.wd
    generalize Txt.split t (Str.ofString " ") = ws at *
    have sW := Same.new (o := .lst (ws.map V.str)) (Same.refl H) hwl
    have atW : upd H wl (.lst (ws.map V.str)) wl = some (.lst (ws.map V.str)) := upd_same
    generalize upd H wl (.lst (ws.map V.str)) = H1 at sW atW ⊢
    have stop : ∀ {H' : Hp}, vals ws = none → Same H H' → Q .non H' := fun e s => none_ e _ s
    have b5 : ∀ n : Nat, n = 5 → V.bl (decide (V.int (n : Int) = V.int 6)) = V.bl false := fun n e => by subst e; decide
    have b6 : ∀ n : Nat, n = 6 → V.bl (decide (V.int (n : Int) = V.int 6)) = V.bl true := fun n e => by subst e; decide
    have c5 : ∀ n : Nat, n = 5 → (V.bl !decide (V.int (n : Int) = V.int 5)) = V.bl false := fun n e => by subst e; decide
    have c6 : ∀ n : Nat, n = 6 → (V.bl !decide (V.int (n : Int) = V.int 5)) = V.bl true := fun n e => by subst e; decide
    rcases shapes ws with ⟨a, b, c, d, e, rfl⟩ | ⟨a, b, c, d, e, f, rfl⟩ | ⟨n5, n6, nv⟩
    case inr.inr =>
      refine ⟨_, rfl, _, _, rfl, .inl ⟨_, SqL.of atW, rfl⟩, rfl, false, ?_, iteF ?_⟩
      · rw [List.length_map]
        exact congrArg V.bl (decide_eq_false fun e => n6 (by injection e with e; omega))
      refine ⟨_, rfl, _, _, rfl, .inl ⟨_, SqL.of atW, rfl⟩, rfl, true, ?_, iteT ⟨_, rfl, false, rfl, ?_⟩⟩
      · rw [List.length_map]
        refine congrArg V.bl ?_
        rw [decide_eq_false fun e => n5 (by injection e with e; omega)]
        rfl
      exact iteT (iteT (stop nv sW))
    -- five words of the form, or six
    case' inl =>
      have hv : vals [a, b, c, d, e] = quad a b c d e false := rfl
      refine ⟨_, rfl, _, _, rfl, .inl ⟨_, SqL.of atW, rfl⟩, rfl, false, b5 _ rfl, iteF ?_⟩
      refine ⟨_, rfl, _, _, rfl, .inl ⟨_, SqL.of atW, rfl⟩, rfl, false, c5 _ rfl, iteF ?_⟩
    case' inr.inl =>
      have hv : vals [a, b, c, d, e, f] = if f = Str.ofString "back" then quad a b c d e true else none := rfl
      refine ⟨_, rfl, _, _, rfl, .inl ⟨_, SqL.of atW, rfl⟩, rfl, true, b6 _ rfl, iteT ⟨_, rfl, wl, _, _, _, rfl, rfl, SqL.of atW, rfl, rfl, ?_⟩⟩
      by_cases cf : f = Str.ofString "back"
      case neg =>
        rw [if_neg cf] at hv
        rw [show decide (V.str f = V.str (Str.ofString "back")) = false from decide_eq_false fun z => cf (V.str.inj z)]
        refine ⟨_, rfl, _, _, rfl, .inl ⟨_, SqL.of atW, rfl⟩, rfl, true, c6 _ rfl, iteT ⟨_, rfl, false, rfl, ?_⟩⟩
        exact iteT (iteT (stop hv sW))
      rw [if_pos cf] at hv
      rw [show decide (V.str f = V.str (Str.ofString "back")) = true from decide_eq_true (by rw [cf])]
      refine ⟨_, rfl, _, _, rfl, .inl ⟨_, SqL.of atW, rfl⟩, rfl, true, c6 _ rfl, iteT ⟨_, rfl, true, rfl, ?_⟩⟩
      show if false = true then _ else _
      refine iteF ?_
    all_goals
      have za := wd a (by simp)
      have zb := wd b (by simp)
      have zc := wd c (by simp)
      have ze := wd e (by simp)
      refine ⟨_, rfl, wl, _, _, _, rfl, rfl, SqL.of atW, rfl, by show 2 ≤ sizeLine; decide, fun t0 ht0 => ⟨t0, _, rfl, .inr (SqT.of upd_same), rfl, rfl, !inV (V.str d) [V.str (Str.ofString "up"), V.str (Str.ofString "down")], rfl, ?_⟩⟩
      have s2 := Same.new (o := .tup [.str (Str.ofString "up"), .str (Str.ofString "down")]) (Same.refl H1) ht0
      rw [in_way]
      by_cases cd : d = Str.ofString "up" ∨ d = Str.ofString "down"
      case neg =>
        rw [decide_eq_false cd]
        exact iteT (stop (by rw [hv]; exact if_neg cd) (sW.trans s2))
      rw [decide_eq_true cd]
      refine iteF ?_
      have at2 := s2 _ _ atW
      generalize upd H1 t0 (.tup [.str (Str.ofString "up"), .str (Str.ofString "down")]) = H2 at s2 at2 ⊢
      refine ⟨_, rfl, wl, _, _, _, rfl, rfl, SqL.of at2, rfl, _, rfl, wl, _, _, _, rfl, rfl, SqL.of at2, rfl, _, rfl, wl, _, _, _, rfl, rfl, SqL.of at2, rfl, _, rfl, wl, _, _, _, rfl, rfl, SqL.of at2, rfl, by show 4 ≤ sizeLine; decide, fun t1 ht1 => ⟨t1, rfl, ⟨_, SqT.of upd_same⟩, fun D hD => ?_⟩⟩
      have s3 := Same.new (o := .tup [.str a, .str b, .str c, .str e]) (Same.refl H2) ht1
      have at3 : upd H2 t1 (.tup [.str a, .str b, .str c, .str e]) t1 = some (.tup [.str a, .str b, .str c, .str e]) := upd_same
      have hD' : upd H2 t1 (.tup [.str a, .str b, .str c, .str e]) D = none := hD
      clear hD
      generalize upd H2 t1 (.tup [.str a, .str b, .str c, .str e]) = H3 at s3 at3 hD' ⊢
      have sD := Same.new (o := .lst []) (Same.refl H3) hD'
      refine lc_tup (xs := [.str a, .str b, .str c, .str e]) (fun i H' => H' D = some (.lst ([numV (numRead a), numV (numRead b), numV (numRead c), numV (numRead e)].take i)) ∧ Same H3 H') ⟨upd_same, sD⟩ (fun i H' _ h => SqT.of (h.2 _ _ at3)) ?_ ?_
      · rintro i x H' hi ⟨hDi, sm⟩
        refine ⟨rfl, ?_⟩
        unfold tYes
        refine iteT ?_
        have i4 : i < 4 := (List.getElem?_eq_some_iff.mp hi).1
        have put : ∀ (o : HO) (b : Addr) (u : HO), H3 b = some u → upd H' D o b = some u := fun o b u eb => by
          rw [upd_ne (ne_of_none eb hD')]
          exact sm b u eb
        rcases i with _ | _ | _ | _ | i
        · obtain rfl := Option.some.inj hi
          exact ⟨_, rfl, _, rfl, by omega, _, hDi, by show 0 < sizeLine; decide, upd_same, put _⟩
        · obtain rfl := Option.some.inj hi
          exact ⟨_, rfl, _, rfl, by omega, _, hDi, by show 1 < sizeLine; decide, upd_same, put _⟩
        · obtain rfl := Option.some.inj hi
          exact ⟨_, rfl, _, rfl, by omega, _, hDi, by show 2 < sizeLine; decide, upd_same, put _⟩
        · obtain rfl := Option.some.inj hi
          exact ⟨_, rfl, _, rfl, by omega, _, hDi, by show 3 < sizeLine; decide, upd_same, put _⟩
        · omega
      · rintro H4 ⟨hD4, s4⟩
        have sN := ((sW.trans s2).trans s3).trans s4
        have at4 := s4 _ _ (s3 _ _ at2)
        cases ha : numRead a <;> cases hb : numRead b <;> cases hc : numRead c <;> cases he : numRead e <;> rw [ha, hb, hc, he] at hD4
        case some.some.some.some =>
          refine ⟨_, rfl, D, _, rfl, .inl (SqL.of hD4), rfl, rfl, false, rfl, iteF ?_⟩
          refine ⟨_, rfl, D, _, rfl, .inr (SqL.of hD4), _, rfl, wl, _, _, _, rfl, rfl, SqL.of at4, rfl, rfl, ?_⟩
          rw [show decide (V.str d = V.str (Str.ofString "down")) = decide (d = Str.ofString "down") by by_cases z : d = Str.ofString "down" <;> simp [z]]
          refine ⟨_, rfl, by show 6 ≤ sizeLine; decide, fun x hx => ?_⟩
          exact some_ _ (by rw [hv]; unfold quad; rw [if_pos cd, ha, hb, hc, he]) x _ (L2.Same.free sN hx) (Same.new sN hx) upd_same
        all_goals exact ⟨_, rfl, D, _, rfl, .inl (SqL.of hD4), rfl, rfl, true, rfl, iteT (stop (by rw [hv]; unfold quad; rw [if_pos cd, ha, hb, hc, he]) sN)⟩
end
end TT

set_option maxHeartbeats 4000000
namespace TT
open PySem PySem.Spec PyProof.Rows L2 LamX TL L2H HotX
/-! ### Tie.of, of any value -/
theorem Out.mono {E : XK} {C : Addr} {v : V} {H H1 : Hp} (o : Out E C v H) (s : Same H H1) : Out E C v H1 := fun d H' s' hd e => o d H' (s.trans s') (L2.Same.free s hd) e
def Row.Fits (r : Row) : Prop := 0 ≤ r.f ∧ 0 ≤ r.s ∧ 1 ≤ r.l ∧ (if r.s > r.f then r.s else r.f) + r.l ≤ 10 ^ 30
instance (r : Row) : Decidable r.Fits := by unfold Row.Fits; infer_instance
/-- the tie of a raw row -/
def Row.tied (r : Row) : Row := ⟨r.f, r.s, r.l, r.a, r.d, r.b && decide (1 < r.l)⟩
/-- the tie that a text tells -/
def tieOf (t : Str) : Option Row := match vals (Txt.split t (Str.ofString " ")) with
  | some r => if r.Fits then some r.tied else none
  | none => none
theorem numRead_bd {w : Str} {n : Int} (h : w.length ≤ 50) (e : numRead w = some n) : -(10 ^ 60) < n ∧ n < 10 ^ 60 := by
  unfold numRead at e
  by_cases a : allDig (digs w) = true
  · rw [if_pos a] at e
    by_cases b : (digs w).head? = some 48 ∧ tl w ≠ [48]
    · rw [if_pos b] at e
      cases e
    · rw [if_neg b] at e
      have hl : (digs w).length ≤ 50 := by
        have := len_tl w
        unfold digs
        split
        · rw [List.length_drop]
          omega
        · omega
      have v := val_lt _ (digs w) rfl (allDig_iff.mp a).2
      have v2 : NumText.digitsVal (digs w) < 10 ^ 50 := Nat.lt_of_lt_of_le v (Nat.pow_le_pow_right (by decide) hl)
      have e50 : ((10 ^ 50 : Nat) : Int) < 10 ^ 60 := by decide +kernel
      have v3 : ((NumText.digitsVal (digs w) : Nat) : Int) < ((10 ^ 50 : Nat) : Int) := Int.ofNat_lt.mpr v2
      have e := Option.some.inj e
      generalize ((10 ^ 50 : Nat) : Int) = m at *
      split at e <;> omega
  · rw [if_neg a] at e
    cases e
theorem quad_a {a b c d e : Str} {bk : Bool} {r : Row} (h : quad a b c d e bk = some r) : numRead e = some r.a := by
  unfold quad at h
  split at h
  · split at h
    · rename_i h4
      cases h
      exact h4
    · cases h
  · cases h
theorem vals_a {ws : List Str} {r : Row} (w : ∀ p ∈ ws, p.length ≤ 50) (h : vals ws = some r) : -(10 ^ 60) < r.a ∧ r.a < 10 ^ 60 := by
  rcases shapes ws with ⟨a, b, c, d, e, rfl⟩ | ⟨a, b, c, d, e, f, rfl⟩ | ⟨_, _, n⟩
  · have h' : quad a b c d e false = some r := h
    exact numRead_bd (w e (by simp)) (quad_a h')
  · have h' : (if f = Str.ofString "back" then quad a b c d e true else none) = some r := h
    split at h'
    · exact numRead_bd (w e (by simp)) (quad_a h')
    · cases h'
  · rw [n] at h
    cases h
theorem Row.tied_ok {r : Row} (h : r.Fits) (a : -(10 ^ 60) < r.a ∧ r.a < 10 ^ 60) : r.tied.Ok := by
  obtain ⟨h1, h2, h3, h4⟩ := h
  refine ⟨h1, h2, h3, ?_, ?_, a.1, a.2, fun b => ?_⟩
  · show r.f + r.l ≤ 10 ^ 30
    split at h4 <;> omega
  · show r.s + r.l ≤ 10 ^ 30
    split at h4 <;> omega
  · have b' : (r.b && decide (1 < r.l)) = true := b
    rw [Bool.and_eq_true] at b'
    exact of_decide_eq_true b'.2
theorem ver_raw (r : Row) : (ver (.int r.f) (.int r.s) (.int r.l) (.int r.a) (.bl r.d) (.bl r.b) = none ∧ r.Fits) ∨ (¬ r.Fits ∧ ∃ i j, ver (.int r.f) (.int r.s) (.int r.l) (.int r.a) (.bl r.d) (.bl r.b) = some (i, j) ∧ i < 2) := by
  unfold ver verP
  rw [from0_int, from0_int, from0_int]
  by_cases c1 : 0 ≤ r.f
  · rw [decide_eq_true c1, if_pos rfl]
    by_cases c2 : 0 ≤ r.s
    · rw [decide_eq_true c2, if_pos rfl]
      by_cases c3 : 1 ≤ r.l
      · rw [decide_eq_true c3, if_pos rfl]
        dsimp only
        by_cases c4 : (if r.s > r.f then r.s else r.f) + r.l > 10 ^ 30
        · rw [if_pos c4]
          exact .inr ⟨fun h => absurd h.2.2.2 (by omega), _, _, rfl, by decide⟩
        · rw [if_neg c4]
          exact .inl ⟨rfl, c1, c2, c3, by omega⟩
      · rw [decide_eq_false c3, if_neg Bool.false_ne_true]
        exact .inr ⟨fun h => c3 h.2.2.1, _, _, rfl, by decide⟩
    · rw [decide_eq_false c2, if_neg Bool.false_ne_true]
      exact .inr ⟨fun h => c2 h.2.1, _, _, rfl, by decide⟩
  · rw [decide_eq_false c1, if_neg Bool.false_ne_true]
    exact .inr ⟨fun h => c1 h.1, _, _, rfl, by decide⟩
theorem ExcT.exmNe {K : PySem.W.Frag} {cE fI C D : Addr} (a : ExcT K cE fI C) (b : ExcT K cE fI D) : ∃ x, PySem.W.exmOne K (.ref C) (.ref D) = some x ∧ (C = D → x = true) := by
  refine ⟨(Value.ref C :: chain cE C).contains (.ref D), PySem.W.exm_ref b.ox.exC b.xf.hdC b.ox.tyC (a.sub _), fun e => ?_⟩
  subst e
  simp
/-- caught by one of the two -/
theorem pair_caught {K : PySem.W.Frag} {cE fI C A B : Addr} (c : ExcT K cE fI C) (a : ExcT K cE fI A) (b : ExcT K cE fI B) (h : C = A ∨ C = B) : PySem.W.exmAny K (.ref C) [.ref A, .ref B] = some true := by
  obtain ⟨x, hx, ex⟩ := c.exmNe a
  obtain ⟨y, hy, ey⟩ := c.exmNe b
  show (match PySem.W.exmOne K (.ref C) (.ref A), (match PySem.W.exmOne K (.ref C) (.ref B), some false with | some b, some d => some (b || d) | _, _ => none) with | some b, some d => some (b || d) | _, _ => none) = some true
  rw [hx, hy]
  rcases h with h | h
  · rw [ex h]
    rfl
  · rw [ey h]
    cases x <;> rfl
def sp_T_of (K : PySem.W.Frag) (Z : Zs) : Sp := fun vs H Q E => ∃ v, vs = [v] ∧ ((∃ t, v = .str t ∧ Fine t ∧ (∀ r, tieOf t = some r → ∀ x H', H x = none → Same H H' → TieAt Z.cC H' x r → Q (.ref x) H') ∧ (tieOf t = none → Out E (Z.c 4) v H)) ∨ (NoStr K H v ∧ Out E (Z.c 4) v H))
section
variable {P : Program} {w : World} {K : PySem.W.Frag} {mg : Str → Option Value} {base : Heap} {Z : Zs}
theorem ok_T_of (T : Txt K mg Z) : FnOk P w K mg base (L2.CX P w) 9 Z.f_T_of Z.d_T_of ["text"] (sp_T_of K Z) := by
  refine T.F_T_of.okX sc_T_of (fun vs H Q E h => ?_) (fun cdv A outer s H vs Q E hr h => ?_)
  · obtain ⟨v, rfl, _⟩ := h
    rfl
  · obtain ⟨v, rfl, h⟩ := h
    obtain ⟨its, mv, kb⟩ := kb_tie T
    refine ⟨_, (pss_cons (ps_set (i := 1) sc_T_of.nd rfl (Or.inl rfl) (pe_call (ok_values_in T) (hr.mono (by decide)) rfl T.g_values_in T.k_values_in T.bn_values_in .nil pass0 (pa_cons (pv 0) pa_nil)))
      (pss_cons (ps_if (pt_cmpR op_isN (pv 1) pe_non (nomark _)) (pss_one (ps_raise rfl (takes_of rfl rfl rfl rfl) (pmk_oex (T.ex 4 (by decide)).ox (T.ex 4 (by decide)).ini T.t_E_init (ok_E_init T) (hr.mono (by decide)) T.bn_E_init .nil pass0 rfl T.g_BadText (pa_cons (pv 0) pa_nil)))) pss_nil)
      (pss_cons (ps_asg (pv 1) (pg_tup rfl (pgs_cons (pg_name (i := 2) sc_T_of.nd rfl (Or.inl rfl)) (pgs_cons (pg_name (i := 3) sc_T_of.nd rfl (Or.inl rfl)) (pgs_cons (pg_name (i := 4) sc_T_of.nd rfl (Or.inl rfl)) (pgs_cons (pg_name (i := 5) sc_T_of.nd rfl (Or.inl rfl)) (pgs_cons (pg_name (i := 6) sc_T_of.nd rfl (Or.inl rfl)) (pgs_cons (pg_name (i := 7) sc_T_of.nd rfl (Or.inl rfl)) pgs_nil))))))))
      (pss_cons (ps_try_pairX (c1 := .ref (Z.c 0)) (c2 := .ref (Z.c 1)) rfl rfl ⟨by rfl, by decide, .inl T.g_BadPlace⟩ ⟨by rfl, by decide, .inl T.g_BadLength⟩ (fun hd => passesAt_of rfl hd) (takes_of rfl rfl rfl rfl)
        (fun W pn xe tk _ _ => pss_one (ps_set (i := 8) sc_T_of.nd rfl (Or.inl rfl) (pe_makeKS (mkT T) (ok_T_initN T) (hr.mono (by decide)) rfl T.g_C kb (fun σ => L2N.passAt tk σ) (pa_cons (pv 2) (pa_cons (pv 3) (pa_cons (pv 4) (pa_cons (pv 5) pa_nil)))) (pk_cons (pv 6) (pk_cons (pv 7) pk_nil)))))
        (fun a oe cls d pn _ _ tk hot => pss_one (ps_raiseHN hot tk (pmk5_oexH (T.ex 4 (by decide)).ox (T.ex 4 (by decide)).ini T.t_E_init (ok_E_initH T) (roomH_mark (hr.mono (by decide)) _) hot T.bn_E_init pass0 rfl T.g_BadText (pa_cons (pv 0) pa_nil)))))
      (pss_one (ps_ret (pv 8))))))), ?_⟩
    have x4 := T.ex 4 (by decide)
    rcases h with ⟨t, rfl, fine, yes, no⟩ | ⟨ns, out⟩
    case inr => exact ⟨_, rfl, v, rfl, .inr ⟨ns, _, rfl, rfl, _, rfl, iteT ⟨_, rfl, mkR x4 out⟩⟩⟩
    refine ⟨_, rfl, .str t, rfl, .inl ⟨t, rfl, fine, fun r er x H1 nx s1 hx => ?_, fun en H1 s1 => ?_⟩⟩
    case refine_2 =>
      have e : tieOf t = none := by
        unfold tieOf
        rw [en]
      exact ⟨_, rfl, rfl, _, rfl, iteT ⟨_, rfl, mkR x4 ((no e).mono s1)⟩⟩
    have ab := vals_a fine.wd er
    refine ⟨_, rfl, rfl, _, rfl, iteF ?_⟩
    refine ⟨_, rfl, x, _, rfl, SqT.of hx, rfl, _, _, rfl, _, _, rfl, _, _, rfl, _, _, rfl, _, _, rfl, _, _, rfl, rfl, ?_⟩
    refine ⟨_, rfl, _, rfl, _, rfl, _, rfl, _, rfl, _, rfl, rfl, rfl, fun y dx ny nd ne => ?_⟩
    have ki : ∀ (H : Hp) (i : Int), Kn K H (.int i) := fun H i => (Odd.fl (p := y) (.int i)).kn
    have kb' : ∀ (H : Hp) (i : Bool), Kn K H (.bl i) := fun H i => (Odd.fl (p := y) (.bl i)).kn
    refine ⟨y, dx, _, _, _, _, _, _, rfl, upd_same, ki _ _, ki _ _, ki _ _, ki _ _, kb' _ _, kb' _ _, fun e => ?_, fun i j e => ?_⟩
    · have ft : r.Fits := by
        rcases ver_raw r with ⟨_, f⟩ | ⟨_, i, j, e2, _⟩
        · exact f
        · rw [e2] at e
          cases e
      refine ⟨r.tied, r.b, rfl, Row.tied_ok ft ab, rfl, fun H' hy kp => ⟨rfl, _, rfl, ?_⟩⟩
      have s2 : Same H1 H' := made ny nd kp
      exact yes _ (by unfold tieOf; rw [er]; exact if_pos ft) y H' (L2.Same.free s1 ny) (s1.trans s2) ⟨dx, hy⟩
    · obtain ⟨nf, i2⟩ : ¬ r.Fits ∧ i < 2 := by
        rcases ver_raw r with ⟨e2, _⟩ | ⟨nf, i', j', e2, l⟩
        · rw [e2] at e
          cases e
        · rw [e2] at e
          cases e
          exact ⟨nf, l⟩
      have o := no (by unfold tieOf; rw [er]; exact if_neg nf)
      intro d H' s' hd ed
      have sN : Same H H' := fun b u eb => by
        have e1 := s1 _ _ eb
        refine s' _ _ ?_
        rw [upd_ne (ne_of_none e1 ny), upd_ne (ne_of_none e1 nd)]
        exact e1
      refine ⟨true, pair_caught (T.ex i (by omega)) (T.ex 0 (by decide)) (T.ex 1 (by decide)) ?_, fun _ a ha => ⟨_, rfl, mkR x4 (o.mono sN)⟩, fun z => nomatch z⟩
      rcases i with _ | _ | i
      · exact .inl rfl
      · exact .inr rfl
      · omega
end
end TT

set_option maxHeartbeats 4000000
namespace TT
open PySem PySem.Spec PyProof.Rows L2 LamX TL
/-! ### the law's texts and figures -/
theorem lc_str {x : Str} {g : TG} {tt : TT} {te : TE} {vs : List Nat} {σ : L2.St} {H1 : Hp} {D : Addr} {Qd : Hp → Prop} (Pv : Nat → Hp → Prop) (h0 : Pv 0 (upd H1 D (.lst [])))
    (hs : ∀ i c H, x.cps[i]? = some c → Pv i H → g (.str ⟨#[c]⟩) (wipe σ vs) H fun σ2 H2 => wipe σ2 vs = wipe σ vs ∧ tt σ2 H2 fun b H3 =>
      if b = true then te σ2 H3 fun y H4 => ∃ acc, H4 D = some (.lst acc) ∧ acc.length < sizeLine ∧ Pv (i + 1) (upd H4 D (.lst (acc ++ [y]))) else Pv (i + 1) H3) (hd : ∀ H, Pv x.cps.size H → Qd H) :
    ∃ W : Nat → Nat → Hp → Prop, (∃ m, W 0 m (upd H1 D (.lst []))) ∧ ∀ i m H, W i m H →
      ((Its x).stop i H ∧ Qd H) ∨ ((Its x).go i H ∧ ∃ Nx : Hp → Prop, (∀ H', Nx H' → ∃ m', m' < m ∧ W (i + 1) m' H') ∧ ∀ y H', (Its x).yld i H y H' → g y (wipe σ vs) H' fun σ2 H2 => wipe σ2 vs = wipe σ vs ∧ tt σ2 H2 fun b H3 =>
        if b = true then te σ2 H3 fun y H4 => ∃ acc, H4 D = some (.lst acc) ∧ acc.length < sizeLine ∧ Nx (upd H4 D (.lst (acc ++ [y]))) else Nx H3) := by
  refine ⟨fun i m H => m = x.cps.size - i ∧ i ≤ x.cps.size ∧ Pv i H, ⟨x.cps.size, by simp, Nat.zero_le _, h0⟩, ?_⟩
  rintro i m H ⟨rfl, hi, p⟩
  by_cases hlt : i < x.cps.size
  · refine .inr ⟨hlt, Pv (i + 1), fun H' p' => ⟨x.cps.size - (i + 1), by omega, rfl, hlt, p'⟩, fun v H' y => ?_⟩
    obtain ⟨e, c, hc, ev⟩ := y
    subst e ev
    exact hs i c _ hc p
  · have e : i = x.cps.size := by omega
    subst e
    exact .inl ⟨Nat.le_refl _, hd _ p⟩
/-- str of any integer -/
theorem str_int (n : Int) : Str.ofString (toString n) = shownInt n := by
  unfold shownInt
  cases n with
  | ofNat m => exact (if_neg (show ¬ Int.ofNat m < 0 from Int.not_lt.mpr (Int.natCast_nonneg m))).symm
  | negSucc m =>
    rw [if_pos (Int.negSucc_lt_zero m)]
    refine ext_tl ?_
    rw [tl_append, tl_str, tl_str, tl_str]
    have e : -(Int.negSucc m) = ((m + 1 : Nat) : Int) := rfl
    rw [e]
    have e1 : toString (Int.negSucc m) = "-" ++ toString (m + 1) := rfl
    have e2 : toString (((m + 1 : Nat)) : Int) = toString (m + 1) := rfl
    rw [e1, e2, String.toList_append, List.map_append]
def sp_l_text_of : Sp := fun vs H Q _ => ∃ (q : Addr) (r : Row), vs = [.ref q] ∧ RowAt H q r ∧ r.Ok ∧ ∀ H', Same H H' → Q (.str (rowText r r.b)) H'
/-- the figure that Python writes as this word: the law's own reading -/
def sp_l_figure : Sp := fun vs H Q _ => ∃ w : Str, vs = [.str w] ∧ w.length ≤ 50 ∧ ∀ H', Same H H' → Q (numV (numRead w)) H'
theorem log_le {i : Int} (h0 : -(10 ^ 60) < i) (h1 : i < 10 ^ 60) : i.natAbs.log2 < 1920 := by
  have a : i.natAbs < 10 ^ 60 := by omega
  have b : 10 ^ 60 < 2 ^ 1920 := by decide +kernel
  by_cases z : i.natAbs = 0
  · rw [z]
    decide
  · exact (Nat.log2_lt z).mpr (Nat.lt_trans a b)
theorem words_sum {r : Row} (ok : r.Ok) (bk : Bool) : ((wordsOf r bk).map (·.length)).sum + (wordsOf r bk).length * (Str.ofString " ").length ≤ 300 := by
  have hf := ok.f0; have hs := ok.s0; have hl := ok.l0; have hfe := ok.fe; have hse := ok.se
  have l30 : (10 : Int) ^ 30 < 10 ^ 31 := by decide +kernel
  have zf : (Str.ofString (toString r.f)).length ≤ 31 := toString_length_le hf (by decide) (by omega)
  have zs : (Str.ofString (toString r.s)).length ≤ 31 := toString_length_le hs (by decide) (by omega)
  have zl : (Str.ofString (toString r.l)).length ≤ 31 := toString_length_le (by omega) (by decide) (by omega)
  have za := shown_len60 ok.al ok.ah
  have zw : (way r.d).length ≤ 4 := by
    unfold way
    split <;> decide
  have z1 : (Str.ofString " ").length = 1 := by decide
  have zb : (Str.ofString "back").length = 4 := by decide
  rw [z1]
  unfold wordsOf
  cases bk <;> simp only [Bool.false_eq_true, if_true, if_false, List.cons_append, List.nil_append, List.append_nil, List.map_cons, List.map_nil, List.sum_cons, List.sum_nil, List.length_cons, List.length_nil] <;> omega
theorem cut_to1 (w : Str) : tl (cutS w none (some 1)) = (tl w).take 1 := by
  have hl := len_tl w
  unfold cutS
  show (((tl w).drop (HT.sIx w.length 0 none)).take (HT.sIx w.length w.length (some 1) - HT.sIx w.length 0 none)) = _
  have e1 : HT.sIx w.length 0 none = 0 := rfl
  have e2 : HT.sIx w.length w.length (some 1) = min 1 w.length := by
    show (if (1 : Int) < 0 then ((1 : Int) + (w.length : Int)).toNat else min (1 : Int).toNat w.length) = _
    rw [if_neg (by decide)]
    rfl
  rw [e1, e2, List.drop_zero, Nat.sub_zero]
  by_cases c : w.length = 0
  · have : tl w = [] := List.length_eq_zero_iff.mp (by omega)
    rw [this]
    simp
  · rw [show min 1 w.length = 1 by omega]
theorem digits_in (c : Nat) : decide (c ∈ (Str.ofString "0123456789").cps.toList) = (decide (48 ≤ c) && decide (c ≤ 57)) := by
  have e : (Str.ofString "0123456789").cps.toList = [48, 49, 50, 51, 52, 53, 54, 55, 56, 57] := by decide +kernel
  rw [e, Bool.eq_iff_iff]
  simp only [List.mem_cons, List.not_mem_nil, or_false, decide_eq_true_eq, Bool.and_eq_true]
  omega
section
variable {P : Program} {w : World} {K : PySem.W.Frag} {mg : Str → Option Value} {base : Heap} {Z : Zs}
theorem ok_l_text_of (T : Txt K mg Z) : FnOk P w K mg base CX0 1 Z.f_l_text_of Z.d_l_text_of ["_law_row_here"] sp_l_text_of := by
  refine T.F_l_text_of.ok sc_l_text_of (fun vs H Q E h => ?_) (fun cdv A outer s H vs Q E hr h => ?_)
  · obtain ⟨q, r, rfl, _⟩ := h
    rfl
  · obtain ⟨q, r, rfl, hq, ok, k⟩ := h
    refine ⟨_, (pss_cons (ps_set (i := 1) sc_l_text_of.nd rfl (Or.inl rfl) (pe_lst (pa_cons (pe_callTy call_str_int (by rfl) T.b_str (by decide +kernel) (pa_cons (pe_ix ix_tup (pv 0) pe_int (fun _ _ => rfl)) pa_nil)) (pa_cons (pe_callTy call_str_int (by rfl) T.b_str (by decide +kernel) (pa_cons (pe_ix ix_tup (pv 0) pe_int (fun _ _ => rfl)) pa_nil)) (pa_cons (pe_callTy call_str_int (by rfl) T.b_str (by decide +kernel) (pa_cons (pe_ix ix_tup (pv 0) pe_int (fun _ _ => rfl)) pa_nil)) (pa_cons (pe_ifExp (pt_val (pe_ix ix_tup (pv 0) pe_int (fun _ _ => rfl))) pe_str pe_str) (pa_cons (pe_callTy call_str_int (by rfl) T.b_str (by decide +kernel) (pa_cons (pe_ix ix_tup (pv 0) pe_int (fun _ _ => rfl)) pa_nil)) pa_nil)))))))
      (pss_one (ps_ret (pe_join pe_str (pe_op op_cat (pv 1) (pe_ifExp (pt_val (pe_ix ix_tup (pv 0) pe_int (fun _ _ => rfl))) (pe_lst (pa_cons pe_str pa_nil)) (pe_lst pa_nil))))))), ?_⟩
    have sl : sizeLine = 16777216 := sizeLine_eq
    have rl := row_len ok r.b
    have h1 := ok.f0; have h2 := ok.s0; have h3 := ok.l0; have h4 := ok.fe; have h5 := ok.se
    have e60 : (10 : Int) ^ 30 < 10 ^ 60 := by decide +kernel
    have hq' : H q = some (.tup [.int r.f, .int r.s, .int r.l, .int r.a, .bl r.d, .bl r.b]) := hq
    have at_ := SqT.of (K := K) hq'
    refine ⟨_, rfl, q, _, _, _, rfl, rfl, at_, rfl, _, rfl, log_le (by omega) (by omega), _, rfl, q, _, _, _, rfl, rfl, at_, rfl, _, rfl, log_le (by omega) (by omega), _, rfl, q, _, _, _, rfl, rfl, at_, rfl, _, rfl, log_le (by omega) (by omega), ?_⟩
    have ws := words_sum ok r.b
    clear rl
    obtain ⟨rf, rs, rl, ra, rd, rb⟩ := r
    dsimp only at *
    have step : ∀ (H' : Hp), Same H H' → Q (.str (Txt.join (Str.ofString " ") (wordsOf ⟨rf, rs, rl, ra, rd, rb⟩ rb))) H' := k
    cases rd <;> cases rb
    all_goals
      refine ⟨_, rfl, q, _, _, _, rfl, rfl, at_, rfl, _, rfl, ?_⟩
      first
        | refine iteT ?_
        | refine iteF ?_
      refine ⟨_, rfl, q, _, _, _, rfl, rfl, at_, rfl, _, rfl, log_le ok.al ok.ah, ?_⟩
      rw [str_int ra]
      refine ⟨by show 5 ≤ sizeLine; decide, fun w hw => ⟨⟨_, rfl⟩, _, rfl, ?_⟩⟩
      have sw : ∀ o, Same H (upd H w o) := fun o => Same.new (Same.refl H) hw
      refine ⟨_, rfl, q, _, _, _, rfl, rfl, SqT.of (sw _ _ _ hq'), rfl, _, rfl, ?_⟩
      first
        | (refine iteT ⟨by show 1 ≤ sizeLine; decide, fun u hu => ⟨w, u, _, _, rfl, rfl, (by rw [upd_ne (ne_of_none upd_same hu)]; exact upd_same), upd_same, by show 5 + 1 ≤ sizeLine; decide, fun p hp => ⟨_, p, _, rfl, rfl, .inl (SqL.of upd_same), Nat.le_trans ws (by decide), step _ (Same.new (Same.new (sw _) hu) hp)⟩⟩⟩)
        | (refine iteF ⟨by show 0 ≤ sizeLine; decide, fun u hu => ⟨w, u, _, _, rfl, rfl, (by rw [upd_ne (ne_of_none upd_same hu)]; exact upd_same), upd_same, by show 5 + 0 ≤ sizeLine; decide, fun p hp => ⟨_, p, _, rfl, rfl, .inl (SqL.of upd_same), Nat.le_trans ws (by decide), step _ (Same.new (Same.new (sw _) hu) hp)⟩⟩⟩)
theorem ok_l_figure (T : Txt K mg Z) : FnOk P w K mg base CX0 1 Z.f_l_figure Z.d_l_figure ["_law_word"] sp_l_figure := by
  refine T.F_l_figure.ok sc_l_figure (fun vs H Q E h => ?_) (fun cdv A outer s H vs Q E hr h => ?_)
  · obtain ⟨w, rfl, _⟩ := h
    rfl
  · obtain ⟨w, rfl, hl, k⟩ := h
    refine ⟨_, (pss_cons (ps_set (i := 1) sc_l_figure.nd rfl (Or.inl rfl) (pe_ifExp (pt_cmpR op_eq (pe_slice sl_str (pv 0) po_none (po_some pe_int)) pe_str (nomark _)) (pe_slice sl_str (pv 0) (po_some pe_int) po_none) (pv 0)))
      (pss_cons (ps_if (PW.pt (pw_or (pt_cmpR op_eq (pv 1) pe_str (nomark _)) (pw_or (pt_not (pt_val (pe_callB  (cr_all rfl) (by rfl) T.b_all (by decide +kernel) (pa_cons (pe_lc (own := [("_law_sign", 2)]) rfl sc_l_figure.nd (pi_str (pv 1)) (blkOk_by (own := [("_law_sign", 2)]) (N := ["_law_word", "_law_size", "_law_sign"]) (sc := defScope s_l_figure) (by decide +kernel)) (fun _ _ _ _ _ => (pg_name (i := 2) sc_l_figure.nd rfl (Or.inl rfl))) (fun _ _ _ _ _ => pts_nil) (fun _ _ _ _ _ => (pe_cmpR op_in_sign (pv 2) pe_str (by with_unfolding_all rfl)))) pa_nil)))) (pw_or1 (PW.pt (pw_and (pt_cmpR op_eq (pe_ix ix_str (pv 1) pe_int (fun _ _ => rfl)) pe_str (nomark _)) (pw_and1 (pt_cmpR op_ne (pv 0) pe_str (nomark _))))))))) (pss_one (ps_ret pe_non)) pss_nil)
      (pss_one (ps_ret (pe_callTy call_int_str (by rfl) T.b_int (by decide +kernel) (pa_cons (pv 0) pa_nil)))))), ?_⟩
    have sl : sizeLine = 16777216 := sizeLine_eq
    have dash : Str.ofString "-" = ⟨#[45]⟩ := by decide +kernel
    have isd : decide (V.str (cutS w none (some 1)) = V.str (Str.ofString "-")) = decide ((tl w).head? = some 45) := by
      rw [str_eq_tl, cut_to1, dash]
      show decide ((tl w).take 1 = [45]) = _
      cases tl w <;> simp
    refine ⟨_, rfl, _, rfl, w, rfl, by omega, rfl, _, rfl, ?_⟩
    rw [isd]
    refine' shareS (fun g => tl g = digs w) (fun tail => ite2 (fun c => ?b1) (fun c => ?b2)) ?b3
    case b1 =>
      refine ⟨_, rfl, _, rfl, w, rfl, by omega, ?_⟩
      obtain ⟨g, hg⟩ : ∃ g, g = cutS w (some 1) none := ⟨_, rfl⟩
      rw [← hg]
      refine tail g ?_
      rw [hg, cut_one]
      unfold digs
      rw [if_pos (of_decide_eq_true c)]
    case b2 =>
      refine ⟨_, rfl, tail w ?_⟩
      unfold digs
      rw [if_neg (fun z => c (decide_eq_true z))]
    case b3 =>
      intro g hg
      have hlg : g.length ≤ 50 := by
        rw [len_tl, hg]
        have := len_tl w
        unfold digs
        split
        · rw [List.length_drop]
          omega
        · omega
      have em : decide (V.str g = V.str (Str.ofString "")) = decide (digs w = []) := by
        rw [str_eq_tl, hg]
        rfl
      refine ⟨_, rfl, rfl, _, rfl, ?_⟩
      rw [em]
      by_cases c0 : digs w = []
      · rw [decide_eq_true c0]
        refine iteT (iteT ?_)
        have e : numRead w = none := by
          unfold numRead
          rw [c0]
          rfl
        rw [e] at k
        exact k H (Same.refl H)
      rw [decide_eq_false c0]
      refine iteF ⟨_, rfl, g, rfl, fun D hD => ?_⟩
      refine lc_str (fun i H' => H' D = some (.lst (((tl g).take i).map fun c => V.bl (decide (48 ≤ c) && decide (c ≤ 57)))) ∧ ∀ b u, H b = some u → H' b = some u) ⟨upd_same, Same.new (Same.refl H) hD⟩ ?_ ?_
      · rintro i c H' hc ⟨hDi, sm⟩
        refine ⟨rfl, ?_⟩
        unfold tYes
        refine iteT ⟨_, rfl, c, _, rfl, rfl, _, hDi, ?_, ?_, fun b u eb => ?_⟩
        · rw [List.length_map, List.length_take]
          have := len_tl g
          omega
        · rw [digits_in, upd_same]
          have hc' : (tl g)[i]? = some c := by rw [← hc]; simp [tl]
          rw [List.take_add_one, hc', List.map_append]
          rfl
        · rw [upd_ne (ne_of_none eb hD)]
          exact sm b u eb
      · rintro H1 ⟨hD1, s1⟩
        have hD2 : H1 D = some (.lst (((tl g).map fun c => (decide (48 ≤ c) && decide (c ≤ 57))).map V.bl)) := by
          rw [hD1, List.map_map]
          have e : (tl g).take g.cps.size = tl g := List.take_of_length_le (by simp [tl])
          rw [e]
          rfl
        have k1 : ∀ {v : V}, numV (numRead w) = v → Q v H1 := fun e => by
          rw [← e]
          exact k H1 s1
        refine ⟨D, _, rfl, SqL.of hD2, _, rfl, ?_⟩
        have ea : ((tl g).map fun c => (decide (48 ≤ c) && decide (c ≤ 57))).all id = allDig (digs w) := by
          unfold allDig
          rw [hg, List.all_map]
          have : (digs w).isEmpty = false := by simpa using c0
          rw [this]
          rfl
        rw [ea]
        by_cases ad : allDig (digs w) = true
        case neg =>
          have ad' : allDig (digs w) = false := by simpa using ad
          rw [ad']
          refine iteT (iteT (k1 ?_))
          unfold numRead
          rw [if_neg ad]
          rfl
        rw [ad]
        refine iteF ?_
        have ds := (allDig_iff.mp ad).2
        have last : ¬ ((digs w).head? = some 48 ∧ tl w ≠ [48]) → ∃ a n, [V.str w] = [.str a] ∧ intText? a = some n ∧ a.length ≤ 640 ∧ Q (.int n) H1 := fun no => by
          have e : numRead w = some (if (tl w).head? = some 45 then -((NumText.digitsVal (digs w) : Nat) : Int) else ((NumText.digitsVal (digs w) : Nat) : Int)) := by
            unfold numRead
            rw [if_pos ad, if_neg no]
          refine ⟨w, _, rfl, ?_, by omega, k1 (by rw [e] <;> rfl)⟩
          by_cases c : (tl w).head? = some 45
          · rw [if_pos c]
            have dw : digs w = (tl w).drop 1 := if_pos c
            have hw : tl w = 45 :: digs w := by
              rw [dw]
              cases h : tl w with
              | nil => rw [h] at c; cases c
              | cons a l =>
                rw [h] at c
                cases c
                rfl
            exact intText_neg hw ds c0 (by omega)
          · rw [if_neg c]
            have dw : digs w = tl w := if_neg c
            rw [dw] at ds c0 ⊢
            exact intText_digits ds c0 (by omega)
        obtain ⟨c, cs, hc⟩ : ∃ c cs, digs w = c :: cs := by
          cases h : digs w with
          | nil => exact absurd h c0
          | cons c cs => exact ⟨c, cs, rfl⟩
        refine ⟨_, rfl, g, 0, c, rfl, rfl, by omega, ?_, rfl, _, rfl, ?_⟩
        · show atI (tl g) ((0 : Nat) : Int) = some c
          rw [hg, hc]
          exact atI_nat rfl
        have e0 : decide (V.str ⟨#[c]⟩ = V.str (Str.ofString "0")) = decide (c = 48) := by
          rw [str_eq_tl]
          show decide ([c] = [48]) = _
          simp
        rw [e0]
        by_cases z : c = 48
        · rw [decide_eq_true z]
          have e1 : decide (V.str w = V.str (Str.ofString "0")) = decide (tl w = [48]) := by
            rw [str_eq_tl]
            rfl
          refine iteT ⟨_, rfl, rfl, _, rfl, ?_⟩
          rw [e1]
          by_cases z2 : tl w = [48]
          · rw [decide_eq_true z2]
            exact iteF ⟨_, rfl, last fun q => q.2 z2⟩
          · rw [decide_eq_false z2]
            refine iteT (k1 ?_)
            unfold numRead
            rw [if_pos ad, if_pos ⟨by rw [hc, z]; rfl, z2⟩]
            rfl
        · rw [decide_eq_false z]
          refine iteF (iteF ⟨_, rfl, last fun q => z ?_⟩)
          have := q.1
          rw [hc] at this
          exact Option.some.inj this
end
end TT

set_option maxHeartbeats 4000000
namespace TT
open PySem PySem.Spec PyProof.Rows L2 LamX TL
/-! ### not in a pair of data -/
def rNotInD2 (K : PySem.W.Frag) : R2 := fun x y H Q => ∃ p u v d d1 d2, y = .ref p ∧ SqT K H p [u, v] ∧ Dp K H x d ∧ Dp K H u d1 ∧ Dp K H v d2 ∧ SeqAt.shaped d = true ∧ SeqAt.shaped d1 = true ∧ SeqAt.shaped d2 = true ∧ Q (.bl (!(PyData.eqv d1 d || PyData.eqv d2 d))) H
theorem op_notInD2 {X : Cx} (hu : X.A.in1.units + 64 < cLine) : OpR X (compareOp .NotIn) (rNotInD2 X.K) := by
  intro pins s σ H x y v u Q I rx ry h
  obtain ⟨p, a, b, d, d1, d2, rfl, hq, dx, da, db, sx, sa, sb, q⟩ := h
  obtain rfl : u = Value.ref p := ry
  obtain ⟨its, r, pl, hz⟩ := I.tuple hq
  obtain ⟨va, vb, rfl, ra, rb⟩ : ∃ va vb, its = [va, vb] ∧ RelV a va ∧ RelV b vb := by
    cases r with
    | cons r1 r =>
      cases r with
      | cons r2 r =>
        cases r
        exact ⟨_, _, rfl, r1, r2⟩
  obtain ⟨as, r0⟩ := Dp.reads I d x v dx rx
  obtain ⟨as1, r1⟩ := Dp.reads I d1 a va da ra
  obtain ⟨as2, r2⟩ := Dp.reads I d2 b vb db rb
  have c0 := SeqAt.canLay_of_shaped sx; have c1 := SeqAt.canLay_of_shaped sa; have c2 := SeqAt.canLay_of_shaped sb
  have e1 := SeqAt.eqAt_reads d1 d X.A.in1 s va v as1 as r1 r0 c1 c0 (SeqAt.room_of_shaped sa hu)
  have e2 := SeqAt.eqAt_reads d2 d X.A.in1 s vb v as2 as r2 r0 c2 c0 (SeqAt.room_of_shaped sb hu)
  refine SeqAt.notIn_tupleAt (fun w => if w = va then PyData.eqv d1 d else PyData.eqv d2 d) pl (fun w hw => ?_) ⟨.bl _, H, I, rfl, ?_⟩
  · have hw' : w = va ∨ w = vb := by simpa using hw
    by_cases c : w = va
    · rw [if_pos c, c]
      exact e1
    · rw [if_neg c, hw'.resolve_left c]
      exact e2
  · by_cases c : vb = va
    · subst c
      have := SeqAt.Reads.unique d1 d2 vb as1 as2 c1 r1 r2
      subst this
      simpa using q
    · simpa [c] using q
/-! ### what goes on behind an «if» -/
theorem seq_via {c : TT} {a a' b : TS} {D : _} {σ : L2.St} {H : Hp} (C : L2.St → Hp → Prop) (h : (∀ σ H, C σ H → b D σ H) → tSeq (tIfS c a a') b D σ H) (k : ∀ σ H, C σ H → b D σ H) : tSeq (tIfS c a a') b D σ H := h k
theorem name_via {c : TT} {a a' b : TS} {D : Ends} {rt : VK} {bk ct : L2.St → Hp → Prop} {i : Nat} {v : V} {σ : L2.St} {H : Hp} (C : L2.St → Hp → Prop) (h : (∀ σ H, C σ H → b D σ H) → gName i v σ H (Ends.nx { nx := tSeq (tIfS c a a') b D, rt := rt, bk := bk, ct := ct })) (k : ∀ σ H, C σ H → b D σ H) : gName i v σ H (Ends.nx { nx := tSeq (tIfS c a a') b D, rt := rt, bk := bk, ct := ct }) := h k
/-! ### a row told by the law itself -/
def sp_l_row_told (K : PySem.W.Frag) : Sp := fun vs H Q _ => ∃ v, vs = [v] ∧ ((∃ t, v = .str t ∧ Fine t ∧
  (∀ r, tieOf t = some r → ∀ x H', Same H H' → RowAt H' x r → Q (.ref x) H') ∧ (tieOf t = none → ∀ H', Same H H' → Q .non H')) ∨ (NoStr K H v ∧ ∀ H', Same H H' → Q .non H'))
section
variable {P : Program} {w : World} {K : PySem.W.Frag} {mg : Str → Option Value} {base : Heap} {Z : Zs}
theorem ok_l_row_told (T : Txt K mg Z) : FnOk P w K mg base CX0 3 Z.f_l_row_told Z.d_l_row_told ["_law_text"] (sp_l_row_told K) := by
  refine T.F_l_row_told.ok sc_l_row_told (fun vs H Q E h => ?_) (fun cdv A outer s H vs Q E hr h => ?_)
  · obtain ⟨v, rfl, _⟩ := h
    rfl
  · obtain ⟨v, rfl, h⟩ := h
    have sl : sizeLine = 16777216 := sizeLine_eq
    refine ⟨_, (pss_cons (ps_set (i := 1) sc_l_row_told.nd rfl (Or.inl rfl) (pe_ifExp (pt_val (pe_callB  call_isi (by rfl) T.b_isinstance (by decide +kernel) (pa_cons (pv 0) (pa_cons (pe_bltn (v := .ty "str") rfl T.b_str (by decide +kernel) rfl) pa_nil)))) (pe_split (pv 0) pe_str) (pe_lst pa_nil)))
      (pss_cons (ps_if (PW.pt (pw_or (pt_cmpR op_notIn_seq (pe_callB  call_len (by rfl) T.b_len (by decide +kernel) (pa_cons (pv 1) pa_nil)) (pe_tup (pa_cons pe_int (pa_cons pe_int pa_nil))) (by with_unfolding_all rfl)) (pw_or (pt_cmpR op_notIn_seq (pe_ix ix_list (pv 1) pe_int (fun _ _ => rfl)) (pe_tup (pa_cons pe_str (pa_cons pe_str pa_nil))) (by with_unfolding_all rfl)) (pw_or1 (pt_cmpR (op_notInD2 (by exact (hr.mono (j := 1) (by decide)).in1.units)) (pe_slice sl_list (pv 1) (po_some pe_int) po_none) (pe_tup (pa_cons (pe_lst pa_nil) (pa_cons (pe_lst (pa_cons pe_str pa_nil)) pa_nil))) (by with_unfolding_all rfl)))))) (pss_one (ps_ret pe_non)) pss_nil)
      (pss_cons (ps_setLc (i := 2) (own := [("_law_word", 3)]) rfl sc_l_row_told.nd rfl rfl (sw_true rfl rfl rfl (by decide +kernel)) (pi_list (pe_op op_cat (pe_slice sl_list (pv 1) po_none (po_some pe_int)) (pe_slice sl_list (pv 1) (po_some pe_int) (po_some pe_int)))) (blkOk_by (own := [("_law_word", 3)]) (N := ["_law_text", "_law_words", "_law_numbers", "_law_word"]) (sc := defScope s_l_row_told) (by decide +kernel)) (fun _ _ _ _ _ => (pg_name (i := 3) sc_l_row_told.nd rfl (Or.inl rfl))) (fun _ _ _ _ _ => pts_nil) (fun _ _ _ _ _ => (pe_call (ok_l_figure T) (hr.mono (by decide)) rfl T.g_l_figure T.k_l_figure T.bn_l_figure .nil pass0 (pa_cons (pv 3) pa_nil))))
      (pss_cons (ps_if (PW.pt (pw_or (pt_cmpR op_in_seq pe_non (pv 2) (by with_unfolding_all rfl)) (pw_or (pt_cmpR op_lt (pe_callB (cr_min rfl) (by rfl) T.b_min (by decide +kernel) (pa_cons (pe_slice sl_list (pv 2) po_none (po_some pe_int)) pa_nil)) pe_int (nomark _)) (pw_or (pt_cmpR op_lt (pe_ix ix_list (pv 2) pe_int (fun _ _ => rfl)) pe_int (nomark _)) (pw_or1 (pt_cmpR op_gt (pe_op op_add (pe_callB (cr_max rfl) (by rfl) T.b_max (by decide +kernel) (pa_cons (pe_slice sl_list (pv 2) po_none (po_some pe_int)) pa_nil)) (pe_ix ix_list (pv 2) pe_int (fun _ _ => rfl))) (pe_op op_powW pe_int pe_int) (nomark _))))))) (pss_one (ps_ret pe_non)) pss_nil)
      (pss_one (ps_ret (pe_tup (pa_cons (pe_ix ix_list (pv 2) pe_int (fun _ _ => rfl)) (pa_cons (pe_ix ix_list (pv 2) pe_int (fun _ _ => rfl)) (pa_cons (pe_ix ix_list (pv 2) pe_int (fun _ _ => rfl)) (pa_cons (pe_ix ix_list (pv 2) pe_int (fun _ _ => rfl)) (pa_cons (pe_cmpR op_eq (pe_ix ix_list (pv 1) pe_int (fun _ _ => rfl)) pe_str (nomark _)) (pa_cons (pe_and (pe_cmpR op_eq (pe_callB  call_len (by rfl) T.b_len (by decide +kernel) (pa_cons (pv 1) pa_nil)) pe_int (nomark _)) (pe_one (pe_cmpR op_gt (pe_ix ix_list (pv 2) pe_int (fun _ _ => rfl)) pe_int (nomark _)))) pa_nil))))))))))))), ?_⟩
    have y56 : ∀ n : Int, inV (V.int n) [V.int 5, V.int 6] = decide (n = 5 ∨ n = 6) := fun n => by
      simp [inV, eqV]
      by_cases c : n = 5
      · simp [c]
      · by_cases c2 : n = 6
        · simp [c2]
        · simp [c, c2, Ne.symm c, Ne.symm c2]
    rcases h with ⟨t, rfl, fine, yes, no⟩ | ⟨⟨ty, ht, hk⟩, k⟩
    case inr =>
      refine ⟨_, rfl, _, _, _, _, false, rfl, .ty "str", ht, hk, false, rfl, iteF ⟨by show 0 ≤ sizeLine; decide, fun w hw => ?_⟩⟩
      have s1 := Same.new (o := .lst []) (Same.refl H) hw
      refine ⟨_, rfl, _, _, rfl, .inl ⟨_, SqL.of upd_same, rfl⟩, by show 2 ≤ sizeLine; decide, fun t0 ht0 => ⟨t0, _, rfl, .inr (SqT.of upd_same), rfl, rfl, true, rfl, ?_⟩⟩
      exact iteT (iteT (k _ (Same.new s1 ht0)))
    have tl_ := fine.len
    have wd := fine.wd
    have wok := fine.ok
    have l1 : (Str.ofString " ").length = 1 := by decide
    refine ⟨_, rfl, _, _, _, _, true, rfl, .ty "str", .base (.str _), kit_ty (by decide +kernel), true, rfl, iteT ?_⟩
    refine ⟨_, rfl, ⟨_, rfl⟩, _, _, rfl, rfl, by decide, by omega, fun wl hwl => ?_⟩
    have tie_ : ∀ {ws : List Str}, Txt.split t (Str.ofString " ") = ws → tieOf t = (match vals ws with | some r => if r.Fits then some r.tied else none | none => none) := fun {ws} e => by
      unfold tieOf
      rw [e]
      all_goals (cases vals ws <;> rfl)
    obtain ⟨ws, ews⟩ : ∃ ws, Txt.split t (Str.ofString " ") = ws := ⟨_, rfl⟩
    have te := tie_ ews
    rw [ews] at wd wok
    rw [ews]
    clear tie_
    have sW := Same.new (o := .lst (ws.map V.str)) (Same.refl H) hwl
    have atW : upd H wl (.lst (ws.map V.str)) wl = some (.lst (ws.map V.str)) := upd_same
    generalize upd H wl (.lst (ws.map V.str)) = H1 at sW atW ⊢
    have stop : ∀ {H' : Hp}, vals ws = none → Same H H' → Q .non H' := fun e s => no (by rw [te, e]) _ s
    refine name_via (fun σ H' => ∃ a b c d e bk, σ = [some (.str t), some (.ref wl), none, none] ∧ Same H H' ∧ H' wl = some (.lst (ws.map V.str)) ∧ ((ws = [a, b, c, d, e] ∧ bk = false) ∨ (ws = [a, b, c, d, e, Str.ofString "back"] ∧ bk = true)) ∧ (d = Str.ofString "up" ∨ d = Str.ofString "down") ∧ vals ws = quad a b c d e bk) (fun tail => ?_) ?_
    · rcases shapes ws with ⟨a, b, c, d, e, rfl⟩ | ⟨a, b, c, d, e, f, rfl⟩ | ⟨n5, n6, nv⟩
      case inr.inr =>
        refine ⟨_, rfl, _, _, rfl, .inl ⟨_, SqL.of atW, rfl⟩, by show 2 ≤ sizeLine; decide, fun t0 ht0 => ⟨t0, _, rfl, .inr (SqT.of upd_same), rfl, rfl, true, ?_, ?_⟩⟩
        · rw [List.length_map]
          show V.bl (!inV (V.int _) [V.int 5, V.int 6]) = V.bl true
          rw [y56, decide_eq_false (by omega)]
          rfl
        exact iteT (iteT (stop nv (Same.new sW ht0)))
      all_goals
        refine ⟨_, rfl, _, _, rfl, .inl ⟨_, SqL.of atW, rfl⟩, by show 2 ≤ sizeLine; decide, fun t0 ht0 => ⟨t0, _, rfl, .inr (SqT.of upd_same), rfl, rfl, false, rfl, iteF ?_⟩⟩
        have s2 := Same.new (o := .tup [.int 5, .int 6]) (Same.refl H1) ht0
        have at2 := s2 _ _ atW
        generalize upd H1 t0 (.tup [.int 5, .int 6]) = H2 at s2 at2 ⊢
        refine ⟨_, rfl, wl, _, _, _, rfl, rfl, SqL.of at2, rfl, by show 2 ≤ sizeLine; decide, fun t1 ht1 => ⟨t1, _, rfl, .inr (SqT.of upd_same), rfl, rfl, !inV (V.str d) [V.str (Str.ofString "up"), V.str (Str.ofString "down")], rfl, ?_⟩⟩
        have s3 := Same.new (o := .tup [.str (Str.ofString "up"), .str (Str.ofString "down")]) (Same.refl H2) ht1
        have at3 := s3 _ _ at2
        generalize upd H2 t1 (.tup [.str (Str.ofString "up"), .str (Str.ofString "down")]) = H3 at s3 at3 ⊢
        have s03 := (sW.trans s2).trans s3
        rw [in_way]
        by_cases cd : d = Str.ofString "up" ∨ d = Str.ofString "down"
        case neg =>
          rw [decide_eq_false cd]
          refine iteT (iteT (stop ?_ s03))
          first
            | exact if_neg cd
            | (show (if f = Str.ofString "back" then quad a b c d e true else none) = none
               split
               · exact if_neg cd
               · rfl)
        rw [decide_eq_true cd]
        refine iteF ⟨_, rfl, _, rfl, wl, _, rfl, SqL.of at3, fun u hu => ⟨by show 0 ≤ sizeLine; decide, fun l0 h0 => ⟨by show 1 ≤ sizeLine; decide, fun l2 h2 => ⟨by show 2 ≤ sizeLine; decide, fun tp htp => ?_⟩⟩⟩⟩
      · have sa := Same.new (o := .lst []) (Same.refl H3) hu
        have sb := Same.new (o := .lst []) (Same.refl (upd H3 u (.lst []))) h0
        have sc := Same.new (o := .lst [.str (Str.ofString "back")]) (Same.refl _) h2
        have sd := Same.new (o := .tup [.ref l0, .ref l2]) (Same.refl _) htp
        have au := sd _ _ (sc _ _ (sb _ _ (show upd H3 u (.lst []) u = _ from upd_same)))
        have a0 := sd _ _ (sc _ _ (show upd (upd H3 u (.lst [])) l0 (.lst []) l0 = _ from upd_same))
        have a2 := sd _ _ (show upd (upd (upd H3 u (.lst [])) l0 (.lst [])) l2 (.lst [.str (Str.ofString "back")]) l2 = _ from upd_same)
        have sN := ((sa.trans sb).trans sc).trans sd
        refine ⟨tp, .ref l0, .ref l2, .list [], .list [], .list [.str (Str.ofString "back")], rfl, SqT.of upd_same, .lst (SqL.of au) .nil, .lst (SqL.of a0) .nil, .lst (SqL.of a2) (.cons (.str _) .nil), ?_, by decide +kernel, by decide +kernel, _, rfl, ?_⟩
        · simp [SeqAt.shaped, PyData.canLay0, PyData.canLayAll0, PyData.depth, PyData.depthAll]
        rw [show (!(PyData.eqv (.list []) (.list []) || PyData.eqv (.list [.str (Str.ofString "back")]) (.list []))) = false by decide +kernel]
        exact iteF (tail _ _ ⟨a, b, c, d, e, false, rfl, s03.trans sN, sN _ _ at3, .inl ⟨rfl, rfl⟩, cd, rfl⟩)
      · have sa := Same.new (o := .lst [.str f]) (Same.refl H3) hu
        have sb := Same.new (o := .lst []) (Same.refl (upd H3 u (.lst [.str f]))) h0
        have sc := Same.new (o := .lst [.str (Str.ofString "back")]) (Same.refl _) h2
        have sd := Same.new (o := .tup [.ref l0, .ref l2]) (Same.refl _) htp
        have au := sd _ _ (sc _ _ (sb _ _ (show upd H3 u (.lst [.str f]) u = _ from upd_same)))
        have a0 := sd _ _ (sc _ _ (show upd (upd H3 u (.lst [.str f])) l0 (.lst []) l0 = _ from upd_same))
        have a2 := sd _ _ (show upd (upd (upd H3 u (.lst [.str f])) l0 (.lst [])) l2 (.lst [.str (Str.ofString "back")]) l2 = _ from upd_same)
        have sN := ((sa.trans sb).trans sc).trans sd
        refine ⟨tp, .ref l0, .ref l2, .list [.str f], .list [], .list [.str (Str.ofString "back")], rfl, SqT.of upd_same, .lst (SqL.of au) (.cons (.str _) .nil), .lst (SqL.of a0) .nil, .lst (SqL.of a2) (.cons (.str _) .nil), ?_, by decide +kernel, by decide +kernel, _, rfl, ?_⟩
        · simp [SeqAt.shaped, PyData.canLay0, PyData.canLayAll0, PyData.depth, PyData.depthAll, wok f (by simp)]
        by_cases cf : f = Str.ofString "back"
        · subst cf
          rw [show (!(PyData.eqv (.list []) (.list [.str (Str.ofString "back")]) || PyData.eqv (.list [.str (Str.ofString "back")]) (.list [.str (Str.ofString "back")]))) = false by decide +kernel]
          exact iteF (tail _ _ ⟨a, b, c, d, e, true, rfl, s03.trans sN, sN _ _ at3, .inr ⟨rfl, rfl⟩, cd, by show (if Str.ofString "back" = Str.ofString "back" then quad a b c d e true else none) = _; rw [if_pos rfl]⟩)
        · have e1 : (Str.ofString "back" == f) = false := by simpa using fun z => cf z.symm
          rw [show (!(PyData.eqv (.list []) (.list [.str f]) || PyData.eqv (.list [.str (Str.ofString "back")]) (.list [.str f]))) = true by simp [PyData.eqv, PyData.eqvAll, e1]]
          exact iteT (stop (if_neg cf) (s03.trans sN))
    · rintro σ H2 ⟨a, b, c, d, e, bk, rfl, s02, at2, sh, cd, hv⟩
      have dn : decide (V.str d = V.str (Str.ofString "down")) = decide (d = Str.ofString "down") := by by_cases z : d = Str.ofString "down" <;> simp [z]
      have Q4 : ∀ {bk : Bool} {f s' l m : Int}, numRead a = some f → numRead b = some s' → numRead c = some l → numRead e = some m → quad a b c d e bk = some ⟨f, s', l, m, decide (d = Str.ofString "down"), bk⟩ := fun ha hb hc he => by
        unfold quad
        rw [if_pos cd, ha, hb, hc, he]
      rcases sh with ⟨rfl, rfl⟩ | ⟨rfl, rfl⟩
      all_goals
        have za := wd a (by simp)
        have zb := wd b (by simp)
        have zc := wd c (by simp)
        have ze := wd e (by simp)
        refine ⟨_, rfl, _, rfl, wl, _, rfl, SqL.of at2, fun u1 hu1 => ?_⟩
        have s1 := Same.new (o := .lst [.str a, .str b, .str c]) (Same.refl H2) hu1
        refine ⟨_, rfl, _, rfl, _, rfl, wl, _, rfl, SqL.of (s1 _ _ at2), fun u2 hu2 => ?_⟩
        have s2 := Same.new (o := .lst [.str e]) (Same.refl (upd H2 u1 (.lst [.str a, .str b, .str c]))) hu2
        refine ⟨u1, u2, [.str a, .str b, .str c], [.str e], rfl, rfl, s2 _ _ upd_same, upd_same, by show 3 + 1 ≤ sizeLine; decide, fun u3 hu3 => ⟨u3, rfl, ⟨_, SqL.of upd_same⟩, fun D hD => ?_⟩⟩
        have s3 := Same.new (o := .lst [.str a, .str b, .str c, .str e]) ((s1.trans s2)) hu3
        have at3 : upd (upd (upd H2 u1 (.lst [.str a, .str b, .str c])) u2 (.lst [.str e])) u3 (.lst [.str a, .str b, .str c, .str e]) u3 = _ := upd_same
        have hD' : upd (upd (upd H2 u1 (.lst [.str a, .str b, .str c])) u2 (.lst [.str e])) u3 (.lst [.str a, .str b, .str c, .str e]) D = none := hD
        clear hD
        show ∃ W : Nat → Nat → Hp → Prop, (∃ m, W 0 m (upd (upd (upd (upd H2 u1 (.lst [.str a, .str b, .str c])) u2 (.lst [.str e])) u3 (.lst [.str a, .str b, .str c, .str e])) D (.lst []))) ∧ _
        generalize upd (upd (upd H2 u1 (.lst [.str a, .str b, .str c])) u2 (.lst [.str e])) u3 (.lst [.str a, .str b, .str c, .str e]) = H3 at s3 at3 hD' ⊢
        have sD := Same.new (o := .lst []) (Same.refl H3) hD'
        refine lc_list (xs := [.str a, .str b, .str c, .str e]) (fun i H' => H' D = some (.lst ([numV (numRead a), numV (numRead b), numV (numRead c), numV (numRead e)].take i)) ∧ Same H3 H') ⟨upd_same, sD⟩ (fun i H' _ h => SqL.of (h.2 _ _ at3)) ?_ ?_
        · rintro i x H' hi ⟨hDi, sm⟩
          refine ⟨rfl, ?_⟩
          unfold tYes
          refine iteT ?_
          have i4 : i < 4 := (List.getElem?_eq_some_iff.mp hi).1
          have put : ∀ (H6 : Hp), Same H' H6 → ∀ (o : HO) (b : Addr) (u : HO), H3 b = some u → upd H6 D o b = some u := fun H6 s6 o b u eb => by
            rw [upd_ne (ne_of_none eb hD')]
            exact s6 _ _ (sm b u eb)
          rcases i with _ | _ | _ | _ | i
          · obtain rfl := Option.some.inj hi
            exact ⟨_, rfl, _, rfl, za, fun H6 s6 => ⟨_, s6 _ _ hDi, by show 0 < sizeLine; decide, upd_same, put H6 s6 _⟩⟩
          · obtain rfl := Option.some.inj hi
            exact ⟨_, rfl, _, rfl, zb, fun H6 s6 => ⟨_, s6 _ _ hDi, by show 1 < sizeLine; decide, upd_same, put H6 s6 _⟩⟩
          · obtain rfl := Option.some.inj hi
            exact ⟨_, rfl, _, rfl, zc, fun H6 s6 => ⟨_, s6 _ _ hDi, by show 2 < sizeLine; decide, upd_same, put H6 s6 _⟩⟩
          · obtain rfl := Option.some.inj hi
            exact ⟨_, rfl, _, rfl, ze, fun H6 s6 => ⟨_, s6 _ _ hDi, by show 3 < sizeLine; decide, upd_same, put H6 s6 _⟩⟩
          · omega
        · rintro H4 ⟨hD4, s4⟩
          have s04 := (s02.trans s3).trans s4
          have at4 := s4 _ _ (s3 _ _ at2)
          cases ha : numRead a <;> cases hb : numRead b <;> cases hc : numRead c <;> cases he : numRead e <;> rw [ha, hb, hc, he] at hD4
          case some.some.some.some f s' l m =>
            have hv' := hv.trans (Q4 ha hb hc he)
            rw [hv'] at te
            have nofit : ∀ {H' : Hp}, ¬ (0 ≤ f ∧ 0 ≤ s' ∧ 1 ≤ l ∧ (if s' > f then s' else f) + l ≤ 10 ^ 30) → Same H4 H' → Q .non H' := fun n s5 => no (te.trans (if_neg n)) _ (s04.trans s5)
            refine ⟨_, rfl, D, _, rfl, .inl (SqL.of hD4), rfl, rfl, false, rfl, iteF ?_⟩
            refine ⟨_, rfl, _, rfl, D, _, rfl, SqL.of hD4, fun u4 hu4 => ⟨u4, [f, s'], rfl, SqL.of upd_same, by show 0 < 2; decide, fun mn hmn hle => ⟨_, _, rfl, rfl, _, rfl, ?_⟩⟩⟩
            have s5 := Same.new (o := .lst [.int f, .int s']) (Same.refl H4) hu4
            have b1 := hle f (by simp)
            have b2 := hle s' (by simp)
            have hmn' : mn = f ∨ mn = s' := by simpa using hmn
            by_cases c1 : mn < 0
            · rw [decide_eq_true c1]
              exact iteT (iteT (nofit (fun h => by omega) s5))
            rw [decide_eq_false c1]
            have hD5 := s5 _ _ hD4
            have at5 := s5 _ _ at4
            refine iteF ⟨_, rfl, D, _, _, _, rfl, rfl, SqL.of hD5, rfl, _, _, rfl, rfl, _, rfl, ?_⟩
            by_cases c2 : l < 1
            · rw [decide_eq_true c2]
              exact iteT (iteT (nofit (fun h => by omega) s5))
            rw [decide_eq_false c2]
            refine iteF ⟨_, rfl, _, rfl, D, _, rfl, SqL.of hD5, fun u5 hu5 => ⟨u5, [f, s'], rfl, SqL.of upd_same, by show 0 < 2; decide, fun mx hmx hge => ?_⟩⟩
            have s6 := Same.new (o := .lst [.int f, .int s']) s5 hu5
            have hD6 := s6 _ _ hD4
            have at6 := s6 _ _ at4
            have g1 := hge f (by simp)
            have g2 := hge s' (by simp)
            have hmx' : mx = f ∨ mx = s' := by simpa using hmx
            have emx : mx = if s' > f then s' else f := by split <;> omega
            refine ⟨_, rfl, D, _, _, _, rfl, rfl, SqL.of hD6, rfl, _, _, rfl, rfl, _, _, rfl, rfl, ⟨by decide, by decide +kernel⟩, _, _, rfl, rfl, _, rfl, ?_⟩
            have t30 : (10 : Int) ^ Int.toNat 30 = 10 ^ 30 := rfl
            rw [t30]
            by_cases c3 : 10 ^ 30 < mx + l
            · rw [decide_eq_true c3]
              exact iteT (nofit (fun h => by rw [← emx] at h; omega) s6)
            rw [decide_eq_false c3]
            have ht := te.trans (if_pos (show (0 ≤ f ∧ 0 ≤ s' ∧ 1 ≤ l ∧ (if s' > f then s' else f) + l ≤ 10 ^ 30) from ⟨by omega, by omega, by omega, by rw [← emx]; omega⟩))
            refine iteF ⟨_, rfl, D, _, _, _, rfl, rfl, SqL.of hD6, rfl, _, rfl, D, _, _, _, rfl, rfl, SqL.of hD6, rfl, _, rfl, D, _, _, _, rfl, rfl, SqL.of hD6, rfl, _, rfl, D, _, _, _, rfl, rfl, SqL.of hD6, rfl, _, rfl, wl, _, _, _, rfl, rfl, SqL.of at6, rfl, rfl, ?_⟩
            rw [dn]
            first
              | exact ⟨_, rfl, _, _, rfl, .inl ⟨_, SqL.of at6, rfl⟩, rfl, false, rfl, iteF ⟨by show 6 ≤ sizeLine; decide, fun x hx => yes _ ht x _ (Same.new (s04.trans s6) hx) upd_same⟩⟩
              | exact ⟨_, rfl, _, _, rfl, .inl ⟨_, SqL.of at6, rfl⟩, rfl, true, rfl, iteT ⟨_, rfl, D, _, _, _, rfl, rfl, SqL.of hD6, rfl, _, _, rfl, rfl, by show 6 ≤ sizeLine; decide, fun x hx => yes _ ht x _ (Same.new (s04.trans s6) hx) upd_same⟩⟩
          all_goals
            refine ⟨_, rfl, D, _, rfl, .inl (SqL.of hD4), rfl, rfl, true, rfl, iteT (iteT (no ?_ _ s04))⟩
            rw [te, hv]
            unfold quad
            rw [if_pos cd, ha, hb, hc, he]
end
end TT

set_option maxHeartbeats 4000000
namespace TT
open PySem PySem.Spec PyProof.Rows L2 LamX TL
/-! ### texts of plain signs -/
/-- plain signs, none a new line -/
def Asc (t : Str) : Prop := ∀ c ∈ tl t, c < 128 ∧ c ≠ 10
theorem Asc.add {a b : Str} (h : Asc a) (g : Asc b) : Asc (a ++ b) := fun c hc => by
  rw [tl_append] at hc
  rcases List.mem_append.mp hc with hc | hc
  · exact h c hc
  · exact g c hc
theorem Asc.cut {a : Str} (h : Asc a) (lo hi : Option Int) : Asc (cutS a lo hi) := fun c hc => by
  unfold cutS at hc
  exact h c (List.mem_of_mem_drop (List.mem_of_mem_take (show c ∈ (((tl a).drop _).take _) from hc)))
theorem cut_len (a : Str) (lo hi : Option Int) : (cutS a lo hi).length ≤ a.length := by
  rw [len_tl, len_tl]
  unfold cutS
  show (((tl a).drop _).take _).length ≤ _
  rw [List.length_take, List.length_drop]
  omega
theorem joinL_mem {s : List Nat} : ∀ {ys : List (List Nat)} {c : Nat}, c ∈ joinL s ys → c ∈ s ∨ ∃ p ∈ ys, c ∈ p
  | [], _, h => by cases h
  | [y], _, h => .inr ⟨y, List.mem_cons_self, h⟩
  | y :: z :: ys, c, h => by
    have h' : c ∈ y ++ (s ++ joinL s (z :: ys)) := by simpa [joinL] using h
    rcases List.mem_append.mp h' with h | h
    · exact .inr ⟨y, List.mem_cons_self, h⟩
    · rcases List.mem_append.mp h with h | h
      · exact .inl h
      · rcases joinL_mem h with h | ⟨p, hp, hc⟩
        · exact .inl h
        · exact .inr ⟨p, List.mem_cons_of_mem _ hp, hc⟩
theorem mem_joinL {s : List Nat} : ∀ {ys : List (List Nat)} {p : List Nat} {c : Nat}, p ∈ ys → c ∈ p → c ∈ joinL s ys
  | [], _, _, h, _ => by cases h
  | [y], p, c, h, hc => by
    rw [List.mem_singleton.mp h] at hc
    exact hc
  | y :: z :: ys, p, c, h, hc => by
    show c ∈ joinL s (y :: z :: ys)
    have e : joinL s (y :: z :: ys) = y ++ (s ++ joinL s (z :: ys)) := by simp [joinL]
    rw [e]
    rcases List.mem_cons.mp h with h | h
    · subst h
      exact List.mem_append_left _ hc
    · exact List.mem_append_right _ (List.mem_append_right _ (mem_joinL h hc))
theorem joinL_len {s : List Nat} (hs : s.length = 1) : ∀ ys : List (List Nat), ys ≠ [] → (joinL s ys).length + 1 = (ys.map List.length).sum + ys.length
  | [], h => absurd rfl h
  | [y], _ => by simp [joinL]
  | y :: z :: ys, _ => by
    have e : joinL s (y :: z :: ys) = y ++ (s ++ joinL s (z :: ys)) := by simp [joinL]
    have ih := joinL_len hs (z :: ys) (by simp)
    rw [e, List.length_append, List.length_append, hs]
    simp only [List.map_cons, List.sum_cons, List.length_cons] at ih ⊢
    omega
theorem Asc.join {ys : List Str} (h : ∀ p ∈ ys, Asc p) : Asc (Txt.join (Str.ofString " ") ys) := fun c hc => by
  rw [show Txt.join (Str.ofString " ") ys = _ from join_eq _ _, tl_join] at hc
  rcases joinL_mem hc with h1 | ⟨q, hq, hc⟩
  · rw [sp_tl] at h1
    rw [List.mem_singleton.mp h1]
    decide
  · obtain ⟨p, hp, rfl⟩ := List.mem_map.mp hq
    exact h p hp c hc
theorem split_eq (t : Str) : joinL [32] ((Txt.split t (Str.ofString " ")).map tl) = tl t := by
  have e := congrArg tl (StrLaws.join_split t (Str.ofString " "))
  rw [tl_join, sp_tl] at e
  exact e
theorem Asc.split {t : Str} (h : Asc t) : ∀ p ∈ Txt.split t (Str.ofString " "), Asc p := fun p hp c hc => h c (by
  rw [← split_eq t]
  exact mem_joinL (List.mem_map_of_mem hp) hc)
theorem words_ne (t : Str) : Txt.split t (Str.ofString " ") ≠ [] := by
  intro e
  have h := split_eq t
  rw [e] at h
  have e2 : Txt.split (Txt.join (Str.ofString " ") [t]) (Str.ofString " ") = [t] := split_join (s := 32) (S := []) sp_tl (by decide +kernel) (by simp) (fun p hp => by
    rw [List.mem_singleton.mp hp, ← h]
    simp [joinL])
  have e3 : Txt.join (Str.ofString " ") [t] = t := by
    refine ext_tl ?_
    rw [show Txt.join (Str.ofString " ") [t] = _ from join_eq _ _, tl_join]
    rfl
  rw [e3, e] at e2
  cases e2
/-- how much stands in these words -/
def amt (ys : List Str) : Nat := (ys.map (·.length)).sum + ys.length
theorem amt_add (a b : List Str) : amt (a ++ b) = amt a + amt b := by
  unfold amt
  rw [List.map_append, List.sum_append, List.length_append]
  omega
theorem amt_take (ws : List Str) (i : Nat) : amt (ws.take i) + amt (ws.drop i) = amt ws := by rw [← amt_add, List.take_append_drop]
theorem amt_drop (ws : List Str) {i j : Nat} (h : i ≤ j) : amt (ws.drop j) ≤ amt (ws.drop i) := by
  have := amt_take (ws.drop i) (j - i)
  rw [List.drop_drop, show i + (j - i) = j by omega] at this
  omega
theorem words_amt (t : Str) : amt (Txt.split t (Str.ofString " ")) = t.length + 1 := by
  have h := joinL_len (s := [32]) rfl ((Txt.split t (Str.ofString " ")).map tl) (by simpa using words_ne t)
  rw [split_eq, List.map_map, List.length_map] at h
  rw [len_tl, h]
  unfold amt
  have e : (Txt.split t (Str.ofString " ")).map (·.length) = (Txt.split t (Str.ofString " ")).map (List.length ∘ tl) := List.map_congr_left fun p _ => len_tl p
  rw [e]
theorem join_len (ys : List Str) : (Txt.join (Str.ofString " ") ys).length ≤ amt ys := by
  have := StrLaws.join_length_le (Str.ofString " ") ys
  rw [show (Str.ofString " ").length = 1 from by decide] at this
  have e : Txt.join (Str.ofString " ") ys = (Str.ofString " ").join ys := join_eq _ _
  rw [e]
  unfold amt
  omega
theorem amt_mem {ws : List Str} {x : Str} (h : x ∈ ws) : x.length + 1 ≤ amt ws := by
  unfold amt
  induction ws with
  | nil => cases h
  | cons y ys ih =>
    simp only [List.map_cons, List.sum_cons, List.length_cons]
    rcases List.mem_cons.mp h with h | h
    · subst h
      omega
    · have := ih h
      omega
theorem cutV_to (xs : List V) {i : Int} (h : 0 ≤ i) : cutV xs none (some i) = xs.take i.toNat := by
  unfold cutV
  have e1 : HT.sIx xs.length 0 none = 0 := rfl
  have e2 : HT.sIx xs.length xs.length (some i) = min i.toNat xs.length := by
    show (if i < 0 then (i + (xs.length : Int)).toNat else min i.toNat xs.length) = _
    rw [if_neg (by omega)]
  rw [e1, e2, List.drop_zero, Nat.sub_zero]
  by_cases c : i.toNat ≤ xs.length
  · rw [Nat.min_eq_left c]
  · rw [Nat.min_eq_right (by omega), List.take_of_length_le (Nat.le_refl _), List.take_of_length_le (by omega)]
theorem cutV_from (xs : List V) {i : Int} (h : 0 ≤ i) : cutV xs (some i) none = xs.drop i.toNat := by
  unfold cutV
  have e1 : HT.sIx xs.length xs.length none = xs.length := rfl
  have e2 : HT.sIx xs.length 0 (some i) = min i.toNat xs.length := by
    show (if i < 0 then (i + (xs.length : Int)).toNat else min i.toNat xs.length) = _
    rw [if_neg (by omega)]
  rw [e1, e2]
  by_cases c : i.toNat ≤ xs.length
  · rw [Nat.min_eq_left c, List.take_of_length_le (by rw [List.length_drop]; omega)]
  · rw [Nat.min_eq_right (by omega), List.drop_of_length_le (Nat.le_refl _), List.drop_of_length_le (by omega)]
    simp
/-- what joined words are -/
theorem joined {ys : List Str} {m : Nat} (h : ∀ p ∈ ys, Asc p) (a : amt ys ≤ m) : Asc (Txt.join (Str.ofString " ") ys) ∧ (Txt.join (Str.ofString " ") ys).length ≤ m := ⟨Asc.join h, Nat.le_trans (join_len ys) a⟩
def signs : List Str := [Str.ofString "0", Str.ofString "1", Str.ofString "9", Str.ofString "-", Str.ofString " ", Str.ofString "a", Str.ofString "+", Str.ofString "_", Str.ofString "up", Str.ofString "back", Str.ofString "A"]
def tails : List Str := [Str.ofString " back", Str.ofString " ", Str.ofString " 0", Str.ofString " up"]
theorem asc_of {t : Str} (h : (tl t).all (fun c => decide (c < 128) && decide (c ≠ 10)) = true) : Asc t := fun c hc => by
  have := List.all_eq_true.mp h c hc
  simpa using this
theorem signs_ok : ∀ t ∈ signs ++ tails, Asc t ∧ t.length ≤ 5 := fun t ht => by
  have h : (signs ++ tails).all (fun t => (tl t).all (fun c => decide (c < 128) && decide (c ≠ 10)) && decide (t.length ≤ 5)) = true := by decide +kernel
  have := List.all_eq_true.mp h t ht
  rw [Bool.and_eq_true] at this
  exact ⟨asc_of this.1, of_decide_eq_true this.2⟩
def sp_l_bent_line : Sp := fun vs H Q _ => ∃ (p : Addr) (n : Nat) (line : Str), vs = [.ref p, .str line] ∧ Pot H p n ∧ n + 6 < 1000000 ∧ Asc line ∧ line.length ≤ 500 ∧
  ∀ (t : Str) (n' : Nat) (H' : Hp), Asc t → t.length ≤ 2 * line.length + 50 → n' ≤ n + 6 → Pot H' p n' → Keep p H H' → Q (.str t) H'
section
variable {P : Program} {w : World} {K : PySem.W.Frag} {mg : Str → Option Value} {base : Heap} {Z : Zs}
theorem ok_l_bent_line (T : Txt K mg Z) : FnOk P w K mg base CX0 4 Z.f_l_bent_line Z.d_l_bent_line ["_law_pot_here", "_law_line"] sp_l_bent_line := by
  refine T.F_l_bent_line.ok sc_l_bent_line (fun vs H Q E h => ?_) (fun cdv A outer s H vs Q E hr h => ?_)
  · obtain ⟨p, n, line, rfl, _⟩ := h
    rfl
  · obtain ⟨p, n, line, rfl, hp, hn, asc, len, k⟩ := h
    have sl : sizeLine = 16777216 := sizeLine_eq
    refine ⟨_, (pss_cons (ps_par (i := 2) (j := 3) (by rfl) sc_l_bent_line.nd rfl rfl (by decide) rfl rfl (pa_cons (pe_split (pv 1) pe_str) (pa_cons (pe_call (ok_l_take T) (hr.mono (by decide)) rfl T.g_l_take T.k_l_take T.bn_l_take .nil pass0 (pa_cons (pv 0) (pa_cons pe_int pa_nil))) pa_nil)) (by rfl))
      (pss_cons (ps_par (i := 4) (j := 5) (by rfl) sc_l_bent_line.nd rfl rfl (by decide) rfl rfl (pa_cons (pe_call (ok_l_take T) (hr.mono (by decide)) rfl T.g_l_take T.k_l_take T.bn_l_take .nil pass0 (pa_cons (pv 0) (pa_cons (pe_callB  call_len (by rfl) T.b_len (by decide +kernel) (pa_cons (pv 2) pa_nil)) pa_nil))) (pa_cons (pe_call (ok_l_take T) (hr.mono (by decide)) rfl T.g_l_take T.k_l_take T.bn_l_take .nil pass0 (pa_cons (pv 0) (pa_cons (pe_op op_add (pe_callB  call_len (by rfl) T.b_len (by decide +kernel) (pa_cons (pv 1) pa_nil)) pe_int) pa_nil))) pa_nil)) (by rfl))
      (pss_cons (ps_set (i := 6) sc_l_bent_line.nd rfl (Or.inl rfl) (pe_call (ok_l_of T) (hr.mono (by decide)) rfl T.g_l_of T.k_l_of T.bn_l_of .nil pass0 (pa_cons (pv 0) (pa_cons (pe_lst (pa_cons pe_str (pa_cons pe_str (pa_cons pe_str (pa_cons pe_str (pa_cons pe_str (pa_cons pe_str (pa_cons pe_str (pa_cons pe_str (pa_cons pe_str (pa_cons pe_str (pa_cons pe_str pa_nil)))))))))))) pa_nil))))
      (pss_cons (ps_if (pt_cmpR op_eq (pv 3) pe_int (nomark _)) (pss_one (ps_ret (pe_join pe_str (pe_op op_cat (pe_slice sl_list (pv 2) po_none (po_some (pv 4))) (pe_slice sl_list (pv 2) (po_some (pe_op op_add (pv 4) pe_int)) po_none))))) pss_nil)
      (pss_cons (ps_if (pt_cmpR op_eq (pv 3) pe_int (nomark _)) (pss_one (ps_ret (pe_join pe_str (pe_op op_cat (pe_op op_cat (pe_slice sl_list (pv 2) po_none (po_some (pv 4))) (pe_lst (pa_cons (pe_ix ix_list (pv 2) (pv 4) (fun _ _ => rfl)) pa_nil))) (pe_slice sl_list (pv 2) (po_some (pv 4)) po_none))))) pss_nil)
      (pss_cons (ps_if (pt_cmpR op_eq (pv 3) pe_int (nomark _)) (pss_one (ps_ret (pe_join pe_str (pe_op op_cat (pe_op op_cat (pe_slice sl_list (pv 2) po_none (po_some (pv 4))) (pe_lst (pa_cons (pv 6) pa_nil))) (pe_slice sl_list (pv 2) (po_some (pe_op op_add (pv 4) pe_int)) po_none))))) pss_nil)
      (pss_cons (ps_if (pt_cmpR op_lt (pv 3) pe_int (nomark _)) (pss_one (ps_ret (pe_op op_add_str (pe_op op_add_str (pe_slice sl_str (pv 1) po_none (po_some (pv 5))) (pv 6)) (pe_slice sl_str (pv 1) (po_some (pe_op op_add (pv 5) (pe_callTy call_int1 (by rfl) T.b_int (by decide +kernel) (pa_cons (pe_cmpR op_eq (pv 3) pe_int (nomark _)) pa_nil)))) po_none)))) pss_nil)
      (pss_one (ps_ret (pe_ifExp (pt_cmpR op_eq (pv 3) pe_int (nomark _)) (pe_op op_add_str (pe_slice sl_str (pv 1) po_none (po_some (pv 5))) (pe_slice sl_str (pv 1) (po_some (pe_op op_add (pv 5) pe_int)) po_none)) (pe_op op_add_str (pv 1) (pe_call (ok_l_of T) (hr.mono (by decide)) rfl T.g_l_of T.k_l_of T.bn_l_of .nil pass0 (pa_cons (pv 0) (pa_cons (pe_lst (pa_cons pe_str (pa_cons pe_str (pa_cons pe_str (pa_cons pe_str pa_nil))))) pa_nil)))))))))))))), ?_⟩
    have l1 : (Str.ofString " ").length = 1 := by decide
    have am := words_amt line
    have wa := asc.split
    have wn := words_ne line
    refine ⟨_, rfl, ⟨_, rfl⟩, _, _, rfl, rfl, by decide, by omega, fun wl hwl => ?_⟩
    generalize Txt.split line (Str.ofString " ") = ws at *
    have sW := Same.new (o := .lst (ws.map V.str)) (Same.refl H) hwl
    have atW : upd H wl (.lst (ws.map V.str)) wl = some (.lst (ws.map V.str)) := upd_same
    have nwp : wl ≠ p := (hp.ne hwl).symm
    have hp1 := hp.same sW
    generalize upd H wl (.lst (ws.map V.str)) = H1 at sW atW hp1 ⊢
    refine ⟨_, rfl, p, n, 7, rfl, hp1, by omega, by decide, by decide +kernel, fun way n2 H2 w0 w1 hn2 hp2 k2 => ?_⟩
    have at2 := k2 _ _ nwp atW
    have wl0 : 0 < ws.length := List.length_pos_iff.mpr wn
    have wl1 : ws.length ≤ 501 := by
      unfold amt at am
      omega
    have e60 : (1000 : Int) < 10 ^ 60 := by decide +kernel
    refine ⟨_, _, rfl, _, rfl, _, rfl, _, _, rfl, .inl ⟨_, SqL.of at2, rfl⟩, p, n2, _, rfl, hp2, by omega, ?_, ?_, fun at_ n3 H3 a0 a1 hn3 hp3 k3 => ?_⟩
    · rw [List.length_map]
      omega
    · rw [List.length_map]
      omega
    have at3 := k3 _ _ nwp at2
    rw [List.length_map] at a1
    refine ⟨_, rfl, _, rfl, _, _, rfl, ⟨by omega, rfl⟩, _, _, rfl, rfl, p, n3, _, rfl, hp3, by omega, by omega, by omega, fun spot n4 H4 p0 p1 hn4 hp4 k4 => ⟨_, _, rfl, ?_⟩⟩
    have at4 := k4 _ _ nwp at3
    refine ⟨_, rfl, by show 11 ≤ sizeLine; decide, fun a ha => ⟨p, a, n4, _, rfl, hp4.new ha, by omega, upd_same, (hp4.ne ha).symm, by show 0 < 11; decide, by show 11 ≤ 1000; decide, fun v n5 H5 hv hn5 hp5 k5 => ?_⟩⟩
    have at5 := k5 _ _ nwp (Same.new (o := .lst (signs.map V.str)) (Same.refl H4) ha _ _ at4)
    obtain ⟨sg, hsg, rfl⟩ : ∃ sg, sg ∈ signs ∧ v = .str sg := by
      have hv' : v ∈ signs.map V.str := hv
      obtain ⟨sg, h1, h2⟩ := List.mem_map.mp hv'
      exact ⟨sg, h1, h2.symm⟩
    obtain ⟨sga, sgl⟩ := signs_ok sg (List.mem_append_left _ hsg)
    have kp : Keep p H H5 := ((((Keep.of sW).trans k2).trans k3).trans k4).trans ((Keep.rfl'.new ha).trans k5)
    have fin : ∀ (ys : List Str) (q : Addr) (H' : Hp), Same H5 H' → H' q = some (.lst (ys.map V.str)) → (∀ p ∈ ys, Asc p) → amt ys ≤ 2 * line.length + 50 → ∃ a p', ∃ zs : List Str, V.str (Str.ofString " ") = .str a ∧ [V.ref q] = [.ref p'] ∧ (SqL K H' p' (zs.map V.str) ∨ SqT K H' p' (zs.map V.str)) ∧ (zs.map (·.length)).sum + zs.length * a.length ≤ 16777216 ∧ Q (.str (Txt.join a zs)) H' := fun ys q H' s' hq ya ym => by
      obtain ⟨j1, j2⟩ := joined ya ym
      refine ⟨_, q, ys, rfl, rfl, .inl (SqL.of hq), ?_, k _ n5 H' j1 j2 (by omega) (hp5.same s') (kp.same s')⟩
      rw [l1]
      unfold amt at ym
      omega
    have tk := amt_take ws at_.toNat
    have dr := amt_drop ws (show at_.toNat ≤ (at_ + 1).toNat by omega)
    refine ⟨_, rfl, rfl, _, rfl, ?_⟩
    by_cases c0 : way = 0
    · rw [decide_eq_true (by rw [c0])]
      refine iteT ⟨⟨_, rfl⟩, _, rfl, _, rfl, _, rfl, wl, _, rfl, SqL.of at5, fun u1 hu1 => ?_⟩
      rw [cutV_to _ a0, ← List.map_take]
      have s1 := Same.new (o := .lst ((ws.take at_.toNat).map V.str)) (Same.refl H5) hu1
      have b1 : upd H5 u1 (.lst ((ws.take at_.toNat).map V.str)) u1 = _ := upd_same
      generalize upd H5 u1 (.lst ((ws.take at_.toNat).map V.str)) = H6 at s1 b1 ⊢
      refine ⟨_, rfl, _, rfl, _, _, rfl, rfl, _, rfl, wl, _, rfl, SqL.of (s1 _ _ at5), fun u2 hu2 => ?_⟩
      rw [cutV_from _ (show 0 ≤ at_ + 1 by omega), ← List.map_drop]
      refine ⟨u1, u2, _, _, rfl, rfl, (by rw [upd_ne (ne_of_none b1 hu2)]; exact b1), upd_same, by rw [List.length_map, List.length_map, List.length_take, List.length_drop]; omega, fun u3 hu3 => ?_⟩
      refine fin (ws.take at_.toNat ++ ws.drop (at_ + 1).toNat) u3 _ (Same.new (Same.new s1 hu2) hu3) (by rw [List.map_append]; exact upd_same) (fun x hx => ?_) (by rw [amt_add]; omega)
      rcases List.mem_append.mp hx with hx | hx
      · exact wa x (List.mem_of_mem_take hx)
      · exact wa x (List.mem_of_mem_drop hx)
    rw [decide_eq_false (fun z => c0 (V.int.inj z))]
    refine iteF ⟨_, rfl, rfl, _, rfl, ?_⟩
    obtain ⟨x, hx⟩ : ∃ x, ws[at_.toNat]? = some x := ⟨ws[at_.toNat]'(by omega), List.getElem?_eq_getElem (by omega)⟩
    have xm := amt_mem (List.mem_of_getElem? hx)
    have xa := wa x (List.mem_of_getElem? hx)
    by_cases c1 : way = 1
    · rw [decide_eq_true (by rw [c1])]
      refine iteT ⟨⟨_, rfl⟩, _, rfl, _, rfl, _, rfl, wl, _, rfl, SqL.of at5, fun u1 hu1 => ?_⟩
      rw [cutV_to _ a0, ← List.map_take]
      have s1 := Same.new (o := .lst ((ws.take at_.toNat).map V.str)) (Same.refl H5) hu1
      have b1 : upd H5 u1 (.lst ((ws.take at_.toNat).map V.str)) u1 = _ := upd_same
      generalize upd H5 u1 (.lst ((ws.take at_.toNat).map V.str)) = H6 at s1 b1 ⊢
      refine ⟨_, rfl, _, rfl, wl, _, at_, .str x, rfl, rfl, SqL.of (s1 _ _ at5), ?_, by show 1 ≤ sizeLine; decide, fun um hum => ?_⟩
      · obtain ⟨m, rfl⟩ : ∃ m : Nat, at_ = (m : Int) := ⟨at_.toNat, by omega⟩
        exact atI_nat (by rw [List.getElem?_map]; rw [show ((m : Int)).toNat = m from rfl] at hx; rw [hx]; rfl)
      have s2 := Same.new (o := .lst [.str x]) (Same.refl H6) hum
      refine ⟨u1, um, _, _, rfl, rfl, s2 _ _ b1, upd_same, by rw [List.length_map, List.length_take]; show _ + 1 ≤ _; omega, fun uc huc => ?_⟩
      have s3 := Same.new (o := .lst ((ws.take at_.toNat).map V.str ++ [.str x])) s2 huc
      have b3 : upd (upd H6 um (.lst [.str x])) uc (.lst ((ws.take at_.toNat).map V.str ++ [.str x])) uc = _ := upd_same
      generalize upd (upd H6 um (.lst [.str x])) uc (.lst ((ws.take at_.toNat).map V.str ++ [.str x])) = H7 at s3 b3 ⊢
      refine ⟨_, rfl, _, rfl, _, rfl, wl, _, rfl, SqL.of (s3 _ _ (s1 _ _ at5)), fun u2 hu2 => ?_⟩
      rw [cutV_from _ a0, ← List.map_drop]
      refine ⟨uc, u2, _, _, rfl, rfl, (by rw [upd_ne (ne_of_none b3 hu2)]; exact b3), upd_same, by rw [List.length_append, List.length_map, List.length_map, List.length_take, List.length_drop]; show _ + 1 + _ ≤ _; omega, fun u3 hu3 => ?_⟩
      refine fin (ws.take at_.toNat ++ [x] ++ ws.drop at_.toNat) u3 _ (Same.new (Same.new (s1.trans s3) hu2) hu3) (by rw [List.map_append, List.map_append]; exact upd_same) (fun y hy => ?_) (by rw [amt_add, amt_add]; show _ + (x.length + 0 + 1) + _ ≤ _; omega)
      rcases List.mem_append.mp hy with hy | hy
      · rcases List.mem_append.mp hy with hy | hy
        · exact wa y (List.mem_of_mem_take hy)
        · rw [List.mem_singleton.mp hy]
          exact xa
      · exact wa y (List.mem_of_mem_drop hy)
    rw [decide_eq_false (fun z => c1 (V.int.inj z))]
    refine iteF ⟨_, rfl, rfl, _, rfl, ?_⟩
    by_cases c2 : way = 2
    · rw [decide_eq_true (by rw [c2])]
      refine iteT ⟨⟨_, rfl⟩, _, rfl, _, rfl, _, rfl, wl, _, rfl, SqL.of at5, fun u1 hu1 => ?_⟩
      rw [cutV_to _ a0, ← List.map_take]
      have s1 := Same.new (o := .lst ((ws.take at_.toNat).map V.str)) (Same.refl H5) hu1
      have b1 : upd H5 u1 (.lst ((ws.take at_.toNat).map V.str)) u1 = _ := upd_same
      generalize upd H5 u1 (.lst ((ws.take at_.toNat).map V.str)) = H6 at s1 b1 ⊢
      refine ⟨_, rfl, by show 1 ≤ sizeLine; decide, fun um hum => ?_⟩
      have s2 := Same.new (o := .lst [.str sg]) (Same.refl H6) hum
      refine ⟨u1, um, _, _, rfl, rfl, s2 _ _ b1, upd_same, by rw [List.length_map, List.length_take]; show _ + 1 ≤ _; omega, fun uc huc => ?_⟩
      have s3 := Same.new (o := .lst ((ws.take at_.toNat).map V.str ++ [.str sg])) s2 huc
      have b3 : upd (upd H6 um (.lst [.str sg])) uc (.lst ((ws.take at_.toNat).map V.str ++ [.str sg])) uc = _ := upd_same
      generalize upd (upd H6 um (.lst [.str sg])) uc (.lst ((ws.take at_.toNat).map V.str ++ [.str sg])) = H7 at s3 b3 ⊢
      refine ⟨_, rfl, _, rfl, _, _, rfl, rfl, _, rfl, wl, _, rfl, SqL.of (s3 _ _ (s1 _ _ at5)), fun u2 hu2 => ?_⟩
      rw [cutV_from _ (show 0 ≤ at_ + 1 by omega), ← List.map_drop]
      refine ⟨uc, u2, _, _, rfl, rfl, (by rw [upd_ne (ne_of_none b3 hu2)]; exact b3), upd_same, by rw [List.length_append, List.length_map, List.length_map, List.length_take, List.length_drop]; show _ + 1 + _ ≤ _; omega, fun u3 hu3 => ?_⟩
      refine fin (ws.take at_.toNat ++ [sg] ++ ws.drop (at_ + 1).toNat) u3 _ (Same.new (Same.new (s1.trans s3) hu2) hu3) (by rw [List.map_append, List.map_append]; exact upd_same) (fun y hy => ?_) (by rw [amt_add, amt_add]; show _ + (sg.length + 0 + 1) + _ ≤ _; omega)
      rcases List.mem_append.mp hy with hy | hy
      · rcases List.mem_append.mp hy with hy | hy
        · exact wa y (List.mem_of_mem_take hy)
        · rw [List.mem_singleton.mp hy]
          exact sga
      · exact wa y (List.mem_of_mem_drop hy)
    rw [decide_eq_false (fun z => c2 (V.int.inj z))]
    refine iteF ⟨_, rfl, _, _, rfl, rfl, _, rfl, ?_⟩
    have out : ∀ (t : Str), Asc t → t.length ≤ 2 * line.length + 50 → Q (.str t) H5 := fun t h1 h2 => k t n5 H5 h1 h2 (by omega) hp5 kp
    have c1' := cut_len line none (some spot)
    by_cases c5 : way < 5
    · rw [decide_eq_true c5]
      refine iteT ⟨_, rfl, _, rfl, _, rfl, line, rfl, by omega, _, rfl, _, _, rfl, rfl, by omega, ?_⟩
      refine ⟨_, rfl, _, rfl, _, rfl, rfl, .inr ⟨_, rfl, _, _, rfl, rfl, _, rfl, line, rfl, by omega, ?_⟩⟩
      have c6 := cut_len line (some (spot + (if decide (V.int way = V.int 4) = true then 1 else 0))) none
      refine ⟨_, _, rfl, rfl, by rw [Str.length_append]; omega, out _ (((asc.cut _ _).add sga).add (asc.cut _ _)) ?_⟩
      rw [Str.length_append, Str.length_append]
      omega
    · rw [decide_eq_false c5]
      refine iteF ⟨_, rfl, rfl, _, rfl, ?_⟩
      by_cases c7 : way = 5
      · rw [decide_eq_true (by rw [c7])]
        refine iteT ⟨_, rfl, _, rfl, _, rfl, line, rfl, by omega, ?_⟩
        refine ⟨_, rfl, _, rfl, _, _, rfl, rfl, _, rfl, line, rfl, by omega, ?_⟩
        have c6 := cut_len line (some (spot + 1)) none
        refine ⟨_, _, rfl, rfl, by omega, out _ ((asc.cut _ _).add (asc.cut _ _)) ?_⟩
        rw [Str.length_append]
        omega
      · rw [decide_eq_false (fun z => c7 (V.int.inj z))]
        refine iteF ⟨_, rfl, _, rfl, by show 4 ≤ sizeLine; decide, fun a2 ha2 => ⟨p, a2, n5, _, rfl, hp5.new ha2, by omega, upd_same, (hp5.ne ha2).symm, by show 0 < 4; decide, by show 4 ≤ 1000; decide, fun v n6 H6 hv6 hn6 hp6 k6 => ?_⟩⟩
        obtain ⟨tt, htt, rfl⟩ : ∃ tt, tt ∈ tails ∧ v = .str tt := by
          have hv' : v ∈ tails.map V.str := hv6
          obtain ⟨tt, h1, h2⟩ := List.mem_map.mp hv'
          exact ⟨tt, h1, h2.symm⟩
        obtain ⟨ta, tl_⟩ := signs_ok tt (List.mem_append_right _ htt)
        exact ⟨_, _, rfl, rfl, by omega, k _ n6 H6 (asc.add ta) (by rw [Str.length_append]; omega) (by omega) hp6 (kp.trans ((Keep.rfl'.new ha2).trans k6))⟩
end
end TT

set_option maxHeartbeats 4000000
namespace TT
open PySem PySem.Spec PyProof.Rows L2 LamX TL
/-! ### replace, where nothing is found -/
theorem occ_none {x : Str} {c : Nat} (h : c ∉ tl x) (lim : Nat) : Builtin.Str.occurrences x ⟨#[c]⟩ 0 x.length lim = [] := by
  refine PySem.W.occ_nil_of_no x ⟨#[c]⟩ lim fun i hi => ?_
  cases e : Builtin.Str.subAt x ⟨#[c]⟩ i with
  | false => rfl
  | true =>
    have h1 := (StrLaws.found_iff x ⟨#[c]⟩).mpr ⟨i, hi, e⟩
    rw [StrLaws.found_one] at h1
    exact absurd (of_decide_eq_true h1) h
def tRepl0 (y : Nat) (to : TE) : TE := fun σ H Q => to σ H fun v H1 => ∃ x, v = .str x ∧ y ∉ tl x ∧ Q (.str x) H1
theorem pe_repl0 {X : Cx} {o : Expr} {to : TE} {c : Nat} {y z : Str} {j k : Nat} {c0 c1 apos pos : Pos} (ho : PE X o to) (ey : y = ⟨#[c]⟩)
    (hst : starEach [.Constant (.str y) j c0, .Constant (.str z) k c1] X.env = [(false, eval (.Constant (.str y) j c0) X.env), (false, eval (.Constant (.str z) k c1) X.env)] := by rfl)
    (hbase : attributeBase o "replace" X.env (eval o X.env) = eval o X.env := by rfl) (hline : (apos.endLine == pos.line) = true := by rfl) :
    PE X (.Call (.Attribute o "replace" apos) [.Constant (.str y) j c0, .Constant (.str z) k c1] [] pos) (tRepl0 c to) := by
  subst ey
  refine ⟨fun pins s σ H Q I h => ?_⟩
  refine PySem.Call_method2 hbase hst hline (thn (ho.run pins s σ H _ I h) fun v s1 ⟨v', H1, I1, r1, q⟩ => ?_)
  obtain ⟨x, e1, no, q⟩ := q
  subst e1
  obtain ⟨tx, e2⟩ := r1
  subst e2
  refine ⟨"str", _, PySem.F.plainAttrs_str, PySem.F.slot_str_replace, PySem.F.type_str_replace, typeIs_str _ _ _, (fun _ e => nomatch e), Calls.callWith_builtin rfl (Calls.evalArgs_plain (Calls.spliced_cons ?_))⟩
  refine Calls.Constant_str (Calls.spliced_cons (Calls.Constant_str (Calls.spliced_nil ?_)))
  have e0 : (Builtin.Str.occurrences x ⟨#[c]⟩ 0 x.length (x.length + 1)) = [] := occ_none no _
  refine call_gives F.slot_str_replace (typeIs_str _ _ _) F.entry_str_replace (F.args_str_replace_3 _ _ _) (gives_str_replace x ⟨#[c]⟩ z tx _ _ fun hc => ?_) ?_
  · rw [e0] at hc
    cases hc
  · rw [e0]
    exact ⟨.str x, H1, I1.tok _, ⟨tx, rfl⟩, q⟩
def sp_l_is_short : Sp := fun vs H Q _ => ∃ t : Str, vs = [.str t] ∧ Asc t ∧ t.length ≤ 1000 ∧ ∀ H', Same H H' → Q (.bl ((Txt.split t (Str.ofString " ")).all fun w => decide (w.length < 41))) H'
section
variable {P : Program} {w : World} {K : PySem.W.Frag} {mg : Str → Option Value} {base : Heap} {Z : Zs}
theorem ok_l_is_short (T : Txt K mg Z) : FnOk P w K mg base CX0 1 Z.f_l_is_short Z.d_l_is_short ["_law_text"] sp_l_is_short := by
  refine T.F_l_is_short.ok sc_l_is_short (fun vs H Q E h => ?_) (fun cdv A outer s H vs Q E hr h => ?_)
  · obtain ⟨t, rfl, _⟩ := h
    rfl
  · obtain ⟨t, rfl, asc, len, k⟩ := h
    have sl : sizeLine = 16777216 := sizeLine_eq
    refine ⟨_, (pss_one (ps_ret (pe_callB  (cr_all rfl) (by rfl) T.b_all (by decide +kernel) (pa_cons (pe_lc (own := [("_law_word", 1)]) rfl sc_l_is_short.nd (pi_list (pe_split (pe_repl0 (c := 10) (pv 0) (by decide +kernel)) pe_str)) (blkOk_by (own := [("_law_word", 1)]) (N := ["_law_text", "_law_word"]) (sc := defScope s_l_is_short) (by decide +kernel)) (fun _ _ _ _ _ => (pg_name (i := 1) sc_l_is_short.nd rfl (Or.inl rfl))) (fun _ _ _ _ _ => pts_nil) (fun _ _ _ _ _ => (pe_cmpR op_lt (pe_callB (id := "len") call_len_str (by rfl) T.b_len (by decide +kernel) (pa_cons (pv 1) pa_nil)) pe_int (nomark _)))) pa_nil)))), ?_⟩
    refine ⟨_, rfl, t, rfl, fun h => (asc 10 h).2 rfl, ⟨_, rfl⟩, _, _, rfl, rfl, by decide, by omega, fun wl hwl => ?_⟩
    have wb : ∀ p ∈ Txt.split t (Str.ofString " "), p.length ≤ sizeLine := fun p hp => by
      have := amt_mem hp
      rw [words_amt] at this
      omega
    have wc : (Txt.split t (Str.ofString " ")).length < sizeLine := by
      have := words_amt t
      unfold amt at this
      omega
    generalize Txt.split t (Str.ofString " ") = ws at *
    have sW := Same.new (o := .lst (ws.map V.str)) (Same.refl H) hwl
    have atW : upd H wl (.lst (ws.map V.str)) wl = some (.lst (ws.map V.str)) := upd_same
    generalize upd H wl (.lst (ws.map V.str)) = H1 at sW atW ⊢
    refine ⟨wl, rfl, ⟨_, SqL.of atW⟩, fun D hD => ?_⟩
    refine lc_list (xs := ws.map V.str) (fun i H' => H' D = some (.lst ((ws.take i).map fun w => V.bl (decide (w.length < 41)))) ∧ ∀ b u, H1 b = some u → H' b = some u) ⟨upd_same, Same.new (Same.refl H1) hD⟩ (fun i H' _ h => SqL.of (h.2 _ _ atW)) ?_ ?_
    · rintro i x H' hi ⟨hDi, sm⟩
      refine ⟨rfl, ?_⟩
      unfold tYes
      rw [List.getElem?_map] at hi
      obtain ⟨w, hw, rfl⟩ := Option.map_eq_some_iff.mp hi
      have iw : i < ws.length := (List.getElem?_eq_some_iff.mp hw).1
      refine iteT ⟨_, rfl, w, rfl, wb w (List.mem_of_getElem? hw), _, _, rfl, rfl, _, hDi, ?_, ?_, fun b u eb => ?_⟩
      · rw [List.length_map, List.length_take]
        omega
      · rw [upd_same, List.take_add_one, hw, List.map_append]
        show some (HO.lst (_ ++ [V.bl (decide ((w.length : Int) < 41))])) = some (HO.lst (_ ++ [V.bl (decide (w.length < 41))]))
        rw [show decide ((w.length : Int) < 41) = decide (w.length < 41) from decide_eq_decide.mpr (by omega)]
      · rw [upd_ne (ne_of_none eb hD)]
        exact sm b u eb
    · rintro H2 ⟨hD2, s2⟩
      have e : H2 D = some (.lst ((ws.map fun w => decide (w.length < 41)).map V.bl)) := by
        rw [hD2, List.map_map, List.take_of_length_le (by simp)]
        rfl
      refine ⟨D, _, rfl, SqL.of e, ?_⟩
      rw [List.all_map]
      exact k H2 (sW.trans s2)
end
end TT

set_option Elab.async false
set_option linter.all false
set_option maxRecDepth 100000
set_option maxHeartbeats 4000000
namespace TT
open PySem PySem.Spec PyProof.Rows L2
section
variable {P : Program} {w : World} {K : PySem.W.Frag} {mg : Str → Option Value} {base : Heap} {Z : Zs}
theorem ok_T_eq (T : Txt K mg Z) : FnOk P w K mg base CX0 1 Z.f_T_eq Z.d_T_eq ["self", "other"] (spEq (TieEq Z.cC)) := by
  refine T.F_T_eq.ok sc_T_eq (fun vs H Q E h => ?_) (fun cdv A outer s H vs Q E hr h => ?_)
  · obtain ⟨a, b, rfl, _⟩ := h
    rfl
  · obtain ⟨a, b, rfl, ⟨r, ⟨da, ha⟩, ⟨db, hb⟩⟩, k⟩ := h
    refine ⟨_, (pss_one (ps_ret (pe_and (pe_callB  call_isi (by rfl) T.b_isinstance (by decide +kernel) (pa_cons (pv 1) (pa_cons (pe_glob (v := .ref Z.cC) rfl T.g_C rfl) pa_nil))) (pe_and (pe_cmpR op_eq (pe_fld (pv 0) rfl) (pe_fld (pv 1) rfl) (nomark _)) (pe_and (pe_cmpR op_eq (pe_fld (pv 0) rfl) (pe_fld (pv 1) rfl) (nomark _)) (pe_and (pe_cmpR op_eq (pe_fld (pv 0) rfl) (pe_fld (pv 1) rfl) (nomark _)) (pe_and (pe_cmpR op_eq (pe_fld (pv 0) rfl) (pe_fld (pv 1) rfl) (nomark _)) (pe_and (pe_cmpR op_eq (pe_fld (pv 0) rfl) (pe_fld (pv 1) rfl) (nomark _)) (pe_one (pe_cmpR op_eq (pe_fld (pv 0) rfl) (pe_fld (pv 1) rfl) (nomark _))))))))))), ?_⟩
    refine ⟨_, rfl, _, _, _, _, true, rfl, .own Z.cC, .base (.ins hb T.cl T.z_cls T.z_get T.z_tk T.z_mro), T.z_kit, true, rfl, iteT ?_⟩
    refine ⟨_, rfl, a, _, da, _, _, rfl, ha, T.cl, T.n_first, tfs_first r, _, rfl, b, _, db, _, _, rfl, hb, T.cl, T.n_first, tfs_first r, rfl, true, by rw [decide_eq_true rfl], iteT ?_⟩
    refine ⟨_, rfl, a, _, da, _, _, rfl, ha, T.cl, T.n_second, tfs_second r, _, rfl, b, _, db, _, _, rfl, hb, T.cl, T.n_second, tfs_second r, rfl, true, by rw [decide_eq_true rfl], iteT ?_⟩
    refine ⟨_, rfl, a, _, da, _, _, rfl, ha, T.cl, T.n_length, tfs_length r, _, rfl, b, _, db, _, _, rfl, hb, T.cl, T.n_length, tfs_length r, rfl, true, by rw [decide_eq_true rfl], iteT ?_⟩
    refine ⟨_, rfl, a, _, da, _, _, rfl, ha, T.cl, T.n_amount, tfs_amount r, _, rfl, b, _, db, _, _, rfl, hb, T.cl, T.n_amount, tfs_amount r, rfl, true, by rw [decide_eq_true rfl], iteT ?_⟩
    refine ⟨_, rfl, a, _, da, _, _, rfl, ha, T.cl, T.n_down, tfs_down r, _, rfl, b, _, db, _, _, rfl, hb, T.cl, T.n_down, tfs_down r, rfl, true, by rw [decide_eq_true rfl], iteT ?_⟩
    refine ⟨_, rfl, a, _, da, _, _, rfl, ha, T.cl, T.n_backward, tfs_backward r, _, rfl, b, _, db, _, _, rfl, hb, T.cl, T.n_backward, tfs_backward r, rfl, ?_⟩
    rw [decide_eq_true rfl]
    exact k H fun _ _ e => e
end
end TT

namespace TT
open PySem PySem.Spec PyProof.Rows L2 LamX
/-! ### == of ties, with either answer -/
def eqB (r r' : Row) : Bool := PyData.eqv r.dat r'.dat
theorem eqB_eq (r r' : Row) : eqB r r' = ((r.f == r'.f) && ((r.s == r'.s) && ((r.l == r'.l) && ((r.a == r'.a) && ((r.d == r'.d) && ((r.b == r'.b) && true)))))) := by
  unfold eqB Row.dat
  simp only [PyData.eqv, PyData.eqvAll]
theorem dec_int (i j : Int) : decide (V.int i = V.int j) = (i == j) := by
  by_cases c : i = j
  · subst c
    simp
  · rw [decide_eq_false (fun e => c (V.int.inj e))]
    simp [c]
theorem dec_bl (i j : Bool) : decide (V.bl i = V.bl j) = (i == j) := by cases i <;> cases j <;> simp
def sp_T_eqB (Z : Zs) : Sp := fun vs H Q _ => ∃ (a : Addr) (y : V) (r : Row), vs = [.ref a, y] ∧ TieAt Z.cC H a r ∧ ((∃ b r', y = .ref b ∧ TieAt Z.cC H b r' ∧ Q (.bl (eqB r r')) H) ∨ ∃ b xs, y = .ref b ∧ H b = some (.tup xs) ∧ Q (.bl false) H)
section
variable {P : Program} {w : World} {K : PySem.W.Frag} {mg : Str → Option Value} {base : Heap} {Z : Zs}
theorem ok_T_eqB (T : Txt K mg Z) : FnOk P w K mg base CX0 1 Z.f_T_eq Z.d_T_eq ["self", "other"] (sp_T_eqB Z) := by
  refine T.F_T_eq.ok sc_T_eq (fun vs H Q E h => ?_) (fun cdv A outer s H vs Q E hr h => ?_)
  · obtain ⟨a, y, r, rfl, _⟩ := h
    rfl
  · obtain ⟨a, y, r, rfl, ⟨da, ha⟩, h⟩ := h
    refine ⟨_, (pss_one (ps_ret (pe_and (pe_callB  call_isi (by rfl) T.b_isinstance (by decide +kernel) (pa_cons (pv 1) (pa_cons (pe_glob (v := .ref Z.cC) rfl T.g_C rfl) pa_nil))) (pe_and (pe_cmpR op_eq (pe_fld (pv 0) rfl) (pe_fld (pv 1) rfl) (nomark _)) (pe_and (pe_cmpR op_eq (pe_fld (pv 0) rfl) (pe_fld (pv 1) rfl) (nomark _)) (pe_and (pe_cmpR op_eq (pe_fld (pv 0) rfl) (pe_fld (pv 1) rfl) (nomark _)) (pe_and (pe_cmpR op_eq (pe_fld (pv 0) rfl) (pe_fld (pv 1) rfl) (nomark _)) (pe_and (pe_cmpR op_eq (pe_fld (pv 0) rfl) (pe_fld (pv 1) rfl) (nomark _)) (pe_one (pe_cmpR op_eq (pe_fld (pv 0) rfl) (pe_fld (pv 1) rfl) (nomark _))))))))))), ?_⟩
    rcases h with ⟨b, r', rfl, ⟨db, hb⟩, k⟩ | ⟨b, xs, rfl, hb, k⟩
    · rw [eqB_eq] at k
      refine ⟨_, rfl, _, _, _, _, true, rfl, .own Z.cC, .base (.ins hb T.cl T.z_cls T.z_get T.z_tk T.z_mro), T.z_kit, true, rfl, iteT ?_⟩
      refine ⟨_, rfl, a, _, da, _, _, rfl, ha, T.cl, T.n_first, tfs_first r, _, rfl, b, _, db, _, _, rfl, hb, T.cl, T.n_first, tfs_first r', rfl, _, rfl, ?_⟩
      rw [dec_int]
      cases c1 : (r.f == r'.f)
      · rw [c1] at k
        exact iteF k
      rw [c1] at k
      refine iteT ⟨_, rfl, a, _, da, _, _, rfl, ha, T.cl, T.n_second, tfs_second r, _, rfl, b, _, db, _, _, rfl, hb, T.cl, T.n_second, tfs_second r', rfl, _, rfl, ?_⟩
      rw [dec_int]
      cases c2 : (r.s == r'.s)
      · rw [c2] at k
        exact iteF k
      rw [c2] at k
      refine iteT ⟨_, rfl, a, _, da, _, _, rfl, ha, T.cl, T.n_length, tfs_length r, _, rfl, b, _, db, _, _, rfl, hb, T.cl, T.n_length, tfs_length r', rfl, _, rfl, ?_⟩
      rw [dec_int]
      cases c3 : (r.l == r'.l)
      · rw [c3] at k
        exact iteF k
      rw [c3] at k
      refine iteT ⟨_, rfl, a, _, da, _, _, rfl, ha, T.cl, T.n_amount, tfs_amount r, _, rfl, b, _, db, _, _, rfl, hb, T.cl, T.n_amount, tfs_amount r', rfl, _, rfl, ?_⟩
      rw [dec_int]
      cases c4 : (r.a == r'.a)
      · rw [c4] at k
        exact iteF k
      rw [c4] at k
      refine iteT ⟨_, rfl, a, _, da, _, _, rfl, ha, T.cl, T.n_down, tfs_down r, _, rfl, b, _, db, _, _, rfl, hb, T.cl, T.n_down, tfs_down r', rfl, _, rfl, ?_⟩
      rw [dec_bl]
      cases c5 : (r.d == r'.d)
      · rw [c5] at k
        exact iteF k
      rw [c5] at k
      refine iteT ⟨_, rfl, a, _, da, _, _, rfl, ha, T.cl, T.n_backward, tfs_backward r, _, rfl, b, _, db, _, _, rfl, hb, T.cl, T.n_backward, tfs_backward r', rfl, ?_⟩
      rw [dec_bl]
      cases c6 : (r.b == r'.b)
      · rw [c6] at k
        exact k
      · rw [c6] at k
        exact k
    · exact ⟨_, rfl, _, _, _, _, false, rfl, .own Z.cC, .base (.tup hb), T.z_kitT, false, rfl, iteF k⟩
end
end TT

namespace TT
open PySem PySem.Spec PyProof.Rows L2 LamX
/-! ### heaps in which tables may have grown, and the pot drawn from -/
/-- all but the pot and the tables stays -/
def KeepN (p : Addr) (H H' : Hp) : Prop := ∀ b o, b ≠ p → H b = some o → (∀ ps, o ≠ .tbl ps) → H' b = some o
theorem KeepN.of {p : Addr} {H H' : Hp} (k : Keep p H H') : KeepN p H H' := fun b o n e _ => k b o n e
theorem KeepN.then {p : Addr} {H H1 H2 : Hp} (a : KeepN p H H1) (b : KeepN p H1 H2) : KeepN p H H2 := fun c o n e t => b c o n (a c o n e t) t
theorem KeepN.ext {p : Addr} {H H1 : Hp} (e : ExtN H H1) : KeepN p H H1 := fun c o _ h t => e c o h t
theorem Tabs.keep {p : Addr} {n : Nat} {T : List (Addr × Str)} {H H' : Hp} (k : Keep p H H') (hp : Pot H p n) (t : Tabs T H) : Tabs T H' := fun q hq => by
  obtain ⟨own, mix, hpp, _⟩ := hp
  obtain ⟨ps, h1, h2, h3⟩ := t q hq
  refine ⟨ps, k _ _ (ne_of h1 hpp fun z => by cases z) h1, h2, fun pos cv hc => ?_⟩
  obtain ⟨c, e1, e2⟩ := h3 pos cv hc
  exact ⟨c, e1, k _ _ (ne_of e2 hpp fun z => by unfold CodeO at z; cases z) e2⟩
/-- a list's object is written: the tables stay -/
theorem Tabs.lst {T : List (Addr × Str)} {H : Hp} {D : Addr} {xs : List V} {o : HO} (hD : H D = some (.lst xs)) (t : Tabs T H) : Tabs T (upd H D o) := fun q hq => by
  obtain ⟨ps, h1, h2, h3⟩ := t q hq
  refine ⟨ps, by rw [upd_ne (ne_of h1 hD fun z => by cases z)]; exact h1, h2, fun pos cv hc => ?_⟩
  obtain ⟨c, e1, e2⟩ := h3 pos cv hc
  exact ⟨c, e1, by rw [upd_ne (ne_of e2 hD fun z => by unfold CodeO at z; cases z)]; exact e2⟩
theorem Pot.extN {H H' : Hp} {p : Addr} {n : Nat} (e : ExtN H H') (hp : Pot H p n) : Pot H' p n := by
  obtain ⟨own, mix, h, r⟩ := hp
  exact ⟨own, mix, e _ _ h (fun ps z => nomatch z), r⟩
theorem shareT {T : Addr → Hp → Prop} {G : Prop} (C : Addr → Hp → Prop) (h : (∀ q H, C q H → T q H) → G) (t : ∀ q H, C q H → T q H) : G := h t
theorem shareB {T : Bool → Prop} {G : Prop} (C : Bool → Prop) (h : (∀ b, C b → T b) → G) (t : ∀ b, C b → T b) : G := h t
theorem Row.Ok.far {r : Row} (h : r.Ok) {z : Int} (z0 : 0 ≤ z) (hf : r.f + z + r.l ≤ 10 ^ 30) (hs : r.s + z + r.l ≤ 10 ^ 30) : Row.Ok { r with f := r.f + z, s := r.s + z } :=
  ⟨by show 0 ≤ r.f + z; have := h.f0; omega, by show 0 ≤ r.s + z; have := h.s0; omega, h.l0, hf, hs, h.al, h.ah, h.bk⟩
theorem Pot.off {H : Hp} {p q : Addr} {n : Nat} {o : HO} (hp : Pot H p n) (hq : H q = some o) (h : ∀ xs, o ≠ .lst xs) : q ≠ p := by
  rintro rfl
  obtain ⟨a, m, e, _⟩ := hp
  rw [hq] at e
  exact h _ (Option.some.inj e)
theorem rg_mem {a b : Int} {x : V} (h : x ∈ rgV a b) : ∃ z : Int, x = .int z ∧ a ≤ z ∧ z < b := by
  unfold rgV at h
  obtain ⟨j, hj, rfl⟩ := List.mem_map.mp h
  have := List.mem_range.mp hj
  exact ⟨a + (j : Int), rfl, by omega, by omega⟩
/-- the error that is met, since H -/
def Caught (H : Hp) (C : Addr) (v : V) : VK := fun u H2 => ∃ a, u = V.ref a ∧ Same H H2 ∧ Met H2 a C [("value", v)]
/-- what look's reading is asked, so that met_error gives G -/
def met (K : PySem.W.Frag) (CE : Addr) (tl : XK → Hp → VK → Prop) (H : Hp) (G : VK) : Prop := tl (fun cls dd H' => PySem.W.exmOne K cls (.ref CE) = some true ∧ ∀ a, H' a = none → G (.ref a) (upd H' a (exk a cls dd))) H (fun _ H' => G .non H')
end TT

set_option maxHeartbeats 4000000
namespace TT
open PySem PySem.Spec PyProof.Rows L2 LamX TL
/-! ### read as is due -/
def tabs (Z : Zs) : List (Addr × Str) := [(Z.t_l_is_read, lamN "_law_is_read")]
theorem tabs_mem (Z : Zs) : (Z.t_l_is_read, lamN "_law_is_read") ∈ tabs Z := List.mem_singleton.mpr rfl
theorem tabs_one (Z : Zs) : ∀ p ∈ tabs Z, p.1 = Z.t_l_is_read → p.2 = lamN "_law_is_read" := fun p hp _ => by rw [List.mem_singleton.mp hp]
/-- the reading of  lambda: Tie.of(_law_value) -/
def tF (K : PySem.W.Frag) (Z : Zs) (E : XK) : TE := tStat Z.cC (sp_T_of K Z) E (tC (.ref Z.cC)) (tCons (tVar 0) tNil)
/-- what is due of a value -/
inductive Due (K : PySem.W.Frag) (H : Hp) : V → Option Row → Prop
  | txt {t : Str} (f : Fine t) : Due K H (.str t) (tieOf t)
  | no {v : V} (h : NoStr K H v) : Due K H v none
/-- what met_error gives -/
def GR (Z : Zs) (v : V) (o : Option Row) (H1 : Hp) : VK := fun w' H2 => Same H1 H2 ∧ match o with
  | some _ => w' = .non
  | none => ∃ a, w' = V.ref a ∧ Met H2 a (Z.c 4) [("value", v)]
def sp_l_is_read (K : PySem.W.Frag) (Z : Zs) : Sp := fun vs H Q _ => ∃ (v : V) (o : Option Row) (d : PyData), vs = [v] ∧ Due K H v o ∧ (∀ H', ExtN H H' → Due K H' v o ∧ DpD K H' v d) ∧ Shown d ∧ Tabs (tabs Z) H ∧ ∀ H', ExtN H H' → Tabs (tabs Z) H' → Q (.bl true) H'
theorem tieOf_ok {t : Str} {r : Row} (f : Fine t) (h : tieOf t = some r) : r.Ok := by
  unfold tieOf at h
  cases e : vals (Txt.split t (Str.ofString " ")) with
  | none =>
    rw [e] at h
    cases h
  | some q =>
    rw [e] at h
    have h' : (if q.Fits then some q.tied else none) = some r := h
    by_cases c : q.Fits
    · rw [if_pos c] at h'
      cases h'
      exact Row.tied_ok c (vals_a f.wd e)
    · rw [if_neg c] at h'
      cases h'
section
variable {P : Program} {w : World} {K : PySem.W.Frag} {mg : Str → Option Value} {base : Heap} {Z : Zs}
theorem ok_l_is_read (T : Txt K mg Z) (TB : TabB base mg Z.c_l_is_read Z.t_l_is_read) : GOk P w K mg base CX0 12 Z.f_l_is_read Z.d_l_is_read ["_law_value"] (sp_l_is_read K Z) := by
  refine okGC T.F_l_is_read sc_l_is_read (fun vs H Q E h => ?_) (fun A outer s H vs Q E g hr h => ?_)
  · obtain ⟨v, o, d, rfl, _⟩ := h
    rfl
  · obtain ⟨v, o, d, rfl, du, st, sh, hT, k⟩ := h
    refine ⟨_, (pss_cons (ps_par (i := 1) (j := 2) (by rfl) sc_l_is_read.nd rfl rfl (by decide) rfl rfl (pa_cons (pe_lam (T := tabs Z) (t := tF K Z) (ok_l_met_error T) (by exact g) (hr.mono (by decide)) T.bn_l_met_error rfl T.g_l_met_error T.k_l_met_error pa_nil TB rfl (tabs_mem Z) (tabs_one Z) (lamS_by (sc := defScope s_l_is_read) (by decide +kernel)) rfl (fun _ _ _ _ _ => rfl) (fun A outer s H E f c' hr' => (pe_stat (mc := .type "type") (pe_glob (v := .ref Z.cC) rfl T.g_C rfl) T.z_read T.z_sta (ok_T_of T) (hr'.mono (k := 9) (by decide)) T.bn_T_of (passes_call (takes_of rfl rfl rfl rfl) (fun _ _ _ _ h => h)) (pa_cons (pv 0) pa_nil)))) (pa_cons (pe_call (ok_l_row_told T) (hr.mono (by decide)) rfl T.g_l_row_told T.k_l_row_told T.bn_l_row_told .nil pass0 (pa_cons (pv 0) pa_nil)) pa_nil)) (by rfl))
      (pss_cons (ps_if (pt_cmpR op_isN (pv 2) pe_non (nomark _)) (pss_one (ps_ret (pe_and (pe_callB (r := rIsM K) (id := "isinstance") call_isM (by rfl) T.b_isinstance (by decide +kernel) (pa_cons (pv 1) (pa_cons (pe_glob (v := .ref (Z.c 4)) rfl T.g_BadText rfl) pa_nil))) (pe_one (pe_cmpR op_eq (pe_callB (r := rReprD K) (id := "repr") (call_reprS (by exact g) (by exact hr.units)) (by rfl) T.b_repr (by decide +kernel) (pa_cons (show PE _ _ (tMv K "value" (tVar 1)) from pe_mv (pv 1)) pa_nil)) (pe_callB (r := rReprD K) (id := "repr") (call_reprS (by exact g) (by exact hr.units)) (by rfl) T.b_repr (by decide +kernel) (pa_cons (pv 0) pa_nil)) (nomark _)))))) pss_nil)
      (pss_one (ps_ret (pe_and (pe_cmpR op_isN (pv 1) pe_non (nomark _)) (pe_one (pe_cmpR op_eq (pe_callB (r := rReprD K) (id := "repr") (call_reprS (by exact g) (by exact hr.units)) (by rfl) T.b_repr (by decide +kernel) (pa_cons (pe_call (ok_l_row_of T) (hr.mono (by decide)) rfl T.g_l_row_of T.k_l_row_of T.bn_l_row_of .nil pass0 (pa_cons (pe_stat (mc := .type "type") (pe_glob (v := .ref Z.cC) rfl T.g_C rfl) T.z_read T.z_sta (ok_T_of T) (hr.mono (by decide)) T.bn_T_of passF (pa_cons (pv 0) pa_nil)) pa_nil)) pa_nil)) (pe_callB (r := rReprD K) (id := "repr") (call_reprS (by exact g) (by exact hr.units)) (by rfl) T.b_repr (by decide +kernel) (pa_cons (pv 2) pa_nil)) (nomark _)))))))), ?_⟩
    have x4 := T.ex 4 (by decide)
    have Te := T.ex 5 (by decide)
    refine ⟨hT, fun H1 c1 e1 hT1 hc1 => ⟨rfl, GR Z v o H1, fun w' H2 gw => ?rest, hc1, rfl, _, rfl, v, rfl, ?look⟩⟩
    case look =>
      rcases (st H1 e1).1 with ⟨f⟩ | ⟨h⟩
      · refine .inl ⟨_, rfl, f, fun r er x H2 nx s2 hx => ⟨s2, by rw [er]⟩, fun en => ?_⟩
        exact Out.met (G := GR Z _ _ H1) x4 Te fun a H2 s2 mt => ⟨s2, by rw [en]; exact ⟨a, rfl, mt⟩⟩
      · exact .inr ⟨h, Out.met (G := GR Z _ none H1) x4 Te fun a H2 s2 mt => ⟨s2, a, rfl, mt⟩⟩
    case rest =>
      obtain ⟨s2, gw⟩ := gw
      have e2 : ExtN H H2 := e1.trans (ExtN.same s2)
      have hT2 := hT1.ext s2
      rcases id (st H2 e2).1 with ⟨f⟩ | ⟨h⟩
      case no =>
        refine ⟨_, rfl, _, rfl, .inr ⟨h, fun H3 s3 => ?_⟩⟩
        obtain ⟨a, rfl, mt⟩ := gw
        have mt3 := mt.same s3
        have dp3 := (st H3 (e2.trans (ExtN.same s3))).2
        refine ⟨_, _, rfl, _, rfl, rfl, _, rfl, iteT ⟨_, rfl, a, Z.c 4, _, .ref (Z.c 4), .ref (Z.c 4), true, true, rfl, mt3, x4.ec, x4.selfC, .own _, x4.self, true, rfl, iteT ?_⟩⟩
        refine ⟨_, rfl, a, Z.c 4, _, _, rfl, mt3, x4.xf, x4.nv, rfl, _, d, rfl, .one dp3, sh.ok, sh.dep, sh.len, ?_⟩
        refine ⟨_, rfl, _, d, rfl, .one dp3, sh.ok, sh.dep, sh.len, rfl, ?_⟩
        rw [decide_eq_true rfl]
        exact k H3 (e2.trans (ExtN.same s3)) (hT2.ext s3)
      rename_i t
      refine ⟨_, rfl, _, rfl, .inl ⟨t, rfl, f, fun r er x H3 s3 hx => ?_, fun en H3 s3 => ?_⟩⟩
      case refine_2 =>
        rw [en] at gw
        obtain ⟨a, rfl, mt⟩ := gw
        have mt3 := mt.same s3
        have dp3 := (st H3 (e2.trans (ExtN.same s3))).2
        refine ⟨_, _, rfl, _, rfl, rfl, _, rfl, iteT ⟨_, rfl, a, Z.c 4, _, .ref (Z.c 4), .ref (Z.c 4), true, true, rfl, mt3, x4.ec, x4.selfC, .own _, x4.self, true, rfl, iteT ?_⟩⟩
        refine ⟨_, rfl, a, Z.c 4, _, _, rfl, mt3, x4.xf, x4.nv, rfl, _, d, rfl, .one dp3, sh.ok, sh.dep, sh.len, ?_⟩
        refine ⟨_, rfl, _, d, rfl, .one dp3, sh.ok, sh.dep, sh.len, rfl, ?_⟩
        rw [decide_eq_true rfl]
        exact k H3 (e2.trans (ExtN.same s3)) (hT2.ext s3)
      rw [er] at gw
      obtain rfl : w' = .non := gw
      have e3 := e2.trans (ExtN.same s3)
      have hT3 := hT2.ext s3
      have okr := tieOf_ok f er
      obtain ⟨w1, w2, w3, w4⟩ := dat_ok okr
      refine ⟨_, _, rfl, _, rfl, rfl, _, rfl, iteF ⟨_, rfl, rfl, true, rfl, iteT ?_⟩⟩
      refine ⟨rfl, _, rfl, _, rfl, .inl ⟨t, rfl, f, fun r' er' y H4 ny s4 hy => ?_, fun en => by rw [er] at en; cases en⟩⟩
      obtain rfl : r' = r := Option.some.inj (er'.symm.trans er)
      refine ⟨y, r', rfl, hy, fun z nz => ?_⟩
      have s5 := Same.new (o := .tup r'.vs) s4 nz
      refine ⟨_, r'.dat, rfl, .one (.dp (Row.dp upd_same) w2), w1, w3, w4, _, rfl, _, r'.dat, rfl, .one (.dp (Row.dp (s5 _ _ hx)) w2), w1, w3, w4, rfl, ?_⟩
      rw [decide_eq_true rfl]
      exact k _ (e3.trans (ExtN.same s5)) (hT3.ext s5)
end
end TT

set_option maxHeartbeats 4000000
namespace TT
open PySem PySem.Spec PyProof.Rows L2 LamX TL
/-! ### texts that may be read -/
theorem strOk_tl {t : Str} : PyData.strOk t = true ↔ ∀ c ∈ tl t, c < 1114112 := by
  unfold PyData.strOk
  rw [← Array.all_toList, List.all_eq_true]
  exact ⟨fun h c hc => of_decide_eq_true (h c hc), fun h c hc => decide_eq_true (h c hc)⟩
/-- a word that may stand in a text -/
structure WdN (n : Nat) (p : Str) : Prop where
  len : p.length ≤ n
  ok : ∀ c ∈ tl p, c < 128
  no : 32 ∉ tl p
abbrev Wd (p : Str) : Prop := WdN 42 p
theorem WdN.up {n : Nat} {p : Str} (h : WdN n p) (l : n ≤ 50) : WdN 50 p := ⟨Nat.le_trans h.len l, h.ok, h.no⟩
theorem split_wd {ws : List Str} (h0 : ws ≠ []) (h : ∀ p ∈ ws, WdN 50 p) : Txt.split (Txt.join (Str.ofString " ") ws) (Str.ofString " ") = ws :=
  split_join (s := 32) (S := []) sp_tl (by decide +kernel) h0 fun p hp => (h p hp).no
theorem fine_words {ws : List Str} (h0 : ws ≠ []) (h : ∀ p ∈ ws, WdN 50 p) (hl : amt ws ≤ 1000) : Fine (Txt.join (Str.ofString " ") ws) :=
  ⟨Nat.le_trans (join_len ws) hl, fun p hp => (h p (by rw [split_wd h0 h] at hp; exact hp)).len, fun p hp => strOk_tl.mpr fun c hc => Nat.lt_trans ((h p (by rw [split_wd h0 h] at hp; exact hp)).ok c hc) (by decide)⟩
theorem asc_ok {t : Str} (h : Asc t) : ∀ c ∈ tl t, c < 1114112 := fun c hc => by
  have := (h c hc).1
  omega
/-- what is short may be read -/
theorem fine_short {t : Str} (a : Asc t) (l : t.length ≤ 1000) (s : (Txt.split t (Str.ofString " ")).all (fun w => decide (w.length < 41)) = true) : Fine t :=
  ⟨l, fun p hp => by
    have := of_decide_eq_true (List.all_eq_true.mp s p hp)
    omega, fun p hp => strOk_tl.mpr (asc_ok (a.split p hp))⟩
/-- its repr is told -/
theorem shown_txt {t : Str} (h : ∀ c ∈ tl t, c < 1114112) (l : t.length ≤ 1000) : Shown (.str t) := by
  have sl : sizeLine = 16777216 := sizeLine_eq
  refine ⟨by simp [PyData.showable], by simp [PyData.depth], ?_⟩
  have b : (PyData.str t).leavesShort 13 = true := by
    simp only [PyData.leavesShort, List.all_eq_true, decide_eq_true_eq]
    intro c hc
    have := h c hc
    omega
  have q := PyData.shown_le 13 (by decide) _ b
  have w : (PyData.str t).weight ≤ 1000 := l
  omega
theorem digit_asc {n : Int} (h : 0 ≤ n) : ∀ c ∈ tl (Str.ofString (toString n)), 48 ≤ c ∧ c ≤ 57 := fun c hc => by
  rw [tl_int h] at hc
  exact numL_digits _ c hc
theorem wd_int {n : Int} (h0 : 0 ≤ n) (h1 : n < 10 ^ 40) : Wd (Str.ofString (toString n)) := by
  have z := toString_length_le h0 (k := 40) (by decide) h1
  refine ⟨by omega, fun c hc => ?_, fun hc => ?_⟩
  · have := digit_asc h0 c hc
    omega
  · have := digit_asc h0 _ hc
    omega
theorem wd_const {p : Str} (h : (decide (p.length ≤ 42) && (tl p).all (fun c => decide (c < 128) && decide (c ≠ 32))) = true) : Wd p := by
  rw [Bool.and_eq_true] at h
  have a := List.all_eq_true.mp h.2
  refine ⟨of_decide_eq_true h.1, fun c hc => ?_, fun hc => ?_⟩
  · have := a c hc
    simp at this
    omega
  · have := a _ hc
    simp at this
theorem wd_shown {n : Int} (h0 : -(10 ^ 40) < n) (h1 : n < 10 ^ 40) : Wd (shownInt n) := by
  unfold shownInt
  split
  · have z := toString_length_le (v := -n) (by omega) (k := 40) (by decide) (by omega)
    have e : (Str.ofString "-").length = 1 := by decide
    have e1 : tl (Str.ofString "-") = [45] := by decide +kernel
    refine ⟨by rw [Str.length_append]; omega, fun c hc => ?_, fun hc => ?_⟩
    · rw [tl_append, e1] at hc
      rcases List.mem_append.mp hc with hc | hc
      · rw [List.mem_singleton.mp hc]
        decide
      · have := digit_asc (by omega) c hc
        omega
    · rw [tl_append, e1] at hc
      rcases List.mem_append.mp hc with hc | hc
      · simp at hc
      · have := digit_asc (by omega) _ hc
        omega
  · exact wd_int (by omega) h1
theorem wd_way (b : Bool) : Wd (way b) := by
  cases b
  · exact wd_const (by decide +kernel)
  · exact wd_const (by decide +kernel)
theorem wd_row {r : Row} (ok : r.Ok) (h0 : -(10 ^ 36) < r.a) (h1 : r.a < 10 ^ 36) (bk : Bool) : ∀ p ∈ wordsOf r bk, Wd p := by
  intro p hp
  have hf := ok.f0; have hs := ok.s0; have hl := ok.l0; have hfe := ok.fe; have hse := ok.se
  have e1 : (10 : Int) ^ 30 < 10 ^ 40 := by decide +kernel
  have e2 : (10 : Int) ^ 36 < 10 ^ 40 := by decide +kernel
  unfold wordsOf at hp
  rcases List.mem_append.mp hp with hp | hp
  · simp only [List.mem_cons, List.not_mem_nil, or_false] at hp
    rcases hp with rfl | rfl | rfl | rfl | rfl
    · exact wd_int hf (by omega)
    · exact wd_int hs (by omega)
    · exact wd_int (by omega) (by omega)
    · exact wd_way _
    · exact wd_shown (by omega) (by omega)
  · split at hp
    · rw [List.mem_singleton.mp hp]
      exact wd_const (by decide +kernel)
    · cases hp
theorem words_nonempty (r : Row) (bk : Bool) : wordsOf r bk ≠ [] := by
  unfold wordsOf
  simp
theorem words_amt300 {r : Row} (ok : r.Ok) (bk : Bool) : amt (wordsOf r bk) ≤ 300 := by
  have := words_sum ok bk
  rw [show (Str.ofString " ").length = 1 from by decide] at this
  unfold amt
  omega
theorem fine_row {r : Row} (ok : r.Ok) (h0 : -(10 ^ 36) < r.a) (h1 : r.a < 10 ^ 36) (bk : Bool) : Fine (rowText r bk) :=
  fine_words (words_nonempty r bk) (fun p hp => (wd_row ok h0 h1 bk p hp).up (by decide)) (Nat.le_trans (words_amt300 ok bk) (by decide))
/-- a text with one word more -/
theorem join_snoc {ws : List Str} (h : ws ≠ []) (x : Str) : Txt.join (Str.ofString " ") (ws ++ [x]) = Txt.join (Str.ofString " ") ws ++ (Str.ofString " " ++ x) := by
  refine ext_tl ?_
  rw [tl_append, tl_append, show Txt.join (Str.ofString " ") (ws ++ [x]) = _ from join_eq _ _, show Txt.join (Str.ofString " ") ws = _ from join_eq _ _, tl_join, tl_join, sp_tl]
  have : ∀ (l : List (List Nat)) (y : List Nat), l ≠ [] → joinL [32] (l ++ [y]) = joinL [32] l ++ ([32] ++ y) := by
    intro l y
    induction l with
    | nil => exact fun h => absurd rfl h
    | cons a l ih =>
      intro _
      cases l with
      | nil => simp [joinL]
      | cons b l => 
        have := ih (by simp)
        simp only [List.cons_append, joinL] at this ⊢
        rw [this]
        simp
  rw [List.map_append]
  exact this _ _ (by simpa using h)
theorem row_back {r : Row} (ok : r.Ok) (h0 : -(10 ^ 36) < r.a) (h1 : r.a < 10 ^ 36) (bk : Bool) : Fine (rowText r bk ++ Str.ofString " back") := by
  have e : Str.ofString " back" = Str.ofString " " ++ Str.ofString "back" := by decide +kernel
  have a := words_amt300 ok bk
  unfold rowText
  rw [e, ← join_snoc (words_nonempty r bk)]
  refine fine_words (by simp) (fun p hp => ?_) ?_
  · rcases List.mem_append.mp hp with hp | hp
    · exact (wd_row ok h0 h1 bk p hp).up (by decide)
    · rw [List.mem_singleton.mp hp]
      exact WdN.up (n := 42) (wd_const (by decide +kernel)) (by decide)
  · rw [amt_add]
    have : amt [Str.ofString "back"] = 5 := by decide +kernel
    omega
theorem tl_joinW (ws : List Str) : tl (Txt.join (Str.ofString " ") ws) = joinL [32] (ws.map tl) := by
  rw [show Txt.join (Str.ofString " ") ws = _ from join_eq _ _, tl_join, sp_tl]
theorem joinL_snoc : ∀ (l : List (List Nat)) (y x : List Nat), joinL [32] (l ++ [y]) ++ x = joinL [32] (l ++ [y ++ x])
  | [], y, x => rfl
  | [a], y, x => by simp [joinL]
  | a :: b :: l, y, x => by
    have := joinL_snoc (b :: l) y x
    simp only [List.cons_append, joinL] at this ⊢
    rw [← this]
    simp
theorem row_nl {r : Row} (ok : r.Ok) (h0 : -(10 ^ 36) < r.a) (h1 : r.a < 10 ^ 36) (bk : Bool) : Fine (rowText r bk ++ Str.ofString "\n") := by
  have a := words_amt300 ok bk
  have ne := words_nonempty r bk
  have w := wd_row ok h0 h1 bk
  obtain ⟨l, y, e⟩ : ∃ l y, wordsOf r bk = l ++ [y] := ⟨_, _, (List.dropLast_concat_getLast ne).symm⟩
  have e2 : rowText r bk ++ Str.ofString "\n" = Txt.join (Str.ofString " ") (l ++ [y ++ Str.ofString "\n"]) := by
    refine ext_tl ?_
    unfold rowText
    rw [tl_append, tl_joinW, tl_joinW, e, List.map_append, List.map_append]
    show joinL [32] (l.map tl ++ [tl y]) ++ _ = joinL [32] (l.map tl ++ [tl (y ++ Str.ofString "\n")])
    rw [joinL_snoc, tl_append]
  have n1 : (Str.ofString "\n").length = 1 := by decide
  have n2 : tl (Str.ofString "\n") = [10] := by decide +kernel
  rw [e2]
  refine fine_words (by simp) (fun p hp => ?_) ?_
  · rcases List.mem_append.mp hp with hp | hp
    · exact (w p (by rw [e]; exact List.mem_append_left _ hp)).up (by decide)
    · have hy := w y (by rw [e]; exact List.mem_append_right _ List.mem_cons_self)
      rw [List.mem_singleton.mp hp]
      refine ⟨by rw [Str.length_append]; have := hy.len; omega, fun c hc => ?_, fun hc => ?_⟩
      · rw [tl_append, n2] at hc
        rcases List.mem_append.mp hc with hc | hc
        · exact hy.ok c hc
        · rw [List.mem_singleton.mp hc]
          decide
      · rw [tl_append, n2] at hc
        rcases List.mem_append.mp hc with hc | hc
        · exact hy.no hc
        · simp at hc
  · rw [e, amt_add] at a
    rw [amt_add]
    have : amt [y ++ Str.ofString "\n"] = amt [y] + 1 := by
      unfold amt
      simp [Str.length_append, n1]
    omega
theorem row_sp {r : Row} (ok : r.Ok) (h0 : -(10 ^ 36) < r.a) (h1 : r.a < 10 ^ 36) (bk : Bool) : Fine (Str.ofString " " ++ rowText r bk) := by
  have a := words_amt300 ok bk
  have ne := words_nonempty r bk
  have e2 : Str.ofString " " ++ rowText r bk = Txt.join (Str.ofString " ") (Str.ofString "" :: wordsOf r bk) := by
    refine ext_tl ?_
    unfold rowText
    rw [tl_append, tl_joinW, tl_joinW, sp_tl, List.map_cons, show tl (Str.ofString "") = [] from rfl]
    cases h : (wordsOf r bk).map tl with
    | nil => exact absurd h (by simpa using ne)
    | cons x l => simp [joinL]
  rw [e2]
  refine fine_words (by simp) (fun p hp => ?_) ?_
  · rcases List.mem_cons.mp hp with hp | hp
    · rw [hp]
      exact WdN.up (n := 42) (wd_const (by decide +kernel)) (by decide)
    · exact (wd_row ok h0 h1 bk p hp).up (by decide)
  · have := amt_add [Str.ofString ""] (wordsOf r bk)
    have b : amt [Str.ofString ""] = 1 := by decide +kernel
    rw [List.singleton_append] at this
    omega
theorem joinL_map (f : Nat → Nat) (h : f 32 = 32) : ∀ l : List (List Nat), (joinL [32] l).map f = joinL [32] (l.map (·.map f))
  | [] => rfl
  | [a] => rfl
  | a :: b :: l => by
    have := joinL_map f h (b :: l)
    simp only [joinL, List.map_append, List.map_cons] at this ⊢
    rw [this]
    simp [h]
theorem up_lt {c : Nat} (h : c < 128) : PyProof.Rows.up1 c < 128 ∧ (PyProof.Rows.up1 c = 32 → c = 32) := by
  have : ∀ c, c < 128 → PyProof.Rows.up1 c < 128 ∧ (PyProof.Rows.up1 c = 32 → c = 32) := by decide +kernel
  exact this c h
theorem row_up {r : Row} (ok : r.Ok) (h0 : -(10 ^ 36) < r.a) (h1 : r.a < 10 ^ 36) (bk : Bool) : Fine (Txt.upper (rowText r bk)) ∧ (∀ c ∈ tl (Txt.upper (rowText r bk)), c < 1114112) := by
  have a := words_amt300 ok bk
  have ne := words_nonempty r bk
  have w := wd_row ok h0 h1 bk
  have all : ∀ c ∈ tl (rowText r bk), c < 128 := fun c hc => by
    unfold rowText at hc
    rw [tl_joinW] at hc
    rcases joinL_mem hc with hc | ⟨q, hq, hc⟩
    · rw [List.mem_singleton.mp hc]
      decide
    · obtain ⟨p, hp, rfl⟩ := List.mem_map.mp hq
      exact (w p hp).ok c hc
  have eu : tl (Txt.upper (rowText r bk)) = (tl (rowText r bk)).map PyProof.Rows.up1 := by
    have e := SX.upper_S (a := tl (rowText r bk)) (List.all_eq_true.mpr fun c hc => decide_eq_true (all c hc))
    have e1 : SX.S (tl (rowText r bk)) = rowText r bk := mk_tl _
    rw [e1] at e
    rw [e]
  have e2 : Txt.upper (rowText r bk) = Txt.join (Str.ofString " ") ((wordsOf r bk).map fun p => SX.S ((tl p).map PyProof.Rows.up1)) := by
    refine ext_tl ?_
    rw [eu, tl_joinW]
    unfold rowText
    rw [tl_joinW, joinL_map _ (by decide +kernel), List.map_map, List.map_map]
    rfl
  refine ⟨?_, fun c hc => ?_⟩
  · rw [e2]
    refine fine_words (by simpa using ne) (fun p hp => ?_) ?_
    · obtain ⟨q, hq, rfl⟩ := List.mem_map.mp hp
      have wq := w q hq
      have et : tl (SX.S ((tl q).map PyProof.Rows.up1)) = (tl q).map PyProof.Rows.up1 := rfl
      refine ⟨?_, fun c hc => ?_, fun hc => ?_⟩
      · rw [len_tl, et, List.length_map, ← len_tl]
        have := wq.len
        omega
      · rw [et] at hc
        obtain ⟨c', hc', rfl⟩ := List.mem_map.mp hc
        exact (up_lt (wq.ok c' hc')).1
      · rw [et] at hc
        obtain ⟨c', hc', e'⟩ := List.mem_map.mp hc
        rw [(up_lt (wq.ok c' hc')).2 e'] at hc'
        exact wq.no hc'
    · have : amt ((wordsOf r bk).map fun p => SX.S ((tl p).map PyProof.Rows.up1)) = amt (wordsOf r bk) := by
        unfold amt
        rw [List.map_map, List.length_map]
        congr 2
        refine List.map_congr_left fun p _ => ?_
        show (SX.S ((tl p).map PyProof.Rows.up1)).length = p.length
        rw [len_tl, len_tl p]
        show ((tl p).map _).length = _
        rw [List.length_map]
      omega
  · rw [eu] at hc
    obtain ⟨c', hc', rfl⟩ := List.mem_map.mp hc
    have := (up_lt (all c' hc')).1
    omega
theorem row_asc {r : Row} (ok : r.Ok) (h0 : -(10 ^ 36) < r.a) (h1 : r.a < 10 ^ 36) (bk : Bool) : Asc (rowText r bk) := by
  unfold rowText
  exact Asc.join fun p hp c hc => ⟨(wd_row ok h0 h1 bk p hp).ok c hc, fun e => word_free ok (.inr rfl) p hp (e ▸ hc)⟩
def fineB (x : Str) : Bool := decide (x.length ≤ 1000) && (Txt.split x (Str.ofString " ")).all (fun p => decide (p.length ≤ 50) && PyData.strOk p)
theorem fine_b {x : Str} (h : fineB x = true) : Fine x := by
  unfold fineB at h
  rw [Bool.and_eq_true] at h
  have a := List.all_eq_true.mp h.2
  refine ⟨of_decide_eq_true h.1, fun p hp => ?_, fun p hp => ?_⟩
  · have := a p hp
    rw [Bool.and_eq_true] at this
    exact of_decide_eq_true this.1
  · have := a p hp
    rw [Bool.and_eq_true] at this
    exact this.2
theorem menu_fineB : menu.all (fun d => match d with | .str x => fineB x | _ => true) = true := by decide +kernel
theorem Odd.due {K : PySem.W.Frag} {p : Addr} {H : Hp} {v : V} {d : PyData} (o : Odd p H v d) (m : d ∈ menu) : ∃ x, Due K H v x ∧ ∀ H', ExtN H H' → Due K H' v x := by
  have ns : ∀ {t : Value}, (∀ H', ExtN H H' → TyX K H' v t) → PySem.W.kitOne K t (.type "str") = some false → ∃ x, Due K H v x ∧ ∀ H', ExtN H H' → Due K H' v x := fun ty k => ⟨none, .no ⟨_, ty H (ExtN.refl H), k⟩, fun H' e => .no ⟨_, ty H' e, k⟩⟩
  cases o with
  | fl h =>
    cases h with
    | non => exact ns (fun _ _ => .base .non) (kit_ty (by show kitB "NoneType" "str" = some false; decide +kernel))
    | bl b => exact ns (fun _ _ => .base (.bl b)) (kit_ty (by show kitB "bool" "str" = some false; decide +kernel))
    | int i => exact ns (fun _ _ => .base (.int i)) (kit_ty (by show kitB "int" "str" = some false; decide +kernel))
    | str x =>
      have f := fine_b (List.all_eq_true.mp menu_fineB _ m)
      exact ⟨_, .txt f, fun _ _ => .txt f⟩
  | t n h f => exact ns (fun _ e => .base (.tup (e _ _ h fun _ z => nomatch z))) (kit_ty (by show kitB "tuple" "str" = some false; decide +kernel))
  | l n h f => exact ns (fun _ e => .base (.lst (e _ _ h fun _ z => nomatch z))) (kit_ty (by show kitB "list" "str" = some false; decide +kernel))
  | tt n m' h h2 => exact ns (fun _ e => .base (.tup (e _ _ h fun _ z => nomatch z))) (kit_ty (by show kitB "tuple" "str" = some false; decide +kernel))
  | d0 n h => exact ns (fun _ e => .base (.dK (e _ _ h fun _ z => nomatch z))) (kit_ty (by show kitB "dict" "str" = some false; decide +kernel))
  | d1 n h => exact ns (fun _ e => .base (.dK (e _ _ h fun _ z => nomatch z))) (kit_ty (by show kitB "dict" "str" = some false; decide +kernel))
/-- read as is due, now and later -/
def Good (K : PySem.W.Frag) (H : Hp) (v : V) : Prop := ∃ (o : Option Row) (d : PyData), Shown d ∧ ∀ H', ExtN H H' → Due K H' v o ∧ DpD K H' v d
theorem Good.ext {K : PySem.W.Frag} {H H1 : Hp} {v : V} (g : Good K H v) (e : ExtN H H1) : Good K H1 v := by
  obtain ⟨o, d, s, h⟩ := g
  exact ⟨o, d, s, fun H' e' => h H' (e.trans e')⟩
theorem good_txt {K : PySem.W.Frag} {H : Hp} {t : Str} (f : Fine t) (h : ∀ c ∈ tl t, c < 1114112) : Good K H (.str t) := ⟨_, .str t, shown_txt h f.len, fun _ _ => ⟨.txt f, .dp (.str t) rfl⟩⟩
theorem good_const {K : PySem.W.Frag} {H : Hp} {t : Str} (h : (fineB t && PyData.strOk t) = true) : Good K H (.str t) := by
  rw [Bool.and_eq_true] at h
  exact good_txt (fine_b h.1) (strOk_tl.mp h.2)
theorem good_odd {K : PySem.W.Frag} {p : Addr} {H : Hp} {v : V} {d : PyData} (o : Odd p H v d) (m : d ∈ menu) (ex : ∀ H', ExtN H H' → Odd p H' v d) : Good K H v := by
  obtain ⟨x, _, hx⟩ := o.due (K := K) m
  exact ⟨x, d, shown_menu m, fun H' e => ⟨hx H' e, (ex H' e).dp⟩⟩
theorem shown_w {d : PyData} (h : d.showable = true) (dp : d.depth ≤ 60) (b : d.leavesShort 13 = true) (w : d.weight ≤ 2000) : Shown d := by
  have sl : sizeLine = 16777216 := sizeLine_eq
  have q := PyData.shown_le 13 (by decide) _ b
  exact ⟨h, dp, by omega⟩
theorem leaves_txt {t : Str} (h : ∀ c ∈ tl t, c < 1114112) : (PyData.str t).leavesShort 13 = true := by
  simp only [PyData.leavesShort, List.all_eq_true, decide_eq_true_eq]
  intro c hc
  have := h c hc
  omega
theorem shown_tup {t : Str} (h : ∀ c ∈ tl t, c < 1114112) (l : t.length ≤ 1000) : Shown (.tuple [.str t]) := by
  have b := leaves_txt h
  refine shown_w (by simp [PyData.showable, PyData.showableAll]) (by simp [PyData.depth, PyData.depthAll]) (by simp [PyData.leavesShort, PyData.leavesShortAll] at b ⊢; exact b) ?_
  have l' : t.cps.size ≤ 1000 := l
  simp [PyData.weight, PyData.weightAll]
  omega
theorem shown_lst {t : Str} (h : ∀ c ∈ tl t, c < 1114112) (l : t.length ≤ 1000) : Shown (.list [.str t]) := by
  have b := leaves_txt h
  refine shown_w (by simp [PyData.showable, PyData.showableAll]) (by simp [PyData.depth, PyData.depthAll]) (by simp [PyData.leavesShort, PyData.leavesShortAll] at b ⊢; exact b) ?_
  have l' : t.cps.size ≤ 1000 := l
  simp [PyData.weight, PyData.weightAll]
  omega
theorem app_ok {a b : Str} (h : ∀ c ∈ tl a, c < 1114112) (g : ∀ c ∈ tl b, c < 1114112) : ∀ c ∈ tl (a ++ b), c < 1114112 := fun c hc => by
  rw [tl_append] at hc
  rcases List.mem_append.mp hc with hc | hc
  · exact h c hc
  · exact g c hc
theorem good_no {K : PySem.W.Frag} {H : Hp} {v : V} {d : PyData} {t : Value} (sh : Shown d) (ty : ∀ H', ExtN H H' → TyX K H' v t ∧ DpD K H' v d) (k : PySem.W.kitOne K t (.type "str") = some false) : Good K H v :=
  ⟨none, d, sh, fun H' e => ⟨.no ⟨_, (ty H' e).1, k⟩, (ty H' e).2⟩⟩
end TT

set_option maxHeartbeats 4000000
namespace TT
open PySem PySem.Spec PyProof.Rows L2 LamX TL
/-! ### the law's own check -/
def sp_l_right (Z : Zs) : Sp := fun vs H Q _ => ∃ (p : Addr) (n : Nat), vs = [.ref p] ∧ Pot H p n ∧ n + 200 < 1000000 ∧ Tabs (tabs Z) H ∧ ∀ (n' : Nat) (H' : Hp), n' ≤ n + 200 → Pot H' p n' → Tabs (tabs Z) H' → KeepN p H H' → Q (.bl true) H'
theorem KeepN.updN {p sm : Addr} {H H11 G : Hp} {o : HO} (k11 : KeepN p H H11) (n : H11 sm = none) (k : KeepN p H G) : KeepN p H (upd G sm o) := fun b u nb e t => by
  rw [upd_ne (ne_of_none (k11 b u nb e t) n)]
  exact k b u nb e t
theorem Pot.lst {p D : Addr} {n : Nat} {H : Hp} {o : HO} (hp : Pot H p n) (h : p ≠ D) : Pot (upd H D o) p n := by
  obtain ⟨x1, x2, e1, e2⟩ := hp
  exact ⟨x1, x2, by rw [upd_ne h]; exact e1, e2⟩
theorem shareTx {T : Str → Hp → Prop} {G : Prop} (C : Str → Hp → Prop) (h : (∀ t H, C t H → T t H) → G) (t : ∀ t H, C t H → T t H) : G := h t
/-- its own text, read -/
theorem tieOf_row {r : Row} (ok : r.Ok) : tieOf (rowText r r.b) = some r := by
  have q : ∀ bk, quad (Str.ofString (toString r.f)) (Str.ofString (toString r.s)) (Str.ofString (toString r.l)) (way r.d) (shownInt r.a) bk = some ⟨r.f, r.s, r.l, r.a, r.d, bk⟩ := fun bk => by
    have l0 := ok.l0
    unfold quad
    rw [read_int ok.f0, read_int ok.s0, read_int (by omega), read_shown]
    cases h : r.d
    · rw [if_pos (.inl rfl)]
      rfl
    · rw [if_pos (.inr rfl)]
      rfl
  have v : vals (wordsOf r r.b) = some ⟨r.f, r.s, r.l, r.a, r.d, r.b⟩ := by
    unfold wordsOf
    cases h : r.b
    · exact q false
    · show (if Str.ofString "back" = Str.ofString "back" then quad (Str.ofString (toString r.f)) (Str.ofString (toString r.s)) (Str.ofString (toString r.l)) (way r.d) (shownInt r.a) true else none) = _
      rw [if_pos rfl]
      exact q true
  have f : Row.Fits ⟨r.f, r.s, r.l, r.a, r.d, r.b⟩ := ⟨ok.f0, ok.s0, ok.l0, by
    have h1 := ok.fe
    have h2 := ok.se
    show (if r.s > r.f then r.s else r.f) + r.l ≤ 10 ^ 30
    split <;> omega⟩
  unfold tieOf
  rw [split_row ok, v]
  show (if Row.Fits ⟨r.f, r.s, r.l, r.a, r.d, r.b⟩ then some (Row.tied ⟨r.f, r.s, r.l, r.a, r.d, r.b⟩) else none) = _
  rw [if_pos f]
  congr 1
  unfold Row.tied
  dsimp only
  cases h : r.b with
  | false => rw [Bool.false_and, ← h]
  | true => rw [decide_eq_true (ok.bk h), Bool.and_true, ← h]
section
variable {P : Program} {w : World} {K : PySem.W.Frag} {mg : Str → Option Value} {base : Heap} {Z : Zs}
theorem ok_l_right (T : Txt K mg Z) (TB : TabB base mg Z.c_l_is_read Z.t_l_is_read) : GOk P w K mg base CX0 13 Z.f_l_right Z.d_l_right ["_law_pot_here"] (sp_l_right Z) := by
  refine okG T.F_l_right sc_l_right (fun vs H Q E h => ?_) (fun cdv A outer s H vs Q E g hr h => ?_)
  · obtain ⟨p, n, rfl, _⟩ := h
    rfl
  · obtain ⟨p, n, rfl, hp, hn, hT, k⟩ := h
    refine ⟨_, (pss_cons (ps_set (i := 1) sc_l_right.nd rfl (Or.inl rfl) (pe_call (ok_l_row T) (hr.mono (by decide)) rfl T.g_l_row T.k_l_row T.bn_l_row .nil pass0 (pa_cons (pv 0) (pa_cons (pe_call (ok_l_of T) (hr.mono (by decide)) rfl T.g_l_of T.k_l_of T.bn_l_of .nil pass0 (pa_cons (pv 0) (pa_cons (pe_lst (pa_cons pe_int (pa_cons pe_int (pa_cons pe_int (pa_cons pe_int pa_nil))))) pa_nil))) pa_nil))))
      (pss_cons (ps_set (i := 2) sc_l_right.nd rfl (Or.inl rfl) (pe_call (ok_l_of T) (hr.mono (by decide)) rfl T.g_l_of T.k_l_of T.bn_l_of .nil pass0 (pa_cons (pv 0) (pa_cons (pe_lst (pa_cons pe_int (pa_cons pe_int (pa_cons (pe_op op_sub (pe_op op_sub (pe_op op_powW pe_int pe_int) (pe_callB (cr_maxT2 rfl (by exact hr.units)) (by rfl) T.b_max (by decide +kernel) (pa_cons (pe_slice sl_tupA (pv 1) po_none (po_some pe_int)) pa_nil))) (pe_ix ix_tup (pv 1) pe_int (fun _ _ => rfl))) (pa_cons (pe_op op_powW pe_int pe_int) pa_nil))))) pa_nil))))
      (pss_cons (ps_par (i := 3) (j := 1) (by rfl) sc_l_right.nd rfl rfl (by decide) rfl rfl (pa_cons (pe_call (ok_l_text_of T) (hr.mono (by decide)) rfl T.g_l_text_of T.k_l_text_of T.bn_l_text_of .nil pass0 (pa_cons (pe_call (ok_l_far T) (hr.mono (by decide)) rfl T.g_l_far T.k_l_far T.bn_l_far .nil pass0 (pa_cons (pv 1) (pa_cons (pe_callB (cr_min rfl) (by rfl) T.b_min (by decide +kernel) (pa_cons (pe_lst (pa_cons (pv 2) (pa_cons (pe_op op_powW pe_int pe_int) pa_nil))) pa_nil)) pa_nil))) pa_nil)) (pa_cons (pe_call (ok_l_far T) (hr.mono (by decide)) rfl T.g_l_far T.k_l_far T.bn_l_far .nil pass0 (pa_cons (pv 1) (pa_cons (pv 2) pa_nil))) pa_nil)) (by rfl))
      (pss_cons (ps_set (i := 4) sc_l_right.nd rfl (Or.inl rfl) (pe_call (ok_l_text_of T) (hr.mono (by decide)) rfl T.g_l_text_of T.k_l_text_of T.bn_l_text_of .nil pass0 (pa_cons (pv 1) pa_nil)))
      (pss_cons (ps_if (PW.pt (pw_or (pt_cmpR op_ne (pe_callB (r := rRepr K) (id := "repr")  (call_repr (by exact g) (by exact hr.units)) (by rfl) T.b_repr (by decide +kernel) (pa_cons (pe_fld (pe_call (ok_l_tie T) (hr.mono (by decide)) rfl T.g_l_tie T.k_l_tie T.bn_l_tie .nil pass0 (pa_cons (pv 1) pa_nil)) rfl) pa_nil)) (pe_callB (r := rRepr K) (id := "repr")  (call_repr (by exact g) (by exact hr.units)) (by rfl) T.b_repr (by decide +kernel) (pa_cons (pv 4) pa_nil)) (nomark _)) (pw_or1 (pt_not (pt_cmpR (op_eqO (E := E0) (ok_T_eqB T) (hr.mono (by decide)) T.bn_T_eq pass0 T.z_notT T.a_T_eq T.i_T_eq) (pe_stat (mc := .type "type") (pe_glob (v := .ref Z.cC) rfl T.g_C rfl) T.z_read T.z_sta (ok_T_of T) (hr.mono (by decide)) T.bn_T_of passF (pa_cons (pv 4) pa_nil)) (pe_call (ok_l_tie T) (hr.mono (by decide)) rfl T.g_l_tie T.k_l_tie T.bn_l_tie .nil pass0 (pa_cons (pv 1) pa_nil)) (nomark _)))))) (pss_one (ps_ret pe_bl)) pss_nil)
      (pss_cons (ps_for PassesOwn.never rfl (pi_range1 rfl T.b_range (pa_cons pe_int pa_nil)) (pg_name (i := 5) sc_l_right.nd rfl (Or.inl rfl)) (pss_cons (ps_set (i := 6) sc_l_right.nd rfl (Or.inl rfl) (pe_call (ok_l_bent_line T) (hr.mono (by decide)) rfl T.g_l_bent_line T.k_l_bent_line T.bn_l_bent_line .nil pass0 (pa_cons (pv 0) (pa_cons (pv 3) pa_nil))))
      (pss_cons (ps_set (i := 6) sc_l_right.nd rfl (Or.inl rfl) (pe_ifExp (pt_cmpR op_gt (pv 5) pe_int (nomark _)) (pe_call (ok_l_bent_line T) (hr.mono (by decide)) rfl T.g_l_bent_line T.k_l_bent_line T.bn_l_bent_line .nil pass0 (pa_cons (pv 0) (pa_cons (pv 6) pa_nil))) (pv 6)))
      (pss_one (ps_if (PW.pt (pw_and (pt_val (pe_call (ok_l_is_short T) (hr.mono (by decide)) rfl T.g_l_is_short T.k_l_is_short T.bn_l_is_short .nil pass0 (pa_cons (pv 6) pa_nil))) (pw_and1 (pt_not (pt_val (pe_callG (ok_l_is_read T TB) (by exact g) (hr.mono (by decide)) rfl T.g_l_is_read T.k_l_is_read T.bn_l_is_read .nil pass0 (pa_cons (pv 6) pa_nil))))))) (pss_one (ps_ret pe_bl)) pss_nil)))))
      (pss_cons (ps_set (i := 7) sc_l_right.nd rfl (Or.inl rfl) (pe_lst (pa_cons (pv 4) (pa_cons (pe_op op_add_str (pv 4) pe_str) (pa_cons (pe_op op_add_str (pv 4) pe_str) (pa_cons (pe_op op_add_str pe_str (pv 4)) (pa_cons pe_str (pa_cons pe_str (pa_cons pe_str (pa_cons pe_str pa_nil))))))))))
      (pss_cons (ps_expr (pe_bm PySem.F.plainAttrs_list PySem.F.slot_list_extend PySem.F.type_list_extend mt_extend (pv 7) (pa_cons (pe_lst (pa_cons pe_str (pa_cons pe_str (pa_cons pe_str (pa_cons (pe_op op_add_str (pe_op op_add_str pe_str (pe_callTy call_str_int (by rfl) T.b_str (by decide +kernel) (pa_cons (pe_op op_powW pe_int pe_int) pa_nil))) pe_str) (pa_cons (pe_tup (pa_cons (pv 4) pa_nil)) pa_nil)))))) pa_nil)))
      (pss_cons (ps_expr (pe_bm PySem.F.plainAttrs_list PySem.F.slot_list_append PySem.F.type_list_append mt_append (pv 7) (pa_cons (pe_op op_add_str (pe_op op_add_str pe_str (pe_callTy call_str_int (by rfl) T.b_str (by decide +kernel) (pa_cons (pe_op op_powW pe_int pe_int) pa_nil))) pe_str) pa_nil)))
      (pss_one (ps_ret (pe_callB  (cr_all rfl) (by rfl) T.b_all (by decide +kernel) (pa_cons (pe_lc (own := [("_law_value", 6)]) rfl sc_l_right.nd (pi_list (pe_op op_cat (pv 7) (pe_lst (pa_cons (pe_call (ok_l_odd T) (hr.mono (by decide)) rfl T.g_l_odd T.k_l_odd T.bn_l_odd .nil pass0 (pa_cons (pv 0) pa_nil)) (pa_cons pe_non (pa_cons pe_int (pa_cons (pe_lst (pa_cons (pv 4) pa_nil)) (pa_cons (pe_m0 PySem.F.slot_str_upper PySem.F.type_str_upper mt_upper (pv 4)) pa_nil)))))))) (blkOk_by (own := [("_law_value", 6)]) (N := ["_law_pot_here", "_law_row_here", "_law_far_here", "_law_near", "_law_text", "_law_turn", "_law_value", "_law_some"]) (sc := defScope s_l_right) (by decide +kernel)) (fun _ _ _ _ _ => (pg_name (i := 6) sc_l_right.nd rfl (Or.inl rfl))) (fun _ _ _ _ _ => pts_nil) (fun _ _ _ _ _ => (pe_callG (ok_l_is_read T TB) (by exact g) (hr.mono (by decide)) rfl T.g_l_is_read T.k_l_is_read T.bn_l_is_read .nil pass0 (pa_cons (pv 6) pa_nil)))) pa_nil))))))))))))), ?_⟩
    refine ⟨_, rfl, _, rfl, by show 4 ≤ sizeLine; decide, fun a ha => ⟨p, a, n, _, rfl, hp.new ha, by omega, upd_same, (hp.ne ha).symm, by show 0 < 4; decide, by show 4 ≤ 1000; decide, fun v n1 H1 hv hn1 hp1 k1 => ?_⟩⟩
    have kp1 : Keep p H H1 := (Keep.rfl'.new ha).trans k1
    obtain ⟨z, rfl, z0, z1⟩ : ∃ z : Int, v = .int z ∧ 1 ≤ z ∧ z ≤ 200 := by
      simp only [List.mem_cons, List.not_mem_nil, or_false] at hv
      rcases hv with rfl | rfl | rfl | rfl <;> exact ⟨_, rfl, by decide, by decide⟩
    refine ⟨p, n1, z, rfl, hp1, by omega, z0, by omega, fun r q n2 H2 ok fz sz lo hi hn2 hp2 k2 hq nq => ?_⟩
    have kp2 := kp1.trans k2
    have e30 : (10 : Int) ^ 30 = 1000 * 10 ^ 27 := by decide +kernel
    have e27 : (1000 : Int) < 10 ^ 27 := by decide +kernel
    have e12 : (10 : Int) ^ 12 < 10 ^ 27 := by decide +kernel
    have f0 := ok.f0; have s0 := ok.s0; have l0 := ok.l0
    refine ⟨_, rfl, _, _, rfl, rfl, ⟨by decide, by decide +kernel⟩, _, rfl, _, rfl, q, _, rfl, SqT.of hq, fun c => absurd (show (2 : Nat) = 6 from c.2) (by decide), fun _ u hu => ?_⟩
    have sU := Same.new (o := .tup (cutV r.vs none (some 2))) (Same.refl H2) hu
    refine ⟨u, r.f, r.s, rfl, SqT.of upd_same, _, _, rfl, rfl, _, rfl, q, _, _, _, rfl, rfl, SqT.of (sU _ _ hq), rfl, _, _, rfl, rfl, _, _, rfl, rfl, ⟨by decide, by decide +kernel⟩, by show 4 ≤ sizeLine; decide, fun b hb => ⟨p, b, n2, _, rfl, (hp2.same sU).new hb, by omega, upd_same, ((hp2.same sU).ne hb).symm, by show 0 < 4; decide, by show 4 ≤ 1000; decide, fun v n3 H3 hv3 hn3 hp3 k3 => ?_⟩⟩
    have kp3 : Keep p H H3 := (kp2.same sU).trans ((Keep.rfl'.new hb).trans k3)
    have hq3 : RowAt H3 q r := Keep.row ((Keep.rfl'.new hb).trans k3) (hp2.same sU) (Same.row sU hq)
    obtain ⟨y, rfl, y0, y1, y2⟩ : ∃ y : Int, v = .int y ∧ 0 ≤ y ∧ r.f + y + r.l ≤ 10 ^ 30 ∧ r.s + y + r.l ≤ 10 ^ 30 := by
      have t30 : (10 : Int) ^ Int.toNat 30 = 10 ^ 30 := rfl
      have t12 : (10 : Int) ^ Int.toNat 12 = 10 ^ 12 := rfl
      simp only [List.mem_cons, List.not_mem_nil, or_false] at hv3
      rcases hv3 with rfl | rfl | rfl | rfl
      · exact ⟨_, rfl, by decide, by omega, by omega⟩
      · exact ⟨_, rfl, by decide, by omega, by omega⟩
      · refine ⟨_, rfl, ?_, ?_, ?_⟩ <;> rw [t30] <;> split <;> omega
      · exact ⟨_, rfl, by rw [t12]; decide +kernel, by rw [t12]; omega, by rw [t12]; omega⟩
    refine ⟨_, rfl, _, rfl, _, _, rfl, rfl, ⟨by decide, by decide +kernel⟩, by show 2 ≤ sizeLine; decide, fun c hc => ⟨c, [y, 10 ^ Int.toNat 12], rfl, SqL.of upd_same, by show 0 < 2; decide, fun mn hmn hle => ?_⟩⟩
    have sC := Same.new (o := .lst [.int y, .int (10 ^ Int.toNat 12)]) (Same.refl H3) hc
    have m1 : mn ≤ y := hle y (by simp)
    have m0 : 0 ≤ mn := by
      have : mn = y ∨ mn = 10 ^ Int.toNat 12 := by simpa using hmn
      rcases this with h | h
      · omega
      · rw [h]
        decide +kernel
    have okN : Row.Ok { r with f := r.f + mn, s := r.s + mn } := ok.far m0 (by omega) (by omega)
    have okF : Row.Ok { r with f := r.f + y, s := r.s + y } := ok.far y0 y1 y2
    refine ⟨q, r, mn, rfl, Same.row sC hq3, fun x1 H4 nx1 s4 hx1 => ⟨x1, _, rfl, hx1, okN, fun H5 s5 => ?_⟩⟩
    refine ⟨_, rfl, _, rfl, q, r, y, rfl, Same.row ((sC.trans s4).trans s5) hq3, fun x2 H6 nx2 s6 hx2 => ⟨_, _, rfl, ?_⟩⟩
    refine ⟨_, rfl, x2, _, rfl, hx2, okF, fun H7 s7 => ?_⟩
    have s37 := (((sC.trans s4).trans s5).trans s6).trans s7
    have hx7 := Same.row s7 hx2
    have hp7 := hp3.same s37
    have kp7 := kp3.same s37
    have hT7 := Tabs.keep kp7 hp hT
    obtain ⟨R, hR⟩ : ∃ R, R = Row.mk (r.f + y) (r.s + y) r.l r.a r.d r.b := ⟨_, rfl⟩
    obtain ⟨N, hN⟩ : ∃ N, N = Row.mk (r.f + mn) (r.s + mn) r.l r.a r.d r.b := ⟨_, rfl⟩
    have loR : -(10 ^ 36) < R.a ∧ R.a < 10 ^ 36 := by rw [hR]; exact ⟨lo, hi⟩
    have loN : -(10 ^ 36) < N.a ∧ N.a < 10 ^ 36 := by rw [hN]; exact ⟨lo, hi⟩
    rw [← hR] at hx7 okF ⊢
    rw [← hN] at okN ⊢
    have fR := fine_row okF loR.1 loR.2 R.b
    have aR := row_asc okF loR.1 loR.2 R.b
    have shR := shown_txt (asc_ok aR) fR.len
    have aN := row_asc okN loN.1 loN.2 N.b
    have lN := row_len okN N.b
    have lR := row_len okF R.b
    clear s37 s7 hx2 s6 s5 hx1 s4 sC hq3 kp3 k3 hp3 hv3 sU hp2 k2 hq kp2 k1 hv kp1 hp1
    refine ⟨_, rfl, x2, _, rfl, hx7, okF, fun t1 H8 nt1 s8 ht1 => ?_⟩
    obtain ⟨dx1, et1⟩ := id ht1
    refine ⟨t1, _, dx1, _, .str (rowText R R.b), rfl, et1, T.cl, T.n_text, by rw [tfs_text, tieText_eq], .str (rowText R R.b), .str (rowText R R.b), rfl, .str _, shR.ok, rfl, shR.dep, shR.len, _, rfl, .str (rowText R R.b), .str (rowText R R.b), rfl, .str _, shR.ok, rfl, shR.dep, shR.len, rfl, _, rfl, ?_⟩
    rw [decide_eq_true rfl]
    refine iteF ⟨rfl, _, rfl, .str (rowText R R.b), rfl, .inl ⟨_, rfl, fR, fun r' er x H9 nx s9 hx => ?_, fun en => by rw [tieOf_row okF] at en; cases en⟩⟩
    obtain rfl : r' = R := Option.some.inj (er.symm.trans (tieOf_row okF))
    refine ⟨_, rfl, x2, _, rfl, Same.row (s8.trans s9) hx7, okF, fun t2 H10 nt2 s10 ht2 => ?_⟩
    obtain ⟨dxA, eA⟩ := id (Same.tie s10 hx)
    obtain ⟨dxB, eB⟩ := id ht2
    refine ⟨x, dxA, _, rfl, eA, .ins eB, x, .ref t2, r', rfl, ⟨dxA, eA⟩, .inl ⟨t2, r', rfl, ht2, ⟨_, rfl⟩, ?_⟩⟩
    rw [show eqB r' r' = true by rw [eqB_eq]; simp]
    refine ⟨true, rfl, iteF ?_⟩
    have s710 := (s8.trans s9).trans s10
    have hp10 := hp7.same s710
    have kp10 := (KeepN.of kp7).then (KeepN.of (Keep.of s710))
    have hT10 := hT7.ext s710
    clear s710 eA eB ht2 hx s10 s9 s8 et1 ht1 hT7 kp7 hp7 hx7
    refine ⟨_, rfl, by decide, by decide, for_range (n := 12) (fun i σ H' => ∃ v5 v6 n', σ = [some (.ref p), some (.ref x2), some (.int y), some (.str (rowText N N.b)), some (.str (rowText r' r'.b)), v5, v6, none] ∧ n' ≤ n + 8 + 12 * i ∧ Pot H' p n' ∧ Tabs (tabs Z) H' ∧ KeepN p H H') ⟨_, _, n3, rfl, by omega, hp10, hT10, kp10⟩ ?_ ?_⟩
    · rintro i σ H11 hi ⟨v5, v6, n', rfl, hn', hp11, hT11, kp11⟩
      refine ⟨_, rfl, _, rfl, p, n', rowText N N.b, rfl, hp11, by omega, aN, by omega, fun t n4 H12 ta tl4 hn4 hp12 k12 => ?_⟩
      have kp12 := kp11.then (KeepN.of k12)
      have hT12 := Tabs.keep k12 hp11 hT11
      refine' shareTx (fun t H' => ∃ n5, Asc t ∧ t.length ≤ 1000 ∧ n5 ≤ n + 8 + 12 * i + 12 ∧ Pot H' p n5 ∧ Tabs (tabs Z) H' ∧ KeepN p H H') (fun tail => ?now) ?rest
      case now =>
        refine ⟨_, rfl, _, _, rfl, rfl, _, rfl, ite2 (fun c => ?_) (fun c => ?_)⟩
        · exact ⟨_, rfl, _, rfl, p, n4, t, rfl, hp12, by omega, ta, by omega, fun t5 n5 H13 ta5 tl5 hn5 hp13 k13 => tail t5 H13 ⟨n5, ta5, by omega, by omega, hp13, Tabs.keep k13 hp12 hT12, kp12.then (KeepN.of k13)⟩⟩
        · exact ⟨_, rfl, tail t H12 ⟨n4, ta, by omega, by omega, hp12, hT12, kp12⟩⟩
      case rest =>
        rintro t5 H13 ⟨n5, ta5, tl5, hn5, hp13, hT13, kp13⟩
        refine ⟨_, rfl, t5, rfl, ta5, tl5, fun H14 s14 => ⟨_, rfl, ?_⟩⟩
        have kp14 := kp13.then (KeepN.of (Keep.of s14))
        by_cases c : ((Txt.split t5 (Str.ofString " ")).all fun w => decide (w.length < 41)) = true
        · rw [c]
          have f5 := fine_short ta5 tl5 c
          refine iteT ⟨_, rfl, .str t5, _, .str t5, rfl, .txt f5, fun H' e => ⟨.txt f5, .dp (.str t5) rfl⟩, shown_txt (asc_ok ta5) tl5, hT13.ext s14, fun H15 e15 hT15 => ⟨true, rfl, iteF ?_⟩⟩
          exact ⟨_, _, n5, rfl, by omega, (hp13.same s14).extN e15, hT15, kp14.then (KeepN.ext e15)⟩
        · rw [show ((Txt.split t5 (Str.ofString " ")).all fun w => decide (w.length < 41)) = false by simpa using c]
          exact iteF (iteF ⟨_, _, n5, rfl, by omega, hp13.same s14, hT13.ext s14, kp14⟩)
    · rintro σ H11 ⟨v5, v6, n', rfl, hn', hp11, hT11, kp11⟩
      have sl : sizeLine = 16777216 := sizeLine_eq
      have c1 : (Str.ofString " back").length = 5 := by decide
      have c2 : (Str.ofString "\n").length = 1 := by decide
      have c3 : (Str.ofString " ").length = 1 := by decide
      refine ⟨_, rfl, _, rfl, _, _, rfl, rfl, by omega, _, rfl, _, _, rfl, rfl, by omega, _, rfl, _, _, rfl, rfl, by omega, by show 8 ≤ sizeLine; decide, fun sm hsm => ?_⟩
      have hpm : sm ≠ p := (hp11.ne hsm).symm
      obtain ⟨t0, ht0⟩ : ∃ t0, t0 = rowText r' r'.b := ⟨_, rfl⟩
      rw [← ht0] at fR aR lR ⊢
      obtain ⟨L0, hL0⟩ : ∃ L0 : List V, L0 = [.str t0, .str (t0 ++ Str.ofString " back"), .str (t0 ++ Str.ofString "\n"), .str (Str.ofString " " ++ t0), .str (Str.ofString ""), .str (Str.ofString "0 0 1 up 0 back"), .str (Str.ofString "0 0 1 up -0"), .str (Str.ofString "0 0 1 up +1")] := ⟨_, rfl⟩
      have eL0 : [V.str t0, .str (t0 ++ Str.ofString " back"), .str (t0 ++ Str.ofString "\n"), .str (Str.ofString " " ++ t0), .str (Str.ofString ""), .str (Str.ofString "0 0 1 up 0 back"), .str (Str.ofString "0 0 1 up -0"), .str (Str.ofString "0 0 1 up +1")] = L0 := hL0.symm
      rw [eL0]
      refine ⟨_, rfl, .inl ⟨rfl, _, SqL.of upd_same⟩, _, _, rfl, rfl, ⟨by decide, by decide +kernel⟩, _, rfl, by decide +kernel, _, _, rfl, rfl, by rw [sl]; decide +kernel, _, _, rfl, rfl, by rw [sl]; decide +kernel, _, rfl, by show 1 ≤ sizeLine; decide, fun tp htp => ⟨by show 5 ≤ sizeLine; decide, fun l2 hl2 => ?_⟩⟩
      have htp' : H11 tp = none := by
        by_cases c : tp = sm
        · rw [c]; exact hsm
        · rw [upd_ne c] at htp; exact htp
      obtain ⟨L1, hL1⟩ : ∃ L1 : List V, L1 = [.str (Str.ofString "0 00 1 up 0"), .str (Str.ofString "0 0 0 up 0"), .str (Str.ofString "-1 0 1 up 0"), .str (Str.ofString "0 0 " ++ Str.ofString (toString ((10 : Int) ^ Int.toNat 30)) ++ Str.ofString " up 0"), .ref tp] := ⟨_, rfl⟩
      rw [← hL1]
      refine ⟨sm, l2, L0, L1, rfl, rfl, ?_, upd_same, by rw [hL0, hL1]; show 8 + 5 ≤ sizeLine; decide, ?_⟩
      · rw [upd_ne (ne_of_none (Same.new (Same.refl _) htp _ _ upd_same) hl2)]
        exact Same.new (Same.refl _) htp _ _ upd_same
      have sA := Same.new (o := .lst L0) (Same.refl H11) hsm
      have sB := Same.new (o := .tup [.str t0]) (Same.refl _) htp
      have sC := Same.new (o := .lst L1) (Same.refl _) hl2
      have s13 := (sA.trans sB).trans sC
      have at13 := sC _ _ (sB _ _ (show upd H11 sm (.lst L0) sm = _ from upd_same))
      have tp13 := sC _ _ (show upd (upd H11 sm (.lst L0)) tp (.tup [.str t0]) tp = _ from upd_same)
      generalize upd (upd (upd H11 sm (.lst L0)) tp (.tup [.str t0])) l2 (.lst L1) = H13 at s13 at13 tp13 ⊢
      clear sA sB sC hl2 htp
      have ntp : tp ≠ sm := by
        rintro rfl
        rw [at13] at tp13
        cases tp13
      obtain ⟨x, hx⟩ : ∃ x : V, x = .str (Str.ofString "1 0 " ++ Str.ofString (toString ((10 : Int) ^ Int.toNat 30)) ++ Str.ofString " up 0") := ⟨_, rfl⟩
      refine ⟨_, rfl, .inl ⟨rfl, _, SqL.of upd_same⟩, _, _, rfl, rfl, ⟨by decide, by decide +kernel⟩, _, rfl, by decide +kernel, _, _, rfl, rfl, by rw [sl]; decide +kernel, _, _, rfl, rfl, by rw [sl]; decide +kernel, sm, _, _, rfl, rfl, upd_same, by rw [hL0, hL1]; show 8 + 5 < sizeLine; decide, ?_⟩
      have hp14 : Pot (upd (upd H13 sm (.lst (L0 ++ L1))) sm (.lst (L0 ++ L1 ++ [x]))) p n' := ((hp11.same s13).lst hpm.symm).lst hpm.symm
      have k14 : KeepN p H (upd (upd H13 sm (.lst (L0 ++ L1))) sm (.lst (L0 ++ L1 ++ [x]))) := kp11.updN hsm (kp11.updN hsm (kp11.then (KeepN.of (Keep.of s13))))
      have hT14 : Tabs (tabs Z) (upd (upd H13 sm (.lst (L0 ++ L1))) sm (.lst (L0 ++ L1 ++ [x]))) := Tabs.lst upd_same (Tabs.lst at13 (hT11.ext s13))
      have tp14 : upd (upd H13 sm (.lst (L0 ++ L1))) sm (.lst (L0 ++ L1 ++ [x])) tp = some (.tup [.str t0]) := by rw [upd_ne ntp, upd_ne ntp]; exact tp13
      have at14 : upd (upd H13 sm (.lst (L0 ++ L1))) sm (.lst (L0 ++ L1 ++ [x])) sm = some (.lst (L0 ++ L1 ++ [x])) := upd_same
      rw [← hx]
      generalize upd (upd H13 sm (.lst (L0 ++ L1))) sm (.lst (L0 ++ L1 ++ [x])) = H14 at hp14 k14 hT14 tp14 at14 ⊢
      clear s13 at13 tp13 hsm hp11 hT11 kp11
      refine ⟨_, rfl, _, rfl, p, n', rfl, hp14, by omega, fun v d n15 H15 hm ho hn15 hp15 k15 => ?_⟩
      refine ⟨_, rfl, by show 1 ≤ sizeLine; decide, fun l3 hl3 => ⟨_, rfl, ⟨_, rfl⟩, _, rfl, rfl, by omega, by show 5 ≤ sizeLine; decide, fun l4 hl4 => ?_⟩⟩
      obtain ⟨L2, hL2⟩ : ∃ L2 : List V, L2 = [v, .non, .int 0, .ref l3, .str (Txt.upper t0)] := ⟨_, rfl⟩
      rw [← hL2]
      have at15 := k15 _ _ hpm at14
      have sA := Same.new (o := .lst [.str t0]) (Same.refl H15) hl3
      have sB := Same.new (o := .lst L2) (Same.refl _) hl4
      refine ⟨sm, l4, L0 ++ L1 ++ [x], L2, rfl, rfl, sB _ _ (sA _ _ at15), upd_same, by rw [hL0, hL1, hL2]; show 14 + 5 ≤ sizeLine; decide, fun l5 hl5 => ⟨l5, rfl, ⟨_, SqL.of upd_same⟩, fun D hD => ?_⟩⟩
      obtain ⟨xs, hxs⟩ : ∃ xs, xs = L0 ++ L1 ++ [x] ++ L2 := ⟨_, rfl⟩
      rw [← hxs] at hD ⊢
      have sC := Same.new (o := .lst xs) (Same.refl _) hl5
      have s18 := (sA.trans sB).trans sC
      have at18 : upd (upd (upd H15 l3 (.lst [.str t0])) l4 (.lst L2)) l5 (.lst xs) l5 = some (.lst xs) := upd_same
      have l318 := sC _ _ (sB _ _ (show upd H15 l3 (.lst [.str t0]) l3 = _ from upd_same))
      have tp18 := s18 _ _ (k15 _ _ (hp14.off tp14 fun _ z => nomatch z) tp14)
      have ho18 := ho.extN (ExtN.same s18)
      have hp18 := hp15.same s18
      have hT18 := (Tabs.keep k15 hp14 hT14).ext s18
      have k18 := (k14.then (KeepN.of k15)).then (KeepN.of (Keep.of s18))
      generalize upd (upd (upd H15 l3 (.lst [.str t0])) l4 (.lst L2)) l5 (.lst xs) = H18 at at18 l318 tp18 ho18 hp18 hT18 k18 hD ⊢
      clear s18 sA sB sC at15 k15 hl3 hl4 hl5 ho hp15 hp14 hT14 tp14 at14 k14
      have ok0 : ∀ c ∈ tl t0, c < 1114112 := asc_ok aR
      have cc : ∀ {s : Str}, PyData.strOk s = true → ∀ c ∈ tl s, c < 1114112 := fun h => strOk_tl.mp h
      have good : ∀ w ∈ xs, Good K H18 w := fun w hw => by
        rw [hxs, hL0, hL1, hL2, hx] at hw
        simp only [List.cons_append, List.nil_append, List.mem_cons, List.not_mem_nil, or_false] at hw
        have fb := row_back okF loR.1 loR.2 r'.b
        have fn := row_nl okF loR.1 loR.2 r'.b
        have fs := row_sp okF loR.1 loR.2 r'.b
        have fu := row_up okF loR.1 loR.2 r'.b
        rw [← ht0] at fb fn fs fu
        rcases hw with rfl | rfl | rfl | rfl | rfl | rfl | rfl | rfl | rfl | rfl | rfl | rfl | rfl | rfl | rfl | rfl | rfl | rfl | rfl
        · exact good_txt fR ok0
        · exact good_txt fb (app_ok ok0 (cc (by decide +kernel)))
        · exact good_txt fn (app_ok ok0 (cc (by decide +kernel)))
        · exact good_txt fs (app_ok (cc (by decide +kernel)) ok0)
        · exact good_const (by decide +kernel)
        · exact good_const (by decide +kernel)
        · exact good_const (by decide +kernel)
        · exact good_const (by decide +kernel)
        · exact good_const (by decide +kernel)
        · exact good_const (by decide +kernel)
        · exact good_const (by decide +kernel)
        · exact good_const (by decide +kernel)
        · exact good_no (shown_tup ok0 fR.len) (fun H' e => ⟨.base (.tup (e _ _ tp18 fun _ z => nomatch z)), .dp (.tup (SqT.of (e _ _ tp18 fun _ z => nomatch z)) (.cons (.str _) .nil)) rfl⟩) (kit_ty (by show kitB "tuple" "str" = some false; decide +kernel))
        · exact good_const (by decide +kernel)
        · exact good_odd ho18 hm (fun H' e => ho18.extN e)
        · exact good_no (shown_menu (d := .none) (by simp [menu])) (fun H' e => ⟨.base .non, .dp .non rfl⟩) (kit_ty (by show kitB "NoneType" "str" = some false; decide +kernel))
        · exact good_no (shown_i (i := 0) (by decide +kernel) (by decide +kernel)) (fun H' e => ⟨.base (.int 0), .dp (.int 0) rfl⟩) (kit_ty (by show kitB "int" "str" = some false; decide +kernel))
        · exact good_no (shown_lst ok0 fR.len) (fun H' e => ⟨.base (.lst (e _ _ l318 fun _ z => nomatch z)), .dp (.lst (SqL.of (e _ _ l318 fun _ z => nomatch z)) (.cons (.str _) .nil)) rfl⟩) (kit_ty (by show kitB "list" "str" = some false; decide +kernel))
        · exact good_txt fu.1 fu.2
      have xl : xs.length = 19 := by rw [hxs, hL0, hL1, hL2]; rfl
      refine lc_list (xs := xs) (fun i H' => H' D = some (.lst (List.replicate i (.bl true))) ∧ ExtN H18 H' ∧ Tabs (tabs Z) H') ⟨upd_same, ExtN.same (Same.new (Same.refl H18) hD), hT18.ext (Same.new (Same.refl H18) hD)⟩ (fun i H' _ h => SqL.of (h.2.1 _ _ at18 fun _ z => nomatch z)) ?_ ?_
      · rintro i w H' hi ⟨hDi, e, hT'⟩
        refine ⟨rfl, ?_⟩
        unfold tYes
        obtain ⟨o, d', sh, gd⟩ := good w (List.mem_of_getElem? hi)
        have i19 : i < 19 := by have := (List.getElem?_eq_some_iff.mp hi).1; omega
        refine iteT ⟨_, rfl, w, o, d', rfl, (gd H' e).1, fun H6 e6 => gd H6 (e.trans e6), sh, hT', fun H6 e6 hT6 => ?_⟩
        have hD6 := e6 _ _ hDi fun _ z => nomatch z
        refine ⟨_, hD6, by rw [List.length_replicate]; omega, ?_, fun b u eb t => ?_, Tabs.lst hD6 hT6⟩
        · rw [← List.replicate_succ']
          exact upd_same
        · rw [upd_ne (ne_of_none eb hD)]
          exact (e.trans e6) b u eb t
      · rintro H' ⟨hD', e, hT'⟩
        refine ⟨D, List.replicate xs.length true, rfl, SqL.of (by rw [List.map_replicate]; exact hD'), ?_⟩
        rw [show (List.replicate xs.length true).all id = true by simp]
        exact k n15 H' (by omega) (hp18.extN e) hT' (k18.then (KeepN.ext e))
end
end TT

namespace TT
open PySem PySem.Spec PyProof.Rows L2 LamX
def sp_law (K : PySem.W.Frag) (Z : Zs) : Sp := fun vs H Q _ => ∃ (a : Addr) (ns : List Int), vs = [.ref a] ∧ SqL K H a (ns.map V.int) ∧ ns.length ≤ 63 ∧ Tabs (tabs Z) H ∧ ∀ H', Q (.bl true) H'
theorem rg_item {m : Int} {i : Nat} {x : V} (h : (rgV 0 m)[i]? = some x) : ∃ z : Int, x = .int z ∧ 0 ≤ z ∧ z < m := by
  have := List.mem_of_getElem? h
  unfold rgV at this
  obtain ⟨j, hj, rfl⟩ := List.mem_map.mp this
  have := List.mem_range.mp hj
  exact ⟨0 + (j : Int), rfl, by omega, by omega⟩
section
variable {P : Program} {w : World} {K : PySem.W.Frag} {mg : Str → Option Value} {base : Heap} {Z : Zs}
theorem ok_law (T : Txt K mg Z) (TB : TabB base mg Z.c_l_is_read Z.t_l_is_read) : GOk P w K mg base CX0 14 Z.f_law Z.d_law ["_law_script"] (sp_law K Z) := by
  refine okG T.F_law sc_law (fun vs H Q E h => ?_) (fun cdv A outer s H vs Q E g hr h => ?_)
  · obtain ⟨a, ns, rfl, _⟩ := h
    rfl
  · obtain ⟨a, ns, rfl, hS, hl, hT, k⟩ := h
    refine ⟨_, (pss_cons (ps_for PassesOwn.never rfl (pi_list (pe_call (ok_l_cells T) (hr.mono (by decide)) rfl T.g_l_cells T.k_l_cells T.bn_l_cells .nil pass0 (pa_cons (pv 0) (pa_cons pe_int pa_nil)))) (pg_name (i := 1) sc_law.nd rfl (Or.inl rfl)) (pss_cons (ps_set (i := 2) sc_law.nd rfl (Or.inr rfl) (pe_call (ok_l_pot T) (hr.mono (by decide)) rfl T.g_l_pot T.k_l_pot T.bn_l_pot .nil pass0 (pa_cons (pv 0) (pa_cons (pv 1) pa_nil))))
      (pss_one (ps_if (pt_not (pt_val (pe_callB  (cr_all rfl) (by rfl) T.b_all (by decide +kernel) (pa_cons (pe_lc (own := [("_law_lap", 3)]) rfl sc_law.nd (pi_range1 rfl T.b_range (pa_cons pe_int pa_nil)) (blkOk_by (own := [("_law_lap", 3)]) (N := ["_law_script", "_law_k", "_law_pot_here", "_law_lap"]) (sc := defScope s_law) (by decide +kernel)) (fun _ _ _ _ _ => (pg_name (i := 3) sc_law.nd rfl (Or.inl rfl))) (fun _ _ _ _ _ => pts_nil) (fun _ _ _ _ _ => (pe_callG (ok_l_right T TB) (by exact g) (hr.mono (by decide)) rfl T.g_l_right T.k_l_right T.bn_l_right .nil pass0 (pa_cons (pv 2) pa_nil)))) pa_nil)))) (pss_one (ps_ret pe_bl)) pss_nil))))
      (pss_one (ps_ret pe_bl))), ?_⟩
    refine ⟨_, rfl, a, ns, 4, rfl, hS, hl, by decide, by decide, fun q m nq m1 m2 => ?_⟩
    have s0 := Same.new (o := .lst (rgV 0 m)) (Same.refl H) nq
    refine ⟨q, rfl, ⟨_, SqL.of upd_same⟩, for_list (xs := rgV 0 m) (fun _ σ H' => ∃ v1 v2, σ = [some (.ref a), v1, v2, none] ∧ ExtN (upd H q (.lst (rgV 0 m))) H' ∧ Tabs (tabs Z) H') ⟨_, _, rfl, ExtN.refl _, hT.ext s0⟩ (fun i σ H' _ ⟨_, _, _, e, _⟩ => ExtN.seq e (SqL.of upd_same)) ?_ ?_⟩
    · rintro i x σ H1 hi ⟨v1, v2, rfl, e1, hT1⟩
      obtain ⟨z, rfl, z0, z1⟩ := rg_item hi
      refine ⟨_, rfl, _, rfl, a, ns, z, rfl, ExtN.seq e1 (s0.seq hS), hl, z0, by omega, fun p H2 np s2 hp2 => ?_⟩
      refine ⟨4, rfl, by decide, by decide, fun D hD => ?_⟩
      have npD : p ≠ D := hp2.ne hD
      have hT2 := hT1.ext s2
      have sD := Same.new (o := .lst []) (Same.refl H2) hD
      refine lc_range (n := 4) (fun i H' => ∃ n', n' ≤ 200 * i ∧ Pot H' p n' ∧ H' D = some (.lst (List.replicate i (.bl true))) ∧ KeepN p H2 H' ∧ Tabs (tabs Z) H') ⟨0, Nat.le_refl _, hp2.new hD, upd_same, KeepN.of (Keep.rfl'.new hD), hT2.ext sD⟩ ?_ ?_
      · rintro j H' hj ⟨n', hn', hp', hD', kp', hT'⟩
        refine ⟨rfl, ?_⟩
        unfold tYes
        refine iteT ?_
        refine ⟨_, rfl, p, n', rfl, hp', by omega, hT', fun n2 H3 hn2 hp3 hT3 k3 => ?_⟩
        have hD3 := k3 _ _ npD.symm hD' (fun _ z => nomatch z)
        have kD : ∀ b o, b ≠ D → H3 b = some o → upd H3 D (.lst (List.replicate j (.bl true) ++ [.bl true])) b = some o := fun b o n e => by rw [upd_ne n]; exact e
        refine ⟨_, hD3, ?_, n2, by omega, ?_, ?_, fun b o nb e t => ?_, fun y hy => ?_⟩
        · rw [List.length_replicate]
          exact Nat.lt_trans hj (by decide)
        · obtain ⟨x1, x2, e1, e2⟩ := hp3
          exact ⟨x1, x2, kD _ _ npD e1, e2⟩
        · rw [← List.replicate_succ']
          exact upd_same
        · exact kD _ _ (ne_of_none e hD) (k3 _ _ nb (kp' _ _ nb e t) t)
        · obtain ⟨ps, h1, h2, h3⟩ := hT3 y hy
          refine ⟨ps, kD _ _ (ne_of h1 hD3 fun z => by cases z) h1, h2, fun pos cv hc => ?_⟩
          obtain ⟨c, g1, g2⟩ := h3 pos cv hc
          exact ⟨c, g1, kD _ _ (ne_of g2 hD3 fun z => by unfold CodeO at z; cases z) g2⟩
      · rintro H' ⟨n', hn', hp', hD', kp', hT'⟩
        refine ⟨D, List.replicate 4 true, rfl, SqL.of (by rw [List.map_replicate]; exact hD'), _, rfl, ?_⟩
        refine iteF ?_
        refine ⟨_, _, rfl, fun b o e t => ?_, hT'⟩
        have q1 := e1 _ _ e t
        exact kp' _ _ (ne_of_none q1 np) (s2 _ _ q1) t
    · rintro σ H' ⟨v1, v2, rfl, _⟩
      exact k H'
end
end TT

set_option Elab.async false
set_option linter.all false
set_option maxRecDepth 100000
set_option maxHeartbeats 8000000
namespace TT
open PySem PySem.Spec PyProof.Rows L2 LamX
theorem kit_self {K : PySem.W.Frag} {a : Addr} : PySem.W.kitOne K (.ref a) (.ref a) = some true := by
  unfold PySem.W.kitOne
  rw [if_pos (beq_iff_eq.mpr rfl)]
theorem kit_not {K : PySem.W.Frag} {T : String} {C : Addr} (h1 : PySem.W.mroIn K C (.type "object") = some true) (h2 : PySem.W.typeIn K (.ref C) = some (.type "type")) (h3 : PySem.W.subIn K (.type T) (.ref C) = some false) : PySem.W.kitOne K (.type T) (.ref C) = some false := by
  have h0 : (PySem.W.clsIn K C).isSome = true := by
    unfold PySem.W.mroIn at h1
    obtain ⟨cd, a, _⟩ := Option.bind_eq_some_iff.mp h1
    rw [a]; rfl
  have hc : PySem.W.kitCls K (.type T) (.ref C) = some false := by
    unfold PySem.W.kitCls
    simp only
    rw [if_pos (by rw [h0, h2]; rfl)]
    exact h3
  unfold PySem.W.kitOne
  have ne : ¬ ((Value.type T == Value.ref C) = true) := fun e => by
    have e2 := beq_iff_eq.mp e
    cases e2
  rw [if_neg ne]
  exact hc
theorem all_mk {l : PySem.W.OpenLaw} {q : Program} {w : World} {K : PySem.W.Frag} {h : Heap} {mg : Str → Option Value} {fa C c0 c1 c2 c3 c4 c5 f0 f1 f2 f3 f4 f5 f6 f7 f8 f9 f10 f11 f12 f13 f14 f15 f16 f17 f18 f19 f20 f21 f22 f23 f24 f25 f26 f27 f28 f29 f30 f31 aT7 aD7 : Addr} (X : K.In h) (G : h.Ns mainGlobals mg) (hfa : mg "law" = some (.ref fa))
    (tab : ∀ d ∈ recsOf q, ∃ a o fd c P, mg d.name = some (.ref a) ∧ h.get? a = some o ∧ o.data = .func fd ∧ fd.code = .ref c ∧ h.IsCode c P #[] ∧ h.TableAt c P #[])
    {pS : Addr} {rS : List Value} {od0 an0 od1 an1 od2 an2 od3 an3 od4 an4 od5 an5 od6 an6 od7 an7 odT7 od8 an8 od9 an9 od10 an10 od11 an11 od12 an12 od13 an13 od14 an14 od15 an15 od16 an16 od17 an17 od18 an18 od19 an19 od20 an20 od21 an21 od22 an22 od23 an23 od24 an24 od25 an25 od26 an26 od27 an27 od28 an28 od29 an29 od30 an30 od31 an31 : Option Addr} {sl0 sl1 sl2 sl3 sl4 sl5 sl6 sl7 slT7 sl8 sl9 sl10 sl11 sl12 sl13 sl14 sl15 sl16 sl17 sl18 sl19 sl20 sl21 sl22 sl23 sl24 sl25 sl26 sl27 sl28 sl29 sl30 sl31 : Array (Option Value)} {oc0 kV0 dc0 pm0 cd0 ct0 oc1 kV1 dc1 pm1 cd1 ct1 oc2 kV2 dc2 pm2 cd2 ct2 oc3 kV3 dc3 pm3 cd3 ct3 oc4 kV4 dc4 pm4 cd4 ct4 oc5 kV5 dc5 pm5 cd5 ct5 oc6 kV6 dc6 pm6 cd6 ct6 oc7 dc7 pm7 cd7 ct7 ocT7 oc8 kV8 dc8 pm8 cd8 ct8 oc9 kV9 dc9 pm9 cd9 ct9 oc10 kV10 dc10 pm10 cd10 ct10 oc11 kV11 dc11 pm11 cd11 ct11 oc12 kV12 dc12 pm12 cd12 ct12 oc13 kV13 dc13 pm13 cd13 ct13 oc14 kV14 dc14 pm14 cd14 ct14 oc15 kV15 dc15 pm15 cd15 ct15 oc16 kV16 dc16 pm16 cd16 ct16 oc17 kV17 dc17 pm17 cd17 ct17 oc18 kV18 dc18 pm18 cd18 ct18 oc19 kV19 dc19 pm19 cd19 ct19 oc20 kV20 dc20 pm20 cd20 ct20 oc21 kV21 dc21 pm21 cd21 ct21 oc22 kV22 dc22 pm22 cd22 ct22 oc23 kV23 dc23 pm23 cd23 ct23 oc24 kV24 dc24 pm24 cd24 ct24 oc25 kV25 dc25 pm25 cd25 ct25 oc26 kV26 dc26 pm26 cd26 ct26 oc27 kV27 dc27 pm27 cd27 ct27 oc28 kV28 dc28 pm28 cd28 ct28 oc29 kV29 dc29 pm29 cd29 ct29 oc30 kV30 dc30 pm30 cd30 ct30 oc31 kV31 dc31 pm31 cd31 ct31 : Value} {nT7 : Nat} {tD7_0 t_GREATEST t__DIGITS t__CHUNK : Tok}
    (aC : PySem.W.nsIn K mainGlobals "Tie" = some (some (.ref C)))
    (m_read : PySem.W.readsIn K C (.type "type") = true)
    (m_ga : PySem.W.specialIn K (.ref C) "__getattribute__" = some (some (.builtin "type.__getattribute__")))
    (m_sta : PySem.W.findCls K (.ref C) (.type "type") "of" = some (.get (.builtin "staticmethod.__get__") (.ref pS) .none (.ref C)))
    (ge0 : PySem.W.nsIn K mainGlobals "BadPlace" = some (some (.ref c0)))
    (ge1 : PySem.W.nsIn K mainGlobals "BadLength" = some (some (.ref c1)))
    (ge2 : PySem.W.nsIn K mainGlobals "BadAmount" = some (some (.ref c2)))
    (ge3 : PySem.W.nsIn K mainGlobals "BadWay" = some (some (.ref c3)))
    (ge4 : PySem.W.nsIn K mainGlobals "BadText" = some (some (.ref c4)))
    (ge5 : PySem.W.nsIn K mainGlobals "TuneError" = some (some (.ref c5)))
    (hin : PySem.W.findIn K (.ref c5) "__init__" = some (some (.ref f0)))
    (i0 : PySem.W.isFn K (.ref f0) = true)
    (l0 : K.lookup f0 = some ⟨oc0, od0, .func (PySem.W.fnOf "__init__" "TuneError.__init__" (defArgs s_E_init) (defBody s_E_init) (defScope s_E_init) .none kV0 dc0 pm0 an0 cd0 ct0), sl0⟩)
    (d0 : PySem.W.codeIn K cd0 "TuneError.__init__" = true)
    (k0 : PySem.W.keepIn K (.ref f0) = true)
    (a1 : PySem.W.nsIn K mainGlobals "is_whole" = some (some (.ref f1)))
    (l1 : K.lookup f1 = some ⟨oc1, od1, .func (PySem.W.fnOf "is_whole" "is_whole" (defArgs s_is_whole) (defBody s_is_whole) (defScope s_is_whole) .none kV1 dc1 pm1 an1 cd1 ct1), sl1⟩)
    (d1 : PySem.W.codeIn K cd1 "is_whole" = true)
    (k1 : PySem.W.keepIn K (.ref f1) = true)
    (a2 : PySem.W.nsIn K mainGlobals "is_from" = some (some (.ref f2)))
    (l2 : K.lookup f2 = some ⟨oc2, od2, .func (PySem.W.fnOf "is_from" "is_from" (defArgs s_is_from) (defBody s_is_from) (defScope s_is_from) .none kV2 dc2 pm2 an2 cd2 ct2), sl2⟩)
    (d2 : PySem.W.codeIn K cd2 "is_from" = true)
    (k2 : PySem.W.keepIn K (.ref f2) = true)
    (a3 : PySem.W.nsIn K mainGlobals "is_between" = some (some (.ref f3)))
    (l3 : K.lookup f3 = some ⟨oc3, od3, .func (PySem.W.fnOf "is_between" "is_between" (defArgs s_is_between) (defBody s_is_between) (defScope s_is_between) .none kV3 dc3 pm3 an3 cd3 ct3), sl3⟩)
    (d3 : PySem.W.codeIn K cd3 "is_between" = true)
    (k3 : PySem.W.keepIn K (.ref f3) = true)
    (a4 : PySem.W.nsIn K mainGlobals "written" = some (some (.ref f4)))
    (l4 : K.lookup f4 = some ⟨oc4, od4, .func (PySem.W.fnOf "written" "written" (defArgs s_written) (defBody s_written) (defScope s_written) .none kV4 dc4 pm4 an4 cd4 ct4), sl4⟩)
    (d4 : PySem.W.codeIn K cd4 "written" = true)
    (k4 : PySem.W.keepIn K (.ref f4) = true)
    (a5 : PySem.W.nsIn K mainGlobals "number_in" = some (some (.ref f5)))
    (l5 : K.lookup f5 = some ⟨oc5, od5, .func (PySem.W.fnOf "number_in" "number_in" (defArgs s_number_in) (defBody s_number_in) (defScope s_number_in) .none kV5 dc5 pm5 an5 cd5 ct5), sl5⟩)
    (d5 : PySem.W.codeIn K cd5 "number_in" = true)
    (k5 : PySem.W.keepIn K (.ref f5) = true)
    (a6 : PySem.W.nsIn K mainGlobals "_number_of" = some (some (.ref f6)))
    (l6 : K.lookup f6 = some ⟨oc6, od6, .func (PySem.W.fnOf "_number_of" "_number_of" (defArgs s_number_of) (defBody s_number_of) (defScope s_number_of) .none kV6 dc6 pm6 an6 cd6 ct6), sl6⟩)
    (d6 : PySem.W.codeIn K cd6 "_number_of" = true)
    (k6 : PySem.W.keepIn K (.ref f6) = true)
    (a7 : PySem.W.findIn K (.ref C) "__init__" = some (some (.ref f7)))
    (i7 : PySem.W.isFn K (.ref f7) = true)
    (l7 : K.lookup f7 = some ⟨oc7, od7, .func (PySem.W.fnOf "__init__" "Tie.__init__" (defArgs s_T_init) (defBody s_T_init) (defScope s_T_init) (.ref aT7) (.ref aD7) dc7 pm7 an7 cd7 ct7), sl7⟩)
    (d7 : PySem.W.codeIn K cd7 "Tie.__init__" = true)
    (k7 : PySem.W.keepIn K (.ref f7) = true)
    (lT7 : K.lookup aT7 = some ⟨ocT7, odT7, .seq ([Value.int 0 tD7_0] : List Value).toArray nT7, slT7⟩)
    (w7_down : PySem.W.nsIn K aD7 "down" = some (some (.bool false)))
    (w7_backward : PySem.W.nsIn K aD7 "backward" = some (some (.bool false)))
    (a8 : PySem.W.recIn K pS "staticmethod" = some ((.ref f8) :: rS))
    (i8 : PySem.W.isFn K (.ref f8) = true)
    (l8 : K.lookup f8 = some ⟨oc8, od8, .func (PySem.W.fnOf "of" "Tie.of" (defArgs s_T_of) (defBody s_T_of) (defScope s_T_of) .none kV8 dc8 pm8 an8 cd8 ct8), sl8⟩)
    (d8 : PySem.W.codeIn K cd8 "Tie.of" = true)
    (k8 : PySem.W.keepIn K (.ref f8) = true)
    (a9 : PySem.W.findIn K (.ref C) "__eq__" = some (some (.ref f9)))
    (i9 : PySem.W.isFn K (.ref f9) = true)
    (l9 : K.lookup f9 = some ⟨oc9, od9, .func (PySem.W.fnOf "__eq__" "Tie.__eq__" (defArgs s_T_eq) (defBody s_T_eq) (defScope s_T_eq) .none kV9 dc9 pm9 an9 cd9 ct9), sl9⟩)
    (d9 : PySem.W.codeIn K cd9 "Tie.__eq__" = true)
    (k9 : PySem.W.keepIn K (.ref f9) = true)
    (a10 : PySem.W.nsIn K mainGlobals "_check_parts" = some (some (.ref f10)))
    (l10 : K.lookup f10 = some ⟨oc10, od10, .func (PySem.W.fnOf "_check_parts" "_check_parts" (defArgs s_check_parts) (defBody s_check_parts) (defScope s_check_parts) .none kV10 dc10 pm10 an10 cd10 ct10), sl10⟩)
    (d10 : PySem.W.codeIn K cd10 "_check_parts" = true)
    (k10 : PySem.W.keepIn K (.ref f10) = true)
    (a11 : PySem.W.nsIn K mainGlobals "_check_leading" = some (some (.ref f11)))
    (l11 : K.lookup f11 = some ⟨oc11, od11, .func (PySem.W.fnOf "_check_leading" "_check_leading" (defArgs s_check_leading) (defBody s_check_leading) (defScope s_check_leading) .none kV11 dc11 pm11 an11 cd11 ct11), sl11⟩)
    (d11 : PySem.W.codeIn K cd11 "_check_leading" = true)
    (k11 : PySem.W.keepIn K (.ref f11) = true)
    (a12 : PySem.W.nsIn K mainGlobals "_values_in" = some (some (.ref f12)))
    (l12 : K.lookup f12 = some ⟨oc12, od12, .func (PySem.W.fnOf "_values_in" "_values_in" (defArgs s_values_in) (defBody s_values_in) (defScope s_values_in) .none kV12 dc12 pm12 an12 cd12 ct12), sl12⟩)
    (d12 : PySem.W.codeIn K cd12 "_values_in" = true)
    (k12 : PySem.W.keepIn K (.ref f12) = true)
    (a13 : PySem.W.nsIn K mainGlobals "_law_pot" = some (some (.ref f13)))
    (l13 : K.lookup f13 = some ⟨oc13, od13, .func (PySem.W.fnOf "_law_pot" "_law_pot" (defArgs s_l_pot) (defBody s_l_pot) (defScope s_l_pot) .none kV13 dc13 pm13 an13 cd13 ct13), sl13⟩)
    (d13 : PySem.W.codeIn K cd13 "_law_pot" = true)
    (k13 : PySem.W.keepIn K (.ref f13) = true)
    (a14 : PySem.W.nsIn K mainGlobals "_law_take" = some (some (.ref f14)))
    (l14 : K.lookup f14 = some ⟨oc14, od14, .func (PySem.W.fnOf "_law_take" "_law_take" (defArgs s_l_take) (defBody s_l_take) (defScope s_l_take) .none kV14 dc14 pm14 an14 cd14 ct14), sl14⟩)
    (d14 : PySem.W.codeIn K cd14 "_law_take" = true)
    (k14 : PySem.W.keepIn K (.ref f14) = true)
    (a15 : PySem.W.nsIn K mainGlobals "_law_of" = some (some (.ref f15)))
    (l15 : K.lookup f15 = some ⟨oc15, od15, .func (PySem.W.fnOf "_law_of" "_law_of" (defArgs s_l_of) (defBody s_l_of) (defScope s_l_of) .none kV15 dc15 pm15 an15 cd15 ct15), sl15⟩)
    (d15 : PySem.W.codeIn K cd15 "_law_of" = true)
    (k15 : PySem.W.keepIn K (.ref f15) = true)
    (a16 : PySem.W.nsIn K mainGlobals "_law_cells" = some (some (.ref f16)))
    (l16 : K.lookup f16 = some ⟨oc16, od16, .func (PySem.W.fnOf "_law_cells" "_law_cells" (defArgs s_l_cells) (defBody s_l_cells) (defScope s_l_cells) .none kV16 dc16 pm16 an16 cd16 ct16), sl16⟩)
    (d16 : PySem.W.codeIn K cd16 "_law_cells" = true)
    (k16 : PySem.W.keepIn K (.ref f16) = true)
    (a17 : PySem.W.nsIn K mainGlobals "_law_met_error" = some (some (.ref f17)))
    (l17 : K.lookup f17 = some ⟨oc17, od17, .func (PySem.W.fnOf "_law_met_error" "_law_met_error" (defArgs s_l_met_error) (defBody s_l_met_error) (defScope s_l_met_error) .none kV17 dc17 pm17 an17 cd17 ct17), sl17⟩)
    (d17 : PySem.W.codeIn K cd17 "_law_met_error" = true)
    (k17 : PySem.W.keepIn K (.ref f17) = true)
    (a18 : PySem.W.nsIn K mainGlobals "_law_odd" = some (some (.ref f18)))
    (l18 : K.lookup f18 = some ⟨oc18, od18, .func (PySem.W.fnOf "_law_odd" "_law_odd" (defArgs s_l_odd) (defBody s_l_odd) (defScope s_l_odd) .none kV18 dc18 pm18 an18 cd18 ct18), sl18⟩)
    (d18 : PySem.W.codeIn K cd18 "_law_odd" = true)
    (k18 : PySem.W.keepIn K (.ref f18) = true)
    (a19 : PySem.W.nsIn K mainGlobals "_law_amount" = some (some (.ref f19)))
    (l19 : K.lookup f19 = some ⟨oc19, od19, .func (PySem.W.fnOf "_law_amount" "_law_amount" (defArgs s_l_amount) (defBody s_l_amount) (defScope s_l_amount) .none kV19 dc19 pm19 an19 cd19 ct19), sl19⟩)
    (d19 : PySem.W.codeIn K cd19 "_law_amount" = true)
    (k19 : PySem.W.keepIn K (.ref f19) = true)
    (a20 : PySem.W.nsIn K mainGlobals "_law_row" = some (some (.ref f20)))
    (l20 : K.lookup f20 = some ⟨oc20, od20, .func (PySem.W.fnOf "_law_row" "_law_row" (defArgs s_l_row) (defBody s_l_row) (defScope s_l_row) .none kV20 dc20 pm20 an20 cd20 ct20), sl20⟩)
    (d20 : PySem.W.codeIn K cd20 "_law_row" = true)
    (k20 : PySem.W.keepIn K (.ref f20) = true)
    (a21 : PySem.W.nsIn K mainGlobals "_law_far" = some (some (.ref f21)))
    (l21 : K.lookup f21 = some ⟨oc21, od21, .func (PySem.W.fnOf "_law_far" "_law_far" (defArgs s_l_far) (defBody s_l_far) (defScope s_l_far) .none kV21 dc21 pm21 an21 cd21 ct21), sl21⟩)
    (d21 : PySem.W.codeIn K cd21 "_law_far" = true)
    (k21 : PySem.W.keepIn K (.ref f21) = true)
    (a22 : PySem.W.nsIn K mainGlobals "_law_tie" = some (some (.ref f22)))
    (l22 : K.lookup f22 = some ⟨oc22, od22, .func (PySem.W.fnOf "_law_tie" "_law_tie" (defArgs s_l_tie) (defBody s_l_tie) (defScope s_l_tie) .none kV22 dc22 pm22 an22 cd22 ct22), sl22⟩)
    (d22 : PySem.W.codeIn K cd22 "_law_tie" = true)
    (k22 : PySem.W.keepIn K (.ref f22) = true)
    (a23 : PySem.W.nsIn K mainGlobals "_law_row_of" = some (some (.ref f23)))
    (l23 : K.lookup f23 = some ⟨oc23, od23, .func (PySem.W.fnOf "_law_row_of" "_law_row_of" (defArgs s_l_row_of) (defBody s_l_row_of) (defScope s_l_row_of) .none kV23 dc23 pm23 an23 cd23 ct23), sl23⟩)
    (d23 : PySem.W.codeIn K cd23 "_law_row_of" = true)
    (k23 : PySem.W.keepIn K (.ref f23) = true)
    (a24 : PySem.W.nsIn K mainGlobals "_law_text_of" = some (some (.ref f24)))
    (l24 : K.lookup f24 = some ⟨oc24, od24, .func (PySem.W.fnOf "_law_text_of" "_law_text_of" (defArgs s_l_text_of) (defBody s_l_text_of) (defScope s_l_text_of) .none kV24 dc24 pm24 an24 cd24 ct24), sl24⟩)
    (d24 : PySem.W.codeIn K cd24 "_law_text_of" = true)
    (k24 : PySem.W.keepIn K (.ref f24) = true)
    (a25 : PySem.W.nsIn K mainGlobals "_law_figure" = some (some (.ref f25)))
    (l25 : K.lookup f25 = some ⟨oc25, od25, .func (PySem.W.fnOf "_law_figure" "_law_figure" (defArgs s_l_figure) (defBody s_l_figure) (defScope s_l_figure) .none kV25 dc25 pm25 an25 cd25 ct25), sl25⟩)
    (d25 : PySem.W.codeIn K cd25 "_law_figure" = true)
    (k25 : PySem.W.keepIn K (.ref f25) = true)
    (a26 : PySem.W.nsIn K mainGlobals "_law_row_told" = some (some (.ref f26)))
    (l26 : K.lookup f26 = some ⟨oc26, od26, .func (PySem.W.fnOf "_law_row_told" "_law_row_told" (defArgs s_l_row_told) (defBody s_l_row_told) (defScope s_l_row_told) .none kV26 dc26 pm26 an26 cd26 ct26), sl26⟩)
    (d26 : PySem.W.codeIn K cd26 "_law_row_told" = true)
    (k26 : PySem.W.keepIn K (.ref f26) = true)
    (a27 : PySem.W.nsIn K mainGlobals "_law_bent_line" = some (some (.ref f27)))
    (l27 : K.lookup f27 = some ⟨oc27, od27, .func (PySem.W.fnOf "_law_bent_line" "_law_bent_line" (defArgs s_l_bent_line) (defBody s_l_bent_line) (defScope s_l_bent_line) .none kV27 dc27 pm27 an27 cd27 ct27), sl27⟩)
    (d27 : PySem.W.codeIn K cd27 "_law_bent_line" = true)
    (k27 : PySem.W.keepIn K (.ref f27) = true)
    (a28 : PySem.W.nsIn K mainGlobals "_law_is_short" = some (some (.ref f28)))
    (l28 : K.lookup f28 = some ⟨oc28, od28, .func (PySem.W.fnOf "_law_is_short" "_law_is_short" (defArgs s_l_is_short) (defBody s_l_is_short) (defScope s_l_is_short) .none kV28 dc28 pm28 an28 cd28 ct28), sl28⟩)
    (d28 : PySem.W.codeIn K cd28 "_law_is_short" = true)
    (k28 : PySem.W.keepIn K (.ref f28) = true)
    (a29 : PySem.W.nsIn K mainGlobals "_law_is_read" = some (some (.ref f29)))
    (l29 : K.lookup f29 = some ⟨oc29, od29, .func (PySem.W.fnOf "_law_is_read" "_law_is_read" (defArgs s_l_is_read) (defBody s_l_is_read) (defScope s_l_is_read) .none kV29 dc29 pm29 an29 cd29 ct29), sl29⟩)
    (d29 : PySem.W.codeIn K cd29 "_law_is_read" = true)
    (k29 : PySem.W.keepIn K (.ref f29) = true)
    (a30 : PySem.W.nsIn K mainGlobals "_law_right" = some (some (.ref f30)))
    (l30 : K.lookup f30 = some ⟨oc30, od30, .func (PySem.W.fnOf "_law_right" "_law_right" (defArgs s_l_right) (defBody s_l_right) (defScope s_l_right) .none kV30 dc30 pm30 an30 cd30 ct30), sl30⟩)
    (d30 : PySem.W.codeIn K cd30 "_law_right" = true)
    (k30 : PySem.W.keepIn K (.ref f30) = true)
    (a31 : PySem.W.nsIn K mainGlobals "law" = some (some (.ref f31)))
    (l31 : K.lookup f31 = some ⟨oc31, od31, .func (PySem.W.fnOf "law" "law" (defArgs s_law) (defBody s_law) (defScope s_law) .none kV31 dc31 pm31 an31 cd31 ct31), sl31⟩)
    (d31 : PySem.W.codeIn K cd31 "law" = true)
    (k31 : PySem.W.keepIn K (.ref f31) = true)
    (b_isinstance : PySem.W.nsIn K mainGlobals "isinstance" = some none)
    (b_int : PySem.W.nsIn K mainGlobals "int" = some none)
    (b_bool : PySem.W.nsIn K mainGlobals "bool" = some none)
    (b_str : PySem.W.nsIn K mainGlobals "str" = some none)
    (b_range : PySem.W.nsIn K mainGlobals "range" = some none)
    (b_len : PySem.W.nsIn K mainGlobals "len" = some none)
    (b_max : PySem.W.nsIn K mainGlobals "max" = some none)
    (b_abs : PySem.W.nsIn K mainGlobals "abs" = some none)
    (b_list : PySem.W.nsIn K mainGlobals "list" = some none)
    (b_min : PySem.W.nsIn K mainGlobals "min" = some none)
    (b_all : PySem.W.nsIn K mainGlobals "all" = some none)
    (b_repr : PySem.W.nsIn K mainGlobals "repr" = some none)
    (y_GREATEST : PySem.W.nsIn K mainGlobals "GREATEST" = some (some (.int 1000000000000000000000000000000 t_GREATEST)))
    (y__DIGITS : PySem.W.nsIn K mainGlobals "_DIGITS" = some (some (.int 64 t__DIGITS)))
    (y__CHUNK : PySem.W.nsIn K mainGlobals "_CHUNK" = some (some (.int 10000000000000000000000000000000000000000000000000000000000000000 t__CHUNK)))
    (pg : PySem.W.plainGet K C Str.empty = true)
    (hd : PySem.W.hasDictIn K C = true)
    (po : PySem.W.plainOver K C = true)
    (sa : PySem.W.findIn K (.ref C) "__setattr__" = some (some (.builtin "object.__setattr__")))
    (mkc : PySem.W.makesIn K C = true)
    (kcc : PySem.W.keepIn K (.ref C) = true)
    (n_first : PySem.W.findIn K (.ref C) "first" = some none)
    (n_second : PySem.W.findIn K (.ref C) "second" = some none)
    (n_length : PySem.W.findIn K (.ref C) "length" = some none)
    (n_amount : PySem.W.findIn K (.ref C) "amount" = some none)
    (n_down : PySem.W.findIn K (.ref C) "down" = some none)
    (n_backward : PySem.W.findIn K (.ref C) "backward" = some none)
    (n_text : PySem.W.findIn K (.ref C) "text" = some none)
    (m_z_cls : PySem.W.findIn K (.ref C) "__class__" = some (some (.builtin "object.__class__")))
    (m_z_get : PySem.W.specialIn K (.builtin "object.__class__") "__get__" = some (some (.builtin "getset_descriptor.__get__")))
    (m_z_tk : PySem.W.takesIn K (.builtin "object.__class__") = some true)
    (m_z_mro : PySem.W.mroIn K C (.type "object") = some true)
    (m_z_ty : PySem.W.typeIn K (.ref C) = some (.type "type"))
    (m_z_subT : PySem.W.subIn K (.type "tuple") (.ref C) = some false)
    (m_z_notT : PySem.W.notFirst K C (.type "tuple") = true)
    (b_ValueErrorX : PySem.W.nsIn K mainGlobals "ValueError" = some none)
    (zve : PySem.W.findCls K (.type "ValueError") (.type "type") "__init__" = some (.val (.builtin "ValueError.__init__")))
    (tin : PySem.W.typeIn K (.ref f0) = some (.type "function"))
    (zget : PySem.W.specialIn K (.builtin "object.__class__") "__get__" = some (some (.builtin "getset_descriptor.__get__")))
    (ztk : PySem.W.takesIn K (.builtin "object.__class__") = some true)
    (e0 : ExcF K c5 f0 c0)
    (e1 : ExcF K c5 f0 c1)
    (e2 : ExcF K c5 f0 c2)
    (e3 : ExcF K c5 f0 c3)
    (e4 : ExcF K c5 f0 c4)
    (e5 : ExcF K c5 f0 c5)
    (nd : ([c0, c1, c2, c3, c4, c5] : List Addr).Nodup)
    (hx29 : ((recsOf q).any fun d => d.name == "_law_is_read") = true) :
    ∃ (fd : FuncData) (cs : List (Addr × Addr)) (sp : Sp), (∀ p ∈ cs, PySem.W.CodeHd h p.1 p.2 ∧ h.get? p.2 = some tab0) ∧ (∀ (s : Shared) (u : Value), BindsTo s fd ⟨[u], []⟩ [("_law_script", u)]) ∧
        (∀ (H : Hp) (a : Addr) (ns : List Int), ns.length ≤ 63 → (∀ p ∈ cs, H p.2 = some (.tbl #[])) → SqL K H a (ns.map V.int) → sp [.ref a] H (fun v _ => v = .bl true) fun _ _ _ => False) ∧
        ∀ base : Heap, K.In base → base.Ns mainGlobals mg → (∀ p ∈ cs, TabB base mg p.1 p.2) → GOk l.prog w K mg base CX0 14 fa fd ["_law_script"] sp := by
  have e := hfa.symm.trans (PySem.W.mg_of X G a31)
  cases e
  have F0 := fun_mk (st := s_E_init) l0 d0 k0
  have F1 := fun_mk (st := s_is_whole) l1 d1 k1
  have F2 := fun_mk (st := s_is_from) l2 d2 k2
  have F3 := fun_mk (st := s_is_between) l3 d3 k3
  have F4 := fun_mk (st := s_written) l4 d4 k4
  have F5 := fun_mk (st := s_number_in) l5 d5 k5
  have F6 := fun_mk (st := s_number_of) l6 d6 k6
  have F7 : FunD K "__init__" "Tie.__init__" (defArgs s_T_init) (defBody s_T_init) (defScope s_T_init) [.int 0] [("down", .bl false), ("backward", .bl false)] f7 (PySem.W.fnOf "__init__" "Tie.__init__" (defArgs s_T_init) (defBody s_T_init) (defScope s_T_init) (.ref aT7) (.ref aD7) dc7 pm7 an7 cd7 ct7) := by
    refine ⟨⟨_, _, _, _, _, _, _, _, _, _, rfl, l7, d7, .inr ⟨by decide, aT7, _, _, _, rfl, lT7, rfl, .cons ⟨_, rfl⟩ .nil⟩, .inr ⟨aD7, rfl, fun q hq => ?_⟩⟩, k7⟩
    simp only [List.mem_cons, List.not_mem_nil, or_false] at hq
    rcases hq with rfl | rfl
    · exact ⟨_, w7_down, rfl⟩
    · exact ⟨_, w7_backward, rfl⟩
  have F8 := fun_mk (st := s_T_of) l8 d8 k8
  have F9 := fun_mk (st := s_T_eq) l9 d9 k9
  have F10 := fun_mk (st := s_check_parts) l10 d10 k10
  have F11 := fun_mk (st := s_check_leading) l11 d11 k11
  have F12 := fun_mk (st := s_values_in) l12 d12 k12
  have F13 := fun_mk (st := s_l_pot) l13 d13 k13
  have F14 := fun_mk (st := s_l_take) l14 d14 k14
  have F15 := fun_mk (st := s_l_of) l15 d15 k15
  have F16 := fun_mk (st := s_l_cells) l16 d16 k16
  have F17 := fun_mk (st := s_l_met_error) l17 d17 k17
  have F18 := fun_mk (st := s_l_odd) l18 d18 k18
  have F19 := fun_mk (st := s_l_amount) l19 d19 k19
  have F20 := fun_mk (st := s_l_row) l20 d20 k20
  have F21 := fun_mk (st := s_l_far) l21 d21 k21
  have F22 := fun_mk (st := s_l_tie) l22 d22 k22
  have F23 := fun_mk (st := s_l_row_of) l23 d23 k23
  have F24 := fun_mk (st := s_l_text_of) l24 d24 k24
  have F25 := fun_mk (st := s_l_figure) l25 d25 k25
  have F26 := fun_mk (st := s_l_row_told) l26 d26 k26
  have F27 := fun_mk (st := s_l_bent_line) l27 d27 k27
  have F28 := fun_mk (st := s_l_is_short) l28 d28 k28
  obtain ⟨cc29, PT29, ecd29, hcd29, htb29⟩ := tab_at tab X hx29 (PySem.W.mg_of X G a29) l29
  have ecd29' : cd29 = .ref cc29 := ecd29
  subst ecd29'
  have F29 : FunC K "_law_is_read" "_law_is_read" s_l_is_read f29 (PySem.W.fnOf "_law_is_read" "_law_is_read" (defArgs s_l_is_read) (defBody s_l_is_read) (defScope s_l_is_read) .none kV29 dc29 pm29 an29 (.ref cc29) ct29) cc29 := ⟨⟨_, _, _, _, _, _, _, _, rfl, l29, d29⟩, k29⟩
  have F30 := fun_mk (st := s_l_right) l30 d30 k30
  have F31 := fun_mk (st := s_law) l31 d31 k31
  have cs_all : ∀ i, i < 6 → ExcT K c5 f0 (([c0, c1, c2, c3, c4, c5] : List Addr).getD i 0) := fun i hi => match i, hi with
    | 0, _ => e0.all zget ztk
    | 1, _ => e1.all zget ztk
    | 2, _ => e2.all zget ztk
    | 3, _ => e3.all zget ztk
    | 4, _ => e4.all zget ztk
    | 5, _ => e5.all zget ztk
    | i + 6, h => absurd h (by omega)
  have T : Txt K mg { pS := pS, f_E_init := f0, d_E_init := PySem.W.fnOf "__init__" "TuneError.__init__" (defArgs s_E_init) (defBody s_E_init) (defScope s_E_init) .none kV0 dc0 pm0 an0 cd0 ct0, f_is_whole := f1, d_is_whole := PySem.W.fnOf "is_whole" "is_whole" (defArgs s_is_whole) (defBody s_is_whole) (defScope s_is_whole) .none kV1 dc1 pm1 an1 cd1 ct1, f_is_from := f2, d_is_from := PySem.W.fnOf "is_from" "is_from" (defArgs s_is_from) (defBody s_is_from) (defScope s_is_from) .none kV2 dc2 pm2 an2 cd2 ct2, f_is_between := f3, d_is_between := PySem.W.fnOf "is_between" "is_between" (defArgs s_is_between) (defBody s_is_between) (defScope s_is_between) .none kV3 dc3 pm3 an3 cd3 ct3, f_written := f4, d_written := PySem.W.fnOf "written" "written" (defArgs s_written) (defBody s_written) (defScope s_written) .none kV4 dc4 pm4 an4 cd4 ct4, f_number_in := f5, d_number_in := PySem.W.fnOf "number_in" "number_in" (defArgs s_number_in) (defBody s_number_in) (defScope s_number_in) .none kV5 dc5 pm5 an5 cd5 ct5, f_number_of := f6, d_number_of := PySem.W.fnOf "_number_of" "_number_of" (defArgs s_number_of) (defBody s_number_of) (defScope s_number_of) .none kV6 dc6 pm6 an6 cd6 ct6, f_T_init := f7, d_T_init := PySem.W.fnOf "__init__" "Tie.__init__" (defArgs s_T_init) (defBody s_T_init) (defScope s_T_init) (.ref aT7) (.ref aD7) dc7 pm7 an7 cd7 ct7, f_T_of := f8, d_T_of := PySem.W.fnOf "of" "Tie.of" (defArgs s_T_of) (defBody s_T_of) (defScope s_T_of) .none kV8 dc8 pm8 an8 cd8 ct8, f_T_eq := f9, d_T_eq := PySem.W.fnOf "__eq__" "Tie.__eq__" (defArgs s_T_eq) (defBody s_T_eq) (defScope s_T_eq) .none kV9 dc9 pm9 an9 cd9 ct9, f_check_parts := f10, d_check_parts := PySem.W.fnOf "_check_parts" "_check_parts" (defArgs s_check_parts) (defBody s_check_parts) (defScope s_check_parts) .none kV10 dc10 pm10 an10 cd10 ct10, f_check_leading := f11, d_check_leading := PySem.W.fnOf "_check_leading" "_check_leading" (defArgs s_check_leading) (defBody s_check_leading) (defScope s_check_leading) .none kV11 dc11 pm11 an11 cd11 ct11, f_values_in := f12, d_values_in := PySem.W.fnOf "_values_in" "_values_in" (defArgs s_values_in) (defBody s_values_in) (defScope s_values_in) .none kV12 dc12 pm12 an12 cd12 ct12, f_l_pot := f13, d_l_pot := PySem.W.fnOf "_law_pot" "_law_pot" (defArgs s_l_pot) (defBody s_l_pot) (defScope s_l_pot) .none kV13 dc13 pm13 an13 cd13 ct13, f_l_take := f14, d_l_take := PySem.W.fnOf "_law_take" "_law_take" (defArgs s_l_take) (defBody s_l_take) (defScope s_l_take) .none kV14 dc14 pm14 an14 cd14 ct14, f_l_of := f15, d_l_of := PySem.W.fnOf "_law_of" "_law_of" (defArgs s_l_of) (defBody s_l_of) (defScope s_l_of) .none kV15 dc15 pm15 an15 cd15 ct15, f_l_cells := f16, d_l_cells := PySem.W.fnOf "_law_cells" "_law_cells" (defArgs s_l_cells) (defBody s_l_cells) (defScope s_l_cells) .none kV16 dc16 pm16 an16 cd16 ct16, f_l_met_error := f17, d_l_met_error := PySem.W.fnOf "_law_met_error" "_law_met_error" (defArgs s_l_met_error) (defBody s_l_met_error) (defScope s_l_met_error) .none kV17 dc17 pm17 an17 cd17 ct17, f_l_odd := f18, d_l_odd := PySem.W.fnOf "_law_odd" "_law_odd" (defArgs s_l_odd) (defBody s_l_odd) (defScope s_l_odd) .none kV18 dc18 pm18 an18 cd18 ct18, f_l_amount := f19, d_l_amount := PySem.W.fnOf "_law_amount" "_law_amount" (defArgs s_l_amount) (defBody s_l_amount) (defScope s_l_amount) .none kV19 dc19 pm19 an19 cd19 ct19, f_l_row := f20, d_l_row := PySem.W.fnOf "_law_row" "_law_row" (defArgs s_l_row) (defBody s_l_row) (defScope s_l_row) .none kV20 dc20 pm20 an20 cd20 ct20, f_l_far := f21, d_l_far := PySem.W.fnOf "_law_far" "_law_far" (defArgs s_l_far) (defBody s_l_far) (defScope s_l_far) .none kV21 dc21 pm21 an21 cd21 ct21, f_l_tie := f22, d_l_tie := PySem.W.fnOf "_law_tie" "_law_tie" (defArgs s_l_tie) (defBody s_l_tie) (defScope s_l_tie) .none kV22 dc22 pm22 an22 cd22 ct22, f_l_row_of := f23, d_l_row_of := PySem.W.fnOf "_law_row_of" "_law_row_of" (defArgs s_l_row_of) (defBody s_l_row_of) (defScope s_l_row_of) .none kV23 dc23 pm23 an23 cd23 ct23, f_l_text_of := f24, d_l_text_of := PySem.W.fnOf "_law_text_of" "_law_text_of" (defArgs s_l_text_of) (defBody s_l_text_of) (defScope s_l_text_of) .none kV24 dc24 pm24 an24 cd24 ct24, f_l_figure := f25, d_l_figure := PySem.W.fnOf "_law_figure" "_law_figure" (defArgs s_l_figure) (defBody s_l_figure) (defScope s_l_figure) .none kV25 dc25 pm25 an25 cd25 ct25, f_l_row_told := f26, d_l_row_told := PySem.W.fnOf "_law_row_told" "_law_row_told" (defArgs s_l_row_told) (defBody s_l_row_told) (defScope s_l_row_told) .none kV26 dc26 pm26 an26 cd26 ct26, f_l_bent_line := f27, d_l_bent_line := PySem.W.fnOf "_law_bent_line" "_law_bent_line" (defArgs s_l_bent_line) (defBody s_l_bent_line) (defScope s_l_bent_line) .none kV27 dc27 pm27 an27 cd27 ct27, f_l_is_short := f28, d_l_is_short := PySem.W.fnOf "_law_is_short" "_law_is_short" (defArgs s_l_is_short) (defBody s_l_is_short) (defScope s_l_is_short) .none kV28 dc28 pm28 an28 cd28 ct28, f_l_is_read := f29, d_l_is_read := PySem.W.fnOf "_law_is_read" "_law_is_read" (defArgs s_l_is_read) (defBody s_l_is_read) (defScope s_l_is_read) .none kV29 dc29 pm29 an29 (.ref cc29) ct29, c_l_is_read := cc29, t_l_is_read := PT29, f_l_right := f30, d_l_right := PySem.W.fnOf "_law_right" "_law_right" (defArgs s_l_right) (defBody s_l_right) (defScope s_l_right) .none kV30 dc30 pm30 an30 cd30 ct30, f_law := fa, d_law := PySem.W.fnOf "law" "law" (defArgs s_law) (defBody s_law) (defScope s_law) .none kV31 dc31 pm31 an31 cd31 ct31, t_GREATEST := t_GREATEST, t__DIGITS := t__DIGITS, t__CHUNK := t__CHUNK, cC := C, c := fun i => ([c0, c1, c2, c3, c4, c5] : List Addr).getD i 0 } := { g_BadPlace := PySem.W.mg_of X G ge0, g_BadLength := PySem.W.mg_of X G ge1, g_BadAmount := PySem.W.mg_of X G ge2, g_BadWay := PySem.W.mg_of X G ge3, g_BadText := PySem.W.mg_of X G ge4, g_TuneError := PySem.W.mg_of X G ge5, F_E_init := F0, bn_E_init := F0.binds (ps := ["self", "value"]) fun _ _ _ _ _ _ us hl => match us, hl with | [_, _], _ => rfl, k_E_init := k0, i_E_init := i0, F_is_whole := F1, bn_is_whole := F1.binds (ps := ["value"]) fun _ _ _ _ _ _ us hl => match us, hl with | [_], _ => rfl, k_is_whole := k1, g_is_whole := PySem.W.mg_of X G a1, F_is_from := F2, bn_is_from := F2.binds (ps := ["value", "least"]) fun _ _ _ _ _ _ us hl => match us, hl with | [_, _], _ => rfl, k_is_from := k2, g_is_from := PySem.W.mg_of X G a2, F_is_between := F3, bn_is_between := F3.binds (ps := ["value", "least", "greatest"]) fun _ _ _ _ _ _ us hl => match us, hl with | [_, _, _], _ => rfl, k_is_between := k3, g_is_between := PySem.W.mg_of X G a3, F_written := F4, bn_written := F4.binds (ps := ["number"]) fun _ _ _ _ _ _ us hl => match us, hl with | [_], _ => rfl, k_written := k4, g_written := PySem.W.mg_of X G a4, F_number_in := F5, bn_number_in := F5.binds (ps := ["word"]) fun _ _ _ _ _ _ us hl => match us, hl with | [_], _ => rfl, k_number_in := k5, g_number_in := PySem.W.mg_of X G a5, F_number_of := F6, bn_number_of := F6.binds (ps := ["digits"]) fun _ _ _ _ _ _ us hl => match us, hl with | [_], _ => rfl, k_number_of := k6, g_number_of := PySem.W.mg_of X G a6, F_T_init := F7, k_T_init := k7, i_T_init := i7, a_T_init := a7, F_T_of := F8, bn_T_of := F8.binds (ps := ["text"]) fun _ _ _ _ _ _ us hl => match us, hl with | [_], _ => rfl, k_T_of := k8, i_T_of := i8, F_T_eq := F9, bn_T_eq := F9.binds (ps := ["self", "other"]) fun _ _ _ _ _ _ us hl => match us, hl with | [_, _], _ => rfl, k_T_eq := k9, i_T_eq := i9, a_T_eq := a9, F_check_parts := F10, bn_check_parts := F10.binds (ps := ["first", "second", "length"]) fun _ _ _ _ _ _ us hl => match us, hl with | [_, _, _], _ => rfl, k_check_parts := k10, g_check_parts := PySem.W.mg_of X G a10, F_check_leading := F11, bn_check_leading := F11.binds (ps := ["amount", "down", "backward"]) fun _ _ _ _ _ _ us hl => match us, hl with | [_, _, _], _ => rfl, k_check_leading := k11, g_check_leading := PySem.W.mg_of X G a11, F_values_in := F12, bn_values_in := F12.binds (ps := ["text"]) fun _ _ _ _ _ _ us hl => match us, hl with | [_], _ => rfl, k_values_in := k12, g_values_in := PySem.W.mg_of X G a12, F_l_pot := F13, bn_l_pot := F13.binds (ps := ["_law_script", "_law_k"]) fun _ _ _ _ _ _ us hl => match us, hl with | [_, _], _ => rfl, k_l_pot := k13, g_l_pot := PySem.W.mg_of X G a13, F_l_take := F14, bn_l_take := F14.binds (ps := ["_law_pot_here", "_law_under"]) fun _ _ _ _ _ _ us hl => match us, hl with | [_, _], _ => rfl, k_l_take := k14, g_l_take := PySem.W.mg_of X G a14, F_l_of := F15, bn_l_of := F15.binds (ps := ["_law_pot_here", "_law_some"]) fun _ _ _ _ _ _ us hl => match us, hl with | [_, _], _ => rfl, k_l_of := k15, g_l_of := PySem.W.mg_of X G a15, F_l_cells := F16, bn_l_cells := F16.binds (ps := ["_law_script", "_law_most"]) fun _ _ _ _ _ _ us hl => match us, hl with | [_, _], _ => rfl, k_l_cells := k16, g_l_cells := PySem.W.mg_of X G a16, F_l_met_error := F17, bn_l_met_error := F17.binds (ps := ["_law_look"]) fun _ _ _ _ _ _ us hl => match us, hl with | [_], _ => rfl, k_l_met_error := k17, g_l_met_error := PySem.W.mg_of X G a17, F_l_odd := F18, bn_l_odd := F18.binds (ps := ["_law_pot_here"]) fun _ _ _ _ _ _ us hl => match us, hl with | [_], _ => rfl, k_l_odd := k18, g_l_odd := PySem.W.mg_of X G a18, F_l_amount := F19, bn_l_amount := F19.binds (ps := ["_law_pot_here"]) fun _ _ _ _ _ _ us hl => match us, hl with | [_], _ => rfl, k_l_amount := k19, g_l_amount := PySem.W.mg_of X G a19, F_l_row := F20, bn_l_row := F20.binds (ps := ["_law_pot_here", "_law_size"]) fun _ _ _ _ _ _ us hl => match us, hl with | [_, _], _ => rfl, k_l_row := k20, g_l_row := PySem.W.mg_of X G a20, F_l_far := F21, bn_l_far := F21.binds (ps := ["_law_row_here", "_law_far_here"]) fun _ _ _ _ _ _ us hl => match us, hl with | [_, _], _ => rfl, k_l_far := k21, g_l_far := PySem.W.mg_of X G a21, F_l_tie := F22, bn_l_tie := F22.binds (ps := ["_law_row_here"]) fun _ _ _ _ _ _ us hl => match us, hl with | [_], _ => rfl, k_l_tie := k22, g_l_tie := PySem.W.mg_of X G a22, F_l_row_of := F23, bn_l_row_of := F23.binds (ps := ["_law_tie_here"]) fun _ _ _ _ _ _ us hl => match us, hl with | [_], _ => rfl, k_l_row_of := k23, g_l_row_of := PySem.W.mg_of X G a23, F_l_text_of := F24, bn_l_text_of := F24.binds (ps := ["_law_row_here"]) fun _ _ _ _ _ _ us hl => match us, hl with | [_], _ => rfl, k_l_text_of := k24, g_l_text_of := PySem.W.mg_of X G a24, F_l_figure := F25, bn_l_figure := F25.binds (ps := ["_law_word"]) fun _ _ _ _ _ _ us hl => match us, hl with | [_], _ => rfl, k_l_figure := k25, g_l_figure := PySem.W.mg_of X G a25, F_l_row_told := F26, bn_l_row_told := F26.binds (ps := ["_law_text"]) fun _ _ _ _ _ _ us hl => match us, hl with | [_], _ => rfl, k_l_row_told := k26, g_l_row_told := PySem.W.mg_of X G a26, F_l_bent_line := F27, bn_l_bent_line := F27.binds (ps := ["_law_pot_here", "_law_line"]) fun _ _ _ _ _ _ us hl => match us, hl with | [_, _], _ => rfl, k_l_bent_line := k27, g_l_bent_line := PySem.W.mg_of X G a27, F_l_is_short := F28, bn_l_is_short := F28.binds (ps := ["_law_text"]) fun _ _ _ _ _ _ us hl => match us, hl with | [_], _ => rfl, k_l_is_short := k28, g_l_is_short := PySem.W.mg_of X G a28, F_l_is_read := F29, bn_l_is_read := F29.fn.binds (ps := ["_law_value"]) fun _ _ _ _ _ _ us hl => match us, hl with | [_], _ => rfl, k_l_is_read := k29, g_l_is_read := PySem.W.mg_of X G a29, F_l_right := F30, bn_l_right := F30.binds (ps := ["_law_pot_here"]) fun _ _ _ _ _ _ us hl => match us, hl with | [_], _ => rfl, k_l_right := k30, g_l_right := PySem.W.mg_of X G a30, F_law := F31, bn_law := F31.binds (ps := ["_law_script"]) fun _ _ _ _ _ _ us hl => match us, hl with | [_], _ => rfl, k_law := k31, g_law := PySem.W.mg_of X G a31, b_isinstance := PySem.W.mg_none_of X G b_isinstance, b_int := PySem.W.mg_none_of X G b_int, b_bool := PySem.W.mg_none_of X G b_bool, b_str := PySem.W.mg_none_of X G b_str, b_range := PySem.W.mg_none_of X G b_range, b_len := PySem.W.mg_none_of X G b_len, b_max := PySem.W.mg_none_of X G b_max, b_abs := PySem.W.mg_none_of X G b_abs, b_list := PySem.W.mg_none_of X G b_list, b_min := PySem.W.mg_none_of X G b_min, b_all := PySem.W.mg_none_of X G b_all, b_repr := PySem.W.mg_none_of X G b_repr, c_GREATEST := PySem.W.mg_of X G y_GREATEST, c__DIGITS := PySem.W.mg_of X G y__DIGITS, c__CHUNK := PySem.W.mg_of X G y__CHUNK, cl := ⟨pg, hd, po, sa⟩, g_C := PySem.W.mg_of X G aC, mkC := mkc, kC := kcc, n_first := n_first, n_second := n_second, n_length := n_length, n_amount := n_amount, n_down := n_down, n_backward := n_backward, n_text := n_text, z_cls := m_z_cls, z_get := m_z_get, z_tk := m_z_tk, z_mro := m_z_mro, z_read := ⟨m_read, m_ga⟩, z_sta := ⟨m_sta, ⟨_, a8⟩, k8⟩, z_ty := m_z_ty, z_subT := m_z_subT, z_kitT := (kit_not m_z_mro m_z_ty m_z_subT), z_notT := m_z_notT, z_kit := kit_self, b_ValueError := PySem.W.mg_none_of X G b_ValueErrorX, z_ve := zve, t_E_init := tin, ex := fun i hi => cs_all i hi, nd := fun i j hi hj e => nd_at nd (by simpa using hi) (by simpa using hj) e }
  refine ⟨_, [(cc29, PT29)], sp_law K { pS := pS, f_E_init := f0, d_E_init := PySem.W.fnOf "__init__" "TuneError.__init__" (defArgs s_E_init) (defBody s_E_init) (defScope s_E_init) .none kV0 dc0 pm0 an0 cd0 ct0, f_is_whole := f1, d_is_whole := PySem.W.fnOf "is_whole" "is_whole" (defArgs s_is_whole) (defBody s_is_whole) (defScope s_is_whole) .none kV1 dc1 pm1 an1 cd1 ct1, f_is_from := f2, d_is_from := PySem.W.fnOf "is_from" "is_from" (defArgs s_is_from) (defBody s_is_from) (defScope s_is_from) .none kV2 dc2 pm2 an2 cd2 ct2, f_is_between := f3, d_is_between := PySem.W.fnOf "is_between" "is_between" (defArgs s_is_between) (defBody s_is_between) (defScope s_is_between) .none kV3 dc3 pm3 an3 cd3 ct3, f_written := f4, d_written := PySem.W.fnOf "written" "written" (defArgs s_written) (defBody s_written) (defScope s_written) .none kV4 dc4 pm4 an4 cd4 ct4, f_number_in := f5, d_number_in := PySem.W.fnOf "number_in" "number_in" (defArgs s_number_in) (defBody s_number_in) (defScope s_number_in) .none kV5 dc5 pm5 an5 cd5 ct5, f_number_of := f6, d_number_of := PySem.W.fnOf "_number_of" "_number_of" (defArgs s_number_of) (defBody s_number_of) (defScope s_number_of) .none kV6 dc6 pm6 an6 cd6 ct6, f_T_init := f7, d_T_init := PySem.W.fnOf "__init__" "Tie.__init__" (defArgs s_T_init) (defBody s_T_init) (defScope s_T_init) (.ref aT7) (.ref aD7) dc7 pm7 an7 cd7 ct7, f_T_of := f8, d_T_of := PySem.W.fnOf "of" "Tie.of" (defArgs s_T_of) (defBody s_T_of) (defScope s_T_of) .none kV8 dc8 pm8 an8 cd8 ct8, f_T_eq := f9, d_T_eq := PySem.W.fnOf "__eq__" "Tie.__eq__" (defArgs s_T_eq) (defBody s_T_eq) (defScope s_T_eq) .none kV9 dc9 pm9 an9 cd9 ct9, f_check_parts := f10, d_check_parts := PySem.W.fnOf "_check_parts" "_check_parts" (defArgs s_check_parts) (defBody s_check_parts) (defScope s_check_parts) .none kV10 dc10 pm10 an10 cd10 ct10, f_check_leading := f11, d_check_leading := PySem.W.fnOf "_check_leading" "_check_leading" (defArgs s_check_leading) (defBody s_check_leading) (defScope s_check_leading) .none kV11 dc11 pm11 an11 cd11 ct11, f_values_in := f12, d_values_in := PySem.W.fnOf "_values_in" "_values_in" (defArgs s_values_in) (defBody s_values_in) (defScope s_values_in) .none kV12 dc12 pm12 an12 cd12 ct12, f_l_pot := f13, d_l_pot := PySem.W.fnOf "_law_pot" "_law_pot" (defArgs s_l_pot) (defBody s_l_pot) (defScope s_l_pot) .none kV13 dc13 pm13 an13 cd13 ct13, f_l_take := f14, d_l_take := PySem.W.fnOf "_law_take" "_law_take" (defArgs s_l_take) (defBody s_l_take) (defScope s_l_take) .none kV14 dc14 pm14 an14 cd14 ct14, f_l_of := f15, d_l_of := PySem.W.fnOf "_law_of" "_law_of" (defArgs s_l_of) (defBody s_l_of) (defScope s_l_of) .none kV15 dc15 pm15 an15 cd15 ct15, f_l_cells := f16, d_l_cells := PySem.W.fnOf "_law_cells" "_law_cells" (defArgs s_l_cells) (defBody s_l_cells) (defScope s_l_cells) .none kV16 dc16 pm16 an16 cd16 ct16, f_l_met_error := f17, d_l_met_error := PySem.W.fnOf "_law_met_error" "_law_met_error" (defArgs s_l_met_error) (defBody s_l_met_error) (defScope s_l_met_error) .none kV17 dc17 pm17 an17 cd17 ct17, f_l_odd := f18, d_l_odd := PySem.W.fnOf "_law_odd" "_law_odd" (defArgs s_l_odd) (defBody s_l_odd) (defScope s_l_odd) .none kV18 dc18 pm18 an18 cd18 ct18, f_l_amount := f19, d_l_amount := PySem.W.fnOf "_law_amount" "_law_amount" (defArgs s_l_amount) (defBody s_l_amount) (defScope s_l_amount) .none kV19 dc19 pm19 an19 cd19 ct19, f_l_row := f20, d_l_row := PySem.W.fnOf "_law_row" "_law_row" (defArgs s_l_row) (defBody s_l_row) (defScope s_l_row) .none kV20 dc20 pm20 an20 cd20 ct20, f_l_far := f21, d_l_far := PySem.W.fnOf "_law_far" "_law_far" (defArgs s_l_far) (defBody s_l_far) (defScope s_l_far) .none kV21 dc21 pm21 an21 cd21 ct21, f_l_tie := f22, d_l_tie := PySem.W.fnOf "_law_tie" "_law_tie" (defArgs s_l_tie) (defBody s_l_tie) (defScope s_l_tie) .none kV22 dc22 pm22 an22 cd22 ct22, f_l_row_of := f23, d_l_row_of := PySem.W.fnOf "_law_row_of" "_law_row_of" (defArgs s_l_row_of) (defBody s_l_row_of) (defScope s_l_row_of) .none kV23 dc23 pm23 an23 cd23 ct23, f_l_text_of := f24, d_l_text_of := PySem.W.fnOf "_law_text_of" "_law_text_of" (defArgs s_l_text_of) (defBody s_l_text_of) (defScope s_l_text_of) .none kV24 dc24 pm24 an24 cd24 ct24, f_l_figure := f25, d_l_figure := PySem.W.fnOf "_law_figure" "_law_figure" (defArgs s_l_figure) (defBody s_l_figure) (defScope s_l_figure) .none kV25 dc25 pm25 an25 cd25 ct25, f_l_row_told := f26, d_l_row_told := PySem.W.fnOf "_law_row_told" "_law_row_told" (defArgs s_l_row_told) (defBody s_l_row_told) (defScope s_l_row_told) .none kV26 dc26 pm26 an26 cd26 ct26, f_l_bent_line := f27, d_l_bent_line := PySem.W.fnOf "_law_bent_line" "_law_bent_line" (defArgs s_l_bent_line) (defBody s_l_bent_line) (defScope s_l_bent_line) .none kV27 dc27 pm27 an27 cd27 ct27, f_l_is_short := f28, d_l_is_short := PySem.W.fnOf "_law_is_short" "_law_is_short" (defArgs s_l_is_short) (defBody s_l_is_short) (defScope s_l_is_short) .none kV28 dc28 pm28 an28 cd28 ct28, f_l_is_read := f29, d_l_is_read := PySem.W.fnOf "_law_is_read" "_law_is_read" (defArgs s_l_is_read) (defBody s_l_is_read) (defScope s_l_is_read) .none kV29 dc29 pm29 an29 (.ref cc29) ct29, c_l_is_read := cc29, t_l_is_read := PT29, f_l_right := f30, d_l_right := PySem.W.fnOf "_law_right" "_law_right" (defArgs s_l_right) (defBody s_l_right) (defScope s_l_right) .none kV30 dc30 pm30 an30 cd30 ct30, f_law := fa, d_law := PySem.W.fnOf "law" "law" (defArgs s_law) (defBody s_law) (defScope s_law) .none kV31 dc31 pm31 an31 cd31 ct31, t_GREATEST := t_GREATEST, t__DIGITS := t__DIGITS, t__CHUNK := t__CHUNK, cC := C, c := fun i => ([c0, c1, c2, c3, c4, c5] : List Addr).getD i 0 }, fun p hp => ?_, fun s v => .of_eq rfl, fun H a ns hl hT hS => ⟨a, ns, rfl, hS, hl, fun p hp => ?_, fun _ => rfl⟩, fun base _ _ hTB => ok_law T (hTB (cc29, PT29) (by simp))⟩
  · simp only [List.mem_cons, List.not_mem_nil, or_false] at hp
    rcases hp with rfl
    · exact ⟨hcd29, htb29⟩
  · simp only [tabs, List.mem_cons, List.not_mem_nil, or_false] at hp
    rcases hp with rfl
    · exact TabS.nil (hT (cc29, PT29) (by simp))
end TT

set_option Elab.async false
set_option linter.all false
open PySem PySem.W PyProof.Rows
set_option maxRecDepth 100000 in
set_option maxHeartbeats 0 in
theorem PySem.Challenge.cw_turnedtunes_k02_texts_of_ties_holds : PySem.Challenge.rw_turnedtunes_k02_texts_of_ties.Holds := by
  w_on; o_law; k_head; (case hw => w_witness2)
  k_fill
  refine TT.walk_gT (n := 63) (k := 14) (x := "_law_script") (l := PySem.Challenge.rw_turnedtunes_k02_texts_of_ties) rfl (by decide) rfl ⟨rfl, by decide, by decide⟩ (fun w h Y => by first | exact PySem.W.km_in_of Y | exact PySem.W.kIn_of Y) (fun w => by kernel_rfl) ?F
  case F =>
    intro w mg fa h KX G hmg tab
    refine' TT.all_mk KX G hmg tab ?zz_aC ?zz_m_read ?zz_m_ga ?zz_m_sta ?zz_ge0 ?zz_ge1 ?zz_ge2 ?zz_ge3 ?zz_ge4 ?zz_ge5 ?zz_hin ?zz_i0 ?zz_l0 ?zz_d0 ?zz_k0 ?zz_a1 ?zz_l1 ?zz_d1 ?zz_k1 ?zz_a2 ?zz_l2 ?zz_d2 ?zz_k2 ?zz_a3 ?zz_l3 ?zz_d3 ?zz_k3 ?zz_a4 ?zz_l4 ?zz_d4 ?zz_k4 ?zz_a5 ?zz_l5 ?zz_d5 ?zz_k5 ?zz_a6 ?zz_l6 ?zz_d6 ?zz_k6 ?zz_a7 ?zz_i7 ?zz_l7 ?zz_d7 ?zz_k7 ?zz_lT7 ?zz_w7_down ?zz_w7_backward ?zz_a8 ?zz_i8 ?zz_l8 ?zz_d8 ?zz_k8 ?zz_a9 ?zz_i9 ?zz_l9 ?zz_d9 ?zz_k9 ?zz_a10 ?zz_l10 ?zz_d10 ?zz_k10 ?zz_a11 ?zz_l11 ?zz_d11 ?zz_k11 ?zz_a12 ?zz_l12 ?zz_d12 ?zz_k12 ?zz_a13 ?zz_l13 ?zz_d13 ?zz_k13 ?zz_a14 ?zz_l14 ?zz_d14 ?zz_k14 ?zz_a15 ?zz_l15 ?zz_d15 ?zz_k15 ?zz_a16 ?zz_l16 ?zz_d16 ?zz_k16 ?zz_a17 ?zz_l17 ?zz_d17 ?zz_k17 ?zz_a18 ?zz_l18 ?zz_d18 ?zz_k18 ?zz_a19 ?zz_l19 ?zz_d19 ?zz_k19 ?zz_a20 ?zz_l20 ?zz_d20 ?zz_k20 ?zz_a21 ?zz_l21 ?zz_d21 ?zz_k21 ?zz_a22 ?zz_l22 ?zz_d22 ?zz_k22 ?zz_a23 ?zz_l23 ?zz_d23 ?zz_k23 ?zz_a24 ?zz_l24 ?zz_d24 ?zz_k24 ?zz_a25 ?zz_l25 ?zz_d25 ?zz_k25 ?zz_a26 ?zz_l26 ?zz_d26 ?zz_k26 ?zz_a27 ?zz_l27 ?zz_d27 ?zz_k27 ?zz_a28 ?zz_l28 ?zz_d28 ?zz_k28 ?zz_a29 ?zz_l29 ?zz_d29 ?zz_k29 ?zz_a30 ?zz_l30 ?zz_d30 ?zz_k30 ?zz_a31 ?zz_l31 ?zz_d31 ?zz_k31 ?zz_b_isinstance ?zz_b_int ?zz_b_bool ?zz_b_str ?zz_b_range ?zz_b_len ?zz_b_max ?zz_b_abs ?zz_b_list ?zz_b_min ?zz_b_all ?zz_b_repr ?zz_y_GREATEST ?zz_y__DIGITS ?zz_y__CHUNK ?zz_pg ?zz_hd ?zz_po ?zz_sa ?zz_mkc ?zz_kcc ?zz_n_first ?zz_n_second ?zz_n_length ?zz_n_amount ?zz_n_down ?zz_n_backward ?zz_n_text ?zz_m_z_cls ?zz_m_z_get ?zz_m_z_tk ?zz_m_z_mro ?zz_m_z_ty ?zz_m_z_subT ?zz_m_z_notT ?zz_b_ValueErrorX ?zz_zve ?zz_tin ?zz_zget ?zz_ztk ?zz_e0 ?zz_e1 ?zz_e2 ?zz_e3 ?zz_e4 ?zz_e5 ?zz_nd ?zz_hx29
    (case zz_aC => k_is)
    (case zz_m_read => k_is)
    (case zz_m_ga => k_is)
    (case zz_m_sta => k_is)
    (case zz_ge0 => k_is)
    (case zz_ge1 => k_is)
    (case zz_ge2 => k_is)
    (case zz_ge3 => k_is)
    (case zz_ge4 => k_is)
    (case zz_ge5 => k_is)
    (case zz_hin => k_is)
    (case zz_i0 => k_is)
    (case zz_l0 => k_is)
    (case zz_d0 => k_is)
    (case zz_k0 => k_is)
    (case zz_a1 => k_is)
    (case zz_l1 => k_is)
    (case zz_d1 => k_is)
    (case zz_k1 => k_is)
    (case zz_a2 => k_is)
    (case zz_l2 => k_is)
    (case zz_d2 => k_is)
    (case zz_k2 => k_is)
    (case zz_a3 => k_is)
    (case zz_l3 => k_is)
    (case zz_d3 => k_is)
    (case zz_k3 => k_is)
    (case zz_a4 => k_is)
    (case zz_l4 => k_is)
    (case zz_d4 => k_is)
    (case zz_k4 => k_is)
    (case zz_a5 => k_is)
    (case zz_l5 => k_is)
    (case zz_d5 => k_is)
    (case zz_k5 => k_is)
    (case zz_a6 => k_is)
    (case zz_l6 => k_is)
    (case zz_d6 => k_is)
    (case zz_k6 => k_is)
    (case zz_a7 => k_is)
    (case zz_i7 => k_is)
    (case zz_l7 => k_is)
    (case zz_d7 => k_is)
    (case zz_k7 => k_is)
    (case zz_lT7 => k_is)
    (case zz_w7_down => k_is)
    (case zz_w7_backward => k_is)
    (case zz_a8 => k_is)
    (case zz_i8 => k_is)
    (case zz_l8 => k_is)
    (case zz_d8 => k_is)
    (case zz_k8 => k_is)
    (case zz_a9 => k_is)
    (case zz_i9 => k_is)
    (case zz_l9 => k_is)
    (case zz_d9 => k_is)
    (case zz_k9 => k_is)
    (case zz_a10 => k_is)
    (case zz_l10 => k_is)
    (case zz_d10 => k_is)
    (case zz_k10 => k_is)
    (case zz_a11 => k_is)
    (case zz_l11 => k_is)
    (case zz_d11 => k_is)
    (case zz_k11 => k_is)
    (case zz_a12 => k_is)
    (case zz_l12 => k_is)
    (case zz_d12 => k_is)
    (case zz_k12 => k_is)
    (case zz_a13 => k_is)
    (case zz_l13 => k_is)
    (case zz_d13 => k_is)
    (case zz_k13 => k_is)
    (case zz_a14 => k_is)
    (case zz_l14 => k_is)
    (case zz_d14 => k_is)
    (case zz_k14 => k_is)
    (case zz_a15 => k_is)
    (case zz_l15 => k_is)
    (case zz_d15 => k_is)
    (case zz_k15 => k_is)
    (case zz_a16 => k_is)
    (case zz_l16 => k_is)
    (case zz_d16 => k_is)
    (case zz_k16 => k_is)
    (case zz_a17 => k_is)
    (case zz_l17 => k_is)
    (case zz_d17 => k_is)
    (case zz_k17 => k_is)
    (case zz_a18 => k_is)
    (case zz_l18 => k_is)
    (case zz_d18 => k_is)
    (case zz_k18 => k_is)
    (case zz_a19 => k_is)
    (case zz_l19 => k_is)
    (case zz_d19 => k_is)
    (case zz_k19 => k_is)
    (case zz_a20 => k_is)
    (case zz_l20 => k_is)
    (case zz_d20 => k_is)
    (case zz_k20 => k_is)
    (case zz_a21 => k_is)
    (case zz_l21 => k_is)
    (case zz_d21 => k_is)
    (case zz_k21 => k_is)
    (case zz_a22 => k_is)
    (case zz_l22 => k_is)
    (case zz_d22 => k_is)
    (case zz_k22 => k_is)
    (case zz_a23 => k_is)
    (case zz_l23 => k_is)
    (case zz_d23 => k_is)
    (case zz_k23 => k_is)
    (case zz_a24 => k_is)
    (case zz_l24 => k_is)
    (case zz_d24 => k_is)
    (case zz_k24 => k_is)
    (case zz_a25 => k_is)
    (case zz_l25 => k_is)
    (case zz_d25 => k_is)
    (case zz_k25 => k_is)
    (case zz_a26 => k_is)
    (case zz_l26 => k_is)
    (case zz_d26 => k_is)
    (case zz_k26 => k_is)
    (case zz_a27 => k_is)
    (case zz_l27 => k_is)
    (case zz_d27 => k_is)
    (case zz_k27 => k_is)
    (case zz_a28 => k_is)
    (case zz_l28 => k_is)
    (case zz_d28 => k_is)
    (case zz_k28 => k_is)
    (case zz_a29 => k_is)
    (case zz_l29 => k_is)
    (case zz_d29 => k_is)
    (case zz_k29 => k_is)
    (case zz_a30 => k_is)
    (case zz_l30 => k_is)
    (case zz_d30 => k_is)
    (case zz_k30 => k_is)
    (case zz_a31 => k_is)
    (case zz_l31 => k_is)
    (case zz_d31 => k_is)
    (case zz_k31 => k_is)
    (case zz_b_isinstance => k_is)
    (case zz_b_int => k_is)
    (case zz_b_bool => k_is)
    (case zz_b_str => k_is)
    (case zz_b_range => k_is)
    (case zz_b_len => k_is)
    (case zz_b_max => k_is)
    (case zz_b_abs => k_is)
    (case zz_b_list => k_is)
    (case zz_b_min => k_is)
    (case zz_b_all => k_is)
    (case zz_b_repr => k_is)
    (case zz_y_GREATEST => k_is)
    (case zz_y__DIGITS => k_is)
    (case zz_y__CHUNK => k_is)
    (case zz_pg => k_is)
    (case zz_hd => k_is)
    (case zz_po => k_is)
    (case zz_sa => k_is)
    (case zz_mkc => k_is)
    (case zz_kcc => k_is)
    (case zz_n_first => k_is)
    (case zz_n_second => k_is)
    (case zz_n_length => k_is)
    (case zz_n_amount => k_is)
    (case zz_n_down => k_is)
    (case zz_n_backward => k_is)
    (case zz_n_text => k_is)
    (case zz_m_z_cls => k_is)
    (case zz_m_z_get => k_is)
    (case zz_m_z_tk => k_is)
    (case zz_m_z_mro => k_is)
    (case zz_m_z_ty => k_is)
    (case zz_m_z_subT => k_is)
    (case zz_m_z_notT => k_is)
    (case zz_b_ValueErrorX => k_is)
    (case zz_zve => k_is)
    (case zz_tin => k_is)
    (case zz_zget => k_is)
    (case zz_ztk => k_is)
    (case zz_e0 => (refine' TT.excF_mk ?zx0_xL rfl ?zx0_sa ?zx0_tyC ?zx0_kC ?zx0_ga ?zx0_gg ?zx0_ha ?zx0_ini ?zx0_nv; (case zx0_xL => k_is); (case zx0_sa => k_is); (case zx0_tyC => k_is); (case zx0_kC => k_is); (case zx0_ga => k_is); (case zx0_gg => k_is); (case zx0_ha => k_is); (case zx0_ini => k_is); (case zx0_nv => k_is)))
    (case zz_e1 => (refine' TT.excF_mk ?zx1_xL rfl ?zx1_sa ?zx1_tyC ?zx1_kC ?zx1_ga ?zx1_gg ?zx1_ha ?zx1_ini ?zx1_nv; (case zx1_xL => k_is); (case zx1_sa => k_is); (case zx1_tyC => k_is); (case zx1_kC => k_is); (case zx1_ga => k_is); (case zx1_gg => k_is); (case zx1_ha => k_is); (case zx1_ini => k_is); (case zx1_nv => k_is)))
    (case zz_e2 => (refine' TT.excF_mk ?zx2_xL rfl ?zx2_sa ?zx2_tyC ?zx2_kC ?zx2_ga ?zx2_gg ?zx2_ha ?zx2_ini ?zx2_nv; (case zx2_xL => k_is); (case zx2_sa => k_is); (case zx2_tyC => k_is); (case zx2_kC => k_is); (case zx2_ga => k_is); (case zx2_gg => k_is); (case zx2_ha => k_is); (case zx2_ini => k_is); (case zx2_nv => k_is)))
    (case zz_e3 => (refine' TT.excF_mk ?zx3_xL rfl ?zx3_sa ?zx3_tyC ?zx3_kC ?zx3_ga ?zx3_gg ?zx3_ha ?zx3_ini ?zx3_nv; (case zx3_xL => k_is); (case zx3_sa => k_is); (case zx3_tyC => k_is); (case zx3_kC => k_is); (case zx3_ga => k_is); (case zx3_gg => k_is); (case zx3_ha => k_is); (case zx3_ini => k_is); (case zx3_nv => k_is)))
    (case zz_e4 => (refine' TT.excF_mk ?zx4_xL rfl ?zx4_sa ?zx4_tyC ?zx4_kC ?zx4_ga ?zx4_gg ?zx4_ha ?zx4_ini ?zx4_nv; (case zx4_xL => k_is); (case zx4_sa => k_is); (case zx4_tyC => k_is); (case zx4_kC => k_is); (case zx4_ga => k_is); (case zx4_gg => k_is); (case zx4_ha => k_is); (case zx4_ini => k_is); (case zx4_nv => k_is)))
    (case zz_e5 => (refine' TT.excF_mk ?zx5_xL rfl ?zx5_sa ?zx5_tyC ?zx5_kC ?zx5_ga ?zx5_gg ?zx5_ha ?zx5_ini ?zx5_nv; (case zx5_xL => k_is); (case zx5_sa => k_is); (case zx5_tyC => k_is); (case zx5_kC => k_is); (case zx5_ga => k_is); (case zx5_gg => k_is); (case zx5_ha => k_is); (case zx5_ini => k_is); (case zx5_nv => k_is)))
    (case zz_nd => decide +kernel)
    (case zz_hx29 => kernel_rfl)
#print axioms PySem.Challenge.cw_turnedtunes_k02_texts_of_ties_holds
