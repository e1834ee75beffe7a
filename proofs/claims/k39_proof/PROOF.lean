import PyProof.Rows.All
import Wide.All
import OpenK.AllK
import Wide.FinOn
import HandS.Base
import HandS.Call
import HandS.List
import HandS.Comp
import HandS.Iter
import HandS.Text
import HandS.Ends
import HandS.Words
import HandS.WordsExc
import HandS.Wide
import HandS.FStr
import HandS.IsInst
import HandS.Defaults
import HandS.MakeKwOnly
import HandS.OwnEq
import HandS.TupAny
import HandS.Style
import HandS.Conv
import HandS.Star
import HandS.Dict
import HandS.More
import HandS.Exc
import HandS.ExcInit
import HandS.ExcIs
import HandS.ExcField
import HandS.DeepEq
import HandS.Deep
import HandS.Lambda
import HandS.EndTab
import PyProof.EqAt
import PyProof.EqKinds
import PyProof.TupleCall
import PyProof.ReprRoads
import PyProof.LongRange
import PyProof.ListRange
import PyProof.NeKinds
import KE.DataMinMax
import HandS.StrMore
import HandS.Codes
import KE.IntTextLaws
import HandS.ClsMeth
import PyProof.P3In
import KE.KDictPairs
import PyProof.EnumMake
import PyProof.TupleIter
import KE.GoesMore
import HandS.Walk
import KE.KRevSl
import HandS.TryOnly
import KE.KStateDown
import HandS.Head0
import HandS.Head1
import HandS.Head2
import HandS.HeadEnd
import HandS.HeadHook1
import HandS.HeadHook2
import HandS.Head3
import PySem.Challenge.RW_turnedtunes_k39_pieces_refused
set_option Elab.async false
set_option linter.all false
set_option maxRecDepth 100000
set_option maxHeartbeats 4000000
/-! Rules of our own over the hand layer: powers of great ints, repr of data, own unary operators, promises that know that no repr is under way. -/
namespace TT
open PySem PySem.Spec PyProof.Rows L2
section
variable {X : Cx}
/-- a ** b of any size that fits -/
theorem op_powW : OpR X (binaryOp .Pow) (rI (fun i j => 0 ≤ j ∧ (Builtin.Int.intBits i : Int) * j ≤ 2 ^ 27) fun i j => .int (i ^ j.toNat)) :=
  opI fun _ _ _ _ _ _ _ hc q => pow_int hc.1 hc.2 q

/-- repr(x), x data without dicts -/
def rRepr (K : PySem.W.Frag) : List V → Hp → VK → Prop := fun xs H Q => ∃ (x : V) (d : PyData), xs = [x] ∧ Dp K H x d ∧ d.showable = true ∧ d.hasDict = false ∧ d.depth ≤ 60 ∧ d.shown.length ≤ sizeLine ∧ Q (.str d.shown) H
theorem call_repr (hg : X.A.guards = some []) (hu : X.A.units + 64 < cLine) : CallR X (.builtin "repr") (rRepr X.K) := by
  intro pins s σ H xs us Q I r h
  obtain ⟨x, d, rfl, hd, hs, hn, hdep, hz, q⟩ := h
  obtain ⟨u, rfl, rx⟩ : ∃ u, us = [u] ∧ RelV x u := by
    cases r with
    | cons a b => cases b; exact ⟨_, rfl, a⟩
  obtain ⟨as, rd⟩ := Dp.reads I d x u hd rx
  have fin : ∀ h' tk u', (∀ b o, s.heap.get? b = some o → h'.get? b = some o) → EP X pins σ Q (.str d.shown u') { s with heap := h', toks := tk } :=
    fun h' tk u' hk => ⟨.str d.shown, H, I.kept hk, ⟨_, rfl⟩, q⟩
  cases hd with
  | non => obtain rfl := rx; exact PySem.P.repr_of_none (fin s.heap _ _ fun _ _ e => e)
  | bl b => obtain rfl := rx; exact PySem.P.repr_of_bool (fin s.heap _ _ fun _ _ e => e)
  | int i => obtain ⟨t, rfl⟩ := rx; exact PySem.P.repr_of_int (by simpa [PyData.showable] using hs) (fin s.heap _ _ fun _ _ e => e)
  | str y => obtain ⟨t, rfl⟩ := rx; exact PySem.P.repr_of_str (fin s.heap _ _ fun _ _ e => e) hz
  | lst h1 h2 =>
    obtain rfl := rx
    exact repr_of_reads' rd hs (PyData.noDict_hsm hn) hg (by omega) (fun _ _ e => e) (fun h' u tk hk => fin h' tk u hk) hz
  | tup h1 h2 =>
    obtain rfl := rx
    exact repr_of_reads' rd hs (PyData.noDict_hsm hn) hg (by omega) (fun _ _ e => e) (fun h' u tk hk => fin h' tk u hk) hz
end

/-! ### promises that know that no repr is under way -/
/-- the def at f keeps sp wherever it is called while no repr runs -/
structure GOk (P : Program) (w : World) (K : PySem.W.Frag) (mg : Str → Option Value) (base : Heap) (CX : CXT) (k : Nat) (f : Addr) (fd : FuncData) (ps : List Str) (sp : Sp) : Prop where
  size : ∀ vs H Q E, sp vs H Q E → vs.length = ps.length
  go : ∀ (A : Around) (outer : List Env) (s : Shared) (H : Hp) (args : Args) (us : List Value) (vs : List V) (Q : VK) (E : XK), A.guards = some [] → Room k A →
    Env0 P w K mg base A outer s H → BindsTo s fd args (ps.zip us) → Vals vs us → sp vs H Q E → codeAny (model P w) A (.call (.ref f) args) (CR CX outer P w H s Q E) s

section
variable {P : Program} {w : World} {K : PySem.W.Frag} {mg : Str → Option Value} {base : Heap} {CX : CXT} {k : Nat} {f : Addr} {ps : List Str} {sp : Sp}
theorem GOk.mono {j : Nat} {fd : FuncData} (F : GOk P w K mg base CX j f fd ps sp) (h : j ≤ k) : GOk P w K mg base CX k f fd ps sp :=
  { size := F.size, go := fun A outer s H args us vs Q E g r => F.go A outer s H args us vs Q E g (r.mono h) }
theorem GOk.weak {sp' : Sp} {fd : FuncData} (F : GOk P w K mg base CX k f fd ps sp) (h : ∀ vs H Q E, sp' vs H Q E → sp vs H Q E) : GOk P w K mg base CX k f fd ps sp' :=
  { size := fun vs H Q E q => F.size vs H Q E (h vs H Q E q), go := fun A outer s H args us vs Q E g r e b v q => F.go A outer s H args us vs Q E g r e b v (h vs H Q E q) }
/-- any promise of the layer is one -/
theorem GOk.of {fd : FuncData} (F : FnOk P w K mg base CX k f fd ps sp) : GOk P w K mg base CX k f fd ps sp :=
  { size := F.len, go := fun A outer s H args us vs Q E _ => F.run A outer s H args us vs Q E }
/-- such a def by its body -/
theorem g_of {name qual : Str} {params : Arguments} {body : List Stmt} {scope : Scope} {dV kV doc pm cdv ct oc : Value} {an od : Option Addr} {osl : Array (Option Value)} {N : List Str}
    (lk : K.lookup f = some ⟨oc, od, .func (PySem.W.fnOf name qual params body scope dV kV doc pm an cdv ct), osl⟩) (hcd : PySem.W.codeIn K cdv qual = true) (S : FnScope N ps scope)
    (size : ∀ vs H Q E, sp vs H Q E → vs.length = ps.length)
    (hb : ∀ (A : Around) (outer : List Env) (s : Shared) (H : Hp) (vs : List V) (Q : VK) (E : XK), A.guards = some [] → Room k (A.deeper (envOfC qual scope s.heap.objs.size f cdv)) → sp vs H Q E →
      ∃ t, PSs (cxOf CX P w K mg base N qual scope f cdv A outer s H E) body t ∧ t { nx := fun _ H1 => Q .non H1, rt := Q } (start N vs) H) :
    GOk P w K mg base CX (k + 1) f (PySem.W.fnOf name qual params body scope dV kV doc pm an cdv ct) ps sp := by
  refine { size := size, go := fun A outer s H args us vs Q E g hr e0 bnd rv hsp => ?_ }
  have old : ∀ b o, base.get? b = some o → s.heap.get? b = some o := fun b o e => (e0.bs b o e).1
  have kinds : ∀ y ∈ ps.zip us, scope.names.lookup y.1 = some .local ∨ (scope.names.lookup y.1 = some .cell ∧ ((cellsFrom (s.heap.objs.size + 1) scope.names []).lookup y.1).isSome = true) := by
    intro y hy
    obtain ⟨n, v⟩ := y
    refine (S.par n (List.of_mem_zip hy).1).imp id fun q => ⟨q, ?_⟩
    exact PySem.W.cellsFrom_some _ _ _ (.inl q)
  refine codeAny_call_function hr.depth (e0.mod.kin.keeps old _ _ lk) rfl S.co S.gen rfl (PySem.W.codeRec_of (e0.mod.kin.keeps old) hcd) (bnd _ _ _ _ (wpAny_newFunctionEnv_cells S.kind kinds fun env he s1 x => ?_))
  subst he
  refine ⟨(e0.mod.nolimit.keeps old).keeps x.toInCall.keep, codeAny_func ?_⟩
  obtain ⟨t, ht, hq⟩ := hb A outer s H vs Q E g (hr.deeper _) hsp
  have J : Inv (cxOf CX P w K mg base N qual scope f cdv A outer s H E) [] (start N vs) H s1 := inv_start S hr.hd e0 (size _ _ _ _ hsp) rv x
  refine wpAny_mono (ht.run [] s1 (start N vs) H _ J hq) (fun fl s2 hs => ?_) fun _ _ z => z
  cases fl with
  | ret u => obtain ⟨v, σ1, H1, I1, r1, q1⟩ := hs; exact ⟨v, H1, I1.os, I1.bare, I1.base, I1.hok, r1, q1⟩
  | next => obtain ⟨σ1, H1, I1, q1⟩ := hs; exact ⟨V.non, H1, I1.os, I1.bare, I1.base, I1.hok, rfl, q1⟩
  | brk => obtain ⟨_, _, _, z⟩ := hs; exact z.elim
  | cont => obtain ⟨_, _, _, z⟩ := hs; exact z.elim
end

/-- a def of the text that nothing leaves but by return -/
theorem okG {P : Program} {w : World} {K : PySem.W.Frag} {mg : Str → Option Value} {base : Heap} {x qual : Str} {st : Stmt} {f : Addr} {fd : FuncData} {N ps : List Str} {k : Nat} {sp : Sp} (F : Fun K x qual st f fd) (S : FnScope N ps (defScope st))
    (size : ∀ vs H Q E, sp vs H Q E → vs.length = ps.length)
    (hb : ∀ (cdv : Value) (A : Around) (outer : List Env) (s : Shared) (H : Hp) (vs : List V) (Q : VK) (E : XK), A.guards = some [] → Room k (A.deeper (envOfC qual (defScope st) s.heap.objs.size f cdv)) → sp vs H Q E →
      ∃ t, PSs (cxOf CX0 P w K mg base N qual (defScope st) f cdv A outer s H E).nox (defBody st) t ∧ t { nx := fun _ H1 => Q .non H1, rt := Q } (start N vs) H) : GOk P w K mg base CX0 (k + 1) f fd ps sp := by
  obtain ⟨oc, od, kV, doc, pm, an, cdv, ct, osl, rfl, lk, hcd⟩ := F.ex
  refine g_of lk hcd S size fun A outer s H vs Q E g hr hsp => ?_
  obtain ⟨t, h, q⟩ := hb cdv A outer s H vs Q E g hr hsp
  exact ⟨t, h.nox, q⟩
section
variable {X : Cx} {CX : CXT} {k : Nat} {f : Addr} {fd : FuncData} {ps : List Str} {sp : Sp} {dvs : List V} {ds : List Value} {E : XK} {x : Str} {p pos : Pos} {e : Expr} {es : List Expr} {t : TA}
theorem run_g {pins : List (Addr × Obj)} {σ : L2.St} {H : Hp} {s : Shared} {Q : VK} {us : List Value} {vs : List V} (F : GOk X.prog X.w X.K X.mg X.base CX k f fd ps sp) (g : X.A.guards = some []) (hr : Room k X.A)
    (hb : Binds X.K fd ps ds) (hd : Vals dvs ds) (hx : Passes CX X E) (I : Inv X pins σ H s) (r : Vals vs us) (h : sp (vs ++ dvs) H Q E) : wpAny (model X.prog X.w) X.A (call (.ref f) us) (EP X pins σ Q) X.xe s := by
  have r2 := r.append hd
  have n : (us ++ ds).length = ps.length := r2.length ▸ F.size _ _ _ _ h
  refine wpAny_call (codeAny_mono (F.go X.A X.stack s H ⟨us, []⟩ _ _ Q E g hr I.env0 (hb s us I.kIn n) r2 h) fun res s1 z => ?_)
  match res, z with
  | .error e, z => exact hx pins σ H s e s1 I z
  | .ok (.ret u), z => exact I.after z
  | .ok .next, z => exact z.elim
  | .ok .brk, z => exact z.elim
  | .ok .cont, z => exact z.elim
/-- f(e, ..) of such a def -/
theorem pe_callG (F : GOk X.prog X.w X.K X.mg X.base CX k f fd ps sp) (g : X.A.guards = some []) (hr : Room k X.A) (hg : Gl X x) (hm : X.mg x = some (.ref f)) (hk : PySem.W.keepIn X.K (.ref f) = true)
    (hb : Binds X.K fd ps ds) (hd : Vals dvs ds) (hx : Passes CX X E) (ha : PA X (e :: es) t) (hdb : (x == ("__debug__" : Str)) = false := by decide)
    (he : starEach (e :: es) X.env = (false, eval e X.env) :: starEach es X.env := by rfl) (hpl : (backTo pos (starEach es X.env)).any (·.1) = false := by rfl) : PE X (.Call (.Name x p) (e :: es) [] pos) (tCall sp dvs E t) := by
  constructor
  intro pins s σ H Q I h
  exact wpAny_Call_Name_kw (ld_glob I hg hm (PySem.W.callWith_K (h₀ := X.base) I.ok.mod.kin hk (thn (ha.run pos pins s σ H _ I h) fun us s1 ⟨vs, H1, I1, r, q⟩ => ⟨I1.kIn, run_g F g hr hb hd hx I1 r q⟩) he hpl) hdb)

/-- ~x of an instance of an own class -/
theorem un_own {C : Addr} (F : FnOk X.prog X.w X.K X.mg X.base CX k f fd ps sp) (hr : Room k X.A) (hb : Binds X.K fd ps []) (hx : Passes CX X E)
    (hs : PySem.W.findIn X.K (.ref C) "__invert__" = some (some (.ref f))) (hf : PySem.W.isFn X.K (.ref f) = true) :
    UnR X (unaryOp .Invert) (fun x H Q => ∃ a dx fs, x = .ref a ∧ H a = some (.ins C dx fs) ∧ sp [.ref a] H Q E) := by
  intro pins s σ H x v Q I rx h
  obtain ⟨a, dx, fs, rfl, ha, hq⟩ := h
  obtain rfl : v = Value.ref a := rx
  obtain ⟨mA, O, _⟩ := ins_get I.hok ha
  obtain ⟨od, J, _⟩ := O.look
  obtain ⟨m, hF⟩ := I.fr
  exact PySem.W.ksp_inv hF I.ok.mod.kin J hs hf (run_fn (us := [.ref a]) (vs := [.ref a]) (dvs := []) (ds := []) F hr hb .nil hx I (.cons rfl .nil) hq)
end

/-! ### the end of a law's row for such a promise -/
/-- the script alone is tracked: as a known list, or not at all where it is an object of the module -/
def seen (a : Addr) (ob : Obj) (ns : List Int) (own : Bool) : Hp := fun b => if own = false ∧ b = a then some (.frz ob (.lst (ns.map V.int))) else none
theorem seen_own {a : Addr} {ob : Obj} {ns : List Int} (b : Addr) : seen a ob ns true b = none := if_neg fun z => nomatch z.1
theorem seen_at {a : Addr} {ob : Obj} {ns : List Int} : seen a ob ns false a = some (.frz ob (.lst (ns.map V.int))) := if_pos ⟨rfl, rfl⟩
theorem seen_ne {a b : Addr} {ob : Obj} {ns : List Int} {o : Bool} (h : b ≠ a) : seen a ob ns o b = none := if_neg fun z => h z.2
theorem run_law {P : Program} {w : World} {K : PySem.W.Frag} {mg mb : Str → Option Value} {CX : CXT} {k : Nat} {fa a : Addr} {fd : FuncData} {x : Str} {sp : Sp} {s : Shared} {vs : List Value} {ns : List Int}
    (KX : K.In s.heap) (hns : s.heap.Ns mainGlobals mg) (hb : s.heap.Ns builtinsNs mb) (hbb : ∀ x : Str, x ≠ "__name__" → mb x = bootBuiltins x) (lim : s.heap.NoLimit) (hg : s.gens = #[])
    (ha : s.heap.get? a = some { cls := .type "list", data := .seq vs.toArray }) (hi : IntsAre vs ns) (hl : ns.length ≤ sizeLine) (hr : Room k callerA)
    (F : ∀ base : Heap, K.In base → base.Ns mainGlobals mg → GOk P w K mg base CX k fa fd [x] sp) (bnd : ∀ (s : Shared) (u : Value), BindsTo s fd ⟨[u], []⟩ [(x, u)])
    (hsp : ∀ H : Hp, SqL K H a (ns.map V.int) → sp [.ref a] H (fun v _ => v = .bl true) fun _ _ _ => False) (noX : ∀ H e s1, CX [] H s (fun _ _ _ => False) e s1 → False) :
    codeAny (model P w) callerA (.call (.ref fa) ⟨[.ref a], []⟩) (fun r s1 => r = .ok (.ret (.bool true)) ∧ OldK s.heap s1.heap ∧ s1.os = s.os ∧ AllBare s1.gens) s := by
  have rv := vals_ints hi
  obtain ⟨own, hS, hT, hK⟩ : ∃ own, SqL K (seen a { cls := .type "list", data := .seq vs.toArray } ns own) a (ns.map V.int) ∧ HOk P w (seen a { cls := .type "list", data := .seq vs.toArray } ns own) s.heap ∧
      (∀ b o, K.lookup b = some o → seen a { cls := .type "list", data := .seq vs.toArray } ns own b = none) := by
    cases hk : K.lookup a with
    | some o =>
      have e := (KX a o hk).symm.trans ha
      cases e
      refine ⟨true, .inr ⟨_, vs.toArray, _, hk, rfl, rfl, rfl, ?_, by simpa using rv⟩, fun b u z => ?_, fun b _ _ => seen_own b⟩
      · rw [List.size_toArray, hi.length]; exact hl
      · rw [seen_own] at z; cases z
    | none =>
      refine ⟨false, .inl (.inr ⟨_, seen_at⟩), fun b u z => ?_, fun b o hb => seen_ne fun e => ?_⟩
      · by_cases h : b = a
        · subst h
          rw [seen_at] at z; cases z
          exact ⟨ha, by rw [List.length_map]; exact hl, vs, _, rv, ha⟩
        · rw [seen_ne h] at z; cases z
      · subst e; rw [hk] at hb; cases hb
  generalize hH : seen a { cls := .type "list", data := .seq vs.toArray } ns own = H at hS hT hK
  have only : ∀ b u, H b = some u → b = a ∧ u = .frz { cls := .type "list", data := .seq vs.toArray } (.lst (ns.map V.int)) := fun b u z => by
    subst hH
    by_cases h : b = a
    · subst h
      cases own with
      | true => rw [seen_own] at z; cases z
      | false => rw [seen_at] at z; exact ⟨rfl, (Option.some.inj z).symm⟩
    · rw [seen_ne h] at z; cases z
  have free : ∀ {b : Addr} {o : Obj} {es : Array DictEntry} {ep : Nat}, s.heap.get? b = some o → o.data = .dict es ep → H b = none := fun {b o es ep} e d => by
    cases q : H b with
    | none => rfl
    | some u =>
      obtain ⟨rfl, _⟩ := only b u q
      have e' := e.symm.trans ha
      cases e'
      have d' : Data.seq vs.toArray _ = Data.dict es ep := d
      cases d'
  have ns' : ∀ {b : Addr} {m : Str → Option Value}, s.heap.Ns b m → (hidT s.heap H).Ns b m := fun {b m} n => by
    obtain ⟨o, es, ep, e, d, r⟩ := n
    exact ⟨o, es, ep, hidT_get e (free e d), d, r⟩
  have inK : K.In (hidT s.heap H) := fun b o e => hidT_get (KX b o e) (hK b o e)
  obtain ⟨mc, l1, l2⟩ := lim
  have e0 : Env0 P w K mg (hidT s.heap H) callerA [] s H :=
    { frames := rfl, mod := ⟨inK, ns' hns, ⟨mb, ns' hb, hbb⟩, ⟨mc, ns' l1, l2⟩⟩, bs := fun b o e => of_hidT e, bsz := Nat.le_of_eq (hidT_size _ _), funs := trivial, frf := fun b z => absurd (show b ∈ ([] : List Addr) from z) List.not_mem_nil, hok := hT, bare := .of_eq hg }
  refine codeAny_mono ((F _ inK (ns' hns)).go callerA [] s H ⟨[.ref a], []⟩ [.ref a] [.ref a] _ _ rfl hr e0 (bnd s (.ref a)) (.cons rfl .nil) (hsp H hS)) fun r s1 z => ?_
  match r, z with
  | .error e, z => exact (noX H e s1 z).elim
  | .ok .next, z => exact z.elim
  | .ok .brk, z => exact z.elim
  | .ok .cont, z => exact z.elim
  | .ok (.ret u), z =>
    obtain ⟨v, H1, os, bare, un, hok, r1, q⟩ := z
    subst q
    obtain rfl : u = Value.bool true := r1
    refine ⟨rfl, OldK.of_keep fun b o e => ?_, os, bare⟩
    cases q : H b with
    | none => exact un.keep b o e q (fun z => absurd (show b ∈ ([] : List Addr) from z) List.not_mem_nil) List.not_mem_nil
    | some u =>
      obtain ⟨rfl, rfl⟩ := only b u q
      obtain ⟨e1, _⟩ := hT _ _ q
      obtain ⟨e2, _⟩ := hok _ _ (un.frzs _ _ _ q)
      rw [e] at e1; cases e1
      exact e2
theorem walk_g {l : PySem.W.OpenLaw} {n k : Nat} {q : Program} {loose : List Str} {XP : (Str → Option Value) → Heap → Prop} {YP : World → Heap → Prop} {d : DefRec} {K : Params → PySem.W.Frag} {CX : CXT} {sp : PySem.W.Frag → Sp} {x : Str}
    (hn : l.most = some n) (hn2 : n ≤ sizeLine) (hdf : d.params.defaults = []) (hr : Room k callerA) (hY : ∀ (w : World) (h : Heap), YP w h → (K w.params).In h)
    (F : ∀ (w : World) (mg : Str → Option Value) (fa : Addr) (h : Heap), (K w.params).In h → h.Ns mainGlobals mg → mg d.name = some (.ref fa) → ∃ fd : FuncData, (∀ (s : Shared) (u : Value), BindsTo s fd ⟨[u], []⟩ [(x, u)]) ∧
        ∀ base : Heap, (K w.params).In base → base.Ns mainGlobals mg → GOk l.prog w (K w.params) mg base CX k fa fd [x] (sp (K w.params)))
    (hsp : ∀ (K : PySem.W.Frag) (H : Hp) (a : Addr) (ns : List Int), ns.length ≤ n → SqL K H a (ns.map V.int) → sp K [.ref a] H (fun v _ => v = .bl true) fun _ _ _ => False)
    (noX : ∀ (H : Hp) (s : Shared) (e : Value) (s1 : Shared), CX [] H s (fun _ _ _ => False) e s1 → False) : PySem.W.WalkO q loose XP YP l.row.toRowW d [] (fun f vs => PySem.call f vs) :=
  Att.attach_call hn hdf fun w s₀ s₁ mg mb fa o pm cd doc a vs ns G Y ho hd hcd hmg hobj hints hlen hg => by
    obtain ⟨fd, hb, hF⟩ := F w mg fa _ (hY w _ Y) G.T.g hmg
    exact run_law (hY w _ Y) G.T.g G.T.b G.T.builtins G.T.nolimit hg hobj hints (Nat.le_trans hlen hn2) hr hF hb (fun H hS => hsp _ H a ns hlen hS) fun H e s1 => noX H s₁ e s1
end TT

set_option Elab.async false
set_option linter.all false
set_option maxRecDepth 100000
set_option maxHeartbeats 4000000
/-! Errors of own classes as values: made, kept, asked (isinstance, their fields). -/
namespace TT
open PySem PySem.Spec PyProof.Rows L2
/-- at a stands an error of the class at C whose own dict holds fs -/
def Err (H : Hp) (a C : Addr) (fs : List (Str × V)) : Prop := ∃ d, H a = some (exo a C (some d)) ∧ H d = some (exd d fs)
section
variable {X : Cx}
/-- C(e, ..): the error stays with us -/
def tMkX (C : Addr) (sp : Sp) (dvs : List V) (ta : TA) : TE := fun σ H Q => ta σ H fun vs H1 => vs.length ≤ 1000 ∧ ∀ a, H1 a = none → sp (.ref a :: (vs ++ dvs)) (upd H1 a (exo a C none)) (fun v H2 => v = .non ∧ Q (.ref a) H2) fun _ _ _ => False
theorem pe_mkX {CX : CXT} {x : Str} {C fI : Addr} {k : Nat} {fd : FuncData} {ps : List Str} {sp : Sp} {ds : List Value} {dvs : List V} {e : Expr} {es : List Expr} {ta : TA} {p pos : Pos}
    (T : OexC X.K C) (iC : PySem.W.findIn X.K (.ref C) "__init__" = some (some (.ref fI))) (tI : PySem.W.typeIn X.K (.ref fI) = some (.type "function")) (F1 : FnOk X.prog X.w X.K X.mg X.base CX k fI fd ps sp) (hr : Room (k + 1) X.A)
    (hb : Binds X.K fd ps ds) (hd : Vals dvs ds) (hx : Passes CX X fun _ _ _ => False) (hg : Gl X x) (hm : X.mg x = some (.ref C)) (ha : PA X (e :: es) ta) (hdb : (x == ("__debug__" : Str)) = false := by decide)
    (he : starEach (e :: es) X.env = (false, eval e X.env) :: starEach es X.env := by rfl) (hpl : (backTo pos (starEach es X.env)).any (·.1) = false := by rfl) : PE X (.Call (.Name x p) (e :: es) [] pos) (tMkX C sp dvs ta) := by
  constructor
  intro pins s σ H Q I h
  obtain ⟨_, _, _, _, bm, _, _, _, _, _, _, _, _, _, _, hC, hbm⟩ := T.cls
  refine wpAny_Call_Name_kw (ld_glob I hg hm (PySem.W.callWith_K (h₀ := X.base) I.ok.mod.kin T.kC (thn (ha.run pos pins s σ H _ I h) fun us s1 w => ?_) he hpl) hdb)
  obtain ⟨vs, H1, I1, r1, hz, q1⟩ := w
  refine ⟨I1.kIn, ?_⟩
  obtain ⟨hp, g, dr, tk, os⟩ := s1
  have nn : hp.objs.size ≤ hp.objs.size + 1 := Nat.le_succ _
  have fr : H1 (hp.objs.size + 1) = none := I1.hok.fresh nn
  have q2 := q1 _ fr
  have keep : ∀ b o, hp.get? b = some o → ((hp.push (PySem.W.kdv_tup us)).push (PySem.HandSPX.excO C hp.objs.size)).get? b = some o := fun b o z => Heap.get?_push_of_some _ (Heap.get?_push_of_some _ z)
  have here : ((hp.push (PySem.W.kdv_tup us)).push (PySem.HandSPX.excO C hp.objs.size)).get? (hp.objs.size + 1) = some (PySem.HandSPX.excO C hp.objs.size) := by heap_get
  have I2 := I1.laid (t' := tk) (a := hp.objs.size + 1) (o := exo (hp.objs.size + 1) C none) keep nn (exo_ok here)
  have r2 : Vals (V.ref (hp.objs.size + 1) :: (vs ++ dvs)) (Value.ref (hp.objs.size + 1) :: us ++ ds) := .cons rfl (r1.append hd)
  have n1 : (Value.ref (hp.objs.size + 1) :: us ++ ds).length = ps.length := r2.length ▸ F1.len _ _ _ _ q2
  have n2 : us.length ≤ sizeLine := by
    have sl : sizeLine = 16777216 := sizeLine_eq
    have := Paired.length r1
    omega
  have run := F1.run _ X.stack _ _ ⟨Value.ref (hp.objs.size + 1) :: us, []⟩ _ _ _ (fun _ _ _ => False) (hr.make C us []) (I2.env0.make C us []) (hb _ (Value.ref (hp.objs.size + 1) :: us) I2.kIn n1) r2 q2
  refine wpAny_call (PySem.HandSPX.call_own F.excBase_ValueError (fun Y => PySem.HandSPX.refsVE_contains Y bm hbm) (I1.kIn _ _ hC) (PySem.W.looks_findIn I1.kIn iC) (fun self => PySem.W.bind_fn I1.kIn self tI) n2 (codeAny_mono run fun r s' z => ?_))
  match r, z with
  | .error er, z => exact hx pins σ _ _ er s' I2 z
  | .ok .next, z => exact z.elim
  | .ok .brk, z => exact z.elim
  | .ok .cont, z => exact z.elim
  | .ok (.ret u), z =>
    obtain ⟨v, H2, o2, b2, u2, k2, rv, ev, q3⟩ := z
    subst ev
    have un : Un (frs X.stack) [] H1 H2 hp s'.heap := (Un.laid keep nn fr).trans u2
    exact ⟨rv, .ref (hp.objs.size + 1), H2, I1.call' (ch := []) o2 un k2 b2 (fun b z => absurd z (by simp)), rfl, q3⟩
/-- the object of an error and its dict -/
theorem err_at {pins : List (Addr × Obj)} {σ : L2.St} {H : Hp} {s : Shared} {a C : Addr} {fs : List (Str × V)} (I : Inv X pins σ H s) (h : Err H a C fs) :
    ∃ ox od, PySem.W.InstAt s.heap a ox C (some od) ∧ ∃ mA : Str → Option Value, (∀ name, PySem.W.lookIn name od = some (mA name)) ∧ ∀ f, RelO (fs.lookup f) (mA f) := by
  obtain ⟨d, h1, h2⟩ := h
  obtain ⟨t1, e1⟩ := exo_at I.hok h1
  obtain ⟨mA, hn, hr⟩ := exd_at I.hok h2
  obtain ⟨od, ho, hl⟩ := lookIn_ns hn
  exact ⟨_, od, ⟨e1, rfl, rfl, ho⟩, mA, hl, hr⟩
/-- e.n of an error -/
def tXv (K : PySem.W.Frag) (n : Str) (te : TE) : TE := fun σ H Q => te σ H fun x H1 => ∃ a C fs v, x = .ref a ∧ Err H1 a C fs ∧ XfC K C ∧ PySem.W.findIn K (.ref C) n = some none ∧ fs.lookup n = some v ∧ Q v H1
theorem pe_xv {e : Expr} {te : TE} {pos : Pos} {n : Str} (he : PE X e te) (hb : attributeBase e n X.env (eval e X.env) = eval e X.env := by rfl) : PE X (.Attribute e n pos) (tXv X.K n te) := by
  constructor
  intro pins s σ H Q I h
  refine attr_of hb (thn (he.run pins s σ H _ I h) fun u s1 w => ?_)
  obtain ⟨x, H1, I1, rx, a, C, fs, v, rfl, hE, T, hno, l, q⟩ := w
  obtain rfl : u = Value.ref a := rx
  obtain ⟨ox, od, J, mA, hl, hr⟩ := err_at I1 hE
  obtain ⟨u, hu, ru⟩ := RelO.some_of (v := v) (o := mA n) (l ▸ hr n)
  exact HandSPX.exc_get I1.kIn J T.ga T.gg T.exC (PySem.W.findObj_own T.hdC hno rfl (by rw [hl, hu])) (handed_of ru) ⟨v, H1, I1.tok _, ru, q⟩
/-- x.__class__ of an error with a dict of its own, as isinstance asks it -/
theorem x_class {prog : Program} {w : World} {A : Around} {E : Value → Shared → Prop} {s : Shared} {K : PySem.W.Frag} {x D : Addr} {ox od : Obj} {Q : Option Value → Shared → Prop} (T : ExcC K D) (KX : K.In s.heap) (J : PySem.W.InstAt s.heap x ox D (some od))
    (h : Q (some (.ref D)) { s with toks := s.toks + 1 }) : wpAny (model prog w) A (getAttr? (.ref x) "__class__") Q E s := by
  have found : PySem.W.findObj K D (some od) "__class__" = some (.bind (.builtin "getset_descriptor.__get__") (.builtin "object.__class__")) := by
    obtain ⟨cd, e, _⟩ := PySem.W.any_some T.hd
    exact PySem.W.findObj_data (by rw [e] <;> rfl) T.ha T.hn T.ht
  have no2 : (Value.builtin "BaseException.__getattribute__" == Value.builtin "object.__getattribute__") = false := by decide +kernel
  have no1 : (onTheHeap (.ref D) && Value.builtin "BaseException.__getattribute__" == Value.builtin "object.__getattribute__") = false := by rw [no2] <;> rfl
  obtain ⟨hp, g, d, t, os⟩ := s
  have isB : PySem.W.Looks (model prog w) hp (isInstance (.ref x) (.type "BaseException")) true := (J.type (M := model prog w)).andThen (PySem.W.looks_subIn KX T.hs)
  have tail : ∀ R : Fin → Shared → Prop, ∀ E' : Value → Shared → Prop, R (.done (.ret (.ref D))) ⟨hp, g, d, t + 1, os⟩ → wpAny (model prog w) (Around.in1 A) (Builtin.«object.__getattribute__» ⟨[.ref x, .str "__class__" t], []⟩) R E' ⟨hp, g, d, t + 1, os⟩ := fun R E' hR => by
    unfold Builtin.«object.__getattribute__»
    refine wpAny_bind (wpAny_of_eq (a := (Value.ref x, [Value.str "__class__" t])) (by first | rfl | (simp only [slotArgs]; rfl)) (wpAny_bind (wpAny_pure (wpAny_bind (J.type.at (wpAny_bind ((PySem.W.looks_find KX J found).at ?_)))))))
    refine wpAny_bind (wpAny_holding (wpAny_call (PySem.W.class_get (s := ⟨hp, g, d, t + 1, os⟩) KX J T.hm ?_)))
    exact wpAny_pure hR
  unfold getAttr? getAttrBy? getAttrBy
  refine wpAny_bind (wpAny_mkText (wpAny_bind (wpAny_attempt (wpAny_holding (wpAny_bind (J.type.at (wpAny_bind ((PySem.W.looks_findIn KX T.hg).at ?_))))))))
  dsimp only
  rw [no1, if_neg Bool.false_ne_true]
  unfold getAttrByItsOwn hookBefore callGetattribute boundAndCalled
  refine wpAny_bind ?_
  have oh : onTheHeap (Value.ref D) = true := rfl
  rw [if_pos oh]
  refine (PySem.W.looks_findIn KX T.hk).at (wpAny_bind (wpAny_attempt (wpAny_holding ?_)))
  have nh : (false && onTheHeap (Value.builtin "BaseException.__getattribute__")) = false := rfl
  rw [nh, if_neg Bool.false_ne_true, PySem.F.excAttr_ValueError.ga.bind (.ref x)]
  refine wpAny_bind (wpAny_pure ?_)
  dsimp only
  refine wpAny_call (codeAny_call_builtin PySem.F.excAttr_ValueError.ga.plain PySem.F.entry_bexc_ga ?_)
  refine @PySem.W.check_slot (model prog w) _ _ ⟨hp, g, d, t + 1, os⟩ "BaseException.__getattribute__" "BaseException" "__getattribute__" (.ref x) [.str "__class__" t] [] _ (by decide +kernel) (by decide +kernel) isB (PySem.F.args_bexc_ga (.ref x) (.str "__class__" t)) ?_
  refine tail _ _ ?_
  refine (show wpAny (model prog w) A (handedOut (Value.ref D)) (fun a s' => wpAny (model prog w) A (pure (some a)) Q E s') _ ⟨hp, g, d, t + 1, os⟩ from ?_)
  rw [PySem.W.handedOut_of (v := Value.ref D) rfl]
  exact wpAny_pure (wpAny_pure h)
theorem kit_err {K : PySem.W.Frag} {x D : Addr} {b : Bool} (T : ExcC K D) (self : PySem.W.kitCls K (.ref D) (.ref D) = some b) : PySem.W.KitX K (.ref x) (.ref D) (fun h => ∃ ox od, PySem.W.InstAt h x ox D (some od)) where
  ty := fun _ _ _ ⟨_, _, J⟩ => J.type
  it := fun _ _ KX _ => (PySem.W.kit_cls KX self).2.1
  ne := fun h tp dd its n sl KX e => by
    obtain ⟨cd, hc, _⟩ := PySem.W.any_some T.hd
    cases q : (Value.ref D == Value.ref tp) with
    | false => rfl
    | true =>
      obtain rfl : D = tp := Value.ref.inj (beq_iff_eq.mp q)
      unfold PySem.W.clsIn at hc
      cases k : K.lookup D with
      | none => rw [k] at hc; cases hc
      | some o =>
        have z := (KX _ _ k).symm.trans e
        cases z
        rw [k] at hc
        cases hc
  ca := fun KX ⟨_, _, J⟩ q => x_class T KX J q
/-- isinstance(x, c) of an error -/
def rIsX (K : PySem.W.Frag) : List V → Hp → VK → Prop := fun xs H Q => ∃ (a C : Addr) (fs : List (Str × V)) (c : V) (cv : Value) (b b' : Bool), xs = [.ref a, c] ∧ Err H a C fs ∧ ExcC K C ∧ PySem.W.kitCls K (.ref C) (.ref C) = some b' ∧ ClsV c cv ∧ PySem.W.kitOne K (.ref C) cv = some b ∧ Q (.bl b) H
theorem call_isX {X : Cx} : CallR X (.builtin "isinstance") (rIsX X.K) := by
  intro pins s σ H xs us Q I r h
  obtain ⟨a, C, fs, c, cv, b, b', rfl, hE, T, self, hc, e, q⟩ := h
  obtain ⟨u1, u2, rfl, r1, r2⟩ : ∃ u1 u2, us = [u1, u2] ∧ RelV (.ref a) u1 ∧ RelV c u2 := by
    cases r with
    | cons x1 y1 =>
      cases y1 with
      | cons x2 y2 => cases y2; exact ⟨_, _, rfl, x1, x2⟩
  obtain rfl : u1 = Value.ref a := r1
  obtain rfl : u2 = cv := hc.eq r2
  obtain ⟨ox, od, J, _⟩ := err_at I hE
  exact PySem.W.kia_one (kit_err T self) I.kIn ⟨ox, od, J⟩ e (fun z => nomatch z) fun tk => ⟨.bl b, H, I.tok tk, rfl, q⟩
end
end TT

set_option Elab.async false
set_option linter.all false
set_option maxRecDepth 100000
set_option maxHeartbeats 4000000
/-! == of a thing with itself, repr of what holds small dicts. -/
namespace TT
open PySem PySem.Spec PyProof.Rows L2
section
variable {X : Cx}
/-- the same thing, or the same plain value -/
def D0 : Eqv := fun x y _ => y = x ∧ (flatB x = true ∨ ∃ a, x = .ref a)
theorem D0.mon : Mon D0 := fun _ _ _ _ _ h => h
theorem D0.eqV {K : PySem.W.Frag} {H : Hp} {x : V} (h : flatB x = true ∨ ∃ a, x = .ref a) : EqV K H 1 x x := by
  unfold EqV
  exact h.elim (fun f => .inl ⟨rfl, f⟩) fun ⟨a, e⟩ => .inr (.inl ⟨a, e, e⟩)
theorem D0.eqG : EqG X 1 D0 := by
  intro A pins s σ H x y u v S I rx ry h
  obtain ⟨rfl, h⟩ := h
  have un : A.units + 1 < cLine := by have := S.room.un; omega
  refine eqV_run I 1 A un y y u v (D0.eqV h) rx ry _ _ ⟨rfl, H, I, Ext.rfl'⟩
/-- x is equal to itself, whatever it holds -/
def SelfEq (K : PySem.W.Frag) (H : Hp) (x : V) : Prop := scal x x = true ∨ (∃ n, n ≤ 60 ∧ EqR K H (EqV K H n) x x) ∨ DTup K D0 x x H
def rSame (K : PySem.W.Frag) : R2 := fun x y H Q => y = x ∧ SelfEq K H x ∧ ∀ H', Ext H H' → Q (.bl true) H'
theorem op_same (hu : X.A.units + 64 < cLine) (hr : Room 2 X.A) : OpR X (compareOp .Eq) (rSame X.K) := by
  intro pins s σ H x y v u Q I rx ry h
  obtain ⟨rfl, h, q⟩ := h
  rcases h with h | ⟨n, hn, h⟩ | h
  · exact op_eq pins s σ H y y v u Q I rx ry ⟨h, by rw [decide_eq_true rfl]; exact q H Ext.rfl'⟩
  · exact op_eqV hu pins s σ H y y v u Q I rx ry ⟨n, hn, h, q H Ext.rfl'⟩
  · exact op_eqG (rcG_tup D0.mon D0.eqG) hr pins s σ H y y v u Q I rx ry ⟨h, q⟩
/-! ### repr -/
inductive DpD (K : PySem.W.Frag) (H : Hp) : V → PyData → Prop
  | dp {v : V} {d : PyData} (h : Dp K H v d) (n : d.hasDict = false) : DpD K H v d
  | tt {a b : Addr} (h : H a = some (.tup [.ref b])) (h2 : H b = some (.tup [])) : DpD K H (.ref a) (.tuple [.tuple []])
  | d0 {a : Addr} (h : H a = some (.dK [])) : DpD K H (.ref a) (.dict [])
  | d1 {a : Addr} {k : Str} {i : Int} (h : H a = some (.dK [(.inr k, .int i)])) : DpD K H (.ref a) (.dict [(.str k, .int i)])
theorem dp_tt {K : PySem.W.Frag} {H : Hp} {a b : Addr} (h : H a = some (.tup [.ref b])) (h2 : H b = some (.tup [])) : Dp K H (.ref a) (.tuple [.tuple []]) :=
  .tup (SqT.of h) (.cons (.tup (SqT.of h2) .nil) .nil)
/-- no tracked thing is sys.modules -/
theorem not_sys {pins : List (Addr × Obj)} {σ : L2.St} {H : Hp} {s : Shared} (I : Inv X pins σ H s) {o : Obj} (hs : X.K.lookup sysModules = some o) {l : Addr} {x : HO} (h : H l = some x) : l ≠ sysModules := by
  rintro rfl
  have hb : X.base.get? sysModules = some o := I.ok.mod.kin _ _ hs
  obtain ⟨h0, h1⟩ := I.ok.bs _ _ hb
  have := I.base.free _ _ h0 h1 (I.ok.noex _ _ hb)
  rw [this] at h
  cases h
theorem DpD.reads {pins : List (Addr × Obj)} {σ : L2.St} {H : Hp} {s : Shared} (I : Inv X pins σ H s) {v : V} {d : PyData} {u : Value} (h : DpD X.K H v d) (r : RelV v u) : ∃ as, Reads s.heap u d as ∧ (d.hasDict = true → ¬ sysModules ∈ as) := by
  cases h with
  | dp h n => exact (Dp.reads I d v u h r).imp fun as z => ⟨z, PyData.noDict_hsm n⟩
  | tt h h2 => exact (Dp.reads I _ _ u (dp_tt h h2) r).imp fun as z => ⟨z, PyData.noDict_hsm rfl⟩
  | @d0 a h =>
    obtain rfl : u = Value.ref a := r
    have z := I.hok _ _ h
    unfold ObjOk at z
    obtain ⟨_, ns, vs, kv, o, es, ep, g, ex, da, _, pr, _⟩ := z
    cases kv
    generalize e : es.toList = L at pr
    cases pr
    refine ⟨_, Reads.dict g ex.1 da (as := []) (bs := []) (by rw [e]; exact .nil) (by rw [e]; exact .nil), fun _ m => ?_⟩
    have : sysModules = a := by simpa using m
    rw [← this] at ns
    cases ns
  | @d1 a k i h =>
    obtain rfl : u = Value.ref a := r
    have z := I.hok _ _ h
    unfold ObjOk at z
    obtain ⟨_, ns, vs, kv, o, es, ep, g, ex, da, _, pr, nd⟩ := z
    clear nd
    cases kv with
    | @cons _ q _ _ p1 p2 =>
      cases p2
      obtain ⟨e0, t, e1⟩ : Sum.inr k = q.1 ∧ ∃ t, q.2 = Value.int i t := p1
      generalize hl : es.toList = L at pr
      cases pr with
      | cons c1 c2 c3 =>
        cases c3
        rename_i e
        have c4 : Value.isStrOf k e.key = true := by
          have c5 : keyIs q.1 e.key = true := c1
          rw [← e0] at c5
          exact c5
        obtain ⟨tk, ek⟩ : ∃ tk, e.key = .str k tk := by
          cases hk : e.key <;> rw [hk] at c4 <;> simp [Value.isStrOf] at c4
          exact ⟨_, by rw [c4]⟩
        have ev : e.val = .int i t := c2.trans e1
        refine ⟨_, Reads.dict g ex.1 da (kvs := [(.str k, .int i)]) (as := [] ++ []) (bs := [] ++ []) (by rw [hl]; exact .cons (by show Reads _ e.key (.str k) []; rw [ek]; exact .str _ _) .nil) (by rw [hl]; exact .cons (by show Reads _ e.val (.int i) []; rw [ev]; exact .int _ _) .nil), fun _ m => ?_⟩
        have : sysModules = a := by simpa using m
        rw [← this] at ns
        cases ns
theorem readsAll_rep {h : Heap} {d : PyData} {v : V} (one : ∀ u, RelV v u → ∃ as, Reads h u d as ∧ (d.hasDict = true → ¬ sysModules ∈ as)) :
    ∀ (n : Nat) (its : List Value), Vals (List.replicate n v) its → ∃ as, ReadsAll h its (List.replicate n d) as ∧ (d.hasDict = true → ¬ sysModules ∈ as)
  | 0, its, r => by
    cases r
    exact ⟨[], .nil, fun _ m => by cases m⟩
  | n + 1, its, r => by
    rw [List.replicate_succ] at r
    cases r with
    | cons r1 r2 =>
      obtain ⟨as, h1, h2⟩ := one _ r1
      obtain ⟨bs, h3, h4⟩ := readsAll_rep one n _ r2
      exact ⟨as ++ bs, .cons h1 h3, fun e m => (List.mem_append.mp m).elim (h2 e) (h4 e)⟩
theorem hasDictAll_rep {d : PyData} : ∀ n, PyData.hasDictAll (List.replicate n d) = true → d.hasDict = true
  | 0, h => by simp [PyData.hasDictAll] at h
  | n + 1, h => by
    rw [List.replicate_succ] at h
    simp only [PyData.hasDictAll, Bool.or_eq_true] at h
    exact h.elim id (hasDictAll_rep n)
/-- what repr is asked of here: such a thing, or a list of it many times -/
inductive RpD (K : PySem.W.Frag) (H : Hp) : V → PyData → Prop
  | one {v : V} {d : PyData} (h : DpD K H v d) : RpD K H v d
  | rep {l : Addr} {n : Nat} {v : V} {d : PyData} (hl : H l = some (.lst (List.replicate n v))) (h : DpD K H v d) : RpD K H (.ref l) (.list (List.replicate n d))
theorem RpD.reads {pins : List (Addr × Obj)} {σ : L2.St} {H : Hp} {s : Shared} (I : Inv X pins σ H s) {o : Obj} (hs : X.K.lookup sysModules = some o) {v : V} {d : PyData} {u : Value} (h : RpD X.K H v d) (r : RelV v u) : ∃ as, Reads s.heap u d as ∧ (d.hasDict = true → ¬ sysModules ∈ as) := by
  cases h with
  | one h => exact DpD.reads I h r
  | @rep l n v d hl h =>
    obtain rfl : u = Value.ref l := r
    have z := I.hok _ _ hl
    unfold ObjOk at z
    obtain ⟨_, its, k, vs, g⟩ := z
    obtain ⟨as, h1, h2⟩ := readsAll_rep (fun u r => DpD.reads I h r) n its vs
    refine ⟨l :: as, Reads.list g rfl rfl (by rw [List.toList_toArray]; exact h1), fun e m => ?_⟩
    have e2 : d.hasDict = true := by
      simp only [PyData.hasDict] at e
      exact hasDictAll_rep n e
    rcases List.mem_cons.mp m with m | m
    · exact not_sys I hs hl m.symm
    · exact h2 e2 m
def rReprD (K : PySem.W.Frag) : List V → Hp → VK → Prop := fun xs H Q => ∃ (x : V) (d : PyData), xs = [x] ∧ RpD K H x d ∧ d.showable = true ∧ d.depth ≤ 60 ∧ d.shown.length ≤ sizeLine ∧ Q (.str d.shown) H
theorem call_reprD {o : Obj} (hs : X.K.lookup sysModules = some o) (hg : X.A.guards = some []) (hu : X.A.units + 64 < cLine) : CallR X (.builtin "repr") (rReprD X.K) := by
  intro pins s σ H xs us Q I r h
  obtain ⟨x, d, rfl, hd, sh, hdep, hz, q⟩ := h
  obtain ⟨u, rfl, rx⟩ : ∃ u, us = [u] ∧ RelV x u := by
    cases r with
    | cons a b => cases b; exact ⟨_, rfl, a⟩
  by_cases c : ∃ a, x = .ref a
  · obtain ⟨a, rfl⟩ := c
    obtain rfl : u = Value.ref a := rx
    obtain ⟨as, rd, ns⟩ := RpD.reads (u := Value.ref a) I hs hd rfl
    exact repr_of_reads' rd sh ns hg (by omega) (fun _ _ e => e) (fun h' u tk hk => ⟨.str d.shown, H, I.kept hk, ⟨_, rfl⟩, q⟩) hz
  · cases hd with
    | rep => exact absurd ⟨_, rfl⟩ c
    | one h =>
      cases h with
      | dp h n => exact call_repr hg hu pins s σ H _ _ Q I (.cons rx .nil) ⟨x, d, rfl, h, sh, n, hdep, hz, q⟩
      | tt => exact absurd ⟨_, rfl⟩ c
      | d0 => exact absurd ⟨_, rfl⟩ c
      | d1 => exact absurd ⟨_, rfl⟩ c
end
end TT

set_option Elab.async false
set_option linter.all false
set_option maxRecDepth 100000
set_option maxHeartbeats 4000000
/-! repr of a list whose own address may be any (only what it holds must not be sys.modules) -/
namespace TT
open PySem PySem.Spec PyProof.Rows L2
theorem repr_lst {prog : Program} {w : World} {h₀ : Heap} {a : Addr} {o : Obj} {vs : Array Value} {n : Nat} {xs : List PyData} {as : List Addr} {A : Around} {E : Value → Shared → Prop} {s : Shared} {Q : Value → Shared → Prop}
    (at_a : h₀.get? a = some o) (is_l : o.cls = .type "list") (dat : o.data = .seq vs n) (its : ReadsAll h₀ vs.toList xs as)
    (sh : PyData.showableAll xs = true) (out : PyData.hasDictAll xs = true → ¬ sysModules ∈ as) (gd : A.guards = some []) (un : A.units + ((PyData.list xs).depth + 1) < cLine)
    (low : ∀ b u, h₀.get? b = some u → s.heap.get? b = some u)
    (k : ∀ h' u tk, (∀ b o, s.heap.get? b = some o → h'.get? b = some o) → Q (.str (PyData.list xs).shown u) { s with heap := h', toks := tk })
    (len : (PyData.list xs).shown.length ≤ sizeLine) : wpAny (model prog w) A (call (.builtin "repr") [.ref a]) Q E s := by
  have short : (listText (PyData.shownAll xs)).length ≤ sizeLine := by
    have := len
    rwa [PyData.shown] at this
  obtain ⟨bs, below, each⟩ := ReprAllK.of_readsAll (prog := prog) (w := w) its sh out fun t ht => Nat.le_trans (listText_mem_le ht) short
  have apart : a ∉ bs := by
    refine not_mem_of_deeper (Reads.list at_a is_l dat its) ?_ below
    rw [PyData.depth]
    omega
  have dep : A.in1.units + (PyData.list xs).depth < cLine := by
    show A.units + 1 + _ < cLine
    omega
  refine call_repr_slot (by omega) (show s.TypeIs (.ref a) "list" from ⟨o, low _ _ at_a, is_l⟩) F.slot_list_repr.toG ?_
  rw [PyData.depth] at dep
  have k' := k
  simp only [PyData.shown] at k'
  obtain ⟨l⟩ := vs
  cases l with
  | nil =>
    have none' : ReadsAll h₀ [] xs as := its
    cases none'
    simp only [PyData.shownAll, listText_nil] at k'
    exact call_list_repr_empty ⟨o, low _ _ at_a, is_l⟩ (low _ _ at_a) dat ⟨_, _, rfl, k' s.heap _ _ fun _ _ e => e⟩
  | cons x l =>
    have el := each.length_eq
    exact call_list_reprK at_a is_l dat apart (by simpa using el) (fun i y e => each.item i y (by simpa using e)) gd (fun b _ => Clear.nil b) dep low (fun h' u tk hk => ⟨_, _, rfl, k' h' u tk hk⟩) short
section
variable {X : Cx}
theorem call_reprS (hg : X.A.guards = some []) (hu : X.A.units + 64 < cLine) : CallR X (.builtin "repr") (rReprD X.K) := by
  intro pins s σ H xs us Q I r h
  obtain ⟨x, d, rfl, hd, sh, hdep, hz, q⟩ := h
  obtain ⟨u, rfl, rx⟩ : ∃ u, us = [u] ∧ RelV x u := by
    cases r with
    | cons a b => cases b; exact ⟨_, rfl, a⟩
  have fin : ∀ h' u tk, (∀ b o, s.heap.get? b = some o → h'.get? b = some o) → EP X pins σ Q (.str d.shown u) { s with heap := h', toks := tk } := fun h' u tk hk => ⟨.str d.shown, H, I.kept hk, ⟨_, rfl⟩, q⟩
  cases hd with
  | @rep l n v d hl h =>
    obtain rfl : u = Value.ref l := rx
    have z := I.hok _ _ hl
    unfold ObjOk at z
    obtain ⟨_, its, k, vs, g⟩ := z
    obtain ⟨as, h1, h2⟩ := readsAll_rep (fun u r => DpD.reads I h r) n its vs
    have sh' : PyData.showableAll (List.replicate n d) = true := by
      rwa [PyData.showable] at sh
    exact repr_lst g rfl rfl (by rw [List.toList_toArray]; exact h1) sh' (fun e => h2 (hasDictAll_rep n e)) hg (by omega) (fun _ _ e => e) fin hz
  | one h =>
    by_cases c : ∃ a, x = .ref a
    · obtain ⟨a, rfl⟩ := c
      obtain rfl : u = Value.ref a := rx
      obtain ⟨as, rd, ns⟩ := DpD.reads (u := Value.ref a) I h rfl
      exact repr_of_reads' rd sh ns hg (by omega) (fun _ _ e => e) fin hz
    · cases h with
      | dp h n => exact call_repr hg hu pins s σ H _ _ Q I (.cons rx .nil) ⟨x, d, rfl, h, sh, n, hdep, hz, q⟩
      | tt => exact absurd ⟨_, rfl⟩ c
      | d0 => exact absurd ⟨_, rfl⟩ c
      | d1 => exact absurd ⟨_, rfl⟩ c
end
end TT

set_option Elab.async false
set_option linter.all false
set_option maxRecDepth 100000
set_option maxHeartbeats 4000000
/-! A lambda handed to a def; an error that was caught, kept behind its suite. -/
namespace TT
open PySem PySem.Spec PyProof.Rows L2
/-- at e: an error that was caught, of the class cls, its dict d -/
def exk (e : Addr) (cls : Value) (d : Option Addr) : HO := .ext fun h => ∃ (o : Obj) (vs : Array Value), h.get? e = some o ∧ Zc cls d o ∧ o.data = .fields vs
theorem exk_ok {P : Program} {w : World} {H : Hp} {h : Heap} {e : Addr} {cls : Value} {d : Option Addr} {o : Obj} {vs : Array Value} (he : h.get? e = some o) (hz : Zc cls d o) (hd : o.data = .fields vs) : ObjOk P w H h e (exk e cls d) :=
  ⟨⟨o, vs, he, hz, hd⟩, ⟨_, he⟩, fun h1 h2 ⟨o1, vs1, a, b, c⟩ k => ⟨o1, vs1, k _ a, b, c⟩⟩
theorem exk_at {P : Program} {w : World} {H : Hp} {h : Heap} {e : Addr} {cls : Value} {d : Option Addr} (hok : HOk P w H h) (he : H e = some (exk e cls d)) : ∃ (o : Obj) (vs : Array Value), h.get? e = some o ∧ Zc cls d o ∧ o.data = .fields vs := by
  have x : ObjOk P w H h e (.ext fun h => ∃ (o : Obj) (vs : Array Value), h.get? e = some o ∧ Zc cls d o ∧ o.data = .fields vs) := hok e _ he
  exact x.1
section
variable {X : Cx} {pins : List (Addr × Obj)} {σ : L2.St} {H : Hp} {s : Shared} {a : Addr} {cls : Value} {d : Option Addr} {oe : Obj} {vs : Array Value}
/-- a caught error is tracked -/
theorem Inv.track (I : Inv X pins σ H s) (ha : s.heap.get? a = some oe) (hz : Zc cls d oe) (hd : oe.data = .fields vs) (na : H a = none) (nL : a ≠ X.env.locals) (n0 : X.s_0.heap.get? a = none) (np : ∀ p ∈ X.pn ++ pins, p.1 ≠ a) :
    Inv X pins σ (L2.upd H a (exk a cls d)) s := by
  have sm : ∀ {b : Addr} {u : HO}, H b = some u → b ≠ a := fun {b u} e => ne_of_none e na
  refine ⟨I.ok, I.os, I.bare, ⟨I.base.keep, I.base.slot, fun b o e n hx => ?_, I.base.there, fun b xs e => ?_, fun b o u e => ?_, fun b ps e => ?_⟩, I.loc, I.cell, ?_, fun x c e => ?_, fun p hp => ?_, fun b u e => ?_, I.len⟩
  · have nb : b ≠ a := fun z => by rw [z, n0] at e; cases e
    rw [upd_ne nb]
    exact I.base.free b o e n hx
  · have q := I.base.tups b xs e
    rw [upd_ne (sm q)]
    exact q
  · have q := I.base.frzs b o u e
    rw [upd_ne (sm q)]
    exact q
  · obtain ⟨more, q⟩ := I.base.tbls b ps e
    exact ⟨more, by rw [upd_ne (sm q)]; exact q⟩
  · rw [upd_ne nL.symm]
    exact I.free
  · have nc : c ≠ a := fun z => by
      obtain ⟨v, o, ho, hc⟩ := I.cell x c e
      rw [z, ha] at ho
      cases ho
      rw [hd] at hc
      cases hc
    rw [upd_ne nc]
    exact I.freeC x c e
  · obtain ⟨e, n, r⟩ := I.pin p hp
    exact ⟨e, by rw [upd_ne (np p hp)]; exact n, r⟩
  · by_cases hb : b = a
    · subst hb
      rw [upd_same] at e
      cases e
      exact exk_ok ha hz hd
    · rw [upd_ne hb] at e
      exact (I.hok b u e).stay (fun _ _ _ q => q) (fun c q => by rw [upd_ne (sm q)]; exact q) fun c xs q => by rw [upd_ne (sm q)]; exact q
end
/-- what 'except x as n' wishes of the body's errors, each caught and kept behind the suite -/
def wKept (K : PySem.W.Frag) (c : Value) (i : Nat) (ts : Addr → Value → Option Addr → TS) (nx : L2.St → Hp → Prop) : WX := fun cls d σ H =>
  PySem.W.exmOne K cls c = some true ∧ ∀ a, H a = none → ts a cls d ⟨fun σ' H' => H' a = none → nx (σ'.set i none) (L2.upd H' a (exk a cls d)), fun _ _ => False, fun _ _ => False, fun _ _ => False⟩ (σ.set i (some (.ref a))) H
section
variable {X : Cx} {x n : Str} {c : Value} {i : Nat} {body suite : List Stmt} {b₀ : Stmt} {np pos pos' : Pos} {tb : WX → TS} {ts : Addr → Value → Option Addr → TS}
/-- try: body / except x as n: suite, where each error that the body lets out is an x -/
theorem ps_try_kept (hs : X.stack = X.env :: X.outer) (hf : X.env.frame = some X.env.locals) (hex : X.ex = []) (hN : X.N.Nodup) (hi : X.N[i]? = some n) (hln : X.env.kindOf n = some .local) (hc : Names X x c)
    (hb : ∀ (W : WX) (pn : List (Addr × Obj)) (xe : Value → Shared → Prop), Takes (X.tr pn xe) W → PassesOwn (model X.prog X.w) X.A X.env xe → PSs (X.tr pn xe) body (tb W))
    (hsu : ∀ (a : Addr) (oe : Obj) (cls : Value) (d : Option Addr) (pn : List (Addr × Obj)), Zc cls d oe → (∃ vs, oe.data = .fields vs) → PSs (X.suite a ((a, oe) :: pn)) (b₀ :: suite) (ts a cls d)) :
    PS X (.Try body [.ExceptHandler (some (.Name x np)) (some n) (b₀ :: suite) pos'] [] [] pos) (fun D σ H => tb (wKept X.K c i ts D.nx) ⟨D.nx, fun _ _ => False, fun _ _ => False, fun _ _ => False⟩ σ H) := by
  constructor
  intro pins s σ H D I h
  have ok := I.ok
  -- what is done with an error of the body
  let R : Value → Shared → Prop := fun e s₁ => wpAny (model X.prog X.w) X.A (noteFrame e X.env) (fun _ s₂ => wpAny (model X.prog X.w) X.A (setFlight e none) (fun _ s₃ =>
    wpAny (model X.prog X.w) X.A (handleBy e X.env [.ExceptHandler (some (.Name x np)) (some n) (b₀ :: suite) pos']) (SP X pins D) X.xe s₃) X.xe s₂) X.xe s₁
  have caught : Takes (X.tr (X.pn ++ pins) R) (wKept X.K c i ts D.nx) := by
    rintro u s' ⟨a, B, t0, pins', σ1, H1, cls, d, rfl, J0, ground, up, sky, na, os, ag, ex, told⟩
    have J : Inv X pins σ1 H1 t0 := J0.ofTry ok
    have frames : X.A.frames = some (X.env :: X.outer) := ok.frames.trans (congrArg some hs)
    have sky2 : Sky B (X.env :: X.outer) a (Zc cls d) X.env.locals s'.heap := hs ▸ sky
    have none_of : ∀ {h1 : Heap}, HandSPX.FlyingZ B (X.env :: X.outer) a (Zc cls d) h1 → a ∉ frs (X.env :: X.outer) := fun fl hm => by
      obtain ⟨o, vs, e1, _, e2⟩ := fl.there
      obtain ⟨_, o2, e3, e4⟩ := fl.2.2.1.mem hm
      cases e1.symm.trans e3
      exact e4 _ e2
    refine Sky.land Zc.steady frames hf sky2 fun g1 fl1 up1 => ?_
    have off := none_of fl1
    have nL : a ≠ X.env.locals := fun z => off (List.mem_filterMap.mpr ⟨_, List.mem_cons_self, hf.trans (congrArg some z.symm)⟩)
    have nF : a ∉ X.fs := fun hm => off (List.mem_filterMap.mpr ((List.mem_filterMap.mp hm).imp fun _ z => ⟨List.mem_cons_of_mem _ z.1, z.2⟩))
    have gone : t0.heap.get? a = none := by
      cases q : t0.heap.get? a with
      | none => rfl
      | some o => cases fl1.2.1.symm.trans (ground a o q (hs ▸ off))
    have older : X.s_0.heap.get? a = none := by
      cases q : X.s_0.heap.get? a with
      | none => rfl
      | some o =>
        obtain ⟨o2, z⟩ := J.base.there a o q (hex ▸ List.not_mem_nil)
        cases gone.symm.trans z
    have npin : ∀ p ∈ X.pn ++ pins, p.1 ≠ a := fun p hp z => by cases gone.symm.trans (z ▸ (J.pin p hp).1)
    obtain ⟨o1, vs1, e1, z1, f1⟩ := fl1.there
    have J1 : Inv X pins σ1 H1 { s' with heap := g1 } := J.landed ground fl1.1 (up.trans up1) os ag
    refine wpAny_handleBy_cons (codeAny_handlers_test ?_) (fun q => nomatch q)
    have matches_ := PySem.W.exm_one (M := model X.prog X.w) J1.kIn (fun A Q E s k q => wpAny_typeOf_ref (k _ _ e1) (z1.1 ▸ q)) ex
    have S1 := J1.suite e1 f1 na nL nF
    have named : ∀ {Q : Value → Shared → Prop} {E : Value → Shared → Prop}, Q c { s' with heap := g1 } → wpAny (model X.prog X.w) (X.A.mark (some (.ref a))) (eval (.Name x np) X.env) Q E { s' with heap := g1 } := fun {Q E} q => by
      obtain ⟨h1, h2, h3 | ⟨h3, h4, h5⟩⟩ := hc
      · exact ld_glob (X := X.suite a ((a, o1) :: (X.pn ++ pins))) S1 h1 h3 q h2
      · exact ld_blt (X := X.suite a ((a, o1) :: (X.pn ++ pins))) S1 h1 h3 h4 q h5 h2
    refine named (matches_.here (codeAny_handlers_suite_as (HandSPX.lands_againZ fl1 fun g2 fl2 up2 => ?_)))
    obtain ⟨o2, vs2, e2, z2, f2⟩ := fl2.there
    have J2 : Inv X pins σ1 H1 { s' with heap := g2 } := J.landed ground fl2.1 ((up.trans up1).trans up2) os ag
    refine store_ok (X := X.suite a ((a, o2) :: (X.pn ++ pins))) (v := .ref a) (J2.suite e2 f2 na nL nF) hN hi (.inl hln) rfl (fun s5 S5 => ?_) (.inr hln)
    refine wpAny_mono ((hsu a o2 cls d (X.pn ++ pins) z2 ⟨_, f2⟩).run [] s5 _ H1 _ S5 (told a na)) (fun f s6 hsp => ?_) (fun _ _ z => z.elim)
    match f, hsp with
    | .next, ⟨σ6, H6, S6, q6⟩ =>
      obtain ⟨e6, n6, _⟩ := S6.pin (a, o2) (List.mem_append_left _ List.mem_cons_self)
      exact gone_ok (Inv.track (S6.unsuite ok) e6 z2 f2 n6 nL older npin) hN hi hln fun s7 J7 => ⟨_, _, J7, q6 n6⟩
    | .brk, ⟨_, _, _, z⟩ => exact z.elim
    | .cont, ⟨_, _, _, z⟩ => exact z.elim
    | .ret u, ⟨_, _, _, _, _, z⟩ => exact z.elim
  refine wpAny_Try_except (wpAny_mono ((hb _ (X.pn ++ pins) R caught PassesOwn.looking).run [] s σ H _ (I.toTry _) h) (fun f s1 hsp => ?_) fun _ _ z => z)
  match f, hsp with
  | .next, ⟨σ2, H2, J2, q2⟩ => exact wpAny_execs_nil ⟨σ2, H2, J2.ofTry ok, q2⟩
  | .brk, ⟨_, _, _, z⟩ => exact z.elim
  | .cont, ⟨_, _, _, z⟩ => exact z.elim
  | .ret u, ⟨_, _, _, _, _, z⟩ => exact z.elim
end
/-! ### a callable without parameters, as a value -/
theorem Un.then {fs fs' : List Addr} {H H1 H2 : Hp} {h h1 h2 : Heap} (a : Un fs [] H H1 h h1) (b : Un fs' [] H1 H2 h1 h2) (h1' : ∀ c ∈ fs', c ∈ fs ∨ h.get? c = none) (h2' : ∀ c ∈ fs, c ∈ fs') : Un fs [] H H2 h h2 where
  keep := fun c ob q n hc hx => b.keep c ob (a.keep c ob q n hc hx) (a.free c ob q n hx) (fun z => (h1' c z).elim hc fun z => by rw [q] at z; cases z) hx
  slot := fun c ob q n hc hx => by
    obtain ⟨sl, e1⟩ := a.slot c ob q n hc hx
    obtain ⟨sl', e2⟩ := b.slot c _ e1 (a.free c ob q n hx) (h2' c hc) hx
    exact ⟨sl', e2⟩
  free := fun c ob q n hx => by
    obtain ⟨o', e1⟩ := a.there c ob q hx
    exact b.free c o' e1 (a.free c ob q n hx) hx
  there := fun c ob q hx => by
    obtain ⟨o', e1⟩ := a.there c ob q hx
    exact b.there c o' e1 hx
  tups := fun c xs q => b.tups c xs (a.tups c xs q)
  frzs := fun c ob xs q => b.frzs c ob xs (a.frzs c ob xs q)
  tbls := fun c ps q => by
    obtain ⟨m1, e1⟩ := a.tbls c ps q
    obtain ⟨m2, e2⟩ := b.tbls c _ e1
    exact ⟨m1 ++ m2, by rw [e2, Array.append_assoc]⟩
end TT

set_option Elab.async false
set_option linter.all false
set_option maxRecDepth 100000
set_option maxHeartbeats 4000000
/-! A callable without parameters as a value: what it does while it is handed on, lambdas that are such, defs that take one. -/
namespace TT
open PySem PySem.Spec PyProof.Rows L2 LamX
theorem un_then {fs fs' : List Addr} {H H1 H2 : Hp} {h h1 h2 : Heap} (a : Un fs [] H H1 h h1) (b : Un fs' [] H1 H2 h1 h2) (new : ∀ c ∈ fs', c ∈ fs ∨ h.get? c = none) (sub : ∀ c ∈ fs, c ∈ fs') : Un fs [] H H2 h h2 := by
  have up : Un fs' [] H H1 h h1 := a.mono sub fun _ z => z
  have all := up.trans b
  refine ⟨fun c o e n hc hx => ?_, fun c o e n hc hx => all.any e n hx, all.free, all.there, all.tups, all.frzs, all.tbls⟩
  refine b.keep c o (a.keep c o e n hc hx) (a.free c o e n hx) (fun z => ?_) hx
  rcases new c z with q | q
  · exact hc q
  · rw [q] at e; cases e
/-- f() runs so, as long as what stands in (s, H) but the frames fs stays -/
structure Runs (P : Program) (w : World) (K : PySem.W.Frag) (mg : Str → Option Value) (base : Heap) (fs : List Addr) (k : Nat) (f : Addr) (tl : XK → Hp → VK → Prop) (s : Shared) (H : Hp) : Prop where
  obj : ∃ (oc : Value) (od : Option Addr) (fd : FuncData) (sl : Array (Option Value)), s.heap.get? f = some ⟨oc, od, .func fd, sl⟩
  fn : H f = none
  fr : f ∉ fs
  run : ∀ (A : Around) (outer : List Env) (s1 : Shared) (HZ : Hp) (Q : VK) (E : XK), Room (k + 1) A → Env0 P w K mg base A outer s1 HZ → Un fs [] H HZ s.heap s1.heap → tl E HZ Q →
    codeAny (model P w) A (.call (.ref f) ⟨[], []⟩) (CR (L2.CX P w) outer P w HZ s1 Q E) s1
section
variable {P : Program} {w : World} {K : PySem.W.Frag} {mg : Str → Option Value} {base : Heap} {k j : Nat} {f : Addr} {tl : XK → Hp → VK → Prop}
theorem Runs.step {fs fs' : List Addr} {s s1 : Shared} {H H1 : Hp} (R : Runs P w K mg base fs k f tl s H) (u : Un fs [] H H1 s.heap s1.heap) (new : ∀ c ∈ fs', c ∈ fs ∨ s.heap.get? c = none) (sub : ∀ c ∈ fs, c ∈ fs') : Runs P w K mg base fs' k f tl s1 H1 := by
  obtain ⟨oc, od, fd, sl, e⟩ := R.obj
  refine ⟨⟨oc, od, fd, sl, u.keep f _ e R.fn R.fr List.not_mem_nil⟩, u.free f _ e R.fn List.not_mem_nil, fun z => ?_, fun A outer s2 HZ Q E hr e0 u2 t => R.run A outer s2 HZ Q E hr e0 (un_then u u2 new sub) t⟩
  rcases new f z with q | q
  · exact R.fr q
  · rw [q] at e; cases e
/-- within a def that got it: at any state of the def -/
theorem Runs.now {X : Cx} {pins : List (Addr × Obj)} {σ : L2.St} {H : Hp} {s : Shared} (R : Runs X.prog X.w X.K X.mg X.base X.fs k f tl X.s_0 X.H_0) (hex : X.ex = []) (I : Inv X pins σ H s) : Runs X.prog X.w X.K X.mg X.base (frs X.stack) k f tl s H := by
  have u : Un X.fs [] X.H_0 H X.s_0.heap s.heap := hex ▸ I.base
  refine R.step u (fun c hc => ?_) fun c hc => ?_
  · rcases List.mem_cons.mp (I.stkSub c hc) with z | z
    · exact .inr (Heap.get?_none_of_le (z ▸ I.ok.above))
    · exact .inl z
  · rcases I.ok.stk with z | ⟨z, hf⟩
    · rw [z]; exact hc
    · rw [z]
      unfold frs
      rw [List.filterMap_cons, hf]
      exact List.mem_cons_of_mem _ hc
end
/-- a def whose first argument is such a callable -/
structure LOk (P : Program) (w : World) (K : PySem.W.Frag) (mg : Str → Option Value) (base : Heap) (k j : Nat) (g : Addr) (fd : FuncData) (ps : List Str) (sp : (XK → Hp → VK → Prop) → List V → Hp → VK → Prop) : Prop where
  len : ∀ tl vs H Q, sp tl vs H Q → vs.length + 1 = ps.length
  run : ∀ (A : Around) (outer : List Env) (s : Shared) (H : Hp) (args : Args) (us : List Value) (vs : List V) (Q : VK) (f : Addr) (tl : XK → Hp → VK → Prop), A.guards = some [] → Room k A → Env0 P w K mg base A outer s H →
    BindsTo s fd args (ps.zip (.ref f :: us)) → Vals vs us → Runs P w K mg base (frs outer) j f tl s H → sp tl vs H Q → codeAny (model P w) A (.call (.ref g) args) (CR CX0 outer P w H s Q fun _ _ _ => False) s
section
variable {X : Cx} {k j i : Nat} {f g : Addr} {fd : FuncData} {ps : List Str} {sp : (XK → Hp → VK → Prop) → List V → Hp → VK → Prop} {tl : XK → Hp → VK → Prop} {x a : Str} {p p1 p2 pos : Pos} {e : Expr} {es : List Expr} {ta : TA}
theorem run_L {pins : List (Addr × Obj)} {σ : L2.St} {H : Hp} {s : Shared} {Q : VK} {us : List Value} {vs : List V} (L : LOk X.prog X.w X.K X.mg X.base k j g fd ps sp) (gd : X.A.guards = some []) (hr : Room k X.A) (hb : Binds X.K fd ps [])
    (I : Inv X pins σ H s) (R : Runs X.prog X.w X.K X.mg X.base (frs X.stack) j f tl s H) (r : Vals vs us) (h : sp tl vs H Q) : wpAny (model X.prog X.w) X.A (call (.ref g) (.ref f :: us)) (EP X pins σ Q) X.xe s := by
  have n : (.ref f :: us : List Value).length = ps.length := by
    rw [List.length_cons, ← r.length]
    exact L.len _ _ _ _ h
  have b := hb s (.ref f :: us) I.kIn (by rw [List.append_nil]; exact n)
  rw [List.append_nil] at b
  refine wpAny_call (codeAny_mono (L.run X.A X.stack s H ⟨.ref f :: us, []⟩ us vs Q f tl gd hr I.env0 b r R h) fun res s1 z => ?_)
  match res, z with
  | .error _, z => exact z.elim
  | .ok (.ret u), z => exact I.after z
  | .ok .next, z => exact z.elim
  | .ok .brk, z => exact z.elim
  | .ok .cont, z => exact z.elim
/-- g(x, ..) in a def that got x -/
theorem pe_handon (R : Runs X.prog X.w X.K X.mg X.base X.fs j f tl X.s_0 X.H_0) (hex : X.ex = []) (L : LOk X.prog X.w X.K X.mg X.base k j g fd ps sp) (gd : X.A.guards = some []) (hr : Room k X.A) (hb : Binds X.K fd ps [])
    (hg : Gl X x) (hm : X.mg x = some (.ref g)) (hk : PySem.W.keepIn X.K (.ref g) = true) (ha : PA X (e :: es) ta) (hdb : (x == ("__debug__" : Str)) = false := by decide)
    (he : starEach (e :: es) X.env = (false, eval e X.env) :: starEach es X.env := by rfl) (hpl : (backTo pos (starEach es X.env)).any (·.1) = false := by rfl) :
    PE X (.Call (.Name x p) (e :: es) [] pos) (fun σ H Q => ta σ H fun vs H1 => ∃ ws, vs = .ref f :: ws ∧ sp tl ws H1 Q) := by
  constructor
  intro pins s σ H Q I h
  refine wpAny_Call_Name_kw (ld_glob I hg hm (PySem.W.callWith_K (h₀ := X.base) I.ok.mod.kin hk (thn (ha.run pos pins s σ H _ I h) fun us s1 ⟨vs, H1, I1, r, ws, ev, q⟩ => ⟨I1.kIn, ?_⟩) he hpl) hdb)
  subst ev
  cases r with
  | @cons _ u _ ur r1 r2 =>
    obtain rfl : u = Value.ref f := r1
    exact run_L L gd hr hb I1 (R.now hex I1) r2 q
/-- x() in a def that got x -/
theorem pe_look {E : XK} (R : Runs X.prog X.w X.K X.mg X.base X.fs k f tl X.s_0 X.H_0) (hex : X.ex = []) (hx : Passes (L2.CX X.prog X.w) X E) (hr : Room (k + 1) X.A) (hN : X.N[i]? = some a) (hv : Vis X.env.scope a)
    (hd : (a == ("__debug__" : Str)) = false := by decide) (hcd : (a == ("__classdict__" : Str)) = false := by decide) :
    PE X (.Call (.Name a p1) [] [] p2) (fun σ H Q => σ[i]? = some (some (.ref f)) ∧ tl E H Q) := by
  constructor
  intro pins s σ H Q I ⟨hs, t⟩
  refine wpAny_Call_Name_kw (thn ((pe_var (pos := p1) (i := i) hN hv hd hcd).run pins s σ H (fun v H1 => v = .ref f ∧ H1 = H) I ⟨_, hs, rfl, rfl⟩) fun u s1 ⟨v, H1, I1, r1, ev, eH⟩ => ?_)
  subst ev eH
  obtain rfl : u = Value.ref f := r1
  have R1 := R.now hex I1
  obtain ⟨oc, od, fd, sl, ob⟩ := R1.obj
  refine PySem.W.callWith_F0 (first := []) ⟨oc, od, fd, sl, ob⟩ (wpAny_call (codeAny_mono (R1.run X.A X.stack s1 _ Q E hr I1.env0 Un.refl t) fun res s2 z => ?_))
  match res, z with
  | .error e, z => exact hx pins σ _ s1 e s2 I1 z
  | .ok (.ret u), z => exact I1.after z
  | .ok .next, z => exact z.elim
  | .ok .brk, z => exact z.elim
  | .ok .cont, z => exact z.elim
/-- g(lambda: body, ..): T the tables of code objects -/
theorem pe_lam {T : List (Addr × Str)} {c PT : Addr} {params : Arguments} {body : Expr} {scope : Scope} {t : XK → TE} {lpos : Pos} (L : LOk X.prog X.w X.K X.mg X.base j k g fd ps sp) (gd : X.A.guards = some []) (hr : Room j X.A) (hb : Binds X.K fd ps [])
    (hg : Gl X x) (hm : X.mg x = some (.ref g)) (hk : PySem.W.keepIn X.K (.ref g) = true) (ha : PA X es ta)
    (TB : TabB X.base X.mg c PT) (hcode : X.env.code = .ref c) (hmT : (PT, X.env.qual ++ "<lambda>") ∈ T) (hu : ∀ p ∈ T, p.1 = PT → p.2 = X.env.qual ++ "<lambda>") (S : LamS X.env.scope scope) (hdef : defaultsOf params X.env = ([], []))
    (hbind : ∀ (q : Str) (cl : List (Str × Addr)) (pm cv ctv : Value), bindArgs (PySem.W.kla_fn "<lambda>" q params body scope cl pm cv ctv) ⟨[], []⟩ = pure [])
    (hbody : ∀ (A : Around) (outer : List Env) (s : Shared) (H : Hp) (E : XK) (f c' : Addr), Room k (A.deeper (lamEnv X scope s.heap.objs.size f c')) → PE (lamCx X A outer s H E scope f c') body (t E))
    (hdb : (x == ("__debug__" : Str)) = false := by decide)
    (he : starEach (.Lambda params body scope lpos :: es) X.env = (false, eval (.Lambda params body scope lpos) X.env) :: starEach es X.env := by rfl) (hpl : (backTo pos (starEach es X.env)).any (·.1) = false := by rfl) :
    PE X (.Call (.Name x p) (.Lambda params body scope lpos :: es) [] pos)
      (fun σ H Q => Tabs T H ∧ ∀ H1 c', ExtN H H1 → Tabs T H1 → H1 c' = some (CodeO c' (X.env.qual ++ "<lambda>")) → ta σ H1 fun ws H2 => sp (fun E H' Q' => H' c' = some (CodeO c' (X.env.qual ++ "<lambda>")) ∧ t E σ H' Q') ws H2 Q) := by
  constructor
  intro pins s σ H Q I ⟨hT, h⟩
  refine wpAny_Call_Name_kw (ld_glob I hg hm ?_ hdb)
  refine PySem.W.callWith_K (h₀ := X.base) I.ok.mod.kin hk ?_ he hpl
  rw [he]
  refine Calls.spliced_cons (lam_make2 I TB hcode hmT hu hT hdef (S.has I.ok) fun f c' pm ctv H1 s1 I1 eN T1 hf hfn hfr hco => ?_)
  have fL : f ≠ X.env.locals := fun z => by
    obtain ⟨m, ⟨o, es, ep, e1, e2, _⟩, _⟩ := I1.loc
    rw [← z, hf] at e1
    cases e1
    cases e2
  have fF : f ∉ X.fs := fun z => hfr (by
    rcases I1.ok.stk with q | ⟨q, hf2⟩
    · rw [q]; exact z
    · rw [q]; unfold frs; rw [List.filterMap_cons, hf2]; exact List.mem_cons_of_mem _ z)
  generalize hob : PySem.W.kla_obj "<lambda>" (X.env.qual ++ "<lambda>") params body scope (cloFrom X.env.cells scope.names []) pm c' ctv = ob at hf
  have I1p : Inv X ((f, ob) :: pins) σ H1 s1 := I1.pins_of fun q hq => by
    rcases List.mem_cons.mp hq with z | z
    · subst z
      exact ⟨hf, hfn, fL, fF, fun v z => by rw [← hob] at z; cases z⟩
    · exact I1.pin q (List.mem_append_right _ z)
  refine thn (ha.run pos ((f, ob) :: pins) s1 σ H1 _ I1p (h H1 c' eN T1 hco)) fun us s2 ⟨ws, H2, I2p, r, q⟩ => ⟨I2p.kIn, ?_⟩
  have I2 : Inv X pins σ H2 s2 := I2p.pins_of fun q hq => I2p.pin q (List.mem_append_right _ (List.mem_cons_of_mem _ hq))
  obtain ⟨e2, n2, _⟩ := I2p.pin (f, ob) (List.mem_append_right _ List.mem_cons_self)
  refine run_L (f := f) (tl := fun E H' Q' => H' c' = some (CodeO c' (X.env.qual ++ "<lambda>")) ∧ t E σ H' Q') L gd hr hb I2 ⟨⟨_, _, _, _, by rw [← hob] at e2; exact e2⟩, n2, hfr, fun A outer s3 HZ Q' E hrA e0 un ⟨hc', ht⟩ => ?_⟩ r q
  have e3 := un.keep f _ e2 n2 hfr List.not_mem_nil
  rw [← hob] at e3
  obtain ⟨⟨oc, vs, tk, hoc, hdc, hvc⟩, _, _⟩ := e0.hok c' _ hc'
  refine PySem.W.kla_callFunE hrA.depth e3 rfl S.co S.gen rfl ⟨c', oc, vs, tk, rfl, hoc, hdc, hvc⟩ ?_
  rw [hbind]
  have lim : s3.heap.NoLimit := e0.mod.nolimit.keeps fun b o z => (e0.bs b o z).1
  refine wpAny_pure (wpAny_newFunctionEnv (fun y hy => (S.own y hy).2) (fun y hy => absurd hy List.not_mem_nil) (fun h₁ hns hsb => ⟨lim.fresh _ hsb, ?_⟩) S.kind)
  show codeAny _ _ (.expr body (lamEnv X scope s3.heap.objs.size f c')) _ _
  have kp : ∀ b o, s3.heap.get? b = some o → h₁.get? b = some o := fun b o z => hsb.extBut b o (Nat.ne_of_lt (Heap.lt_size z)) (Heap.get?_push_of_some _ z)
  have J := lam_start2 (f := f) (c' := c') (E := E) (tk := s3.toks + ([] : List (Str × Value)).length) I2 S e0 hrA.hd un hns kp
  refine PySem.W.kla_codeExpr (wpAny_mono ((hbody A outer s3 HZ E f c' (hrA.deeper _)).run [] _ σ HZ Q' J ht) (fun v s' ⟨w', H', J', rv, q'⟩ => ⟨w', H', J'.os, J'.bare, J'.base, J'.hok, rv, q'⟩) fun _ _ z => z)
end
/-- a def of the text whose first argument is such a callable -/
theorem okL {P : Program} {w : World} {K : PySem.W.Frag} {mg : Str → Option Value} {base : Heap} {x qual : Str} {st : Stmt} {g : Addr} {fd : FuncData} {N ps : List Str} {k j : Nat} {sp : (XK → Hp → VK → Prop) → List V → Hp → VK → Prop} (F : Fun K x qual st g fd) (S : FnScope N ps (defScope st))
    (len : ∀ tl vs H Q, sp tl vs H Q → vs.length + 1 = ps.length)
    (hb : ∀ (cdv : Value) (A : Around) (outer : List Env) (s : Shared) (H : Hp) (vs : List V) (Q : VK) (f : Addr) (tl : XK → Hp → VK → Prop), A.guards = some [] → Room k (A.deeper (envOfC qual (defScope st) s.heap.objs.size g cdv)) → Runs P w K mg base (frs outer) j f tl s H → sp tl vs H Q →
      ∃ t, PSs (cxOf CX0 P w K mg base N qual (defScope st) g cdv A outer s H fun _ _ _ => False).nox (defBody st) t ∧ t { nx := fun _ H1 => Q .non H1, rt := Q } (start N (.ref f :: vs)) H) : LOk P w K mg base (k + 1) j g fd ps sp := by
  obtain ⟨oc, od, kV, doc, pm, an, cdv, ct, osl, rfl, lk, hcd⟩ := F.ex
  refine ⟨len, fun A outer s H args us vs Q f tl gd hr e0 bnd r R h => ?_⟩
  refine run_ofS (vs := .ref f :: vs) lk hcd S hr e0 bnd (.cons rfl r) (len _ _ _ _ h) fun hr' => ?_
  obtain ⟨t, ht, hq⟩ := hb cdv A outer s H vs Q f tl gd hr' R h
  exact ⟨t, ht.nox, hq⟩
/-- x() in a try's body: what it lets out is told at the slots as they stand -/
def tLook (f : Addr) (i : Nat) (tl : XK → Hp → VK → Prop) (W : WX) : TE := fun σ H Q => ∃ (E : XK) (Q0 : VK), (∀ cls d H', E cls d H' → W cls d σ H') ∧ (∀ v H', Q0 v H' → Q v H') ∧ σ[i]? = some (some (.ref f)) ∧ tl E H Q0
theorem pe_lookS {X : Cx} {k i : Nat} {f : Addr} {tl : XK → Hp → VK → Prop} {a : Str} {p1 p2 : Pos} {W : WX} (tk : Takes X W) (R : Runs X.prog X.w X.K X.mg X.base X.fs k f tl X.s_0 X.H_0) (hex : X.ex = []) (hr : Room (k + 1) X.A) (hN : X.N[i]? = some a) (hv : Vis X.env.scope a)
    (hd : (a == ("__debug__" : Str)) = false := by decide) (hcd : (a == ("__classdict__" : Str)) = false := by decide) : PE X (.Call (.Name a p1) [] [] p2) (tLook f i tl W) := by
  constructor
  intro pins s σ H Q I ⟨E, Q0, hW, hQ, hs, t⟩
  refine wpAny_Call_Name_kw (thn ((pe_var (pos := p1) (i := i) hN hv hd hcd).run pins s σ H (fun v H1 => v = .ref f ∧ H1 = H) I ⟨_, hs, rfl, rfl⟩) fun u s1 ⟨v, H1, I1, r1, ev, eH⟩ => ?_)
  subst ev eH
  obtain rfl : u = Value.ref f := r1
  have R1 := R.now hex I1
  obtain ⟨oc, od, fd, sl, ob⟩ := R1.obj
  refine PySem.W.callWith_F0 (first := []) ⟨oc, od, fd, sl, ob⟩ (wpAny_call (codeAny_mono (R1.run X.A X.stack s1 _ Q0 E hr I1.env0 Un.refl t) fun res s2 z => ?_))
  match res, z with
  | .error e, z => exact tk e s2 (XE.of_call I1 hW z)
  | .ok (.ret u), z =>
    obtain ⟨v, H2, I2, rv, q⟩ := I1.after z
    exact ⟨v, H2, I2, rv, hQ _ _ q⟩
  | .ok .next, z => exact z.elim
  | .ok .brk, z => exact z.elim
  | .ok .cont, z => exact z.elim
/-! ### errors that were caught -/
/-- at a stands a caught error of the class at C whose own dict holds fs -/
def Met (H : Hp) (a C : Addr) (fs : List (Str × V)) : Prop := ∃ d, H a = some (exk a (.ref C) (some d)) ∧ H d = some (.xd fs)
theorem Met.same {H H' : Hp} {a C : Addr} {fs : List (Str × V)} (s : Same H H') (h : Met H a C fs) : Met H' a C fs := h.imp fun _ z => ⟨s _ _ z.1, s _ _ z.2⟩
section
variable {X : Cx} {pins : List (Addr × Obj)} {σ : L2.St} {H : Hp} {s : Shared} {a C : Addr} {fs : List (Str × V)}
theorem met_at (I : Inv X pins σ H s) (h : Met H a C fs) : ∃ ox od, PySem.W.InstAt s.heap a ox C (some od) ∧ ∃ mA : Str → Option Value, (∀ name, PySem.W.lookIn name od = some (mA name)) ∧ ∀ f, RelO (fs.lookup f) (mA f) := by
  obtain ⟨d, h1, h2⟩ := h
  obtain ⟨o, vs, e1, z1, f1⟩ := exk_at I.hok h1
  obtain ⟨mA, hn, hr⟩ : ∃ mA, s.heap.Ns1 d mA ∧ ∀ f, RelO (fs.lookup f) (mA f) := I.hok d _ h2
  obtain ⟨od, ho, hl⟩ := lookIn_ns hn
  exact ⟨o, od, ⟨e1, z1.1, by unfold PySem.W.notCls; rw [f1] <;> rfl, by rw [z1.2]; exact ho⟩, mA, hl, hr⟩
/-- e.n of a caught error -/
def tMv (K : PySem.W.Frag) (n : Str) (te : TE) : TE := fun σ H Q => te σ H fun x H1 => ∃ a C fs v, x = .ref a ∧ Met H1 a C fs ∧ XfC K C ∧ PySem.W.findIn K (.ref C) n = some none ∧ fs.lookup n = some v ∧ Q v H1
theorem pe_mv {e : Expr} {te : TE} {pos : Pos} {n : Str} (he : PE X e te) (hb : attributeBase e n X.env (eval e X.env) = eval e X.env := by rfl) : PE X (.Attribute e n pos) (tMv X.K n te) := by
  constructor
  intro pins s σ H Q I h
  refine attr_of hb (thn (he.run pins s σ H _ I h) fun u s1 ⟨x, H1, I1, rx, a, C, fs, v, ex, hE, T, hno, l, q⟩ => ?_)
  subst ex
  obtain rfl : u = Value.ref a := rx
  obtain ⟨ox, od, J, mA, hl, hr⟩ := met_at I1 hE
  obtain ⟨u, hu, ru⟩ := RelO.some_of (v := v) (o := mA n) (l ▸ hr n)
  exact HandSPX.exc_get I1.kIn J T.ga T.gg T.exC (PySem.W.findObj_own T.hdC hno rfl (by rw [hl, hu])) (handed_of ru) ⟨v, H1, I1.tok _, ru, q⟩
/-- isinstance(x, c) of a caught error -/
def rIsM (K : PySem.W.Frag) : List V → Hp → VK → Prop := fun xs H Q => ∃ (a C : Addr) (fs : List (Str × V)) (c : V) (cv : Value) (b b' : Bool), xs = [.ref a, c] ∧ Met H a C fs ∧ ExcC K C ∧ PySem.W.kitCls K (.ref C) (.ref C) = some b' ∧ ClsV c cv ∧ PySem.W.kitOne K (.ref C) cv = some b ∧ Q (.bl b) H
theorem call_isM {X : Cx} : CallR X (.builtin "isinstance") (rIsM X.K) := by
  intro pins s σ H xs us Q I r h
  obtain ⟨a, C, fs, c, cv, b, b', rfl, hE, T, self, hc, e, q⟩ := h
  match us, r with
  | [u1, u2], .cons r1 (.cons r2 .nil) =>
    obtain rfl : u1 = Value.ref a := r1
    obtain rfl : u2 = cv := hc.eq r2
    obtain ⟨ox, od, J, _⟩ := met_at I hE
    exact PySem.W.kia_one (kit_err T self) I.kIn ⟨ox, od, J⟩ e (fun z => nomatch z) fun tk => ⟨.bl b, H, I.tok tk, rfl, q⟩
end
end TT

set_option Elab.async false
set_option linter.all false
set_option maxRecDepth 100000
set_option maxHeartbeats 4000000
/-! What the laws of our program share: defs that make lambdas, the errors' classes, the end of a law whose defs make lambdas. -/
namespace TT
open PySem PySem.Spec PyProof.Rows L2 LamX
/-! ### defs that make lambdas: their code object is known -/
structure FunC (K : PySem.W.Frag) (x qual : Str) (st : Stmt) (f : Addr) (fd : FuncData) (c : Addr) : Prop where
  ex : ∃ (oc : Value) (od : Option Addr) (kV doc pm : Value) (an : Option Addr) (ct : Value) (osl : Array (Option Value)),
    fd = PySem.W.fnOf x qual (defArgs st) (defBody st) (defScope st) .none kV doc pm an (.ref c) ct ∧ K.lookup f = some ⟨oc, od, .func fd, osl⟩ ∧ PySem.W.codeIn K (.ref c) qual = true
  kp : PySem.W.keepIn K (.ref f) = true
section
variable {P : Program} {w : World} {K : PySem.W.Frag} {mg : Str → Option Value} {base : Heap} {x qual : Str} {st : Stmt} {f c : Addr} {fd : FuncData} {N ps : List Str} {k : Nat} {sp : Sp}
theorem FunC.fn (F : FunC K x qual st f fd c) : Fun K x qual st f fd := by
  obtain ⟨oc, od, kV, doc, pm, an, ct, osl, e, l, h⟩ := F.ex
  exact ⟨⟨oc, od, kV, doc, pm, an, .ref c, ct, osl, e, l, h⟩, F.kp⟩
theorem okGC (F : FunC K x qual st f fd c) (S : FnScope N ps (defScope st)) (size : ∀ vs H Q E, sp vs H Q E → vs.length = ps.length)
    (hb : ∀ (A : Around) (outer : List Env) (s : Shared) (H : Hp) (vs : List V) (Q : VK) (E : XK), A.guards = some [] → Room k (A.deeper (envOfC qual (defScope st) s.heap.objs.size f (.ref c))) → sp vs H Q E →
      ∃ t, PSs (cxOf CX0 P w K mg base N qual (defScope st) f (.ref c) A outer s H E).nox (defBody st) t ∧ t { nx := fun _ H1 => Q .non H1, rt := Q } (start N vs) H) : GOk P w K mg base CX0 (k + 1) f fd ps sp := by
  obtain ⟨oc, od, kV, doc, pm, an, ct, osl, rfl, lk, hcd⟩ := F.ex
  refine g_of lk hcd S size fun A outer s H vs Q E g hr hsp => ?_
  obtain ⟨t, h, q⟩ := hb A outer s H vs Q E g hr hsp
  exact ⟨t, h.nox, q⟩
end
/-- a def that lets errors out, called where it lets none out -/
theorem passF {P : Program} {w : World} {X : Cx} : Passes (L2.CX P w) X E0 := fun _ _ _ _ _ _ _ h => by
  obtain ⟨_, _, _, _, _, _, _, _, _, _, _, _, z⟩ := h
  exact z.elim
/-- o(..), o an instance of the class at C -/
def tCallI (C : Addr) (sp : Sp) (E : XK) (tf : TE) (t : TA) : TE := fun σ H Q => tf σ H fun y H1 => ∃ a, y = V.ref a ∧ t σ H1 fun vs H2 => (∃ dx fs, H2 a = some (.ins C dx fs)) ∧ sp (V.ref a :: vs) H2 Q E
theorem pe_callI {X : Cx} {CX : CXT} {k : Nat} {g C : Addr} {sp : Sp} {E : XK} {fe e : Expr} {es : List Expr} {tf : TE} {t : TA} {pos : Pos} (hf : PE X fe tf) (c : StX.CallO X.K C g) (F : FnR X.prog X.w X.K X.mg X.base CX k g sp) (hr : Room k X.A) (hx : Passes CX X E) (ha : PA X (e :: es) t)
    (ht : eval (.Call fe (e :: es) [] pos) X.env = (do callWith pos (← eval fe X.env) [] (backTo pos (starEach (e :: es) X.env)) (backToKw pos (keywordEach [] X.env))) := by rfl)
    (he : starEach (e :: es) X.env = (false, eval e X.env) :: starEach es X.env := by rfl) (hpl : (backTo pos (starEach es X.env)).any (·.1) = false := by rfl) : PE X (.Call fe (e :: es) [] pos) (tCallI C sp E tf t) := by
  constructor
  intro pins s σ H Q I h
  refine Call_ (thn (hf.run pins s σ H _ I h) fun u s1 z => ?_) ht
  obtain ⟨_, H1, I1, ru, a, rfl, q⟩ := z
  obtain rfl : u = .ref a := ru
  refine StX.callO_with (thn (ha.run pos pins s1 σ H1 _ I1 q) fun us s2 z => ?_) he hpl
  obtain ⟨vs, H2, I2, rv, inst, q2⟩ := z
  have at2 : StX.InsC X H2 a C := .inr inst
  obtain ⟨ox, od, J, plain⟩ := StX.insC_at I2 at2
  exact ⟨⟨C, ox, od, J, plain⟩, StX.run_callO c F hr hx I2 at2 rv q2⟩
/-- what a lambda in the def q is called -/
def lamN (q : Str) : Str := (q ++ ".<locals>.") ++ "<lambda>"
/-! ### the errors' classes -/
/-- the chain of each error's class behind itself -/
def chain (cE C : Addr) : List Value := (if C = cE then [] else [.ref cE]) ++ [.type "ValueError", .type "Exception", .type "BaseException", .type "object"]
structure ExcT (K : PySem.W.Frag) (cE fI C : Addr) : Prop where
  ox : OexC K C
  xf : XfC K C
  ec : ExcC K C
  ini : PySem.W.findIn K (.ref C) "__init__" = some (some (.ref fI))
  nv : PySem.W.findIn K (.ref C) "value" = some none
  sub : ∀ b, PySem.W.subIn K (.ref C) b = some ((Value.ref C :: chain cE C).contains b)
  is : ((PySem.W.clsIn K C).isSome && PySem.W.typeIn K (.ref C) == some (.type "type")) = true
section
variable {K : PySem.W.Frag} {cE fI C D : Addr}
theorem ExcT.kit (a : ExcT K cE fI C) (b : ExcT K cE fI D) (h : C ≠ D) : PySem.W.kitOne K (.ref C) (.ref D) = some (decide (D = cE)) := by
  have n1 : (Value.ref C == Value.ref D) = false := by simpa using h
  unfold PySem.W.kitOne
  rw [n1, if_neg Bool.false_ne_true]
  unfold PySem.W.kitCls
  dsimp only
  rw [if_pos b.is, a.sub]
  congr 1
  unfold chain
  have n2 : ¬ D = C := fun e => h e.symm
  by_cases c : C = cE
  · subst c
    rw [if_pos rfl, decide_eq_false n2]
    simp [n2]
  · rw [if_neg c]
    by_cases e : D = cE
    · subst e
      simp
    · rw [decide_eq_false e]
      simp [e, n2]
theorem ExcT.self (a : ExcT K cE fI C) : PySem.W.kitOne K (.ref C) (.ref C) = some true := by
  unfold PySem.W.kitOne
  rw [if_pos (beq_iff_eq.mpr rfl)]
theorem ExcT.selfC (a : ExcT K cE fI C) : PySem.W.kitCls K (.ref C) (.ref C) = some true := by
  unfold PySem.W.kitCls
  dsimp only
  rw [if_pos a.is, a.sub]
  congr 1
  simp
/-- it is caught as a TuneError -/
theorem ExcT.exm (a : ExcT K cE fI C) (b : ExcT K cE fI cE) : PySem.W.exmOne K (.ref C) (.ref cE) = some true := by
  refine PySem.W.exm_ref b.ox.exC b.xf.hdC b.ox.tyC ?_
  rw [a.sub]
  congr 1
  unfold chain
  by_cases c : C = cE
  · subst c; simp
  · rw [if_neg c]; simp
structure ExcF (K : PySem.W.Frag) (cE fI C : Addr) : Prop where
  cls : ∃ nm q N bs sn sub ab col dd k0 k1 k2 k3 k5, K.lookup C = some (excClassObj nm q C N bs (chain cE C) true sn sub ab col dd k0 k1 k2 k3 k5 "ValueError.__new__")
  sa : PySem.W.findIn K (.ref C) "__setattr__" = some (some (.builtin "object.__setattr__"))
  tyC : PySem.W.typeIn K (.ref C) = some (.type "type")
  kC : PySem.W.keepIn K (.ref C) = true
  ga : PySem.W.findIn K (.ref C) "__getattribute__" = some (some (.builtin "BaseException.__getattribute__"))
  gg : PySem.W.findIn K (.ref C) "__getattr__" = some none
  ha : PySem.W.findIn K (.ref C) "__class__" = some (some (.builtin "object.__class__"))
  ini : PySem.W.findIn K (.ref C) "__init__" = some (some (.ref fI))
  nv : PySem.W.findIn K (.ref C) "value" = some none
theorem excF_mk {nm q : Str} {N : Addr} {bs bm : List Value} {sn : List Str} {sub : List Value} {ab : Bool} {col : Option Bool} {dd : Option Addr} {k0 k1 k2 k3 k5 : Option Value}
    (xL : K.lookup C = some (excClassObj nm q C N bs bm true sn sub ab col dd k0 k1 k2 k3 k5 "ValueError.__new__")) (hb : bm = chain cE C)
    (sa : PySem.W.findIn K (.ref C) "__setattr__" = some (some (.builtin "object.__setattr__"))) (tyC : PySem.W.typeIn K (.ref C) = some (.type "type")) (kC : PySem.W.keepIn K (.ref C) = true)
    (ga : PySem.W.findIn K (.ref C) "__getattribute__" = some (some (.builtin "BaseException.__getattribute__"))) (gg : PySem.W.findIn K (.ref C) "__getattr__" = some none)
    (ha : PySem.W.findIn K (.ref C) "__class__" = some (some (.builtin "object.__class__"))) (ini : PySem.W.findIn K (.ref C) "__init__" = some (some (.ref fI))) (nv : PySem.W.findIn K (.ref C) "value" = some none) : ExcF K cE fI C :=
  ⟨⟨nm, q, N, bs, sn, sub, ab, col, dd, k0, k1, k2, k3, k5, hb ▸ xL⟩, sa, tyC, kC, ga, gg, ha, ini, nv⟩
theorem chain_has (cE C : Addr) (b : Value) (h : b ∈ ([.type "ValueError", .type "Exception", .type "BaseException", .type "object"] : List Value)) : (Value.ref C :: chain cE C).contains b = true := by
  rw [List.contains_iff_mem]
  exact List.mem_cons_of_mem _ (List.mem_append_right _ h)
theorem ExcF.all (a : ExcF K cE fI C) (zget : PySem.W.specialIn K (.builtin "object.__class__") "__get__" = some (some (.builtin "getset_descriptor.__get__"))) (ztk : PySem.W.takesIn K (.builtin "object.__class__") = some true) : ExcT K cE fI C := by
  obtain ⟨nm, q, N, bs, sn, sb, ab, col, dd, k0, k1, k2, k3, k5, xL⟩ := a.cls
  have cl : PySem.W.clsIn K C = some { name := nm, bases := bs, mro := Value.ref C :: chain cE C, ns := N, qualname := q, hasDict := true, slotNames := sn, subclasses := sb, abstract := ab, collection := col } := by
    unfold PySem.W.clsIn
    rw [xL]
  have sub : ∀ b, PySem.W.subIn K (.ref C) b = some ((Value.ref C :: chain cE C).contains b) := fun b => by
    unfold PySem.W.subIn
    dsimp only
    unfold PySem.W.mroIn
    rw [cl]
    rfl
  have hd : PySem.W.hasDictIn K C = true := by
    unfold PySem.W.hasDictIn
    rw [cl]
    rfl
  have be : PySem.W.subIn K (.ref C) (.type "BaseException") = some true := by rw [sub, chain_has cE C _ (by simp)]
  have ob : PySem.W.subIn K (.ref C) (.type "object") = some true := by rw [sub, chain_has cE C _ (by simp)]
  exact {
    ox := ⟨⟨nm, q, N, bs, _, sn, sb, ab, col, dd, k0, k1, k2, k3, k5, xL, by
      unfold chain
      by_cases c : C = cE
      · rw [if_pos c]
        decide +kernel
      · rw [if_neg c]
        rfl⟩, a.sa, be, a.tyC, a.kC⟩
    xf := ⟨a.ga, a.gg, be, hd⟩
    ec := ⟨a.ga, a.gg, be, hd, a.ha, zget, ztk, ob⟩
    ini := a.ini
    nv := a.nv
    sub := sub
    is := by rw [cl, a.tyC] <;> rfl }
end
theorem nd_at {l : List Addr} (h : l.Nodup) {i j : Nat} (hi : i < l.length) (hj : j < l.length) (e : l.getD i 0 = l.getD j 0) : i = j := by
  rw [List.getD_eq_getElem?_getD, List.getD_eq_getElem?_getD, List.getElem?_eq_getElem hi, List.getElem?_eq_getElem hj] at e
  have pw := List.pairwise_iff_getElem.mp h
  have e' : l[i] = l[j] := e
  rcases Nat.lt_trichotomy i j with c | c | c
  · exact absurd e' (pw i j hi hj c)
  · exact c
  · exact absurd e'.symm (pw j i hj hi c)
/-! ### heaps in which tables may have grown -/
theorem ExtN.same {H H' : Hp} (s : Same H H') : ExtN H H' := fun b o e _ => s b o e
theorem ExtN.seq {K : PySem.W.Frag} {H H' : Hp} {a : Addr} {xs : List V} (e : ExtN H H') (h : SqL K H a xs) : SqL K H' a xs := by
  rcases h with (h | ⟨o, h⟩) | h
  · exact .inl (.inl (e _ _ h fun ps z => by cases z))
  · exact .inl (.inr ⟨o, e _ _ h fun ps z => by cases z⟩)
  · exact .inr h
/-! ### the end of a law's row whose defs make lambdas -/
/-- the script and the empty tables are tracked -/
def seenT (a : Addr) (ob : Obj) (ns : List Int) (own : Bool) (ts : List Addr) : Hp := fun b => if own = false ∧ b = a then some (.frz ob (.lst (ns.map V.int))) else if b ∈ ts then some (.tbl #[]) else none
/-- .. or: each tracked thing is the script or a table -/
theorem seenT_is {a b : Addr} {ob : Obj} {ns : List Int} {own : Bool} {ts : List Addr} {u : HO} (h : seenT a ob ns own ts b = some u) : (own = false ∧ b = a ∧ u = .frz ob (.lst (ns.map V.int))) ∨ (b ∈ ts ∧ u = .tbl #[]) := by
  unfold seenT at h
  split at h
  · rename_i c
    cases h
    exact .inl ⟨c.1, c.2, rfl⟩
  · split at h
    · rename_i c
      cases h
      exact .inr ⟨c, rfl⟩
    · cases h
abbrev tab0 : Obj := { cls := .none, data := .fields #[] }
theorem run_lawT {P : Program} {w : World} {K : PySem.W.Frag} {mg mb : Str → Option Value} {k : Nat} {fa a : Addr} {fd : FuncData} {x : Str} {sp : Sp} {s : Shared} {vs : List Value} {ns : List Int} {cs : List (Addr × Addr)}
    (KX : K.In s.heap) (hns : s.heap.Ns mainGlobals mg) (hb : s.heap.Ns builtinsNs mb) (hbb : ∀ x : Str, x ≠ "__name__" → mb x = bootBuiltins x) (lim : s.heap.NoLimit) (hg : s.gens = #[])
    (bmain : ∃ (bm : Addr) (ob : Obj), mg "__builtins__" = some (.ref bm) ∧ bm ≠ builtinsNs ∧ s.heap.get? bm = some ob ∧ ob.cls = .type "module" ∧ ob.dict = some builtinsNs ∧ ob.data = .plain)
    (tabs : ∀ p ∈ cs, s.heap.get? p.2 = some tab0) (codes : ∀ p ∈ cs, PySem.W.CodeHd s.heap p.1 p.2) (noT : PySem.W.noTabs K = true)
    (ha : s.heap.get? a = some { cls := .type "list", data := .seq vs.toArray }) (hi : IntsAre vs ns) (hl : ns.length ≤ sizeLine) (hr : Room k callerA)
    (F : ∀ base : Heap, K.In base → base.Ns mainGlobals mg → (∀ p ∈ cs, TabB base mg p.1 p.2) → GOk P w K mg base CX0 k fa fd [x] sp) (bnd : ∀ (s : Shared) (u : Value), BindsTo s fd ⟨[u], []⟩ [(x, u)])
    (hsp : ∀ H : Hp, (∀ p ∈ cs, H p.2 = some (.tbl #[])) → SqL K H a (ns.map V.int) → sp [.ref a] H (fun v _ => v = .bl true) fun _ _ _ => False) :
    codeAny (model P w) callerA (.call (.ref fa) ⟨[.ref a], []⟩) (fun r s1 => r = .ok (.ret (.bool true)) ∧ OldK s.heap s1.heap ∧ s1.os = s.os ∧ AllBare s1.gens) s := by
  have rv := vals_ints hi
  let ob : Obj := { cls := .type "list", data := .seq vs.toArray }
  have aT : a ∉ cs.map (·.2) := fun z => by
    obtain ⟨p, hp, e⟩ := List.mem_map.mp z
    have := (tabs p hp).symm.trans (e ▸ ha)
    cases this
  have ofT : ∀ b ∈ cs.map (·.2), s.heap.get? b = some tab0 := fun b hb => by
    obtain ⟨p, hp, rfl⟩ := List.mem_map.mp hb
    exact tabs p hp
  have KT : ∀ b ∈ cs.map (·.2), K.lookup b = none := fun b hb => by
    cases q : K.lookup b with
    | none => rfl
    | some o =>
      have e := (KX b o q).symm.trans (ofT b hb)
      cases e
      exact absurd (List.all_eq_true.mp noT _ (PySem.W.mem_of_lookupK q)) Bool.false_ne_true
  obtain ⟨own, hown⟩ : ∃ own : Bool, own = (K.lookup a).isSome := ⟨_, rfl⟩
  generalize hH : seenT a ob ns own (cs.map (·.2)) = H
  have is : ∀ b u, H b = some u → (own = false ∧ b = a ∧ u = .frz ob (.lst (ns.map V.int))) ∨ (b ∈ cs.map (·.2) ∧ u = .tbl #[]) := fun b u e => seenT_is (hH ▸ e)
  have atT : ∀ b ∈ cs.map (·.2), H b = some (.tbl #[]) := fun b m => by
    rw [← hH]
    unfold seenT
    rw [if_neg (fun z : own = false ∧ b = a => aT (z.2 ▸ m)), if_pos m]
  have hS : SqL K H a (ns.map V.int) := by
    cases q : K.lookup a with
    | some o =>
      have e := (KX a o q).symm.trans ha
      cases e
      exact .inr ⟨_, vs.toArray, _, q, rfl, rfl, rfl, by rw [List.size_toArray, hi.length]; exact hl, by simpa using rv⟩
    | none =>
      rw [q] at hown
      refine .inl (.inr ⟨ob, ?_⟩)
      rw [← hH]
      unfold seenT
      rw [if_pos ⟨hown, rfl⟩]
  have hok : HOk P w H s.heap := fun b u e => by
    rcases is b u e with ⟨_, rfl, rfl⟩ | ⟨m, rfl⟩
    · exact ⟨ha, by rw [List.length_map]; exact hl, vs, _, rv, ha⟩
    · exact ofT b m
  -- what is neither a list nor an empty record is not tracked
  have free : ∀ {b : Addr} {o : Obj}, s.heap.get? b = some o → (∀ xs n, o.data ≠ .seq xs n) → o.data ≠ .fields #[] → H b = none := fun {b o} e d1 d2 => by
    cases q : H b with
    | none => rfl
    | some u =>
      rcases is b u q with ⟨_, rfl, _⟩ | ⟨m, _⟩
      · cases e.symm.trans ha
        exact absurd rfl (d1 _ _)
      · cases e.symm.trans (ofT b m)
        exact absurd rfl d2
  have nsB : ∀ {b : Addr} {m : Str → Option Value}, s.heap.Ns b m → (hidT s.heap H).Ns b m := fun {b m} ⟨o, es, ep, e, d, r⟩ =>
    ⟨o, es, ep, hidT_get e (free e (fun _ _ z => by rw [d] at z; cases z) fun z => by rw [d] at z; cases z), d, r⟩
  have inK : K.In (hidT s.heap H) := fun b o e => hidT_get (KX b o e) (by
    cases q : H b with
    | none => rfl
    | some u =>
      rcases is b u q with ⟨z, rfl, _⟩ | ⟨m, _⟩
      · rw [e] at hown
        rw [hown] at z
        cases z
      · rw [KT b m] at e
        cases e)
  have TB : ∀ p ∈ cs, TabB (hidT s.heap H) mg p.1 p.2 := fun p hp => by
    obtain ⟨o, us, file, tf, flags, tg, inF, text, tt, e1, c1, c2, c3, rest⟩ := codes p hp
    obtain ⟨bm, om, b1, b2, b3, b4, b5, b6⟩ := bmain
    obtain ⟨og, eg, pg, g1, g2, _⟩ := id hns
    have pm : bm ≠ p.2 := fun z => by
      have := b3.symm.trans (z ▸ tabs p hp)
      cases this
      cases b6
    have gm : bm ≠ mainGlobals := fun z => by
      rw [z] at b3
      cases b3.symm.trans g1
      cases b6.symm.trans g2
    refine ⟨⟨o, us, file, tf, flags, tg, inF, text, tt, hidT_get e1 (free e1 (fun _ _ z => by rw [c2] at z; cases z) fun z => ?_), c1, c2, c3, rest⟩, ⟨bm, om, b1, b2, gm, pm, hidT_get b3 (free b3 (fun _ _ z => by rw [b6] at z; cases z) fun z => by rw [b6] at z; cases z), b4, b5, b6⟩, fun z => ?_⟩
    · rw [c2] at z
      cases z
      simp at c3
    · have := g1.symm.trans (z ▸ tabs p hp)
      cases this
      cases g2
  obtain ⟨mc, l1, l2⟩ := lim
  have e0 : Env0 P w K mg (hidT s.heap H) callerA [] s H :=
    { frames := rfl, mod := ⟨inK, nsB hns, ⟨mb, nsB hb, hbb⟩, ⟨mc, nsB l1, l2⟩⟩, bs := fun b o e => of_hidT e, bsz := Nat.le_of_eq (hidT_size _ _), funs := trivial, frf := fun b z => absurd (show b ∈ ([] : List Addr) from z) List.not_mem_nil, hok := hok, bare := .of_eq hg }
  refine codeAny_mono ((F _ inK (nsB hns) TB).go callerA [] s H ⟨[.ref a], []⟩ [.ref a] [.ref a] _ _ rfl hr e0 (bnd s (.ref a)) (.cons rfl .nil) (hsp H (fun p hp => atT _ (List.mem_map.mpr ⟨p, hp, rfl⟩)) hS)) fun r s1 z => ?_
  match r, z with
  | .error e, z => exact z.elim
  | .ok .next, z => exact z.elim
  | .ok .brk, z => exact z.elim
  | .ok .cont, z => exact z.elim
  | .ok (.ret u), z =>
    obtain ⟨v, H1, os, bare, un, hok1, r1, q⟩ := z
    subst q
    obtain rfl : u = Value.bool true := r1
    have stay : ∀ b o, b ∉ cs.map (·.2) → s.heap.get? b = some o → s1.heap.get? b = some o := fun b o nb e => by
      cases q : H b with
      | none => exact un.keep b o e q (fun z => absurd (show b ∈ ([] : List Addr) from z) List.not_mem_nil) List.not_mem_nil
      | some u =>
        rcases is b u q with ⟨_, rfl, rfl⟩ | ⟨m, _⟩
        · obtain ⟨e1, _⟩ := hok _ _ q
          obtain ⟨e2, _⟩ := hok1 _ _ (un.frzs _ _ _ q)
          cases e.symm.trans e1
          exact e2
        · exact absurd m nb
    have grown : ∀ p ∈ cs, ∃ more : Array Value, s1.heap.get? p.2 = some { cls := .none, data := .fields more } := fun p hp => by
      obtain ⟨more, q⟩ := un.tbls p.2 #[] (atT _ (List.mem_map.mpr ⟨p, hp, rfl⟩))
      exact ⟨_, hok1 p.2 _ q⟩
    refine ⟨rfl, ⟨fun b o e => ?_, fun b o e => ?_⟩, os, bare⟩
    · by_cases m : b ∈ cs.map (·.2)
      · obtain ⟨p, hp, rfl⟩ := List.mem_map.mp m
        obtain ⟨more, q⟩ := grown p hp
        cases e.symm.trans (tabs p hp)
        exact .inr (.inl ⟨((codes p hp).tab (tabs p hp)).isCodeTable, rfl, #[], more, rfl, by rw [Array.empty_append]; exact q⟩)
      · exact .inl (stay b o m e)
    · by_cases m : b ∈ cs.map (·.2)
      · obtain ⟨p, hp, rfl⟩ := List.mem_map.mp m
        obtain ⟨more, q⟩ := grown p hp
        exact ⟨_, q⟩
      · exact ⟨o, stay b o m e⟩
/-- the def's code object and its table, by the top -/
theorem tab_at {p : Program} {h : Heap} {K : PySem.W.Frag} {mg : Str → Option Value} {x : Str} {f : Addr} {oc : Value} {od : Option Addr} {fd : FuncData} {sl : Array (Option Value)}
    (tab : ∀ d ∈ recsOf p, ∃ a o fd c P, mg d.name = some (.ref a) ∧ h.get? a = some o ∧ o.data = .func fd ∧ fd.code = .ref c ∧ h.IsCode c P #[] ∧ h.TableAt c P #[]) (X : K.In h) (hx : ((recsOf p).any fun d => d.name == x) = true) (hm : mg x = some (.ref f))
    (lk : K.lookup f = some ⟨oc, od, .func fd, sl⟩) : ∃ c P, fd.code = .ref c ∧ PySem.W.CodeHd h c P ∧ h.get? P = some tab0 := by
  obtain ⟨d, hd, e⟩ := List.any_eq_true.mp hx
  obtain rfl : d.name = x := beq_iff_eq.mp e
  obtain ⟨a, o, fd2, c, P, h1, h2, h3, h4, h5, h6⟩ := tab d hd
  cases hm.symm.trans h1
  cases h2.symm.trans (X _ _ lk)
  cases h3
  exact ⟨c, P, h4, PySem.W.CodeHd.of h5 h6, h6.2⟩
theorem walk_gT {l : PySem.W.OpenLaw} {n k : Nat} {q : Program} {loose : List Str} {XP : (Str → Option Value) → Heap → Prop} {YP : World → Heap → Prop} {d : DefRec} {K : Params → PySem.W.Frag} {x : Str}
    (hn : l.most = some n) (hn2 : n ≤ sizeLine) (hdf : d.params.defaults = []) (hr : Room k callerA) (hY : ∀ (w : World) (h : Heap), YP w h → (K w.params).In h) (noT : ∀ w : World, PySem.W.noTabs (K w.params) = true)
    (F : ∀ (w : World) (mg : Str → Option Value) (fa : Addr) (h : Heap), (K w.params).In h → h.Ns mainGlobals mg → mg d.name = some (.ref fa) →
      (∀ d ∈ recsOf q, ∃ a o fd c P, mg d.name = some (.ref a) ∧ h.get? a = some o ∧ o.data = .func fd ∧ fd.code = .ref c ∧ h.IsCode c P #[] ∧ h.TableAt c P #[]) →
      ∃ (fd : FuncData) (cs : List (Addr × Addr)) (sp : Sp), (∀ p ∈ cs, PySem.W.CodeHd h p.1 p.2 ∧ h.get? p.2 = some tab0) ∧ (∀ (s : Shared) (u : Value), BindsTo s fd ⟨[u], []⟩ [(x, u)]) ∧
        (∀ (H : Hp) (a : Addr) (ns : List Int), ns.length ≤ n → (∀ p ∈ cs, H p.2 = some (.tbl #[])) → SqL (K w.params) H a (ns.map V.int) → sp [.ref a] H (fun v _ => v = .bl true) fun _ _ _ => False) ∧
        ∀ base : Heap, (K w.params).In base → base.Ns mainGlobals mg → (∀ p ∈ cs, TabB base mg p.1 p.2) → GOk l.prog w (K w.params) mg base CX0 k fa fd [x] sp) :
    PySem.W.WalkO q loose XP YP l.row.toRowW d [] (fun f vs => PySem.call f vs) :=
  Att.attach_call hn hdf fun w s₀ s₁ mg mb fa o pm cd doc a vs ns G Y ho hd hcd hmg hobj hints hlen hg => by
    obtain ⟨fd, cs, sp, ht, hb, hsp, hF⟩ := F w mg fa _ (hY w _ Y) G.T.g hmg G.T.tab
    exact run_lawT (hY w _ Y) G.T.g G.T.b G.T.builtins G.T.nolimit hg G.T.bmain (fun p hp => (ht p hp).2) (fun p hp => (ht p hp).1) (noT w) hobj hints (Nat.le_trans hlen hn2) hr hF hb fun H hT hS => hsp H a ns hlen hT hS
end TT

set_option Elab.async false
set_option linter.all false
set_option maxRecDepth 100000
set_option maxHeartbeats 4000000
/-! list(range(a, b)) with ends of any size. -/
namespace TT
open PySem PySem.Spec PyProof.Rows L2
section
variable {prog : Program} {w : World} {A : Around} {E : Value → Shared → Prop} {s : Shared}
/-- the list at S takes what the range at r yields, by the iterator for great ends -/
theorem take_long {R : Result → Shared → Prop} {r S : Addr} {a b c : Int} {t u v : Tok} {n k0 : Nat} {res : Value} (hh : A.handled = none) (hr : IsRange s.heap r a b c t u v) (big : Builtin.Range.small a b c = false) (hn : Builtin.Range.rangeSize a b c = n) (hl : n ≤ 2 ^ 24)
    (hS : s.heap.get? S = some { cls := .type "list", data := .seq #[] k0 })
    (done : ∀ h' tk its k, (∀ x o, x ≠ S → s.heap.get? x = some o → h'.get? x = some o) → h'.get? S = some { cls := .type "list", dict := none, data := .seq its k, slots := #[] } → ItemsOf (fun i y => ∃ t, y = .int (a + i * c) t) its n → R (.ok (.ret res)) { s with heap := h', toks := tk }) :
    wpAny (model prog w) A.in1 (Builtin.List.listExtendWith (.ref S) (.ref r) res)
      (fun fin s1 => match fin with | .done f => R (.ok f) s1 | .again c1 => c1.quiet = true ∧ codeAny (model prog w) A c1 R s1) (fun e s1 => R (.error e) s1) s := by
  have apart : S ≠ r := by
    rintro rfl
    have z := congrArg (fun o => o.map Obj.cls) (hr.symm.trans hS)
    simp at z
  have below : S < s.heap.objs.size := Heap.lt_size hS
  have notI : S ≠ s.heap.objs.size := Nat.ne_of_lt below
  have walk := (Walks.longrange (prog := prog) (w := w) (A := A.in1) hh s.heap.objs.size a c n).toS
  have loop : ∀ (h : Heap) (k tk : Nat), IsLongIter h s.heap.objs.size (a + ((0 : Nat) : Int) * c) ((n : Int) - ((0 : Nat) : Int)) c → (∀ x o, x ≠ S → s.heap.get? x = some o → h.get? x = some o) →
      h.get? S = some { cls := .type "list", data := .seq #[] k } → codeAny (model prog w) A (.builtin "list.extend.loop" ⟨[.ref S, .ref s.heap.objs.size, res], []⟩) R { s with heap := h, toks := tk } := fun h k tk it old atS => by
    refine codeAny_extend_loopS walk (by rw [sizeLine_eq]; omega) S (fun m => notI (List.mem_singleton.mp m)) res n 0 _ #[] k rfl (Nat.zero_le _) it atS (ItemsOf.nil _) fun s1 its k1 mv at1 all => ?_
    rw [Moved.eq_with mv]
    refine done s1.heap s1.toks its k1 (fun x o nx e => mv.heap x o (fun m => ?_) (old x o nx e)) at1 all
    rcases List.mem_cons.mp m with z | z
    · exact nx z
    · have lt := Heap.lt_size e
      rw [List.mem_singleton.mp z] at lt
      exact Nat.lt_irrefl _ lt
  have n1 : Builtin.List.listSameRef (.ref S) (.ref r) = false := by simp [Builtin.List.listSameRef, apart]
  have n2 : (Value.type "range" == Value.type "list") = false := by decide
  have n3 : (Value.type "range" == Value.type "tuple") = false := by decide
  unfold Builtin.List.listExtendWith
  refine wpAny_bind (wpAny_typeOf (T := "range") ⟨_, hr, rfl⟩ ?_)
  simp only [n1, n2, n3, Bool.or_false, Bool.false_eq_true, if_false]
  refine wpAny_bind (wpAny_pyIter_longrange hr big (wpAny_bind (wpAny_holding (wpAny_hint_range (n := n) (Heap.get?_push_of_some _ hr) hn hl ?_))))
  have it1 : IsLongIter (s.heap.push { cls := .type "longrange_iterator", data := .fields #[rawInt a, rawInt (Builtin.Range.rangeSize a b c), rawInt c] }) s.heap.objs.size (a + ((0 : Nat) : Int) * c) ((n : Int) - ((0 : Nat) : Int)) c := by
    rw [hn]
    simpa using Heap.get?_push_size _ rfl
  have S1 := Heap.get?_push_of_some { cls := .type "longrange_iterator", data := .fields #[rawInt a, rawInt (Builtin.Range.rangeSize a b c), rawInt c] } hS
  refine wpAny_ite_split (fun _ => ?_) (fun _ => wpAny_pure ⟨plainId_quiet F.plain_extend_loop _, loop _ k0 _ it1 (fun _ _ _ e => Heap.get?_push_of_some _ e) S1⟩)
  refine wpAny_bind (wpAny_rule (wpAny_bind ?_))
  show wpAny _ _ (updateSeq S (·.push .none) >>= fun _ => updateSeq S (·.pop)) _ _ _
  have S2 := Heap.get?_update_self (Obj.mapSeq (·.push Value.none)) S1 rfl
  refine wpAny_bind (wpAny_updateSeq S1 rfl (wpAny_updateSeq (hz := by seq_fits) S2 rfl ?_))
  have S3 := Heap.get?_update_self (Obj.mapSeq (·.pop)) S2 rfl
  refine wpAny_pure ⟨plainId_quiet F.plain_extend_loop _, loop _ _ _ ?_ (fun x o nx e => ?_) S3⟩
  · exact (Heap.get?_update_other _ _ notI).trans ((Heap.get?_update_other _ _ notI).trans it1)
  · exact (Heap.get?_update_other _ _ (Ne.symm nx)).trans ((Heap.get?_update_other _ _ (Ne.symm nx)).trans (Heap.get?_push_of_some _ e))
theorem list_long {Q : Value → Shared → Prop} {r : Addr} {a b c : Int} {t u v : Tok} {n : Nat} (hh : A.handled = none) (hr : IsRange s.heap r a b c t u v) (big : Builtin.Range.small a b c = false) (hn : Builtin.Range.rangeSize a b c = n) (hl : n ≤ 2 ^ 24)
    (done : ∀ h' tk its k, (∀ x o, s.heap.get? x = some o → h'.get? x = some o) → h'.get? s.heap.objs.size = some { cls := .type "list", dict := none, data := .seq its k, slots := #[] } → ItemsOf (fun i y => ∃ t, y = .int (a + i * c) t) its n → Q (.ref s.heap.objs.size) { s with heap := h', toks := tk }) :
    wpAny (model prog w) A (call (.type "list") [.ref r]) Q E s := by
  refine callType_codes (Q₁ := fun obj s1 => obj = .ref s.heap.objs.size ∧ s1 = { s with heap := s.heap.push { cls := .type "list", data := .seq #[] } }) F.called_list (F.typeCall_list_1 _) F.entry_list_init (code_list_new _ ⟨rfl, rfl⟩) fun obj s1 ⟨e1, e2⟩ => ?_
  subst e1 e2
  have S0 : (s.heap.push { cls := .type "list", data := .seq #[] }).get? s.heap.objs.size = some { cls := .type "list", data := .seq #[] } := Heap.get?_push_size _ rfl
  have r0 := Heap.get?_push_of_some { cls := .type "list", data := .seq #[] } hr
  refine ⟨⟨_, S0, rfl⟩, F.args_list_init_2 _ _, ?_⟩
  have apart : r ≠ s.heap.objs.size := Nat.ne_of_lt (Heap.lt_size hr)
  show wpAny _ _ (do let old ← Builtin.List.listItems (.ref s.heap.objs.size); Builtin.List.listUpdate (.ref s.heap.objs.size) (fun _ => #[]); letGo old.toList.reverse; Builtin.List.listExtendWith (.ref s.heap.objs.size) (.ref r) .none) _ _ _
  refine wpAny_bind ?_
  unfold Builtin.List.listItems
  refine wpAny_bind (wpAny_seqItems S0 rfl (wpAny_pure ?_))
  show wpAny _ _ (updateSeq s.heap.objs.size (fun _ => #[]) >>= fun _ => letGo (#[] : Array Value).toList.reverse >>= fun _ => Builtin.List.listExtendWith (.ref s.heap.objs.size) (.ref r) .none) _ _ _
  refine wpAny_bind (wpAny_updateSeq S0 rfl (wpAny_bind (wpAny_letGo ?_)))
  have off : ∀ {x : Addr} {f : Obj → Obj}, x ≠ s.heap.objs.size → ((s.heap.push { cls := .type "list", data := .seq #[] }).update s.heap.objs.size f).get? x = (s.heap.push { cls := .type "list", data := .seq #[] }).get? x := fun nx => Heap.get?_update_other _ _ (Ne.symm nx)
  refine take_long (A := A.in1) (s := { s with heap := (s.heap.push { cls := .type "list", data := .seq #[] }).update s.heap.objs.size (Obj.mapSeq (fun _ => (#[] : Array Value))) }) (S := s.heap.objs.size) hh ((off apart).trans r0) big hn hl (Heap.get?_update_self (Obj.mapSeq (fun _ => (#[] : Array Value))) S0 rfl) fun h' tk its k old at1 all => ?_
  refine ⟨rfl, done h' tk its k (fun x o e => ?_) at1 all⟩
  have nx := Nat.ne_of_lt (Heap.lt_size e)
  exact old x o nx ((off nx).trans (Heap.get?_push_of_some _ e))
end
section
variable {X : Cx} {e : Expr} {te : L2.St → Hp → (Int → Int → Hp → Prop) → Prop}
def tLstRgW (te : L2.St → Hp → (Int → Int → Hp → Prop) → Prop) : TE := fun σ H Q => te σ H fun a b H1 => (b - a).toNat ≤ 2 ^ 24 ∧ ∀ q, H1 q = none → Q (.ref q) (upd H1 q (.lst (rgV a b)))
theorem pe_listRgW {p pos : Pos} (hc : X.calm = true) (hg : Gl X "list") (hm : X.mg "list" = none) (he : PRg X e te) (na : starEach [e] X.env = (false, eval e X.env) :: starEach [] X.env := by rfl) : PE X (.Call (.Name "list" p) [e] [] pos) (tLstRgW te) := by
  constructor
  intro pins s σ H Q I h
  refine Call_ (ld_blt I hg hm boot_list (PyProof.Rows.callWith_type1 (args_cons (thn (he pins s σ H _ I h) fun x s1 ⟨r, a, b, t, u, v, H1, ex, hr, I1, ok, q⟩ => args_nil ?_) na) na))
  subst ex
  have fin : ∀ h' tk its k, (∀ x o, s1.heap.get? x = some o → h'.get? x = some o) → h'.get? s1.heap.objs.size = some { cls := .type "list", dict := none, data := .seq its k, slots := #[] } → ItemsOf (fun i y => ∃ t, y = .int (a + i * 1) t) its (b - a).toNat →
      EP X pins σ Q (.ref s1.heap.objs.size) { s1 with heap := h', toks := tk } := fun h' tk its k old at1 all => by
    refine ⟨.ref s1.heap.objs.size, upd H1 s1.heap.objs.size (.lst (rgV a b)), I1.laid old (Nat.le_refl _) (show ObjOk X.prog X.w _ _ _ (.lst (rgV a b)) from ⟨?_, its.toList, k, vals_rg all, ?_⟩), rfl, q _ (I1.hok.fresh (Nat.le_refl _))⟩
    · rw [rgV_length, sizeLine_eq]
      omega
    · rw [Array.toArray_toList]
      exact at1
  by_cases sm : Builtin.Range.small a b 1 = true
  · exact call_list_range (I1.ok.hd hc) hr sm (rangeSize_nat a b) ok fin
  · exact list_long (I1.ok.hd hc) hr (by simpa using sm) (rangeSize_nat a b) ok fin
end
end TT

set_option Elab.async false
set_option linter.all false
set_option maxRecDepth 100000
set_option maxHeartbeats 4000000
/-! An own operation of two things of one own class. -/
namespace TT
open PySem PySem.Spec PyProof.Rows L2 LamX
/-- x op y, both instances of the class at C; what comes out is a thing -/
def rBinO (C : Addr) (sp : Sp) (E : XK) : R2 := fun x y H Q => ∃ a b, x = V.ref a ∧ y = V.ref b ∧ (∃ dx fs, H a = some (.ins C dx fs)) ∧ (∃ dx fs, H b = some (.ins C dx fs)) ∧ sp [.ref a, .ref b] H (fun v H' => (∃ c, v = V.ref c) ∧ Q v H') E
section
variable {X : Cx} {CX : CXT} {k : Nat} {f C : Addr} {fd : FuncData} {ps : List Str} {sp : Sp} {E : XK}
theorem op_binO {op : Operator} (F : FnOk X.prog X.w X.K X.mg X.base CX k f fd ps sp) (hr : Room k X.A) (hb : Binds X.K fd ps []) (hx : Passes CX X E) (hc : PySem.W.selfFirst X.K C = true)
    (hs : PySem.W.findIn X.K (.ref C) (PySem.dunder op.info.2) = some (some (.ref f))) (hf : PySem.W.isFn X.K (.ref f) = true) : OpR X (binaryOp op) (rBinO C sp E) := by
  intro pins s σ H x y v u Q I rx ry h
  obtain ⟨a, b, rfl, rfl, ⟨dx, fs, ha⟩, ⟨dy, gs, hb'⟩, hq⟩ := h
  obtain rfl : v = Value.ref a := rx
  obtain rfl : u = Value.ref b := ry
  obtain ⟨mA, O, _⟩ := ins_get I.hok ha
  obtain ⟨od, J, _⟩ := O.look
  obtain ⟨mB, O', _⟩ := ins_get I.hok hb'
  obtain ⟨od', J', _⟩ := O'.look
  obtain ⟨m, hF⟩ := I.fr
  refine PySem.W.binop_K hF I.ok.mod.kin J J'.type hc hs hf (wpAny_mono (run_fn (us := [.ref a, .ref b]) (vs := [.ref a, .ref b]) (dvs := []) (ds := []) F hr hb .nil hx I (.cons rfl (.cons rfl .nil)) hq) (fun v' s' z => ?_) fun _ _ z => z)
  obtain ⟨w', H', I', r', ⟨c, rfl⟩, q⟩ := z
  obtain rfl : v' = Value.ref c := r'
  exact ⟨.ref c, H', I', rfl, q⟩
end
end TT

set_option Elab.async false
set_option linter.all false
set_option maxRecDepth 100000
set_option maxHeartbeats 4000000
/-! max of a tuple of two ints; != of a list and []. -/
namespace TT
open PySem PySem.Spec PyProof.Rows L2 LamX
section
variable {X : Cx}
def rNeNil (K : PySem.W.Frag) : R2 := fun x y H Q => ∃ a b xs, x = .ref a ∧ y = .ref b ∧ SqL K H a xs ∧ SqL K H b [] ∧ Q (.bl (!xs.isEmpty)) H
theorem op_neNil (hu : X.A.units < cLine) : OpR X (compareOp .NotEq) (rNeNil X.K) := by
  intro pins s σ H x y v u Q I rx ry h
  obtain ⟨a, b, xs, rfl, rfl, ha, hb, q⟩ := h
  obtain rfl : v = Value.ref a := rx
  obtain rfl : u = Value.ref b := ry
  obtain ⟨its, rv, hl, _⟩ := I.list ha
  obtain ⟨its2, rv2, hl2, _⟩ := I.list hb
  cases rv2
  show wpAny (model X.prog X.w) X.A (richCompare .NotEq (.ref a) (.ref b)) (EP X pins σ Q) X.xe s
  cases rv with
  | nil => exact SeqAt.RcNeAt.lists (e := fun _ => true) hl.isList hl2.isList rfl hu (fun j h1 _ => absurd h1 (by simp)) X.prog X.w X.xe _ ⟨.bl false, H, I, rfl, q⟩
  | cons r rs => exact SeqAt.RcNeAt.lists_lengths hl.isList hl2.isList (by simp) hu X.prog X.w X.xe _ ⟨.bl true, H, I, rfl, q⟩
def rMaxT2 (K : PySem.W.Frag) : List V → Hp → VK → Prop := fun vs H Q => ∃ (a : Addr) (i j : Int), vs = [V.ref a] ∧ SqT K H a [.int i, .int j] ∧ Q (.int (if j > i then j else i)) H
theorem cr_maxT2 (hc : X.calm = true) (hu : X.A.units + 64 < cLine) : CallR X (.builtin "max") (rMaxT2 X.K) := by
  intro pins s σ H vs us Q I r h
  obtain ⟨a, i, j, rfl, hs, q⟩ := h
  obtain ⟨its, rv, ht, _⟩ := I.tuple hs
  rw [Vals.ref1 r]
  cases rv with
  | cons r1 rs =>
    cases rs with
    | cons r2 r3 =>
      cases r3
      obtain ⟨t, rfl⟩ := r1
      obtain ⟨t', rfl⟩ := r2
      refine PySem.W.max_tuple_data (x := .int i) (xs := [.int j]) (I.ok.hd hc) ht (.cons (.int i t) (.cons (.int j t') .nil)) ?_ ?_ fun k v h' tk bs hv hr hk => ?_
      · refine ⟨fun x hx y hy => ?_, fun x hx => ?_⟩
        · simp only [List.mem_cons, List.not_mem_nil, or_false] at hx hy
          rcases hx with rfl | rfl <;> rcases hy with rfl | rfl <;> simp [PySem.W.alike]
        · simp only [List.mem_cons, List.not_mem_nil, or_false] at hx
          rcases hx with rfl | rfl <;> simp
      · simp only [PyData.depthAll, PyData.depth]
        omega
      · have e : PySem.W.maxD (.int i) [.int j] = .int (if j > i then j else i) := by
          have := PySem.W.maxD_ints i [j]
          simp only [List.map_cons, List.map_nil, List.foldl_cons, List.foldl_nil] at this
          rw [this]
          congr 1
          rw [Int.max_def]
          split <;> split <;> omega
        rw [e] at hr
        cases hr with
        | int z t => exact ⟨.int _, H, I.kept hk, ⟨_, rfl⟩, q⟩
end
end TT

set_option Elab.async false
set_option linter.all false
set_option maxRecDepth 100000
set_option maxHeartbeats 400000
/-! own ==, with either answer, of a thing and another one or a tuple; != by way of it. -/
namespace TT
open PySem PySem.Spec PyProof.Rows PySem.SeqAt
section
variable {M : Model} {prog : Program} {w : World} {A : Around} {E : Value → Shared → Prop} {s : Shared} {K : PySem.W.Frag} {x C f L : Addr} {ox : Obj} {od : Option Obj} {b tb : Value} {h₀ : Heap} {m : Str → Option Value}
theorem entry_ne {Q : Fin → Shared → Prop} (hu : A.units < cLine) (X : K.In s.heap) (I : PySem.W.InstAt s.heap x ox C od) (hs : PySem.W.findIn K (.ref C) "__eq__" = some (some (.ref f))) (hf : PySem.W.isFn K (.ref f) = true)
    (h : wpAny M A (call (.ref f) [.ref x, b]) (fun v s' => ∃ k, v = .bool k ∧ Q (.done (.ret (.bool (!k)))) s') E s) : wpAny M A (Builtin.«object.__ne__» ⟨[.ref x, b], []⟩) Q E s := by
  unfold Builtin.«object.__ne__»
  repeat (first | with_reducible refine wpAny_cRoomFor hu ?_ | (with_reducible refine PySem.W.ifBound_K X I hs hf (wpAny_mono h (fun v s' z => ?_) fun _ _ e => e); obtain ⟨k, rfl, q⟩ := z) | wp_step)
  exact q
theorem call_objNe {Q : Value → Shared → Prop} (hu : A.units + 1 < cLine) (X : K.In s.heap) (I : PySem.W.InstAt s.heap x ox C od) (hm : PySem.W.mroIn K C (.type "object") = some true) (hs : PySem.W.findIn K (.ref C) "__eq__" = some (some (.ref f))) (hf : PySem.W.isFn K (.ref f) = true)
    (h : wpAny (model prog w) A.in1 (call (.ref f) [.ref x, b]) (fun v s' => ∃ k, v = .bool k ∧ Q (.bool (!k)) s') E s) :
    wpAny (model prog w) A (call (.builtin "object.__ne__") [.ref x, b]) Q E s :=
  wpAny_call (codeAny_call_builtin F.cmp_object.ne.plain F.cmpEntry_ne (PySem.W.check_slot F.cmpKind_ne F.cmpSplit_ne (I.type.andThen (PySem.W.looks_mroIn X hm)) (F.cmpArgs_ne _ _)
    (entry_ne (A := A.in1) hu X I hs hf (wpAny_mono h (fun v s' z => z) fun _ _ e => e))))
theorem ifBound_objNe {args : List Value} {Q : Option Value → Shared → Prop} (X : K.In s.heap) (I : PySem.W.InstAt s.heap x ox C od) (hs : PySem.W.findIn K (.ref C) "__ne__" = some (some (.builtin "object.__ne__")))
    (h : wpAny M A (call (.builtin "object.__ne__") (.ref x :: args)) (fun v => Q (some v)) E s) : wpAny M A (callSpecialIfBound? (.ref x) "__ne__" args) Q E s := by
  simp only [callSpecialIfBound?, bindSpecialIfBound?]
  refine wpAny_holding (wpAny_bind (wpAny_bind (wpAny_bind (I.type.here ((PySem.W.looks_findIn X hs).here ?_)))))
  refine wpAny_bind (wpAny_askSetting (wpAny_ite ?_))
  have fin : wpAny M A (call (.builtin "object.__ne__") ([.ref x] ++ args) >>= fun v => pure (some v)) Q E s := wpAny_bind (wpAny_mono h (fun v s' h' => wpAny_pure h') fun _ _ h' => h')
  split
  · exact wpAny_bind (wpAny_of_eq (F.cmp_object.ne.bind _) (wpAny_pure (by exact fin)))
  · exact wpAny_tryCatch (wpAny_bind (wpAny_of_eq (F.cmp_object.ne.bind _) (wpAny_pure (by exact fin))))
/-- x != b, the class of x having an own == and no own != -/
theorem ne_K {Q : Value → Shared → Prop} (hu : A.units + 1 < cLine) (X : K.In s.heap) (I : PySem.W.InstAt s.heap x ox C od) (hb : PySem.W.Looks (model prog w) s.heap (typeOf b) tb) (hn : PySem.W.notFirst K C tb = true)
    (hm : PySem.W.mroIn K C (.type "object") = some true) (hne : PySem.W.findIn K (.ref C) "__ne__" = some (some (.builtin "object.__ne__"))) (hs : PySem.W.findIn K (.ref C) "__eq__" = some (some (.ref f))) (hf : PySem.W.isFn K (.ref f) = true)
    (h : wpAny (model prog w) A.in1 (call (.ref f) [.ref x, b]) (fun v s' => ∃ k, v = .bool k ∧ Q (.bool (!k)) s') E s) : wpAny (model prog w) A (richCompare .NotEq (.ref x) b) Q E s := by
  have one : wpAny (model prog w) A (tryCompare (.ref x) "__ne__" b) (fun r s' => ∃ v, r = some v ∧ Q v s') E s := by
    unfold tryCompare
    refine wpAny_bind (ifBound_objNe X I hne (wpAny_mono (call_objNe (Q := fun v s' => ∃ k, v = .bool k ∧ Q v s') hu X I hm hs hf (wpAny_mono h (fun v s' ⟨k, e, q⟩ => ⟨k, e, _, rfl, q⟩) fun _ _ e => e)) (fun v s' z => ?_) fun _ _ e => e))
    obtain ⟨k, rfl, q⟩ := z
    exact wpAny_pure ⟨_, rfl, q⟩
  unfold richCompare
  simp only [oneThing_ref]
  refine wpAny_holding (wpAny_bind (wpAny_cRoomFor (by omega) ?_))
  refine wpAny_bind (I.type.here (wpAny_bind (hb.here ?_)))
  split
  · rename_i q
    have e : PySem.W.subIn K tb (.ref C) = some false := by
      rcases Bool.or_eq_true_iff.mp hn with e | e
      · rw [beq_iff_eq.mp e] at q; simp at q
      · exact beq_iff_eq.mp e
    refine wpAny_bind ((PySem.W.looks_subIn X e).here ?_)
    simp only [Bool.false_eq_true, if_false]
    refine wpAny_bind (wpAny_mono one (fun r s' z => ?_) fun _ _ e => e)
    obtain ⟨v, rfl, hq⟩ := z
    exact wpAny_pure hq
  · refine wpAny_bind (wpAny_pure ?_)
    simp only [Bool.false_eq_true, if_false]
    refine wpAny_bind (wpAny_mono one (fun r s' z => ?_) fun _ _ e => e)
    obtain ⟨v, rfl, hq⟩ := z
    exact wpAny_pure hq
end
open L2 LamX
/-- y is an instance of the class at C, or a tuple -/
inductive Oth (C : Addr) (H : Hp) : V → Prop
  | ins {b dy : Addr} {gs : List (Str × V)} (h : H b = some (.ins C dy gs)) : Oth C H (.ref b)
  | tup {b : Addr} {xs : List V} (h : H b = some (.tup xs)) : Oth C H (.ref b)
/-- x == y by the own __eq__, which answers by a bool -/
def rEqO (C : Addr) (sp : Sp) (E : XK) : R2 := fun x y H Q => ∃ a dx fs, x = V.ref a ∧ H a = some (.ins C dx fs) ∧ Oth C H y ∧ sp [.ref a, y] H (fun v H' => (∃ b, v = V.bl b) ∧ Q v H') E
def rNeO (C : Addr) (sp : Sp) (E : XK) : R2 := fun x y H Q => ∃ a dx fs, x = V.ref a ∧ H a = some (.ins C dx fs) ∧ Oth C H y ∧ sp [.ref a, y] H (fun v H' => ∃ b, v = V.bl b ∧ Q (.bl (!b)) H') E
section
variable {X : Cx} {CX : CXT} {k : Nat} {f C : Addr} {fd : FuncData} {ps : List Str} {sp : Sp} {E : XK}
theorem oth_type {pins : List (Addr × Obj)} {σ : L2.St} {H : Hp} {s : Shared} {M : Model} (I : Inv X pins σ H s) {y : V} {u : Value} (ry : RelV y u) (o : Oth C H y) (ht : PySem.W.notFirst X.K C (.type "tuple") = true) :
    ∃ tb, PySem.W.Looks M s.heap (typeOf u) tb ∧ PySem.W.notFirst X.K C tb = true := by
  cases o with
  | @ins b dy gs h =>
    obtain rfl : u = Value.ref b := ry
    obtain ⟨mB, O, _⟩ := ins_get I.hok h
    obtain ⟨od, J, _⟩ := O.look
    exact ⟨_, J.type, by simp [PySem.W.notFirst]⟩
  | @tup b xs h =>
    obtain rfl : u = Value.ref b := ry
    obtain ⟨its, _, ⟨o, ho, hc, _⟩, _⟩ := I.tuple (SqT.of h)
    exact ⟨_, hc ▸ (PySem.W.Looks.ld ho).andThen .now, ht⟩
theorem op_eqO (F : FnOk X.prog X.w X.K X.mg X.base CX k f fd ps sp) (hr : Room k X.A) (hb : Binds X.K fd ps []) (hx : Passes CX X E) (ht : PySem.W.notFirst X.K C (.type "tuple") = true)
    (hs : PySem.W.findIn X.K (.ref C) "__eq__" = some (some (.ref f))) (hf : PySem.W.isFn X.K (.ref f) = true) : OpR X (compareOp .Eq) (rEqO C sp E) := by
  intro pins s σ H x y v u Q I rx ry h
  obtain ⟨a, dx, fs, rfl, ha, o, hq⟩ := h
  obtain rfl : v = Value.ref a := rx
  obtain ⟨mA, O, _⟩ := ins_get I.hok ha
  obtain ⟨od, J, _⟩ := O.look
  obtain ⟨m, hF⟩ := I.fr
  obtain ⟨tb, lt, hn⟩ := oth_type (M := model X.prog X.w) I ry o ht
  show wpAny (model X.prog X.w) X.A (richCompare .Eq (.ref a) u) (EP X pins σ Q) X.xe s
  refine PySem.W.cmp_K (op := .Eq) hr.units0 hF I.ok.mod.kin J lt hn hs hf (wpAny_mono (run_fn (us := [.ref a, u]) (vs := [.ref a, y]) (dvs := []) (ds := []) F hr hb .nil hx I (.cons rfl (.cons ry .nil)) hq) (fun v' s' z => ?_) fun _ _ z => z)
  obtain ⟨w', H', I', r', ⟨c, rfl⟩, q⟩ := z
  obtain rfl : v' = Value.bool c := r'
  exact ⟨.bl c, H', I', rfl, q⟩
theorem op_neO (F : FnOk X.prog X.w X.K X.mg X.base CX k f fd ps sp) (hr : Room k X.A.in1) (hu : X.A.units + 64 < cLine) (hb : Binds X.K fd ps []) (hx : Passes CX X E) (ht : PySem.W.notFirst X.K C (.type "tuple") = true)
    (hm : PySem.W.mroIn X.K C (.type "object") = some true) (hne : PySem.W.findIn X.K (.ref C) "__ne__" = some (some (.builtin "object.__ne__")))
    (hs : PySem.W.findIn X.K (.ref C) "__eq__" = some (some (.ref f))) (hf : PySem.W.isFn X.K (.ref f) = true) : OpR X (compareOp .NotEq) (rNeO C sp E) := by
  intro pins s σ H x y v u Q I rx ry h
  obtain ⟨a, dx, fs, rfl, ha, o, hq⟩ := h
  obtain rfl : v = Value.ref a := rx
  obtain ⟨mA, O, _⟩ := ins_get I.hok ha
  obtain ⟨od, J, _⟩ := O.look
  obtain ⟨tb, lt, hn⟩ := oth_type (M := model X.prog X.w) I ry o ht
  show wpAny (model X.prog X.w) X.A (richCompare .NotEq (.ref a) u) (EP X pins σ Q) X.xe s
  refine ne_K (by omega) I.kIn J lt hn hm hne hs hf ?_
  have e0 : Env0 X.prog X.w X.K X.mg X.base X.A.in1 X.stack s H := by
    have e := I.env0
    exact ⟨e.frames, e.mod, e.bs, e.bsz, e.funs, e.frf, e.hok, e.bare⟩
  have hl := F.len _ _ _ _ hq
  have r2 : Vals [V.ref a, y] [Value.ref a, u] := .cons rfl (.cons ry .nil)
  refine wpAny_call (codeAny_mono (F.run X.A.in1 X.stack s H ⟨[.ref a, u], []⟩ [.ref a, u] [.ref a, y] _ E hr e0 (by
    have := hb s [.ref a, u] I.kIn (by simpa using hl)
    simpa using this) r2 hq) fun r s' hq => ?_)
  cases r with
  | error e => exact hx pins σ H s e s' I hq
  | ok fl =>
    cases fl with
    | ret w =>
      obtain ⟨z, H', I', rz, ⟨c, ez, q⟩⟩ := I.after hq
      subst ez
      obtain rfl : w = Value.bool c := rz
      exact ⟨c, rfl, .bl (!c), H', I', rfl, q⟩
    | next => exact False.elim hq
    | brk => exact False.elim hq
    | cont => exact False.elim hq
end
end TT

set_option Elab.async false
set_option linter.all false
set_option maxRecDepth 100000
set_option maxHeartbeats 4000000
/-! An own operation whose right side is any value of a built-in type. -/
namespace TT
open PySem PySem.Spec PyProof.Rows
section
variable {pr : Program} {wd : World} {ar : Around} {er : Value → Shared → Prop} {st : Shared} {K : PySem.W.Frag} {x C L f : Addr} {ob : Obj} {xd : Option Obj} {y : Value} {T : String} {hb : Heap} {mm : Str → Option Value}
theorem own_op {op : Operator} {fo ro : Option Value} {Q : Value → Shared → Prop} (F : Fr hb L st.heap mm) (KI : K.In hb) (J : PySem.W.InstAt st.heap x ob C xd) (ty : PySem.W.Looks (model pr wd) st.heap (typeOf y) (.type T)) (first : PySem.W.selfFirst K C = true)
    (own : PySem.W.findIn K (.ref C) (PySem.dunder op.info.2) = some (some (.ref f))) (fn : PySem.W.isFn K (.ref f) = true) (noR : PySem.W.findIn K (.ref C) (dunderR op.info.2) = some none)
    (left : PySem.W.findIn K (.type T) (PySem.dunder op.info.2) = some fo) (right : PySem.W.findIn K (.type T) (dunderR op.info.2) = some ro) (apart : PySem.W.subIn K (.type T) (.ref C) = some false)
    (go : wpAny (model pr wd) ar (call (.ref f) [.ref x, y]) (PySem.W.CmpBack Q) er st) : wpAny (model pr wd) ar (binaryOp op (.ref x) y) Q er st := by
  have KS := KI.keeps F.keep
  obtain ⟨cd, mr, c1, c2⟩ := PySem.W.ksp_first first
  rcases ei : op.info with ⟨sym, nm⟩
  rw [ei] at own noR left right
  dsimp only at own noR left right
  have try1 := PySem.W.ksp_try KS J own fn go
  obtain ⟨hp, g, d, tk, os⟩ := st
  have l1 : PySem.W.Looks (model pr wd) hp (typeOf (.ref x)) (.ref C) := J.type
  have l2 : PySem.W.Looks (model pr wd) hp (typeOf y) (.type T) := ty
  have l3 : PySem.W.Looks (model pr wd) hp (fillsNumberSlot (.ref C) nm) true := PySem.W.fills_K KS c1 c2 own
  have l4 : PySem.W.Looks (model pr wd) hp (fillsNumberSlot (.type T) nm) _ := PySem.W.ksp_fillsT KS left right
  have l5 : PySem.W.Looks (model pr wd) hp (isSubtype (.type T) (.ref C)) false := PySem.W.looks_subIn KS apart
  have l6 : PySem.W.Looks (model pr wd) hp (numberSlotInPython (.ref C) nm) true := PySem.W.ksp_inPy KS own noR (.inl rfl)
  have l7 : PySem.W.Looks (model pr wd) hp (numberSlotInPython (.type T) nm) false := PySem.W.Looks.of_pure rfl
  have l8 : PySem.W.Looks (model pr wd) hp (typeLookup (.type T) (dunderR nm)) ro := PySem.W.looks_findIn KS right
  generalize ((fo.isSome && !isSeqSlot fo) || (ro.isSome && !isSeqSlot ro)) = rs at l4
  have ne : (Value.ref C == Value.type T) = false := Bool.eq_false_iff.mpr fun z => by cases beq_iff_eq.mp z
  simp only [binaryOp, ei]
  refine wpAny_holding (wpAny_bind ?_)
  unfold binaryOp1
  refine wpAny_bind (l1.at (wpAny_bind (l2.at (wpAny_bind (l3.at ?_)))))
  simp only [ne, Bool.false_eq_true, if_false]
  cases rs
  all_goals
    ksp_lk
    refine wpAny_mono try1 (fun r s' z => ?_) fun _ _ z => z
    obtain ⟨v, rfl, q⟩ := z
    ksp_lk
    exact q
end
open L2 LamX
/-- the built-in type of a value, by its name -/
inductive Ty (H : Hp) : V → String → Prop
  | non : Ty H .non "NoneType"
  | bl (b : Bool) : Ty H (.bl b) "bool"
  | int (i : Int) : Ty H (.int i) "int"
  | str (x : Str) : Ty H (.str x) "str"
  | tup {a : Addr} {xs : List V} (h : H a = some (.tup xs)) : Ty H (.ref a) "tuple"
  | lst {a : Addr} {xs : List V} (h : H a = some (.lst xs)) : Ty H (.ref a) "list"
  | dK {a : Addr} {kvs : List (Key × V)} (h : H a = some (.dK kvs)) : Ty H (.ref a) "dict"
/-- what the operation's rule asks of that type -/
def RightT (K : PySem.W.Frag) (op : Operator) (C : Addr) (T : String) : Prop := ∃ fo ro, PySem.W.findIn K (.type T) (PySem.dunder op.info.2) = some fo ∧ PySem.W.findIn K (.type T) (dunderR op.info.2) = some ro ∧ PySem.W.subIn K (.type T) (.ref C) = some false
/-- x op y, x an instance of the class at C, y of a built-in type; what comes out is a thing -/
def rBinV (K : PySem.W.Frag) (op : Operator) (C : Addr) (sp : Sp) (E : XK) : R2 := fun x y H Q => ∃ a dx fs T, x = V.ref a ∧ H a = some (.ins C dx fs) ∧ Ty H y T ∧ RightT K op C T ∧ sp [.ref a, y] H (fun v H' => (∃ c, v = V.ref c) ∧ Q v H') E
section
variable {X : Cx} {CX : CXT} {k : Nat} {f C : Addr} {fd : FuncData} {ps : List Str} {sp : Sp} {E : XK}
theorem Ty.looks {M : Model} {pins : List (Addr × Obj)} {σ : L2.St} {H : Hp} {s : Shared} {y : V} {u : Value} {T : String} (I : Inv X pins σ H s) (ry : RelV y u) (t : Ty H y T) : PySem.W.Looks M s.heap (typeOf u) (.type T) := by
  cases t with
  | non =>
    obtain rfl : u = Value.none := ry
    exact PySem.W.Looks.of_pure rfl
  | bl b =>
    obtain rfl : u = Value.bool b := ry
    exact PySem.W.Looks.of_pure rfl
  | int i =>
    obtain ⟨t, rfl⟩ := (show ∃ t, u = Value.int i t from ry)
    exact PySem.W.Looks.of_pure rfl
  | str x =>
    obtain ⟨t, rfl⟩ := (show ∃ t, u = Value.str x t from ry)
    exact PySem.W.Looks.of_pure rfl
  | @tup a xs h =>
    obtain rfl : u = Value.ref a := ry
    obtain ⟨its, _, ⟨o, ho, hc, _⟩, _⟩ := I.tuple (SqT.of h)
    exact hc ▸ (PySem.W.Looks.ld ho).andThen .now
  | @lst a xs h =>
    obtain rfl : u = Value.ref a := ry
    obtain ⟨its, _, ⟨o, _, ho, hc, _⟩, _⟩ := I.list (SqL.of h)
    exact hc ▸ (PySem.W.Looks.ld ho).andThen .now
  | @dK a kvs h =>
    obtain rfl : u = Value.ref a := ry
    have z := I.hok _ _ h
    unfold ObjOk at z
    obtain ⟨_, _, _, _, o, _, _, ho, ex, _⟩ := z
    exact ex.1 ▸ (PySem.W.Looks.ld ho).andThen .now
theorem op_binV {op : Operator} (F : FnOk X.prog X.w X.K X.mg X.base CX k f fd ps sp) (hr : Room k X.A) (hb : Binds X.K fd ps []) (hx : Passes CX X E) (hc : PySem.W.selfFirst X.K C = true)
    (hs : PySem.W.findIn X.K (.ref C) (PySem.dunder op.info.2) = some (some (.ref f))) (hf : PySem.W.isFn X.K (.ref f) = true) (hn : PySem.W.findIn X.K (.ref C) (dunderR op.info.2) = some none) : OpR X (binaryOp op) (rBinV X.K op C sp E) := by
  intro pins s σ H x y v u Q I rx ry h
  obtain ⟨a, dx, fs, T, rfl, ha, ty, ⟨fo, ro, t1, t2, t3⟩, hq⟩ := h
  obtain rfl : v = Value.ref a := rx
  obtain ⟨mA, O, _⟩ := ins_get I.hok ha
  obtain ⟨od, J, _⟩ := O.look
  obtain ⟨m, hF⟩ := I.fr
  refine own_op hF I.ok.mod.kin J (Ty.looks I ry ty) hc hs hf hn t1 t2 t3 (wpAny_mono (run_fn (us := [.ref a, u]) (vs := [.ref a, y]) (dvs := []) (ds := []) F hr hb .nil hx I (.cons rfl (.cons ry .nil)) hq) (fun v' s' z => ?_) fun _ _ z => z)
  obtain ⟨w', H', I', r', ⟨c, rfl⟩, q⟩ := z
  obtain rfl : v' = Value.ref c := r'
  exact ⟨.ref c, H', I', rfl, q⟩
end
end TT

set_option Elab.async false
set_option linter.all false
set_option maxRecDepth 100000
set_option maxHeartbeats 4000000
/-! Texts: numbers read, words joined and split. -/
namespace TT
open PySem PySem.Builtin PySem.Builtin.Str PySem.StrLaws PySem.Spec PyProof.Rows L2 TL
theorem at_zero_iff (x y : Str) : At x y x.length 0 ↔ Txt.startswith x y = true := by
  unfold Txt.startswith
  rw [Bool.and_eq_true, decide_eq_true_eq]
  exact Iff.rfl
theorem starts_one (x : Str) (c : Nat) : Txt.startswith x ⟨#[c]⟩ = ((tl x).head? == some c) := by
  have h := (at_zero_iff x ⟨#[c]⟩).symm.trans (at_iff (x := x) (y := ⟨#[c]⟩) (by simp) 0)
  rw [List.drop_zero] at h
  have e : pre (tl (⟨#[c]⟩ : Str)) (tl x) = ((tl x).head? == some c) := by
    show ((tl x).take 1 == [c]) = _
    cases tl x with
    | nil => simp
    | cons a l => simp
  rw [e] at h
  exact Bool.eq_iff_iff.mpr h
theorem dig_ascii : ∀ c, c < 128 → Unicode.isDigit c = (decide (48 ≤ c) && decide (c ≤ 57)) := by decide +kernel
/-- are these digits, one or more? -/
def allDig (l : List Nat) : Bool := !l.isEmpty && l.all fun c => decide (48 ≤ c) && decide (c ≤ 57)
theorem allDig_iff {l : List Nat} : allDig l = true ↔ l ≠ [] ∧ NumText.AllDigits l := by
  unfold allDig NumText.AllDigits
  simp [List.all_eq_true]
theorem isdigit_ascii (x : Str) (h : Txt.isascii x = true) : Txt.isdigit x = allDig (tl x) := by
  unfold Txt.isascii at h
  unfold Txt.isdigit allDig
  rw [← Array.all_toList] at h ⊢
  have e1 : decide (x.length > 0) = !(tl x).isEmpty := by
    rw [len_tl]
    cases tl x <;> simp
  rw [e1]
  congr 1
  rw [Bool.eq_iff_iff, List.all_eq_true, List.all_eq_true]
  rw [List.all_eq_true] at h
  refine ⟨fun a c hc => ?_, fun a c hc => ?_⟩
  · rw [← dig_ascii c (by simpa using h c hc)]
    exact a c hc
  · rw [dig_ascii c (by simpa using h c hc)]
    exact a c hc
theorem ascii_of {x : Str} (h : allDig (tl x) = true) : Txt.isascii x = true := by
  obtain ⟨_, h⟩ := allDig_iff.mp h
  unfold Txt.isascii
  rw [← Array.all_toList, List.all_eq_true]
  intro c hc
  have := h c hc
  simp
  omega
/-- the digits of a word -/
def digs (w : Str) : List Nat := if (tl w).head? = some 45 then (tl w).drop 1 else tl w
/-- the number that Python writes as this word -/
def numRead (w : Str) : Option Int :=
  if allDig (digs w) = true then
    if (digs w).head? = some 48 ∧ tl w ≠ [48] then none
    else some (if (tl w).head? = some 45 then -((NumText.digitsVal (digs w) : Nat) : Int) else ((NumText.digitsVal (digs w) : Nat) : Int))
  else none
theorem numL_head {n : Nat} (h : 1 ≤ n) : (numL n).head? ≠ some 48 := by
  induction n using Nat.strongRecOn with
  | _ n ih =>
    by_cases c : n < 10
    · rw [numL_lt c]
      simp
      omega
    · rw [numL_step (by omega)]
      have := ih (n / 10) (by omega) (by omega)
      cases e : numL (n / 10) with
      | nil => exact absurd e (numL_ne _)
      | cons a l =>
        rw [e] at this
        simpa using this
theorem numL_not45 (n : Nat) : (numL n).head? ≠ some 45 := by
  cases e : numL n with
  | nil => simp
  | cons a l =>
    have := numL_digits n a (by rw [e]; exact List.mem_cons_self)
    simp
    omega
theorem numL_allDig (n : Nat) : allDig (numL n) = true := allDig_iff.mpr ⟨numL_ne n, numL_digits n⟩
theorem numRead_nat (n : Nat) : numRead (Str.ofString (toString ((n : Nat) : Int))) = some (n : Int) := by
  unfold numRead digs
  rw [tl_num, if_neg (numL_not45 n), numL_allDig, if_pos rfl, if_neg (numL_not45 n), numL_val]
  rw [if_neg]
  rintro ⟨h1, h2⟩
  by_cases c : 1 ≤ n
  · exact numL_head c h1
  · have : n = 0 := by omega
    subst this
    exact h2 (numL_lt (by decide))
theorem numRead_neg {n : Nat} (h : 1 ≤ n) : numRead (Str.ofString "-" ++ Str.ofString (toString ((n : Nat) : Int))) = some (-(n : Int)) := by
  have e : tl (Str.ofString "-" ++ Str.ofString (toString ((n : Nat) : Int))) = 45 :: numL n := by
    rw [tl_append, tl_num] <;> rfl
  unfold numRead digs
  rw [e]
  simp only [List.head?_cons, if_true, List.drop_one, List.tail_cons]
  rw [numL_allDig, if_pos rfl, if_neg (fun z => numL_head h z.1), numL_val]
/-! the digits' value -/
theorem val_zero (l : List Nat) : NumText.digitsVal (48 :: l) = NumText.digitsVal l := rfl
theorem int_zero {d : Str} (h : allDig (tl d) = true) (hl : d.length ≤ 600) : intText? (Str.ofString "0" ++ d) = some ((NumText.digitsVal (tl d) : Nat) : Int) := by
  obtain ⟨h1, h2⟩ := allDig_iff.mp h
  have e : tl (Str.ofString "0" ++ d) = 48 :: tl d := by
    rw [tl_append] <;> rfl
  have z := PySem.intText_digits (x := Str.ofString "0" ++ d) (by
    show NumText.AllDigits (tl _)
    rw [e]
    intro c hc
    rcases List.mem_cons.mp hc with rfl | hc
    · decide
    · exact h2 c hc) (by show tl _ ≠ []; rw [e]; simp) (by rw [len_tl, e, List.length_cons, ← len_tl]; omega)
  rw [show (Str.ofString "0" ++ d).cps.toList = 48 :: tl d from e, val_zero] at z
  exact z
theorem cut_one (w : Str) : tl (cutS w (some 1) none) = (tl w).drop 1 := by
  have hl := len_tl w
  unfold cutS
  show (((tl w).drop (HT.sIx w.length 0 (some 1))).take (HT.sIx w.length w.length none - HT.sIx w.length 0 (some 1))) = _
  have e1 : HT.sIx w.length w.length none = w.length := rfl
  have e2 : HT.sIx w.length 0 (some 1) = min 1 w.length := by
    show (if (1 : Int) < 0 then ((1 : Int) + (w.length : Int)).toNat else min (1 : Int).toNat w.length) = _
    rw [if_neg (by decide)]
    rfl
  rw [e1, e2]
  by_cases c : w.length = 0
  · have : tl w = [] := List.length_eq_zero_iff.mp (by omega)
    rw [this]
    simp
  · have : min 1 w.length = 1 := by omega
    rw [this]
    exact List.take_of_length_le (by rw [List.length_drop]; omega)
theorem str_one (c : Nat) (x : Str) : (tl x = [c]) ↔ x = ⟨#[c]⟩ := ⟨fun h => ext_tl h, fun h => by rw [h]⟩
theorem str_eq_tl {x y : Str} : decide (V.str x = V.str y) = decide (tl x = tl y) := by
  by_cases c : x = y
  · subst c
    simp
  · rw [decide_eq_false (fun z => c (V.str.inj z)), decide_eq_false (fun z => c (ext_tl z))]
/-! words -/
theorem tl_str (s : String) : tl (Str.ofString s) = s.toList.map Char.toNat := by
  rw [Str.ofString_eq_toList]
theorem blank_free {n : Nat} : 32 ∉ numL n := numL_free (.inl (by decide))
end TT

set_option Elab.async false
set_option linter.all false
set_option maxRecDepth 100000
set_option maxHeartbeats 4000000
/-! A static method called by way of its class. -/
namespace TT
open PySem PySem.Spec PyProof.Rows L2 LamX
/-- C.m is a static method: its record at p, its def at g -/
structure CSta (K : PySem.W.Frag) (C : Addr) (mc : Value) (m : Str) (p g : Addr) : Prop where
  found : PySem.W.findCls K (.ref C) mc m = some (.get (.builtin "staticmethod.__get__") (.ref p) .none (.ref C))
  holds : ∃ more, PySem.W.recIn K p "staticmethod" = some (.ref g :: more)
  kept : PySem.W.keepIn K (.ref g) = true
def tStat (C : Addr) (sp : Sp) (E : XK) (to : TE) (ta : TA) : TE := fun σ H Q => to σ H fun x H1 => x = .ref C ∧ ta σ H1 fun vs H2 => sp (vs ++ []) H2 Q E
section
variable {X : Cx} {CX : CXT} {k : Nat} {C p g : Addr} {mc : Value} {fd : FuncData} {ps : List Str} {sp : Sp} {E : XK} {o e : Expr} {es : List Expr} {m : Str} {pos apos : Pos} {to : TE} {ta : TA} {pl : Sem Bool}
theorem sta_attr {pins : List (Addr × Obj)} {σ : L2.St} {H : Hp} {s : Shared} {A : Around} {b : Bool} {ER : Value → Shared → Prop} {Q : Value → Shared → Prop} (I : Inv X pins σ H s) (rd : ClX.CRead X.K C mc) (c : CSta X.K C mc m p g)
    (go : ∀ s1, Inv X pins σ H s1 → Q (.ref g) s1) : wpAny (model X.prog X.w) A (getAttr (.ref C) m b) Q ER s := by
  obtain ⟨more, hp⟩ := c.holds
  refine PySem.W.cls_bind I.kIn rd.rd c.found (wpAny_call ?_)
  exact PySem.W.sm_get (s := { s with toks := s.toks + 1 }) I.kIn hp (PySem.W.handed_on rfl (go _ (I.tok _)))
theorem pe_stat (ho : PE X o to) (rd : ClX.CRead X.K C mc) (c : CSta X.K C mc m p g) (F : FnOk X.prog X.w X.K X.mg X.base CX k g fd ps sp) (hr : Room k X.A) (hb : Binds X.K fd ps []) (hx : Passes CX X E) (ha : PA X (e :: es) ta)
    (star : starEach (e :: es) X.env = (false, eval e X.env) :: starEach es X.env := by rfl) (plain : (backTo pos (starEach es X.env)).any (·.1) = false := by rfl)
    (runs : eval (.Call (.Attribute o m apos) (e :: es) [] pos) X.env = (do
      let w0 ← eval o X.env
      standAt apos.atName
      let (fn, ahead) ← holding [w0] (getMethod w0 m pl)
      callWith pos fn ahead (backTo pos (starEach (e :: es) X.env)) (backToKw pos (keywordEach [] X.env))) := by rfl) :
    PE X (.Call (.Attribute o m apos) (e :: es) [] pos) (tStat C sp E to ta) := by
  constructor
  intro pins s σ H Q I h
  refine PySem.W.methodCall_KW (pl := pl) (thn (ho.run pins s σ H _ I h) fun u s1 z => ?_) runs
  obtain ⟨x, H1, I1, rx, ex, q⟩ := z
  subst ex
  obtain rfl : u = Value.ref C := rx
  refine PySem.W.method_cls I1.kIn rd.ga (sta_attr I1 rd c fun s2 I2 => ?_)
  refine PySem.W.callWith_K (h₀ := X.base) I2.ok.mod.kin c.kept (thn (ha.run pos pins s2 σ H1 _ I2 q) fun us s3 y => ?_) star plain
  obtain ⟨vs, H2, I3, rv, q2⟩ := y
  exact ⟨I3.kIn, run_fn F hr hb .nil hx I3 rv q2⟩
end
end TT

set_option Elab.async false
set_option linter.all false
set_option maxRecDepth 100000
set_option maxHeartbeats 4000000
/-! repr of a tuple whose items may be odd things (dicts among them). -/
namespace TT
open PySem PySem.Spec PyProof.Rows L2
theorem repr_tup {prog : Program} {w : World} {h₀ : Heap} {a : Addr} {o : Obj} {vs : Array Value} {n : Nat} {xs : List PyData} {as : List Addr} {A : Around} {E : Value → Shared → Prop} {s : Shared} {Q : Value → Shared → Prop}
    (at_a : h₀.get? a = some o) (is_t : o.cls = .type "tuple") (dat : o.data = .seq vs n) (its : ReadsAll h₀ vs.toList xs as)
    (sh : PyData.showableAll xs = true) (out : PyData.hasDictAll xs = true → ¬ sysModules ∈ as) (gd : A.guards = some []) (un : A.units + ((PyData.tuple xs).depth + 1) < cLine)
    (low : ∀ b u, h₀.get? b = some u → s.heap.get? b = some u)
    (k : ∀ h' u tk, (∀ b o, s.heap.get? b = some o → h'.get? b = some o) → Q (.str (PyData.tuple xs).shown u) { s with heap := h', toks := tk })
    (len : (PyData.tuple xs).shown.length ≤ sizeLine) : wpAny (model prog w) A (call (.builtin "repr") [.ref a]) Q E s := by
  have short : (tupleText (PyData.shownAll xs)).length ≤ sizeLine := by
    have := len
    rwa [PyData.shown] at this
  obtain ⟨bs, below, each⟩ := ReprAllK.of_readsAll (prog := prog) (w := w) its sh out fun t ht => Nat.le_trans (tupleText_mem_le ht) short
  have apart : a ∉ bs := by
    refine not_mem_of_deeper (Reads.tuple at_a is_t dat its) ?_ below
    rw [PyData.depth]
    omega
  have dep : A.in1.units + (PyData.tuple xs).depth < cLine := by
    show A.units + 1 + _ < cLine
    omega
  refine call_repr_slot (by omega) (show s.TypeIs (.ref a) "tuple" from ⟨o, low _ _ at_a, is_t⟩) F.slot_tuple_repr ?_
  rw [PyData.depth] at dep
  have k' := k
  simp only [PyData.shown] at k'
  exact call_tuple_reprK at_a is_t dat apart each gd (fun b _ => Clear.nil b) dep low (fun h' u tk hk => ⟨_, _, rfl, k' h' u tk hk⟩) short
/-- flat data -/
inductive Flat0 : V → PyData → Prop
  | non : Flat0 .non .none
  | bl (b : Bool) : Flat0 (.bl b) (.bool b)
  | int (i : Int) : Flat0 (.int i) (.int i)
  | str (x : Str) : Flat0 (.str x) (.str x)
/-- each item is flat, or it is the one odd thing v, d -/
inductive DpDs (v : V) (d : PyData) : List V → List PyData → Prop
  | nil : DpDs v d [] []
  | fl {x : V} {e : PyData} {vs : List V} {ds : List PyData} (h : Flat0 x e) (t : DpDs v d vs ds) : DpDs v d (x :: vs) (e :: ds)
  | it {vs : List V} {ds : List PyData} (t : DpDs v d vs ds) : DpDs v d (v :: vs) (d :: ds)
theorem Flat0.reads {v : V} {d : PyData} {u : Value} {h : Heap} (f : Flat0 v d) (r : RelV v u) : Reads h u d [] ∧ d.hasDict = false := by
  cases f with
  | non => obtain rfl : u = .none := r; exact ⟨.none, by simp [PyData.hasDict]⟩
  | bl b => obtain rfl : u = .bool b := r; exact ⟨.bool _, by simp [PyData.hasDict]⟩
  | int i => obtain ⟨t, rfl⟩ : ∃ t, u = .int i t := r; exact ⟨.int _ _, by simp [PyData.hasDict]⟩
  | str x => obtain ⟨t, rfl⟩ : ∃ t, u = .str x t := r; exact ⟨.str _ _, by simp [PyData.hasDict]⟩
theorem DpDs.reads {X : Cx} {pins : List (Addr × Obj)} {σ : L2.St} {H : Hp} {s : Shared} {v : V} {d : PyData} (I : Inv X pins σ H s) (o : DpD X.K H v d) : ∀ {vs : List V} {ds : List PyData} {us : List Value}, DpDs v d vs ds → Vals vs us →
    ∃ as, ReadsAll s.heap us ds as ∧ (PyData.hasDictAll ds = true → d.hasDict = true) ∧ (d.hasDict = true → ¬ sysModules ∈ as)
  | _, _, _, .nil, .nil => ⟨[], .nil, fun e => by simp [PyData.hasDictAll] at e, fun _ m => by cases m⟩
  | _, _, _, .fl h t, .cons r rs => by
    obtain ⟨h1, h2⟩ := h.reads (h := s.heap) r
    obtain ⟨bs, h3, h4, h5⟩ := DpDs.reads I o t rs
    refine ⟨[] ++ bs, .cons h1 h3, fun e => ?_, h5⟩
    simp only [PyData.hasDictAll, h2, Bool.false_or] at e
    exact h4 e
  | _, _, _, .it t, .cons r rs => by
    obtain ⟨as, h1, h2⟩ := DpD.reads I o r
    obtain ⟨bs, h3, h4, h5⟩ := DpDs.reads I o t rs
    refine ⟨as ++ bs, .cons h1 h3, fun e => ?_, fun e m => (List.mem_append.mp m).elim (h2 e) (h5 e)⟩
    simp only [PyData.hasDictAll, Bool.or_eq_true] at e
    exact e.elim id h4
section
variable {X : Cx}
/-- repr(x): an odd thing, or a tuple of such -/
inductive RpT (K : PySem.W.Frag) (H : Hp) : V → PyData → Prop
  | one {v : V} {d : PyData} (h : DpD K H v d) : RpT K H v d
  | tup {t : Addr} {v : V} {d : PyData} {xs : List V} {ds : List PyData} (ht : H t = some (.tup xs)) (o : DpD K H v d) (h : DpDs v d xs ds) : RpT K H (.ref t) (.tuple ds)
def rReprT (K : PySem.W.Frag) : List V → Hp → VK → Prop := fun xs H Q => ∃ (x : V) (d : PyData), xs = [x] ∧ RpT K H x d ∧ d.showable = true ∧ d.depth ≤ 60 ∧ d.shown.length ≤ sizeLine ∧ Q (.str d.shown) H
theorem call_reprT (hg : X.A.guards = some []) (hu : X.A.units + 64 < cLine) : CallR X (.builtin "repr") (rReprT X.K) := by
  intro pins s σ H xs us Q I r h
  obtain ⟨x, d, rfl, hd, sh, dep, hz, q⟩ := h
  cases hd with
  | one h => exact call_reprS hg hu pins s σ H _ us Q I r ⟨x, d, rfl, .one h, sh, dep, hz, q⟩
  | @tup t v d ys ds ht o h =>
    match us, r with
    | [u], .cons r1 .nil =>
      obtain rfl : u = Value.ref t := r1
      obtain ⟨_, its, vs, ob, g, c, k, dt⟩ : ObjOk X.prog X.w H s.heap t (.tup ys) := I.hok _ _ ht
      obtain ⟨as, h1, h2, h3⟩ := DpDs.reads I o h vs
      have sh' : PyData.showableAll ds = true := by rwa [PyData.showable] at sh
      exact repr_tup g c dt (by rw [List.toList_toArray]; exact h1) sh' (fun e => h3 (h2 e)) hg (by omega) (fun _ _ e => e) (fun h' u tk hk => ⟨.str _, H, I.kept hk, ⟨_, rfl⟩, q⟩) hz
end
end TT

set_option Elab.async false
set_option linter.all false
set_option maxRecDepth 100000
set_option maxHeartbeats 4000000
/-! not in a tuple: of things of an own class with ==, of data; dict of a tuple of pairs. -/
namespace GQ
open PySem PySem.SeqAt
open AutoSeq1 (wpAny_loadPart')
open MeetsSeq MeetsSeq2 MeetsSeq3 SeqRoads2
section
variable {prog : Program} {w : World} {A : Around} {R : Result → Shared → Prop} {E : Value → Shared → Prop} {s : Shared}
/-- the items are asked one by one; what holds stays -/
theorem tuple_holdsG (l : Addr) (items : Array Value) (n : Nat) (dd : Option Addr) (sl : Array (Option Value)) (x : Value) (e : Value → Bool) (I : Shared → Prop)
    (turn : ∀ y ∈ items, ∀ s, I s → wpAny (model prog w) A.in1 (eqBool y x) (fun r s' => r = e y ∧ I s') (fun e s' => R (.error e) s') s)
    (fin : ∀ s, I s → R (.ok (.ret (.bool (items.any e)))) s) {s : Shared} (hl : s.heap.get? l = some { cls := .type "tuple", dict := dd, data := .seq items n, slots := sl }) (h : I s) :
    wpAny (model prog w) A.in1 (Builtin.«tuple.__contains__» ⟨[.ref l, x], []⟩) (FinOf prog w A R) (fun e s' => R (.error e) s') s := by
  have h0 := h
  obtain ⟨hp, g, d, tk, os⟩ := s
  wp_walk using wpAny_loadPart' hl, wpAny_forIn_array _ (fun rest b s' => b.1 = none ∧ I s' ∧ (∀ y, y ∈ rest → y ∈ items) ∧ items.any e = rest.any e) _
  case turn =>
    rintro y rest b s' ⟨hb, hI, hmem, hR⟩
    refine wpAny_bind (wpAny_mono (turn y (hmem y (List.mem_cons_self ..)) s' hI) (fun r s2 q2 => ?_) fun _ _ x => x)
    obtain ⟨rfl, q2⟩ := q2
    rw [List.any_cons] at hR
    cases hy : e y with
    | true =>
      rw [hy, Bool.true_or] at hR
      have q3 := fin s2 q2
      rw [hR] at q3
      wp_walk
      exact q3
    | false =>
      rw [hy, Bool.false_or] at hR
      wp_walk
      exact ⟨rfl, q2, fun z hz => hmem z (List.mem_cons_of_mem _ hz), hR⟩
  case fin =>
    rintro ⟨b1, b2⟩ s' ⟨hb, hI, -, hR⟩
    simp only at hb
    subst hb
    have q3 := fin s' hI
    rw [hR] at q3
    wp_walk
    simpa using q3
  case h =>
    exact ⟨rfl, h0, fun y hy => by simpa using hy, by simp⟩
end
end GQ
namespace TT
open PySem PySem.Spec PyProof.Rows L2 LamX
section
variable {X : Cx} {CX : CXT} {n : Nat} {C f : Addr} {fd : FuncData} {ps : List Str} {sp : Sp} {E : XK}
/-- item == x for one item, by the own __eq__, which changes nothing -/
theorem eq_item (F : FnOk X.prog X.w X.K X.mg X.base CX n f fd ps sp) (hs : PySem.W.findIn X.K (.ref C) "__eq__" = some (some (.ref f))) (hf : PySem.W.isFn X.K (.ref f) = true) (hb : Binds X.K fd ps []) (hx : Passes CX X E)
    {A : Around} (sb : Sub X n A) {pins : List (Addr × Obj)} {σ : L2.St} {H : Hp} {s : Shared} (I : Inv X pins σ H s) {i a : Addr} {b : Bool} (hi : ∃ dx fs, H i = some (.ins C dx fs)) (ha : ∃ dx fs, H a = some (.ins C dx fs)) (same : i = a → b = true)
    (hsp : sp [.ref i, .ref a] H (fun v H' => v = .bl b ∧ H' = H) E) : wpAny (model X.prog X.w) A (eqBool (.ref i) (.ref a)) (fun r s' => r = b ∧ Inv X pins σ H s') X.xe s := by
  by_cases hab : i = a
  · subst hab
    rw [same rfl]
    exact SeqAt.EqAt.same (A := A) (s := s) (.ref i) X.prog X.w X.xe _ ⟨rfl, I⟩
  · refine GQ.eqBool_refG hab ?_
    obtain ⟨dx, fs, hi⟩ := hi
    obtain ⟨dy, gs, ha⟩ := ha
    obtain ⟨mA, J, _⟩ := ins_get I.hok hi
    obtain ⟨mB, J', _⟩ := ins_get I.hok ha
    obtain ⟨od, J, _⟩ := J.look
    obtain ⟨od', J', _⟩ := J'.look
    obtain ⟨m, hF⟩ := I.fr
    refine PySem.W.cmp_K (op := .Eq) (tb := .ref C) sb.room.units0 hF I.ok.mod.kin J J'.type (by simp [PySem.W.notFirst]) hs hf ?_
    have e0 : Env0 X.prog X.w X.K X.mg X.base A X.stack s H := by
      have e := I.env0
      exact ⟨by rw [sb.fr]; exact e.frames, e.mod, e.bs, e.bsz, e.funs, e.frf, e.hok, e.bare⟩
    have hl := F.len _ _ _ _ hsp
    have r2 : Vals [V.ref i, V.ref a] [Value.ref i, Value.ref a] := .cons rfl (.cons rfl .nil)
    refine wpAny_call (codeAny_mono (F.run A X.stack s H ⟨[.ref i, .ref a], []⟩ [.ref i, .ref a] [.ref i, .ref a] _ E sb.room e0 (by
      have := hb s [.ref i, .ref a] I.kIn (by simpa using hl)
      simpa using this) r2 hsp) fun r s' hq => ?_)
    cases r with
    | error e => exact hx pins σ H s e s' I hq
    | ok fl =>
      cases fl with
      | ret w =>
        obtain ⟨z, H', I', rz, ez, ex⟩ := I.after hq
        subst ez ex
        cases rz
        exact ⟨b, rfl, rfl, I'⟩
      | next => exact False.elim hq
      | brk => exact False.elim hq
      | cont => exact False.elim hq
/-- x not in a tuple of things of the class at C -/
def rNotInO (K : PySem.W.Frag) (C : Addr) (sp : Sp) (E : XK) (neg : Bool) : R2 := fun x y H Q => ∃ (a p : Addr) (es : List (Addr × Bool)), x = .ref a ∧ y = .ref p ∧ SqT K H p (es.map fun e => V.ref e.1) ∧ (∃ dx fs, H a = some (.ins C dx fs)) ∧
  (∀ e ∈ es, (∃ dx fs, H e.1 = some (.ins C dx fs)) ∧ (e.1 = a → e.2 = true) ∧ sp [.ref e.1, .ref a] H (fun v H' => v = .bl e.2 ∧ H' = H) E) ∧ (∀ e ∈ es, ∀ d ∈ es, e.1 = d.1 → e.2 = d.2) ∧ Q (.bl (if neg then !es.any (·.2) else es.any (·.2))) H
theorem vals_refs : ∀ {es : List (Addr × Bool)} {us : List Value}, Vals (es.map fun e => V.ref e.1) us → us = es.map fun e => Value.ref e.1
  | [], _, r => by cases r; rfl
  | e :: es, _, r => by
    rw [List.map_cons] at r
    cases r with
    | cons h t =>
      cases h
      rw [List.map_cons, ← vals_refs t]
/-- the answer for an item -/
def ansO (es : List (Addr × Bool)) (v : Value) : Bool := es.any fun e => decide (v = Value.ref e.1) && e.2
theorem ansO_at {es : List (Addr × Bool)} (u : ∀ e ∈ es, ∀ d ∈ es, e.1 = d.1 → e.2 = d.2) {e : Addr × Bool} (he : e ∈ es) : ansO es (.ref e.1) = e.2 := by
  unfold ansO
  cases h : e.2 with
  | true =>
    rw [List.any_eq_true]
    exact ⟨e, he, by simp [h]⟩
  | false =>
    rw [List.any_eq_false]
    intro d hd
    by_cases c : Value.ref e.1 = Value.ref d.1
    · have c' : e.1 = d.1 := by injection c
      rw [← u e he d hd c', h]
      simp
    · simp [c]
theorem ansO_any {es : List (Addr × Bool)} (u : ∀ e ∈ es, ∀ d ∈ es, e.1 = d.1 → e.2 = d.2) : (es.map fun e => Value.ref e.1).any (ansO es) = es.any (·.2) := by
  rw [List.any_map, Bool.eq_iff_iff, List.any_eq_true, List.any_eq_true]
  constructor
  · rintro ⟨e, he, h⟩
    exact ⟨e, he, by rw [← ansO_at u he]; exact h⟩
  · rintro ⟨e, he, h⟩
    exact ⟨e, he, by show ansO es (.ref e.1) = true; rw [ansO_at u he]; exact h⟩
theorem op_notInO (F : FnOk X.prog X.w X.K X.mg X.base CX n f fd ps sp) (hs : PySem.W.findIn X.K (.ref C) "__eq__" = some (some (.ref f))) (hf : PySem.W.isFn X.K (.ref f) = true) (hb : Binds X.K fd ps []) (hx : Passes CX X E)
    (hr : Room (n + 1) X.A) : OpR X (compareOp .NotIn) (rNotInO X.K C sp E true) := by
  intro pins s σ H x y v u Q I rx ry h
  obtain ⟨a, p, es, rfl, rfl, hp, ha, each, u1, q⟩ := h
  obtain rfl : v = Value.ref a := rx
  obtain rfl : u = Value.ref p := ry
  obtain ⟨its, rv, pl, hz⟩ := I.tuple hp
  have ei := vals_refs rv
  subst ei
  obtain ⟨⟨cls, dd, data, sl⟩, ho, hc, k, hd⟩ := id pl
  simp only at hc hd
  subst hc hd
  have sb : Sub X (n + 1) X.A := ⟨hr, rfl⟩
  show wpAny (model X.prog X.w) X.A (do return .bool (!(← contains (.ref p) (.ref a)))) (EP X pins σ Q) X.xe s
  refine wpAny_bind (wpAny_contains_slot ⟨_, ho, rfl⟩ PySem.F.slot_tuple_contains (wpAny_mono (GQ.call_here (Q := fun v s' => v = .bool (es.any (·.2)) ∧ Inv X pins σ H s') PySem.F.slot_tuple_contains ⟨_, ho, rfl⟩ PySem.F.entry_tuple_contains (PySem.F.args_tuple_contains_2 _ _) ?_) (fun v s' hv => ?_) fun _ _ e => e))
  · refine GQ.tuple_holdsG (R := wants (fun v s' => v = .bool (es.any (·.2)) ∧ Inv X pins σ H s') X.xe) p _ k dd sl (.ref a) (ansO es) (fun s' => Inv X pins σ H s') (fun y hy s' I' => ?_) (fun s' I' => ⟨?_, I'⟩) ho I
    · obtain ⟨e, he, rfl⟩ := List.mem_map.mp (show y ∈ es.map fun e => Value.ref e.1 by simpa using hy)
      obtain ⟨h1, h2, h3⟩ := each e he
      rw [ansO_at u1 he]
      exact eq_item F hs hf hb hx sb.in1 I' h1 ha h2 h3
    · rw [show ((es.map fun e => Value.ref e.1).toArray.any (ansO es)) = (es.map fun e => Value.ref e.1).any (ansO es) by simp, ansO_any u1]
  · obtain ⟨rfl, I'⟩ := hv
    exact wpAny_truthy_bool (wpAny_pure ⟨.bl _, H, I', rfl, q⟩)
/-- x in a tuple of things of the class at C -/
theorem op_inO (F : FnOk X.prog X.w X.K X.mg X.base CX n f fd ps sp) (hs : PySem.W.findIn X.K (.ref C) "__eq__" = some (some (.ref f))) (hf : PySem.W.isFn X.K (.ref f) = true) (hb : Binds X.K fd ps []) (hx : Passes CX X E)
    (hr : Room (n + 1) X.A) : OpR X (compareOp .In) (rNotInO X.K C sp E false) := by
  intro pins s σ H x y v u Q I rx ry h
  obtain ⟨a, p, es, rfl, rfl, hp, ha, each, u1, q⟩ := h
  obtain rfl : v = Value.ref a := rx
  obtain rfl : u = Value.ref p := ry
  obtain ⟨its, rv, pl, hz⟩ := I.tuple hp
  have ei := vals_refs rv
  subst ei
  obtain ⟨⟨cls, dd, data, sl⟩, ho, hc, k, hd⟩ := id pl
  simp only at hc hd
  subst hc hd
  have sb : Sub X (n + 1) X.A := ⟨hr, rfl⟩
  show wpAny (model X.prog X.w) X.A (do return .bool (← contains (.ref p) (.ref a))) (EP X pins σ Q) X.xe s
  refine wpAny_bind (wpAny_contains_slot ⟨_, ho, rfl⟩ PySem.F.slot_tuple_contains (wpAny_mono (GQ.call_here (Q := fun v s' => v = .bool (es.any (·.2)) ∧ Inv X pins σ H s') PySem.F.slot_tuple_contains ⟨_, ho, rfl⟩ PySem.F.entry_tuple_contains (PySem.F.args_tuple_contains_2 _ _) ?_) (fun v s' hv => ?_) fun _ _ e => e))
  · refine GQ.tuple_holdsG (R := wants (fun v s' => v = .bool (es.any (·.2)) ∧ Inv X pins σ H s') X.xe) p _ k dd sl (.ref a) (ansO es) (fun s' => Inv X pins σ H s') (fun y hy s' I' => ?_) (fun s' I' => ⟨?_, I'⟩) ho I
    · obtain ⟨e, he, rfl⟩ := List.mem_map.mp (show y ∈ es.map fun e => Value.ref e.1 by simpa using hy)
      obtain ⟨h1, h2, h3⟩ := each e he
      rw [ansO_at u1 he]
      exact eq_item F hs hf hb hx sb.in1 I' h1 ha h2 h3
    · rw [show ((es.map fun e => Value.ref e.1).toArray.any (ansO es)) = (es.map fun e => Value.ref e.1).any (ansO es) by simp, ansO_any u1]
  · obtain ⟨rfl, I'⟩ := hv
    exact wpAny_truthy_bool (wpAny_pure ⟨.bl _, H, I', rfl, q⟩)
end
section
variable {X : Cx}
/-- x not in a tuple of data -/
def rNotInDT (K : PySem.W.Frag) : R2 := fun x y H Q => ∃ d ds, Dp K H x d ∧ Dp K H y (.tuple ds) ∧ SeqAt.shaped d = true ∧ SeqAt.shaped (.tuple ds) = true ∧ Q (.bl (!ds.any fun z => PyData.eqv z d)) H
theorem op_notInDT (hu : X.A.units + 65 < cLine) : OpR X (compareOp .NotIn) (rNotInDT X.K) := by
  intro pins s σ H x y v u Q I rx ry h
  obtain ⟨d, ds, hd, he, sd, se, q⟩ := h
  obtain ⟨as, r1⟩ := Dp.reads I d x v hd rx
  obtain ⟨bs, r2⟩ := Dp.reads I (.tuple ds) y u he ry
  exact SeqAt.notIn_tuple_reads r2 r1 (SeqAt.canLay_of_shaped se) (SeqAt.canLay_of_shaped sd) (room_in_shaped sd hu) ⟨.bl _, H, I, rfl, q⟩
/-- tuple(a list): the new tuple as an object that is known to have no dict -/
theorem call_tuple_frz : CallR X (.type "tuple") (fun xs H Q => ∃ p ys, xs = [.ref p] ∧ SqL X.K H p ys ∧ ∀ l (o : Obj), o.dict = none → H l = none → Q (.ref l) (upd H l (.frz o (.tup ys)))) := by
  intro pins s σ H xs us Q I r h
  obtain ⟨p, ys, rfl, hq, q⟩ := h
  obtain ⟨u, rfl, rx⟩ := vals1 r
  cases rx
  obtain ⟨its, r', pl, hz⟩ := I.list hq
  have hlen := r'.length
  refine call_tuple_list pl.isList (fun h' kp => ?_) (by simp only [List.size_toArray] <;> omega)
  have I1 : Inv X pins σ H { s with heap := h' } := I.kept (t' := s.toks) kp
  have I2 : Inv X pins σ (upd H h'.objs.size (.frz ({ cls := .type "tuple", data := .seq its.toArray } : Obj) (.tup ys))) { s with heap := h'.push { cls := .type "tuple", data := .seq its.toArray } } :=
    I1.laid (t' := s.toks) (fun b o e => Heap.get?_push_of_some _ e) (Nat.le_refl _) (show ObjOk X.prog X.w _ _ _ (.frz _ (.tup ys)) from ⟨Heap.get?_push_size _ rfl, hz, its, r', IsTup.new _ _⟩)
  exact ⟨.ref h'.objs.size, _, I2, rfl, q _ _ rfl (I1.hok.fresh (Nat.le_refl _))⟩
theorem refsOf : ∀ {ps : List Addr} {us : List Value}, Vals (ps.map V.ref) us → us = ps.map Value.ref
  | [], _, r => by cases r; rfl
  | p :: ps, _, r => by
    rw [List.map_cons] at r
    cases r with
    | cons h t =>
      cases h
      rw [List.map_cons, ← refsOf t]
/-- dict(t) of such a tuple of pairs -/
theorem call_dictT (hcalm : X.calm = true) : CallR X (.type "dict") (fun xs H Q => ∃ (a : Addr) (o : Obj) (ps : List Addr) (kvs : List (Key × V)), xs = [.ref a] ∧ H a = some (.frz o (.tup (ps.map V.ref))) ∧ o.dict = none ∧ Paired (fun p kv => SqT X.K H p [kV kv.1, kv.2]) ps kvs ∧
    ∀ p, H p = none → Q (.ref p) (upd H p (.dK (mergeK [] kvs)))) := by
  intro pins s σ H xs us Q I r q
  obtain ⟨a, o, ps, kvs, rfl, hq, hdn, hp, q⟩ := q
  obtain ⟨u, rfl, rx⟩ := vals1 r
  cases rx
  obtain ⟨ho, hz, its, rv, ob, ho2, hc, k, hdat⟩ := (show ObjOk X.prog X.w H s.heap a (.frz o (.tup (ps.map V.ref))) from I.hok a _ hq)
  rw [ho] at ho2
  cases ho2
  have ei := refsOf rv
  subst ei
  rw [List.length_map] at hz
  obtain ⟨prs, rel, hl, hpr⟩ := pairs_of I hp
  have hm : (s.heap.objs.size == sysModules) = false := beq_eq_false_iff_ne.mpr (Nat.ne_of_gt I.big)
  have hlen : (mergeK [] kvs).length ≤ sizeLine := by
    refine Nat.le_trans (length_mergeK kvs []) ?_
    rw [List.length_nil, Nat.zero_add, rel.length, hl]
    exact hz
  have hpr' : ∀ j : Nat, ∃ u : Value, ∀ q : Key × Value, prs[j]? = some q → ∃ b, ps[j]? = some b ∧ IsTup s.heap b #[u, q.2] ∧ keyIs q.1 u = true := fun j => by
    cases h : prs[j]? with
    | none => exact ⟨.none, fun q e => by cases e⟩
    | some q =>
      obtain ⟨b, u, e1, e2, e3⟩ := hpr j q h
      exact ⟨u, fun q' e => by cases e; exact ⟨b, e1, e2, e3⟩⟩
  obtain ⟨f, hf⟩ := Classical.axiomOfChoice hpr'
  have at' : ∀ (j : Nat) (k v : Value), (prs.mapIdx fun j q => (f j, q.2))[j]? = some (k, v) → ∃ q, prs[j]? = some q ∧ k = f j ∧ v = q.2 := fun j k v e => by
    rw [List.getElem?_mapIdx] at e
    obtain ⟨q, h1, h2⟩ := Option.map_eq_some_iff.mp e
    cases h2
    exact ⟨q, h1, rfl, rfl⟩
  refine PySem.call_dict_pairs (knd := mixKind X.prog X.w) (kvs := prs) (PySem.PairArg.tuple a (ps.map Value.ref).toArray (fun j => ps.getD j 0) (prs.mapIdx fun j q => (f j, q.2))) (I.ok.hd hcalm) ⟨⟨_, k, ho, hc, hdn, hdat⟩, ?_, fun j k v e => ?_⟩ ⟨by rw [List.length_mapIdx], fun i key v e => ?_⟩ ?_ fun h' tk hd' kk => ?_
  · rw [List.size_toArray, List.length_map, List.length_mapIdx, hl]
  · obtain ⟨q, h1, rfl, rfl⟩ := at' j k v e
    obtain ⟨b, e1, e2, e3⟩ := hf j q h1
    have eg : ps.getD j 0 = b := by rw [List.getD_eq_getElem?_getD, e1] <;> rfl
    show (List.map Value.ref ps).toArray[j]? = some (Value.ref (ps.getD j 0)) ∧ PairAt s.heap (ps.getD j 0) (f j) q.2
    rw [eg]
    exact ⟨by simp [e1], .inl e2⟩
  · obtain ⟨q, h1, rfl, rfl⟩ := at' i key v e
    obtain ⟨b, e1, e2, e3⟩ := hf i q h1
    exact ⟨q.1, h1, e3⟩
  · rw [List.length_mapIdx, hl]
    exact hz
  · exact ⟨.ref s.heap.objs.size, upd H s.heap.objs.size (.dK (mergeK [] kvs)), I.laid (t' := tk) (fun b o e => kk b o (fun z => nomatch z) e) (Nat.le_refl _) (show ObjOk X.prog X.w _ _ _ (.dK (mergeK [] kvs)) from ⟨hlen, hm, merged [] prs, KV.merge rel .nil, hd'⟩), rfl, q _ (I.hok.fresh (Nat.le_refl _))⟩
end
end TT

set_option Elab.async false
set_option linter.all false
set_option maxRecDepth 100000
set_option maxHeartbeats 4000000
/-! enumerate(a tuple): the rule for a «for» and for a comprehension. -/
namespace TT
open PySem PySem.Spec PyProof.Rows L2
open AutoSeq1 (wpAny_loadPart')
theorem meets_enumerate_newT (l : Addr) (items : Array Value) (n : Nat) (dct : Option Addr) (sl : Array (Option Value)) :
    Meets (Builtin.«enumerate.__new__» ⟨[.type "enumerate", .ref l], []⟩) (fun _ R s => s.heap.get? l = some { cls := .type "tuple", dict := dct, data := .seq items n, slots := sl } ∧
      R (.ok (.ret (.ref (s.heap.push { cls := .type "tuple_iterator", data := .fields #[.ref l, .int 0 0] }).objs.size)))
        { s with heap := (s.heap.push { cls := .type "tuple_iterator", data := .fields #[.ref l, .int 0 0] }).push { cls := .type "enumerate", data := .fields #[.none, .bool false, .ref s.heap.objs.size, rawInt 0, .none, .none] } }) :=
  .of_wp fun prog w A R s h => by
    obtain ⟨hp, g, d, tk, os⟩ := s; obtain ⟨hl, h⟩ := h
    have hsub := sub_enumerate
    have hL : Heap.IsTuple (Shared.heap ⟨hp, g, d, tk, os⟩) l items := ⟨_, hl, rfl, n, rfl⟩
    wp_walk using wpAny_loadPart' hl
    refine wpAny_stack_any fun st => wpAny_pure ?_
    split
    · rename_i c _ _ _ _ _
      cases (c == Value.type "enumerate")
      · wp_walk using wpAny_loadPart' hl, wpAny_pyIter_tuple hL
        exact ⟨_, rfl, h⟩
      · wp_walk using wpAny_loadPart' hl, wpAny_pyIter_tuple hL
        exact ⟨_, rfl, h⟩
    · wp_walk using wpAny_loadPart' hl, wpAny_pyIter_tuple hL
      exact ⟨_, rfl, h⟩
theorem call_enumerate_tuple {prog : Program} {w : World} {A : Around} {E : Value → Shared → Prop} {s : Shared} {l : Addr} {items : Array Value} {Q : Value → Shared → Prop} (hL : s.heap.IsTuple l items)
    (h : ∀ h', IsEnum h' (s.heap.objs.size + 1) s.heap.objs.size 0 .none → h'.IsTupleIter s.heap.objs.size l 0 → h'.objs.size = s.heap.objs.size + 2 →
      (∀ b o, s.heap.get? b = some o → h'.get? b = some o) → Q (.ref (s.heap.objs.size + 1)) { s with heap := h' }) :
    wpAny (model prog w) A (call (.type "enumerate") [.ref l]) Q E s := by
  obtain ⟨⟨c, dct, dt, sl⟩, hl, hc, n, hd⟩ := hL
  replace hc : c = .type "tuple" := hc
  replace hd : dt = .seq items n := hd
  subst hc hd
  refine callType_new F.called_enumerate (by decide) (F.typeCall_enumerate_1 _) (F.newCall_enumerate_1 _) (fun obj => F.args_object_init_2 obj _) F.entry_enumerate_new
    (meets_enumerate_newT l items n dct sl) ⟨hl, ?_⟩
  have hz : (s.heap.push { cls := .type "tuple_iterator", data := .fields #[.ref l, .int 0 0] }).objs.size = s.heap.objs.size + 1 := Heap.size_push ..
  show _ ∧ _
  rw [hz]
  have he : IsEnum ((s.heap.push { cls := .type "tuple_iterator", data := .fields #[.ref l, .int 0 0] }).push
      { cls := .type "enumerate", data := .fields #[.none, .bool false, .ref s.heap.objs.size, rawInt 0, .none, .none] }) (s.heap.objs.size + 1) s.heap.objs.size 0 .none := by
    have := Heap.get?_push_size (s.heap.push { cls := .type "tuple_iterator", data := .fields #[.ref l, .int 0 0] })
      (o := { cls := .type "enumerate", data := .fields #[.none, .bool false, .ref s.heap.objs.size, rawInt 0, .none, .none] }) rfl
    rw [hz] at this; exact this
  refine ⟨⟨_, he, rfl⟩, h _ he ⟨_, Heap.get?_push_of_some _ (Heap.get?_push_size _ rfl), rfl, rfl⟩ (by rw [Heap.size_push, hz]) fun b o x => Heap.get?_push_of_some _ (Heap.get?_push_of_some _ x)⟩
/-- the tuple at a, each item in a new pair -/
def IteT (K : PySem.W.Frag) (a : Addr) : It :=
  ⟨fun i H => ∃ (xs : List V) (x : V), SqT K H a xs ∧ xs[i]? = some x, fun i H v H' => ∃ T x, v = .ref T ∧ H T = none ∧ H' = upd H T (.tup [.int (i : Nat), x]) ∧ ∀ xs, SqT K H a xs → xs[i]? = some x, fun i H => ∃ xs : List V, SqT K H a xs ∧ xs.length ≤ i⟩
theorem turn_enumT {P : Program} {w : World} {K : PySem.W.Frag} {elts : List Expr} {kk : Nat} {tpos : Pos} (a e it : Addr) :
    Turn P w K (.Tuple elts kk tpos) (IteT K a) [e, it] e (fun i h => (∃ old, IsEnum h e it ((i : Nat) : Int) old) ∧ h.IsTupleIter it a i ∧ e ≠ it) where
  mem := by simp
  obj := fun i h st b hb => by
    obtain ⟨⟨old, he⟩, ⟨o, ho, hc, hd⟩, _⟩ := st
    have e' : b = e ∨ b = it := by simpa using hb
    rcases e' with z | z
    · rw [z]; exact ⟨_, he, fun v q => nomatch q⟩
    · rw [z]; exact ⟨o, ho, fun v q => by rw [hd] at q; cases q⟩
  keep := fun i h h' st k => let ⟨⟨old, he⟩, hi, hne⟩ := st; ⟨⟨old, k e (by simp) _ he⟩, hi.at fun o q => k it (by simp) o q, hne⟩
  item := by
    intro X hP hw hK hc i pins s σ H E I hf st hg
    subst hP hw hK
    obtain ⟨⟨old, he⟩, hit, hne⟩ := st
    obtain ⟨xs, x, hq, hx⟩ := hg
    obtain ⟨its, rv, p, hz⟩ := I.tuple hq
    obtain ⟨u, hu, ru⟩ := rv.get hx
    have hel : e < s.heap.objs.size := Heap.lt_size he
    have hil : it < s.heap.objs.size := by obtain ⟨_, q, _⟩ := hit; exact Heap.lt_size q
    have hia : a ≠ it := by
      rintro rfl
      obtain ⟨o1, q1, c1, _⟩ := hit
      obtain ⟨o2, q2, c2, _⟩ := id p
      rw [q1] at q2
      cases q2
      rw [c1] at c2
      exact absurd c2 (by decide)
    have hlt : i < its.toArray.size := by
      rw [List.size_toArray]
      exact (List.getElem?_eq_some_iff.mp hu).1
    by_cases hea : e = a
    · exfalso
      subst hea
      obtain ⟨o2, q2, c2, _⟩ := id p
      rw [show s.heap.get? e = _ from he] at q2
      cases q2
      replace c2 : Value.type "enumerate" = Value.type "tuple" := c2
      exact absurd c2 (by decide)
    refine wpAny_pyNext_enum_itemD (Draws.tuple (A := X.A.in1) (I.ok.hd hc) it a hia its.toArray) he ⟨hit, p⟩ hlt hne (by simp [hne, hea]) fun y h' tk hy ho hst hT hsz hk => ?_
    obtain ⟨hit', _⟩ := hst
    have eu : y = u := by
      have h1 : its[i]? = some y := by simpa using hy
      rw [hu] at h1
      exact (Option.some.inj h1).symm
    subst eu
    refine ⟨_, rfl, wpAny_letOwnedTupleGo_enum (s := { s with heap := h', toks := tk + 1 }) ho fun h'' he' sb => ?_⟩
    have hT2 : h''.get? s.heap.objs.size = some { cls := .type "tuple", data := .seq #[.int i tk, y] } := (sb.2 _ (Nat.ne_of_gt hel)).trans hT
    have new : ObjOk X.prog X.w (upd H s.heap.objs.size (.tup [.int (i : Nat), x])) h'' s.heap.objs.size (.tup [.int (i : Nat), x]) :=
      ⟨by show 2 ≤ sizeLine; decide, [.int i tk, y], .cons ⟨_, rfl⟩ (.cons ru .nil), ⟨_, hT2, rfl, _, rfl⟩⟩
    have I1 : Inv X pins σ (upd H s.heap.objs.size (.tup [.int (i : Nat), x])) { s with heap := h'', toks := tk + 1 } :=
      I.turnedNew (ch := [e, it]) (fun b ob hb q => (sb.2 b (fun z => hb (by simp [z]))).trans (hk b ob (fun z => hb (by simp [z])) (fun z => hb (by simp [z])) q)) hf (Nat.le_refl _) new
    refine ⟨.ref s.heap.objs.size, _, I1, rfl, ⟨_, x, rfl, I.hok.fresh (Nat.le_refl _), rfl, fun ys hy => by rw [I.tuple_inj hy hq]; exact hx⟩, ⟨⟨y, ?_⟩, hit'.at fun o q => (sb.2 it (Ne.symm hne)).trans q, hne⟩, fun b hb => ?_⟩
    · have e1 : ((i + 1 : Nat) : Int) = (i : Int) + 1 := by omega
      rw [e1]; exact he'
    · have hb' : b < s.heap.objs.size := by
        have e' : b = e ∨ b = it := by simpa using hb
        rcases e' with z | z
        · rw [z]; exact hel
        · rw [z]; exact hil
      rw [upd_ne (Nat.ne_of_lt hb')]
      exact (hf b hb).1
  done := by
    intro X hP hw hK hc i pins s σ H E I hf st hg
    subst hP hw hK
    obtain ⟨⟨old, he⟩, hit, hne⟩ := st
    obtain ⟨xs, hq, hx⟩ := hg
    obtain ⟨its, rv, p, hz⟩ := I.tuple hq
    obtain ⟨f0, f1, f2, f3, f4, f5⟩ := hf it (by simp)
    have hl := rv.length
    have hT : s.TypeIs (.ref e) "enumerate" := ⟨_, he, rfl⟩
    unfold pyNext
    refine wpAny_bind (wpAny_attempt (wpAny_callSpecial?_slot (name := Str.ofString "__next__") hT F.slot_enumerate_next
      (wpAny_call_entry F.slot_enumerate_next hT F.entry_enumerate_next ?_ (F.args_enumerate_next_1 _))))
    show wpAny _ _ (field (.ref e) 2 >>= _) _ _ _
    refine wpAny_bind (wpAny_field he rfl (x := .ref it) rfl ?_)
    refine wpAny_bind (wpAny_nextOf_tuple_end (I.ok.hd hc) hit p (by simp; omega) fun h' x he' hx' => ?_)
    obtain ⟨o, ho, hc⟩ := hx'
    refine wpAny_bind (wpAny_isInstance (T := "StopIteration") (b := true) ⟨o, ho, hc⟩ isSubtype_stop ?_)
    exact wpAny_pure ⟨rfl, I.turned (t' := s.toks) (fun b o hb q => he' b o hb q) f0 f1 f3 f4 f5⟩
  self := fun A i s Q E st h => let ⟨⟨_, he⟩, _⟩ := st; wpAny_pyIter_enum he h
def iEnumT (K : PySem.W.Frag) (ta : TA) : TI := fun σ H R => ta σ H fun vs H1 => ∃ a xs, vs = [.ref a] ∧ SqT K H1 a xs ∧ R (IteT K a) H1
theorem pi_enumT {X : Cx} {e : Expr} {ta : TA} {p pos tpos : Pos} {elts : List Expr} {kk : Nat} (hg : Gl X "enumerate") (hm : X.mg "enumerate" = none) (ha : PA X [e] ta) (hs : starEach [e] X.env = [(false, eval e X.env)] := by rfl) :
    PI X (.Tuple elts kk tpos) (.Call (.Name "enumerate" p) [e] [] pos) (iEnumT X.K ta) := by
  refine ⟨fun pins s σ H R I h => ?_⟩
  refine Call_ (ld_blt I hg hm boot_enumerate (PyProof.Rows.callWith_type1 (thn (ha.run pos pins s σ H _ I h) fun us s1 ⟨vs, H1, I1, r1, q1⟩ => ?_) hs rfl))
  obtain ⟨a, xs, ex, hq, q⟩ := q1
  subst ex
  cases r1 with
  | cons r rr =>
    cases rr
    cases r
    obtain ⟨its, rv, p', hz⟩ := I1.tuple hq
    refine call_enumerate_tuple p' fun h' he hit hsz hk => wpAny_pyIter_enum he ?_
    have I2 : Inv X pins σ H1 { s1 with heap := h' } := I1.kept (t' := s1.toks) hk
    refine ⟨s1.heap.objs.size + 1, [s1.heap.objs.size + 1, s1.heap.objs.size], _, _, H1, rfl, I2, turn_enumT a (s1.heap.objs.size + 1) s1.heap.objs.size, ⟨⟨.none, he⟩, hit, Nat.succ_ne_self _⟩, fun b hb => ?_, q⟩
    have e' : b = s1.heap.objs.size + 1 ∨ b = s1.heap.objs.size := by simpa using hb
    have hle : s1.heap.objs.size ≤ b := by
      rcases e' with z | z
      · rw [z]; exact Nat.le_add_right _ _
      · rw [z]; exact Nat.le_refl _
    exact I1.fpOk hle (I1.hok.fresh hle)
theorem walk_enumT {K : PySem.W.Frag} {a : Addr} {xs : List V} : Walk (IteT K a) xs.length (fun H => SqT K H a xs) (YPair (fun i => some (.int (i : Nat))) (fun i => xs[i]?)) := by
  refine ⟨fun i _ hi q => ⟨xs, xs[i], q, by simp [hi]⟩, fun _ q => ⟨xs, q, Nat.le_refl _⟩, fun i H v H' _ q y => ?_⟩
  obtain ⟨T, x, h1, h2, h3, h4⟩ := y
  exact ⟨T, .int (i : Nat), x, h1, h2, h3, rfl, h4 xs q⟩
end TT

set_option Elab.async false
set_option linter.all false
set_option maxRecDepth 100000
set_option maxHeartbeats 4000000
/-! len(x), x[i], y in x by the own __len__, __getitem__, __contains__ of a class. -/
namespace TT
open PySem PySem.Spec PyProof.Rows L2 LamX
section
variable {X : Cx} {CX : CXT} {k : Nat} {f C : Addr} {fd : FuncData} {ps : List Str} {sp : Sp} {E : XK} {a b : Expr} {ta tb : TE} {pos : Pos}
theorem run_fn1 {pins : List (Addr × Obj)} {σ : L2.St} {H : Hp} {s : Shared} {Q : VK} {us : List Value} {vs : List V} (F : FnOk X.prog X.w X.K X.mg X.base CX k f fd ps sp) (hr : Room k X.A.in1) (hb : Binds X.K fd ps []) (hx : Passes CX X E)
    (I : Inv X pins σ H s) (r : Vals vs us) (h : sp vs H Q E) : wpAny (model X.prog X.w) X.A.in1 (call (.ref f) us) (EP X pins σ Q) X.xe s := by
  have e0 : Env0 X.prog X.w X.K X.mg X.base X.A.in1 X.stack s H := by
    have e := I.env0
    exact ⟨e.frames, e.mod, e.bs, e.bsz, e.funs, e.frf, e.hok, e.bare⟩
  have hl := F.len _ _ _ _ h
  refine wpAny_call (codeAny_mono (F.run X.A.in1 X.stack s H ⟨us, []⟩ us vs Q E hr e0 (by
    have := hb s us I.kIn (by rw [List.append_nil, ← r.length]; exact hl)
    rw [List.append_nil] at this
    exact this) r h) fun r s' hq => ?_)
  cases r with
  | error e => exact hx pins σ H s e s' I hq
  | ok fl =>
    cases fl with
    | ret w => exact I.after hq
    | next => exact False.elim hq
    | brk => exact False.elim hq
    | cont => exact False.elim hq
/-- len(x) by the own __len__ -/
def rLenO (C : Addr) (sp : Sp) (E : XK) : List V → Hp → VK → Prop := fun vs H Q => ∃ a dx fs, vs = [V.ref a] ∧ H a = some (.ins C dx fs) ∧ sp [.ref a] H (fun v H' => ∃ n : Int, v = .int n ∧ (0 ≤ n ∧ n < 2 ^ 63) ∧ Q (.int n) H') E
theorem call_lenO (F : FnOk X.prog X.w X.K X.mg X.base CX k f fd ps sp) (hr : Room k X.A.in1) (hb : Binds X.K fd ps []) (hx : Passes CX X E)
    (hs : PySem.W.findIn X.K (.ref C) "__len__" = some (some (.ref f))) (hf : PySem.W.isFn X.K (.ref f) = true) : CallR X (.builtin "len") (rLenO C sp E) := by
  intro pins s σ H xs us Q I r h
  obtain ⟨a, dx, fs, rfl, ha, hq⟩ := h
  obtain ⟨u, rfl, ru⟩ := vals1 r
  obtain rfl : u = Value.ref a := ru
  obtain ⟨mA, O, _⟩ := ins_get I.hok ha
  obtain ⟨od, J, _⟩ := O.look
  obtain ⟨m, hF⟩ := I.fr
  refine PySem.W.len_K hF I.ok.mod.kin J hs hf (wpAny_mono (run_fn1 (vs := [.ref a]) (us := [.ref a]) F hr hb hx I (.cons rfl .nil) hq) (fun v' s' z => ?_) fun _ _ z => z)
  obtain ⟨w', H', I', r', n, rfl, hn, q⟩ := z
  obtain ⟨t, rfl⟩ := r'
  exact ⟨hn, .int n, H', I'.tok _, ⟨_, rfl⟩, q⟩
/-- x[i] by the own __getitem__ -/
def rIxO (C : Addr) (sp : Sp) (E : XK) : R2 := fun x y H Q => ∃ a dx fs, x = V.ref a ∧ H a = some (.ins C dx fs) ∧ sp [.ref a, y] H Q E
def PlainIxT (b : Expr) : Prop := ∀ o i, subscripted b true o i = runValue (.builtin "lifetime.subscript" ⟨[o, i], []⟩)
theorem pe_ixO (F : FnOk X.prog X.w X.K X.mg X.base CX k f fd ps sp) (hr : Room k X.A.in1) (hb : Binds X.K fd ps []) (hx : Passes CX X E)
    (hs : PySem.W.findIn X.K (.ref C) "__getitem__" = some (some (.ref f))) (hf : PySem.W.isFn X.K (.ref f) = true) (hn : PySem.W.fnIn X.K f = true) (ha : PE X a ta) (hb' : PE X b tb) (hp : PlainIxT b) : PE X (.Subscript a b pos) (tOp (rIxO C sp E) ta tb) := by
  refine ⟨fun pins s σ H Q I h => ?_⟩
  refine Subscript_ (binT ha hb' I h fun v u s2 x y H2 I2 rx ry q => ?_)
  obtain ⟨a', dx, fs, rfl, h1, hq⟩ := q
  obtain rfl : v = Value.ref a' := rx
  obtain ⟨mA, O, _⟩ := ins_get I2.hok h1
  obtain ⟨od, J, _⟩ := O.look
  obtain ⟨m, hF⟩ := I2.fr
  exact PySem.W.sub_K hF I2.ok.mod.kin J hs hn hf (run_fn1 (vs := [.ref a', y]) (us := [.ref a', u]) F hr hb hx I2 (.cons rfl (.cons ry .nil)) hq) (hp _ _)
/-- y in x, y not in x, by the own __contains__, which answers by a bool -/
def rInOwn (C : Addr) (sp : Sp) (E : XK) (neg : Bool) : R2 := fun y x H Q => ∃ a dx fs, x = V.ref a ∧ H a = some (.ins C dx fs) ∧ sp [.ref a, y] H (fun v H' => ∃ b, v = V.bl b ∧ Q (.bl (if neg then !b else b)) H') E
theorem op_inOwn (F : FnOk X.prog X.w X.K X.mg X.base CX k f fd ps sp) (hr : Room k X.A) (hb : Binds X.K fd ps []) (hx : Passes CX X E)
    (hs : PySem.W.findIn X.K (.ref C) "__contains__" = some (some (.ref f))) (hf : PySem.W.isFn X.K (.ref f) = true) : OpR X (compareOp .In) (rInOwn C sp E false) := by
  intro pins s σ H y x u v Q I ry rx h
  obtain ⟨a, dx, fs, rfl, ha, hq⟩ := h
  obtain rfl : v = Value.ref a := rx
  obtain ⟨mA, O, _⟩ := ins_get I.hok ha
  obtain ⟨od, J, _⟩ := O.look
  obtain ⟨m, hF⟩ := I.fr
  refine PySem.W.in_K hF I.ok.mod.kin J hs hf (wpAny_mono (run_fn (us := [.ref a, u]) (vs := [.ref a, y]) (dvs := []) (ds := []) F hr hb .nil hx I (.cons rfl (.cons ry .nil)) hq) (fun v' s' z => ?_) fun _ _ z => z)
  obtain ⟨w', H', I', r', c, rfl, q⟩ := z
  obtain rfl : v' = Value.bool c := r'
  exact wpAny_truthy_bool (by exact ⟨.bl c, H', I', rfl, q⟩)
theorem op_notInOwn (F : FnOk X.prog X.w X.K X.mg X.base CX k f fd ps sp) (hr : Room k X.A) (hb : Binds X.K fd ps []) (hx : Passes CX X E)
    (hs : PySem.W.findIn X.K (.ref C) "__contains__" = some (some (.ref f))) (hf : PySem.W.isFn X.K (.ref f) = true) : OpR X (compareOp .NotIn) (rInOwn C sp E true) := by
  intro pins s σ H y x u v Q I ry rx h
  obtain ⟨a, dx, fs, rfl, ha, hq⟩ := h
  obtain rfl : v = Value.ref a := rx
  obtain ⟨mA, O, _⟩ := ins_get I.hok ha
  obtain ⟨od, J, _⟩ := O.look
  obtain ⟨m, hF⟩ := I.fr
  refine PySem.W.notIn_K hF I.ok.mod.kin J hs hf (wpAny_mono (run_fn (us := [.ref a, u]) (vs := [.ref a, y]) (dvs := []) (ds := []) F hr hb .nil hx I (.cons rfl (.cons ry .nil)) hq) (fun v' s' z => ?_) fun _ _ z => z)
  obtain ⟨w', H', I', r', c, rfl, q⟩ := z
  obtain rfl : v' = Value.bool c := r'
  exact wpAny_truthy_bool (by exact ⟨.bl (!c), H', I', rfl, q⟩)
end
end TT

set_option Elab.async false
set_option linter.all false
set_option maxRecDepth 100000
set_option maxHeartbeats 4000000
/-! own == and != with a thing of a built-in type; == of two dicts of data, with either answer. -/
namespace TT
open PySem PySem.Spec PyProof.Rows L2 LamX
/-- x == y by the own __eq__, y of a built-in type -/
def rEqT (K : PySem.W.Frag) (C : Addr) (sp : Sp) (E : XK) : R2 := fun x y H Q => ∃ a dx fs T, x = V.ref a ∧ H a = some (.ins C dx fs) ∧ Ty H y T ∧ PySem.W.notFirst K C (.type T) = true ∧ sp [.ref a, y] H (fun v H' => (∃ b, v = V.bl b) ∧ Q v H') E
def rNeT (K : PySem.W.Frag) (C : Addr) (sp : Sp) (E : XK) : R2 := fun x y H Q => ∃ a dx fs T, x = V.ref a ∧ H a = some (.ins C dx fs) ∧ Ty H y T ∧ PySem.W.notFirst K C (.type T) = true ∧ sp [.ref a, y] H (fun v H' => ∃ b, v = V.bl b ∧ Q (.bl (!b)) H') E
section
variable {X : Cx} {CX : CXT} {k : Nat} {f C : Addr} {fd : FuncData} {ps : List Str} {sp : Sp} {E : XK}
theorem op_eqT (F : FnOk X.prog X.w X.K X.mg X.base CX k f fd ps sp) (hr : Room k X.A) (hb : Binds X.K fd ps []) (hx : Passes CX X E)
    (hs : PySem.W.findIn X.K (.ref C) "__eq__" = some (some (.ref f))) (hf : PySem.W.isFn X.K (.ref f) = true) : OpR X (compareOp .Eq) (rEqT X.K C sp E) := by
  intro pins s σ H x y v u Q I rx ry h
  obtain ⟨a, dx, fs, T, rfl, ha, ty, hn, hq⟩ := h
  obtain rfl : v = Value.ref a := rx
  obtain ⟨mA, O, _⟩ := ins_get I.hok ha
  obtain ⟨od, J, _⟩ := O.look
  obtain ⟨m, hF⟩ := I.fr
  show wpAny (model X.prog X.w) X.A (richCompare .Eq (.ref a) u) (EP X pins σ Q) X.xe s
  refine PySem.W.cmp_K (op := .Eq) hr.units0 hF I.ok.mod.kin J (Ty.looks I ry ty) hn hs hf (wpAny_mono (run_fn (us := [.ref a, u]) (vs := [.ref a, y]) (dvs := []) (ds := []) F hr hb .nil hx I (.cons rfl (.cons ry .nil)) hq) (fun v' s' z => ?_) fun _ _ z => z)
  obtain ⟨w', H', I', r', ⟨c, rfl⟩, q⟩ := z
  obtain rfl : v' = Value.bool c := r'
  exact ⟨.bl c, H', I', rfl, q⟩
theorem op_neT (F : FnOk X.prog X.w X.K X.mg X.base CX k f fd ps sp) (hr : Room k X.A.in1) (hu : X.A.units + 64 < cLine) (hb : Binds X.K fd ps []) (hx : Passes CX X E)
    (hm : PySem.W.mroIn X.K C (.type "object") = some true) (hne : PySem.W.findIn X.K (.ref C) "__ne__" = some (some (.builtin "object.__ne__")))
    (hs : PySem.W.findIn X.K (.ref C) "__eq__" = some (some (.ref f))) (hf : PySem.W.isFn X.K (.ref f) = true) : OpR X (compareOp .NotEq) (rNeT X.K C sp E) := by
  intro pins s σ H x y v u Q I rx ry h
  obtain ⟨a, dx, fs, T, rfl, ha, ty, hn, hq⟩ := h
  obtain rfl : v = Value.ref a := rx
  obtain ⟨mA, O, _⟩ := ins_get I.hok ha
  obtain ⟨od, J, _⟩ := O.look
  show wpAny (model X.prog X.w) X.A (richCompare .NotEq (.ref a) u) (EP X pins σ Q) X.xe s
  refine ne_K (by omega) I.kIn J (Ty.looks I ry ty) hn hm hne hs hf (wpAny_mono (run_fn1 (vs := [.ref a, y]) (us := [.ref a, u]) F hr hb hx I (.cons rfl (.cons ry .nil)) hq) (fun v' s' z => ?_) fun _ _ z => z)
  obtain ⟨w', H', I', r', c, rfl, q⟩ := z
  obtain rfl : v' = Value.bool c := r'
  exact ⟨c, rfl, .bl (!c), H', I', rfl, q⟩
end
/-- the values of two dicts of the same keys, each pair with its answer -/
inductive DHits (K : PySem.W.Frag) (H : Hp) (ls : List (Key × V)) : List (Key × V) → Bool → Prop
  | nil : DHits K H ls [] true
  | cons {p : Key × V} {ps : List (Key × V)} {u : V} {d e : PyData} {b : Bool} : valV ls p.1 = some u → Dp K H p.2 d → Dp K H u e → SeqAt.shaped d = true → SeqAt.shaped e = true → DHits K H ls ps b → DHits K H ls (p :: ps) (PyData.eqv d e && b)
def rEqDD (K : PySem.W.Frag) : R2 := fun x y H Q => ∃ a b ks ls e, x = V.ref a ∧ y = V.ref b ∧ H a = some (.dK ks) ∧ H b = some (.dK ls) ∧ ks.length = ls.length ∧ DHits K H ls ks e ∧ Q (.bl e) H
section
variable {X : Cx} {pins : List (Addr × Obj)} {σ : L2.St} {H : Hp} {s : Shared}
theorem DHits.run {A : Around} (I : Inv X pins σ H s) (hu : A.units + 64 < cLine) {ls : List (Key × V)} {vb : List (Key × Value)} (rb : KV ls vb) {ks : List (Key × V)} {e : Bool} (h : DHits X.K H ls ks e) : ∀ {va : List (Key × Value)}, KV ks va → PySem.W.KeqHitsP X.prog X.w A s vb va e := by
  induction h with
  | nil =>
    intro va ra
    unfold KV at ra
    cases ra
    exact .nil
  | @cons p ps u d e b hv h1 h2 s1 s2 _ ih =>
    intro va ra
    unfold KV at ra
    cases ra with
    | @cons _ q _ qs hd tl =>
      obtain ⟨e1, e2⟩ := hd
      have rr : RelO (some u) (valueAt vb p.1) := by rw [← hv]; exact rb.val p.1
      obtain ⟨y, hy, ry⟩ := rr.some_of
      obtain ⟨key, v⟩ := q
      have e1' : p.1 = key := e1
      rw [e1'] at hy
      obtain ⟨as, r1⟩ := Dp.reads I d _ _ h1 e2
      obtain ⟨bs, r2⟩ := Dp.reads I e _ _ h2 ry
      exact .hit hy (SeqAt.eqAt_reads d e A s _ _ as bs r1 r2 (SeqAt.canLay_of_shaped s1) (SeqAt.canLay_of_shaped s2) (SeqAt.room_of_shaped s1 hu)).eqP (ih tl)
theorem op_eqDD (hu : X.A.units + 65 < cLine) : OpR X (compareOp .Eq) (rEqDD X.K) := by
  intro pins s σ H x y v u Q I rx ry h
  obtain ⟨a, b, ks, ls, e, rfl, rfl, ha, hb, hl, hh, q⟩ := h
  obtain rfl : v = Value.ref a := rx
  obtain rfl : u = Value.ref b := ry
  obtain ⟨_, ya, va, ra, da⟩ := (show ObjOk X.prog X.w H s.heap a (.dK ks) from I.hok a _ ha)
  obtain ⟨_, yb, vb, rb, db⟩ := (show ObjOk X.prog X.w H s.heap b (.dK ls) from I.hok b _ hb)
  show wpAny (model X.prog X.w) X.A (richCompare .Eq (.ref a) (.ref b)) (EP X pins σ Q) X.xe s
  refine PySem.W.rcP_dicts (knd := mixKind X.prog X.w) (r := e) ya yb da db (by omega) (fun _ => hh.run (A := X.A.in1) I (by show X.A.units + 1 + 64 < cLine; omega) rb ra) X.xe _ ?_
  have e2 : va.length = vb.length := by rw [← ra.length, ← rb.length]; exact hl
  rw [show (va.length == vb.length && e) = e from by rw [e2]; simp]
  exact ⟨.bl e, H, I, rfl, q⟩
end
end TT

set_option Elab.async false
set_option linter.all false
set_option maxRecDepth 100000
set_option maxHeartbeats 4000000
/-! t[::-1] of a tuple: a new tuple. -/
namespace TT
open PySem PySem.Spec PyProof.Rows L2 HT PySem.Calls
section
variable {prog : Program} {w : World} {A : Around} {E : Value → Shared → Prop} {s : Shared}
theorem adjust_rev (n : Nat) : Builtin.Slice.sliceAdjust none none (-1) (n : Int) = ((n : Int) - 1, -1) := by
  unfold Builtin.Slice.sliceAdjust
  simp
theorem places_rev (n : Nat) : Builtin.Slice.slicePlaces ((n : Int) - 1) (-1) (-1) = n := by
  unfold Builtin.Slice.slicePlaces
  have h1 : ¬ ((-1 : Int) > 0) := by decide
  simp only [h1, if_false]
  have h2 : (- -1 : Int) = 1 := by decide
  by_cases h : n = 0
  · subst h
    simp
  · rw [h2, Int.ediv_one]
    split <;> omega
theorem sliceApplied_rev {sl : Addr} {vs : Value} {n : Nat} {Q : Int × Int × Nat → Shared → Prop} (hs : s.heap.IsSliceOf sl .none .none vs) (ps : IsPart vs (some (-1)))
    (h : Q ((n : Int) - 1, -1, n) s) : wpAny (model prog w) A (Builtin.Slice.sliceApplied (.ref sl) (pure (n : Int))) Q E s := by
  obtain ⟨os, hos, hcs, hds⟩ := id hs
  unfold Builtin.Slice.sliceApplied Builtin.Slice.sliceFields
  refine wpAny_bind (wpAny_bind (wpAny_field hos hds (x := .none) rfl (wpAny_bind (wpAny_field hos hds (x := .none) rfl (wpAny_bind (wpAny_field hos hds (x := vs) rfl (wpAny_pure ?_)))))))
  refine wpAny_bind (slicePart_ ps ?_)
  show wpAny _ _ (if ((-1 : Int) == 0) = true then _ else _) _ _ s
  rw [if_neg (by decide)]
  refine wpAny_bind (slicePart_ .none (wpAny_bind (slicePart_ .none (wpAny_bind (wpAny_pure ?_)))))
  show wpAny _ _ (match Builtin.Slice.sliceAdjust none none (-1) (n : Int) with | (lo, hi) => pure (lo, (-1 : Int), Builtin.Slice.slicePlaces lo hi (-1))) _ _ s
  rw [adjust_rev n]
  show wpAny _ _ (pure ((n : Int) - 1, (-1 : Int), Builtin.Slice.slicePlaces ((n : Int) - 1) (-1) (-1))) _ _ s
  rw [places_rev]
  exact wpAny_pure h
theorem fm_congr {α β : Type} {f g : α → Option β} : ∀ {l : List α}, (∀ x ∈ l, f x = g x) → l.filterMap f = l.filterMap g
  | [], _ => rfl
  | a :: t, h => by
    rw [List.filterMap_cons, List.filterMap_cons, h a (List.mem_cons_self ..), fm_congr fun x hx => h x (List.mem_cons_of_mem _ hx)]
theorem pick_rev (xs : Array Value) : ((List.range xs.size).filterMap fun (m : Nat) => xs[(((xs.size : Int) - 1) + (m : Int) * (-1)).toNat]?).toArray = xs.toList.reverse.toArray := by
  have e : (List.range xs.size).filterMap (fun (m : Nat) => xs[(((xs.size : Int) - 1) + (m : Int) * (-1)).toNat]?) = (List.range xs.size).filterMap ((fun x => xs[x]?) ∘ fun k => xs.size - 1 - k) := by
    apply fm_congr
    intro m hm
    have := List.mem_range.mp hm
    show xs[_]? = xs[xs.size - 1 - m]?
    congr 1
    omega
  rw [e, ← List.filterMap_map, PySem.W.krv_range, List.filterMap_reverse, PySem.W.krv_all]
theorem getItem_tuple_rev {t sl : Addr} {items : Array Value} {vs : Value} {Q : Value → Shared → Prop} (ht : IsTup s.heap t items) (hs : s.heap.IsSliceOf sl .none .none vs) (ps : IsPart vs (some (-1)))
    (h : Q (.ref s.heap.objs.size) { s with heap := s.heap.push { cls := .type "tuple", data := .seq items.toList.reverse.toArray } }) (hsz : items.size ≤ sizeLine) : wpAny (model prog w) A (getItem (.ref t) (.ref sl)) Q E s := by
  have htake : sizeOk (.seq items.toList.reverse.toArray) := by
    show items.toList.reverse.toArray.size ≤ sizeLine
    rw [List.size_toArray, List.length_reverse, Array.length_toList]
    omega
  obtain ⟨os, hos, hcs, hds⟩ := id hs
  have hTs : s.TypeIs (.ref sl) "slice" := ⟨os, hos, hcs⟩
  unfold getItem
  try with_reducible refine wpAny_holding ?_
  first | refine wpAny_bind (wpAny_pure ?_) | skip
  refine wpAny_bind (wpAny_sequenceKey ht.typeIs (by decide) ?_)
  refine wpAny_bind (wpAny_callSpecial?_slot (name := Str.ofString "__getitem__") ht.typeIs PyProof.Rows.slot_tuple_getitem
    (wpAny_call_entry PyProof.Rows.slot_tuple_getitem ht.typeIs entry_tuple_getitem ?_ (args_tuple_getitem _ _)))
  show wpAny _ _ (Builtin.Tuple.tupleItemsOf (.ref t) >>= _) _ _ s
  refine wpAny_bind (tupleItemsOf_ ht ?_)
  refine wpAny_bind (wpAny_typeOf hTs ?_)
  rw [if_pos (by decide)]
  refine wpAny_bind (sliceApplied_rev hs ps ?_)
  have hno : ¬ ((((items.size : Int) - 1) == 0 && (-1 : Int) == 1 && items.size == items.size) = true) := by
    intro q
    rw [Bool.and_eq_true, Bool.and_eq_true] at q
    have := q.1.2
    revert this
    decide
  show wpAny _ _ (if (((items.size : Int) - 1) == 0 && (-1 : Int) == 1 && items.size == items.size) = true then _ else _) _ _ s
  rw [if_neg hno, pick_rev]
  first
    | exact wpAny_bind (m := Builtin.Tuple.tupleExact _) (wpAny_newObj_type (wpAny_pure ⟨_, rfl, wpAny_pure h⟩) htake)
    | exact wpAny_bind (m := Builtin.Tuple.tupleExact _) (wpAny_newObj_type (wpAny_bind (wpAny_pure (wpAny_pure ⟨_, rfl, wpAny_pure h⟩))) htake)
    | exact wpAny_bind (wpAny_bind (m := Builtin.Tuple.tupleExact _) (wpAny_newObj_type (wpAny_pure (wpAny_pure ⟨_, rfl, wpAny_pure h⟩)) htake))
    | exact wpAny_bind (wpAny_bind (m := Builtin.Tuple.tupleExact _) (wpAny_newObj_type (wpAny_pure ⟨_, rfl, wpAny_pure h⟩) htake))
end
section
variable {X : Cx}
def tRevT (K : PySem.W.Frag) (te : TE) : TE := fun σ H Q => te σ H fun x H1 => ∃ a xs, x = .ref a ∧ SqT K H1 a xs ∧ ∀ p, H1 p = none → Q (.ref p) (upd H1 p (.tup xs.reverse))
theorem pe_revT {e : Expr} {te : TE} {k : Nat} {p1 p2 p3 pos : Pos} (he : PE X e te) : PE X (.Subscript e (.Slice none none (some (.UnaryOp .USub (.Constant (.int 1) k p1) p2)) p3) pos) (tRevT X.K te) := by
  refine ⟨fun pins s σ H Q I h => ?_⟩
  refine Subscript_ (thn (he.run pins s σ H _ I h) fun v s1 ⟨x, H1, I1, r1, q1⟩ => ?_)
  obtain ⟨a, xs, ex, hx, q⟩ := q1
  subst ex
  cases r1
  have hst : PO X (some (.UnaryOp .USub (.Constant (.int 1) k p1) p2)) (tPart (tUn (rU fun i => .int (-i)) (tC (.int 1)))) := po_some (pe_un un_neg pe_int)
  refine wpAny_Slice (thn (po_none.run pins s1 σ H1 (fun o H2 => o = none ∧ H2 = H1) I1 ⟨rfl, rfl⟩) fun vl s2 ⟨l, H2, I2, pl, el, e2⟩ => ?_)
  subst el e2
  refine thn (po_none.run pins s2 σ H2 (fun o H3 => o = none ∧ H3 = H2) I2 ⟨rfl, rfl⟩) fun vu s3 ⟨u, H3, I3, pu, eu, e3⟩ => ?_
  subst eu e3
  refine thn (hst.run pins s3 σ H3 (fun o H4 => o = some (-1) ∧ H4 = H3) I3 ⟨1, rfl, -1, rfl, rfl, rfl⟩) fun vs s4 ⟨o, H4, I4, ps, eo, e4⟩ => ?_
  subst eo e4
  cases pl
  cases pu
  have I5 : Inv X pins σ H4 { s4 with heap := s4.heap.push { cls := .type "slice", data := .fields #[.none, .none, vs] } } := I4.kept (t' := s4.toks) fun b ob q => Heap.get?_push_of_some _ q
  obtain ⟨its, r, ht, hz⟩ := I5.tuple hx
  have hlen : its.toArray.size = xs.length := by rw [List.size_toArray]; exact r.length.symm
  show wpAny (model X.prog X.w) X.A (subscriptTail e (.Slice none none (some (.UnaryOp .USub (.Constant (.int 1) k p1) p2)) p3) (.ref a) (.ref s4.heap.objs.size)) (EP X pins σ Q) X.xe { s4 with heap := s4.heap.push { cls := .type "slice", data := .fields #[.none, .none, vs] } }
  refine tail_any (ops := [.ref a, .ref s4.heap.objs.size]) ht.typeIs (PyProof.Rows.slot_tuple_getitem.lookup) ?_ (by with_unfolding_all rfl)
  refine getItem_tuple_rev ht (Heap.IsSliceOf.new _ .none .none vs) ps ?_ (by rw [hlen]; exact hz)
  refine ⟨.ref _, _, I5.laid (t' := s4.toks) (o := .tup xs.reverse) (fun b ob q => Heap.get?_push_of_some _ q) (Nat.le_refl _) ?_, rfl, q _ (I5.hok.fresh (Nat.le_refl _))⟩
  exact ⟨by rw [List.length_reverse]; exact hz, _, r.reverse, IsTup.new _ _⟩
end
end TT

set_option Elab.async false
set_option linter.all false
set_option maxRecDepth 100000
set_option maxHeartbeats 4000000
namespace TT
open PySem PySem.Spec PyProof.Rows L2
def top (i : Nat) : Stmt := PySem.Challenge.pw_turnedtunes_k39_pieces_refused.main.body.getD i (.Pass ⟨0, 0, 0, 0⟩)
abbrev s_E_init : Stmt := inClass (top 3) 0
theorem sc_E_init : FnScope ["self", "value"] ["self", "value"] (defScope s_E_init) := ⟨rfl, rfl, rfl, by decide +kernel, rfl, by decide +kernel, by decide +kernel⟩
abbrev s_is_whole : Stmt := top 19
theorem sc_is_whole : FnScope ["value"] ["value"] (defScope s_is_whole) := ⟨rfl, rfl, rfl, by decide +kernel, rfl, by decide +kernel, by decide +kernel⟩
abbrev s_is_from : Stmt := top 20
theorem sc_is_from : FnScope ["value", "least"] ["value", "least"] (defScope s_is_from) := ⟨rfl, rfl, rfl, by decide +kernel, rfl, by decide +kernel, by decide +kernel⟩
abbrev s_is_between : Stmt := top 21
theorem sc_is_between : FnScope ["value", "least", "greatest"] ["value", "least", "greatest"] (defScope s_is_between) := ⟨rfl, rfl, rfl, by decide +kernel, rfl, by decide +kernel, by decide +kernel⟩
abbrev s_length_of : Stmt := top 58
theorem sc_length_of : FnScope ["piece"] ["piece"] (defScope s_length_of) := ⟨rfl, rfl, rfl, by decide +kernel, rfl, by decide +kernel, by decide +kernel⟩
abbrev s_starts_of : Stmt := top 59
theorem sc_starts_of : FnScope ["pieces", "starts", "piece"] ["pieces"] (defScope s_starts_of) := ⟨rfl, rfl, rfl, by decide +kernel, rfl, by decide +kernel, by decide +kernel⟩
abbrev s_new_ahead : Stmt := top 60
theorem sc_new_ahead : FnScope ["pieces", "many", "piece"] ["pieces"] (defScope s_new_ahead) := ⟨rfl, rfl, rfl, by decide +kernel, rfl, by decide +kernel, by decide +kernel⟩
abbrev s_M_init : Stmt := inClass (top 69) 0
theorem sc_M_init : FnScope ["self", "pieces"] ["self", "pieces"] (defScope s_M_init) := ⟨rfl, rfl, rfl, by decide +kernel, rfl, by decide +kernel, by decide +kernel⟩
abbrev s_are_pieces : Stmt := top 71
theorem sc_are_pieces : FnScope ["value", "here", "piece"] ["value"] (defScope s_are_pieces) := ⟨rfl, rfl, rfl, by decide +kernel, rfl, by decide +kernel, by decide +kernel⟩
abbrev s_is_piece : Stmt := top 72
theorem sc_is_piece : FnScope ["value", "here"] ["value", "here"] (defScope s_is_piece) := ⟨rfl, rfl, rfl, by decide +kernel, rfl, by decide +kernel, by decide +kernel⟩
abbrev s_is_copy : Stmt := top 73
theorem sc_is_copy : FnScope ["piece", "here", "_", "first", "length", "amount", "down", "backward"] ["piece", "here"] (defScope s_is_copy) := ⟨rfl, rfl, rfl, by decide +kernel, rfl, by decide +kernel, by decide +kernel⟩
abbrev s_l_pot : Stmt := top 84
theorem sc_l_pot : FnScope ["_law_script", "_law_k", "_law_cell", "_law_own", "_law_small"] ["_law_script", "_law_k"] (defScope s_l_pot) := ⟨rfl, rfl, rfl, by decide +kernel, rfl, by decide +kernel, by decide +kernel⟩
abbrev s_l_take : Stmt := top 85
theorem sc_l_take : FnScope ["_law_pot_here", "_law_upto", "_law_digit", "_law_prime", "_law_mixed"] ["_law_pot_here", "_law_upto"] (defScope s_l_take) := ⟨rfl, rfl, rfl, by decide +kernel, rfl, by decide +kernel, by decide +kernel⟩
abbrev s_l_of : Stmt := top 86
theorem sc_l_of : FnScope ["_law_pot_here", "_law_some"] ["_law_pot_here", "_law_some"] (defScope s_l_of) := ⟨rfl, rfl, rfl, by decide +kernel, rfl, by decide +kernel, by decide +kernel⟩
abbrev s_l_pots : Stmt := top 87
theorem sc_l_pots : FnScope ["_law_script", "_law_most", "_law_k"] ["_law_script", "_law_most"] (defScope s_l_pots) := ⟨rfl, rfl, rfl, by decide +kernel, rfl, by decide +kernel, by decide +kernel⟩
abbrev s_l_told : Stmt := top 88
theorem sc_l_told : FnScope ["_law_look", "_law_caught", "_law_found", "error"] ["_law_look"] (defScope s_l_told) := ⟨rfl, rfl, rfl, by decide +kernel, rfl, by decide +kernel, by decide +kernel⟩
abbrev s_l_is_int : Stmt := top 89
theorem sc_l_is_int : FnScope ["_law_value", "_law_low", "_law_high"] ["_law_value", "_law_low", "_law_high"] (defScope s_l_is_int) := ⟨rfl, rfl, rfl, by decide +kernel, rfl, by decide +kernel, by decide +kernel⟩
abbrev s_l_odd : Stmt := top 90
theorem sc_l_odd : FnScope ["_law_pot_here", "_law_some"] ["_law_pot_here"] (defScope s_l_odd) := ⟨rfl, rfl, rfl, by decide +kernel, rfl, by decide +kernel, by decide +kernel⟩
abbrev s_l_amount : Stmt := top 91
theorem sc_l_amount : FnScope ["_law_pot_here"] ["_law_pot_here"] (defScope s_l_amount) := ⟨rfl, rfl, rfl, by decide +kernel, rfl, by decide +kernel, by decide +kernel⟩
abbrev s_l_lead : Stmt := top 94
theorem sc_l_lead : FnScope ["_law_entry", "_law_is_down", "_law_amount_here"] ["_law_entry", "_law_is_down", "_law_amount_here"] (defScope s_l_lead) := ⟨rfl, rfl, rfl, by decide +kernel, rfl, by decide +kernel, by decide +kernel⟩
abbrev s_l_shown : Stmt := top 95
theorem sc_l_shown : FnScope ["_law_pieces_here", "_law_found", "_law_fresh", "_law_piece_here", "_law_number", "_law_spot"] ["_law_pieces_here"] (defScope s_l_shown) := ⟨rfl, rfl, rfl, by decide +kernel, rfl, by decide +kernel, by decide +kernel⟩
abbrev s_l_piece : Stmt := top 96
theorem sc_l_piece : FnScope ["_law_pot_here", "_law_here", "_law_room_left", "_law_length", "_law_way", "_law_first", "_law_is_down", "_law_is_back"] ["_law_pot_here", "_law_here", "_law_room_left"] (defScope s_l_piece) := ⟨rfl, rfl, rfl, by decide +kernel, rfl, by decide +kernel, by decide +kernel⟩
abbrev s_l_pieces : Stmt := top 97
theorem sc_l_pieces : FnScope ["_law_pot_here", "_law_size", "_law_found", "_law_here", "_law_lap", "_law_piece_here"] ["_law_pot_here", "_law_size"] (defScope s_l_pieces) := ⟨rfl, rfl, rfl, by decide +kernel, rfl, by decide +kernel, by decide +kernel⟩
abbrev s_l_bent : Stmt := top 98
theorem sc_l_bent : FnScope ["_law_pot_here", "_law_value", "_law_at", "_law_row"] ["_law_pot_here", "_law_value"] (defScope s_l_bent) := ⟨rfl, rfl, rfl, by decide +kernel, rfl, by decide +kernel, by decide +kernel⟩
abbrev s_l_is_piece : Stmt := top 99
theorem sc_l_is_piece : FnScope ["_law_piece_here", "_law_here"] ["_law_piece_here", "_law_here"] (defScope s_l_is_piece) := ⟨rfl, rfl, rfl, by decide +kernel, rfl, by decide +kernel, by decide +kernel⟩
abbrev s_l_are_pieces : Stmt := top 100
theorem sc_l_are_pieces : FnScope ["_law_value", "_law_here", "_law_piece_here"] ["_law_value"] (defScope s_l_are_pieces) := ⟨rfl, rfl, rfl, by decide +kernel, rfl, by decide +kernel, by decide +kernel⟩
abbrev s_l_near : Stmt := top 101
theorem sc_l_near : FnScope ["_law_pot_here", "_law_pieces_here", "_law_size", "_law_some", "_law_lap"] ["_law_pot_here", "_law_pieces_here"] (defScope s_l_near) := ⟨rfl, rfl, rfl, by decide +kernel, rfl, by decide +kernel, by decide +kernel⟩
abbrev s_l_right : Stmt := top 102
theorem sc_l_right : FnScope ["_law_pot_here", "_law_pieces_here", "_law_value", "_law_caught", "_law_tune"] ["_law_pot_here"] (defScope s_l_right) := ⟨rfl, rfl, rfl, by decide +kernel, rfl, by decide +kernel, by decide +kernel⟩
abbrev s_law : Stmt := top 103
theorem sc_law : FnScope ["_law_script", "_law_pot_here"] ["_law_script"] (defScope s_law) := ⟨rfl, rfl, rfl, by decide +kernel, rfl, by decide +kernel, by decide +kernel⟩
structure Zs where
  c : Nat → Addr
  f_E_init : Addr
  d_E_init : FuncData
  f_is_whole : Addr
  d_is_whole : FuncData
  f_is_from : Addr
  d_is_from : FuncData
  f_is_between : Addr
  d_is_between : FuncData
  f_length_of : Addr
  d_length_of : FuncData
  f_starts_of : Addr
  d_starts_of : FuncData
  f_new_ahead : Addr
  d_new_ahead : FuncData
  f_M_init : Addr
  d_M_init : FuncData
  f_are_pieces : Addr
  d_are_pieces : FuncData
  f_is_piece : Addr
  d_is_piece : FuncData
  f_is_copy : Addr
  d_is_copy : FuncData
  f_l_pot : Addr
  d_l_pot : FuncData
  f_l_take : Addr
  d_l_take : FuncData
  f_l_of : Addr
  d_l_of : FuncData
  f_l_pots : Addr
  d_l_pots : FuncData
  f_l_told : Addr
  d_l_told : FuncData
  f_l_is_int : Addr
  d_l_is_int : FuncData
  f_l_odd : Addr
  d_l_odd : FuncData
  f_l_amount : Addr
  d_l_amount : FuncData
  f_l_lead : Addr
  d_l_lead : FuncData
  f_l_shown : Addr
  d_l_shown : FuncData
  f_l_piece : Addr
  d_l_piece : FuncData
  f_l_pieces : Addr
  d_l_pieces : FuncData
  f_l_bent : Addr
  d_l_bent : FuncData
  f_l_is_piece : Addr
  d_l_is_piece : FuncData
  f_l_are_pieces : Addr
  d_l_are_pieces : FuncData
  f_l_near : Addr
  d_l_near : FuncData
  f_l_right : Addr
  d_l_right : FuncData
  f_law : Addr
  d_law : FuncData
  c_l_right : Addr
  t_l_right : Addr
  cB : Addr
  t_GREATEST : Tok
/-- where the top has put each def, and what it says of them -/
structure Txt (K : PySem.W.Frag) (mg : Str → Option Value) (Z : Zs) : Prop where
  F_E_init : Fun K "__init__" "TuneError.__init__" s_E_init Z.f_E_init Z.d_E_init
  bn_E_init : Binds K Z.d_E_init ["self", "value"] []
  k_E_init : PySem.W.keepIn K (.ref Z.f_E_init) = true
  i_E_init : PySem.W.isFn K (.ref Z.f_E_init) = true
  F_is_whole : Fun K "is_whole" "is_whole" s_is_whole Z.f_is_whole Z.d_is_whole
  bn_is_whole : Binds K Z.d_is_whole ["value"] []
  k_is_whole : PySem.W.keepIn K (.ref Z.f_is_whole) = true
  g_is_whole : mg "is_whole" = some (.ref Z.f_is_whole)
  F_is_from : Fun K "is_from" "is_from" s_is_from Z.f_is_from Z.d_is_from
  bn_is_from : Binds K Z.d_is_from ["value", "least"] []
  k_is_from : PySem.W.keepIn K (.ref Z.f_is_from) = true
  g_is_from : mg "is_from" = some (.ref Z.f_is_from)
  F_is_between : Fun K "is_between" "is_between" s_is_between Z.f_is_between Z.d_is_between
  bn_is_between : Binds K Z.d_is_between ["value", "least", "greatest"] []
  k_is_between : PySem.W.keepIn K (.ref Z.f_is_between) = true
  g_is_between : mg "is_between" = some (.ref Z.f_is_between)
  F_length_of : Fun K "length_of" "length_of" s_length_of Z.f_length_of Z.d_length_of
  bn_length_of : Binds K Z.d_length_of ["piece"] []
  k_length_of : PySem.W.keepIn K (.ref Z.f_length_of) = true
  g_length_of : mg "length_of" = some (.ref Z.f_length_of)
  F_starts_of : Fun K "starts_of" "starts_of" s_starts_of Z.f_starts_of Z.d_starts_of
  bn_starts_of : Binds K Z.d_starts_of ["pieces"] []
  k_starts_of : PySem.W.keepIn K (.ref Z.f_starts_of) = true
  g_starts_of : mg "starts_of" = some (.ref Z.f_starts_of)
  F_new_ahead : Fun K "new_ahead" "new_ahead" s_new_ahead Z.f_new_ahead Z.d_new_ahead
  bn_new_ahead : Binds K Z.d_new_ahead ["pieces"] []
  k_new_ahead : PySem.W.keepIn K (.ref Z.f_new_ahead) = true
  g_new_ahead : mg "new_ahead" = some (.ref Z.f_new_ahead)
  F_M_init : Fun K "__init__" "Melody.__init__" s_M_init Z.f_M_init Z.d_M_init
  bn_M_init : Binds K Z.d_M_init ["self", "pieces"] []
  k_M_init : PySem.W.keepIn K (.ref Z.f_M_init) = true
  i_M_init : PySem.W.isFn K (.ref Z.f_M_init) = true
  a_M_init : PySem.W.findIn K (.ref Z.cB) "__init__" = some (some (.ref Z.f_M_init))
  F_are_pieces : Fun K "_are_pieces" "_are_pieces" s_are_pieces Z.f_are_pieces Z.d_are_pieces
  bn_are_pieces : Binds K Z.d_are_pieces ["value"] []
  k_are_pieces : PySem.W.keepIn K (.ref Z.f_are_pieces) = true
  g_are_pieces : mg "_are_pieces" = some (.ref Z.f_are_pieces)
  F_is_piece : Fun K "_is_piece" "_is_piece" s_is_piece Z.f_is_piece Z.d_is_piece
  bn_is_piece : Binds K Z.d_is_piece ["value", "here"] []
  k_is_piece : PySem.W.keepIn K (.ref Z.f_is_piece) = true
  g_is_piece : mg "_is_piece" = some (.ref Z.f_is_piece)
  F_is_copy : Fun K "_is_copy" "_is_copy" s_is_copy Z.f_is_copy Z.d_is_copy
  bn_is_copy : Binds K Z.d_is_copy ["piece", "here"] []
  k_is_copy : PySem.W.keepIn K (.ref Z.f_is_copy) = true
  g_is_copy : mg "_is_copy" = some (.ref Z.f_is_copy)
  F_l_pot : Fun K "_law_pot" "_law_pot" s_l_pot Z.f_l_pot Z.d_l_pot
  bn_l_pot : Binds K Z.d_l_pot ["_law_script", "_law_k"] []
  k_l_pot : PySem.W.keepIn K (.ref Z.f_l_pot) = true
  g_l_pot : mg "_law_pot" = some (.ref Z.f_l_pot)
  F_l_take : Fun K "_law_take" "_law_take" s_l_take Z.f_l_take Z.d_l_take
  bn_l_take : Binds K Z.d_l_take ["_law_pot_here", "_law_upto"] []
  k_l_take : PySem.W.keepIn K (.ref Z.f_l_take) = true
  g_l_take : mg "_law_take" = some (.ref Z.f_l_take)
  F_l_of : Fun K "_law_of" "_law_of" s_l_of Z.f_l_of Z.d_l_of
  bn_l_of : Binds K Z.d_l_of ["_law_pot_here", "_law_some"] []
  k_l_of : PySem.W.keepIn K (.ref Z.f_l_of) = true
  g_l_of : mg "_law_of" = some (.ref Z.f_l_of)
  F_l_pots : Fun K "_law_pots" "_law_pots" s_l_pots Z.f_l_pots Z.d_l_pots
  bn_l_pots : Binds K Z.d_l_pots ["_law_script", "_law_most"] []
  k_l_pots : PySem.W.keepIn K (.ref Z.f_l_pots) = true
  g_l_pots : mg "_law_pots" = some (.ref Z.f_l_pots)
  F_l_told : Fun K "_law_told" "_law_told" s_l_told Z.f_l_told Z.d_l_told
  bn_l_told : Binds K Z.d_l_told ["_law_look"] []
  k_l_told : PySem.W.keepIn K (.ref Z.f_l_told) = true
  g_l_told : mg "_law_told" = some (.ref Z.f_l_told)
  F_l_is_int : Fun K "_law_is_int" "_law_is_int" s_l_is_int Z.f_l_is_int Z.d_l_is_int
  bn_l_is_int : Binds K Z.d_l_is_int ["_law_value", "_law_low", "_law_high"] []
  k_l_is_int : PySem.W.keepIn K (.ref Z.f_l_is_int) = true
  g_l_is_int : mg "_law_is_int" = some (.ref Z.f_l_is_int)
  F_l_odd : Fun K "_law_odd" "_law_odd" s_l_odd Z.f_l_odd Z.d_l_odd
  bn_l_odd : Binds K Z.d_l_odd ["_law_pot_here"] []
  k_l_odd : PySem.W.keepIn K (.ref Z.f_l_odd) = true
  g_l_odd : mg "_law_odd" = some (.ref Z.f_l_odd)
  F_l_amount : Fun K "_law_amount" "_law_amount" s_l_amount Z.f_l_amount Z.d_l_amount
  bn_l_amount : Binds K Z.d_l_amount ["_law_pot_here"] []
  k_l_amount : PySem.W.keepIn K (.ref Z.f_l_amount) = true
  g_l_amount : mg "_law_amount" = some (.ref Z.f_l_amount)
  F_l_lead : Fun K "_law_lead" "_law_lead" s_l_lead Z.f_l_lead Z.d_l_lead
  bn_l_lead : Binds K Z.d_l_lead ["_law_entry", "_law_is_down", "_law_amount_here"] []
  k_l_lead : PySem.W.keepIn K (.ref Z.f_l_lead) = true
  g_l_lead : mg "_law_lead" = some (.ref Z.f_l_lead)
  F_l_shown : Fun K "_law_shown" "_law_shown" s_l_shown Z.f_l_shown Z.d_l_shown
  bn_l_shown : Binds K Z.d_l_shown ["_law_pieces_here"] []
  k_l_shown : PySem.W.keepIn K (.ref Z.f_l_shown) = true
  g_l_shown : mg "_law_shown" = some (.ref Z.f_l_shown)
  F_l_piece : Fun K "_law_piece" "_law_piece" s_l_piece Z.f_l_piece Z.d_l_piece
  bn_l_piece : Binds K Z.d_l_piece ["_law_pot_here", "_law_here", "_law_room_left"] []
  k_l_piece : PySem.W.keepIn K (.ref Z.f_l_piece) = true
  g_l_piece : mg "_law_piece" = some (.ref Z.f_l_piece)
  F_l_pieces : Fun K "_law_pieces" "_law_pieces" s_l_pieces Z.f_l_pieces Z.d_l_pieces
  bn_l_pieces : Binds K Z.d_l_pieces ["_law_pot_here", "_law_size"] []
  k_l_pieces : PySem.W.keepIn K (.ref Z.f_l_pieces) = true
  g_l_pieces : mg "_law_pieces" = some (.ref Z.f_l_pieces)
  F_l_bent : Fun K "_law_bent" "_law_bent" s_l_bent Z.f_l_bent Z.d_l_bent
  bn_l_bent : Binds K Z.d_l_bent ["_law_pot_here", "_law_value"] []
  k_l_bent : PySem.W.keepIn K (.ref Z.f_l_bent) = true
  g_l_bent : mg "_law_bent" = some (.ref Z.f_l_bent)
  F_l_is_piece : Fun K "_law_is_piece" "_law_is_piece" s_l_is_piece Z.f_l_is_piece Z.d_l_is_piece
  bn_l_is_piece : Binds K Z.d_l_is_piece ["_law_piece_here", "_law_here"] []
  k_l_is_piece : PySem.W.keepIn K (.ref Z.f_l_is_piece) = true
  g_l_is_piece : mg "_law_is_piece" = some (.ref Z.f_l_is_piece)
  F_l_are_pieces : Fun K "_law_are_pieces" "_law_are_pieces" s_l_are_pieces Z.f_l_are_pieces Z.d_l_are_pieces
  bn_l_are_pieces : Binds K Z.d_l_are_pieces ["_law_value"] []
  k_l_are_pieces : PySem.W.keepIn K (.ref Z.f_l_are_pieces) = true
  g_l_are_pieces : mg "_law_are_pieces" = some (.ref Z.f_l_are_pieces)
  F_l_near : Fun K "_law_near" "_law_near" s_l_near Z.f_l_near Z.d_l_near
  bn_l_near : Binds K Z.d_l_near ["_law_pot_here", "_law_pieces_here"] []
  k_l_near : PySem.W.keepIn K (.ref Z.f_l_near) = true
  g_l_near : mg "_law_near" = some (.ref Z.f_l_near)
  F_l_right : FunC K "_law_right" "_law_right" s_l_right Z.f_l_right Z.d_l_right Z.c_l_right
  bn_l_right : Binds K Z.d_l_right ["_law_pot_here"] []
  k_l_right : PySem.W.keepIn K (.ref Z.f_l_right) = true
  g_l_right : mg "_law_right" = some (.ref Z.f_l_right)
  F_law : Fun K "law" "law" s_law Z.f_law Z.d_law
  bn_law : Binds K Z.d_law ["_law_script"] []
  k_law : PySem.W.keepIn K (.ref Z.f_law) = true
  g_law : mg "law" = some (.ref Z.f_law)
  b_isinstance : mg "isinstance" = none
  b_int : mg "int" = none
  b_bool : mg "bool" = none
  b_tuple : mg "tuple" = none
  b_len : mg "len" = none
  b_abs : mg "abs" = none
  b_range : mg "range" = none
  b_max : mg "max" = none
  b_min : mg "min" = none
  b_str : mg "str" = none
  b_list : mg "list" = none
  b_repr : mg "repr" = none
  b_all : mg "all" = none
  c_GREATEST : mg "GREATEST" = some (.int 1000000000000000000000000000000 Z.t_GREATEST)
  clB : Cls K Z.cB
  g_Bk : mg "Melody" = some (.ref Z.cB)
  mkBc : PySem.W.makesIn K Z.cB = true
  kB : PySem.W.keepIn K (.ref Z.cB) = true
  nB_pieces : NoAttr K Z.cB "pieces"
  nB_starts : NoAttr K Z.cB "starts"
  nB_ahead : NoAttr K Z.cB "ahead"
  nB_size : NoAttr K Z.cB "size"
  nB_new : NoAttr K Z.cB "new"
  g_BadPieces : mg "BadPieces" = some (.ref (Z.c 0))
  g_TuneError : mg "TuneError" = some (.ref (Z.c 1))
  ex : ∀ i, i < 2 → ExcT K (Z.c 1) Z.f_E_init (Z.c i)
  nd : ∀ i j, i < 2 → j < 2 → Z.c i = Z.c j → i = j
  z_ve : PySem.W.findCls K (.type "ValueError") (.type "type") "__init__" = some (.val (.builtin "ValueError.__init__"))
  t_E_init : PySem.W.typeIn K (.ref Z.f_E_init) = some (.type "function")
  b_ValueError : mg "ValueError" = none
  z_clsB : PySem.W.findIn K (.ref Z.cB) "__class__" = some (some (.builtin "object.__class__"))
  z_mroB : PySem.W.mroIn K Z.cB (.type "object") = some true
  z_kitB : PySem.W.kitOne K (.ref Z.cB) (.ref Z.cB) = some true
  z_tyB : PySem.W.typeIn K (.ref Z.cB) = some (.type "type")
  z_get : PySem.W.specialIn K (.builtin "object.__class__") "__get__" = some (some (.builtin "getset_descriptor.__get__"))
  z_tk : PySem.W.takesIn K (.builtin "object.__class__") = some true
end TT

set_option Elab.async false
set_option linter.all false
set_option maxRecDepth 100000
set_option maxHeartbeats 4000000
namespace TT
open PySem PySem.Spec PyProof.Rows L2
/-! ### the law's draws -/
/-- a pot of draws stands at p: n numbers were mixed so far -/
def Pot (H : Hp) (p : Addr) (n : Nat) : Prop := ∃ own mix : Int, H p = some (.lst [.int own, .int mix, .int (n : Int)]) ∧ 0 ≤ own ∧ own < 10 ^ 300 ∧ 0 ≤ mix ∧ mix < 2305843009213693951
/-- all that was tracked but the object at p is as it was -/
def Keep (p : Addr) (H H' : Hp) : Prop := ∀ b o, b ≠ p → H b = some o → H' b = some o
theorem Keep.rfl' {p : Addr} {H : Hp} : Keep p H H := fun _ _ _ h => h
theorem Keep.trans {p : Addr} {H H1 H2 : Hp} (a : Keep p H H1) (b : Keep p H1 H2) : Keep p H H2 := fun c o n h => b c o n (a c o n h)
theorem Keep.of {p : Addr} {H H1 : Hp} (a : Same H H1) : Keep p H H1 := fun c o _ h => a c o h
theorem Keep.upd {p : Addr} {H H1 : Hp} {o : HO} (a : Keep p H H1) : Keep p H (upd H1 p o) := fun c u n h => by rw [upd_ne n]; exact a c u n h
theorem Keep.new {p q : Addr} {H H1 : Hp} {o : HO} (a : Keep p H H1) (h : H1 q = none) : Keep p H (L2.upd H1 q o) := fun c u n e => by
  have := a c u n e
  rw [upd_ne (ne_of_none this h)]
  exact this
theorem Same.new {q : Addr} {H H1 : Hp} {o : HO} (a : Same H H1) (h : H1 q = none) : Same H (L2.upd H1 q o) := fun c u e => by
  have := a c u e
  rw [upd_ne (ne_of_none this h)]
  exact this
theorem lt200 {u : Int} (h0 : 0 < u) (h : u < 10 ^ 60) : u.natAbs < 2 ^ 200 := by
  have : (10 : Int) ^ 60 < 2 ^ 200 := by decide
  omega
theorem bits62 {y : Int} (h0 : 0 ≤ y) (h : y < 2 ^ 62) : Builtin.Int.intBits y ≤ 64 := intBits_le_64 (by omega) (by omega)
theorem prime_at (i : Int) (h0 : 0 ≤ i) (h : i < 5) : ∃ v : Int, atI [V.int 2147483647, V.int 2147483629, V.int 2147483587, V.int 2147483579, V.int 2147483563] i = some (.int v) ∧ 2 ≤ v ∧ v ≤ 2147483648 := by
  have : i = 0 ∨ i = 1 ∨ i = 2 ∨ i = 3 ∨ i = 4 := by omega
  rcases this with rfl | rfl | rfl | rfl | rfl <;> exact ⟨_, rfl, by decide, by decide⟩
def sp_l_take : Sp := fun vs H Q _ => ∃ (p : Addr) (n : Nat) (u : Int), vs = [.ref p, .int u] ∧ Pot H p n ∧ n < 1000000 ∧ 0 < u ∧ u < 10 ^ 60 ∧
  ∀ (d : Int) (n' : Nat) (H' : Hp), 0 ≤ d → d < u → n' ≤ n + 1 → Pot H' p n' → Keep p H H' → Q (.int d) H'
section
variable {P : Program} {w : World} {K : PySem.W.Frag} {mg : Str → Option Value} {base : Heap} {Z : Zs}
theorem ok_l_take (T : Txt K mg Z) : FnOk P w K mg base CX0 1 Z.f_l_take Z.d_l_take ["_law_pot_here", "_law_upto"] sp_l_take := by
  refine T.F_l_take.ok sc_l_take (fun vs H Q E h => ?_) (fun cdv A outer s H vs Q E hr h => ?_)
  · obtain ⟨p, n, u, rfl, _⟩ := h
    rfl
  · obtain ⟨p, n, u, rfl, ⟨own, mix, hp, o0, o1, m0, m1⟩, hn, u0, u1, k⟩ := h
    refine ⟨_, (pss_cons (ps_if (pt_cmpR op_gt (pe_ix ix_list (pv 0) pe_int (fun _ _ => rfl)) pe_int (nomark _)) (pss_cons (ps_set (i := 2) sc_l_take.nd rfl (Or.inl rfl) (pe_op op_mod (pe_callTy call_int1 (by rfl) T.b_int (by decide +kernel) (pa_cons (pe_ix ix_list (pv 0) pe_int (fun _ _ => rfl)) pa_nil)) (pv 1)))
      (pss_cons (ps_asg (pe_op op_fdivW (pe_ix ix_list (pv 0) pe_int (fun _ _ => rfl)) (pv 1)) (pg_sub (pv 0) pe_int set_list))
      (pss_one (ps_ret (pv 2))))) pss_nil)
      (pss_cons (ps_asg (pe_op op_add (pe_ix ix_list (pv 0) pe_int (fun _ _ => rfl)) pe_int) (pg_sub (pv 0) pe_int set_list))
      (pss_cons (ps_set (i := 3) sc_l_take.nd rfl (Or.inl rfl) (pe_ix ix_list (pe_lst (pa_cons pe_int (pa_cons pe_int (pa_cons pe_int (pa_cons pe_int (pa_cons pe_int pa_nil)))))) (pe_op op_mod (pe_callTy call_int1 (by rfl) T.b_int (by decide +kernel) (pa_cons (pe_ix ix_list (pv 0) pe_int (fun _ _ => rfl)) pa_nil)) pe_int) (fun _ _ => rfl)))
      (pss_cons (ps_set (i := 4) sc_l_take.nd rfl (Or.inl rfl) (pe_op op_mod (pe_callTy call_int1 (by rfl) T.b_int (by decide +kernel) (pa_cons (pe_op op_powW (pe_callTy call_int1 (by rfl) T.b_int (by decide +kernel) (pa_cons (pe_op op_add (pe_op op_add (pe_ix ix_list (pv 0) pe_int (fun _ _ => rfl)) (pe_op op_mul (pe_op op_mul pe_int (pe_ix ix_list (pv 0) pe_int (fun _ _ => rfl))) (pe_ix ix_list (pv 0) pe_int (fun _ _ => rfl)))) pe_int) pa_nil)) pe_int) pa_nil)) (pv 3)))
      (pss_cons (ps_set (i := 4) sc_l_take.nd rfl (Or.inl rfl) (pe_op op_mod (pe_callTy call_int1 (by rfl) T.b_int (by decide +kernel) (pa_cons (pe_op op_mul (pv 4) (pe_op op_add (pe_op op_mod (pe_callTy call_int1 (by rfl) T.b_int (by decide +kernel) (pa_cons (pv 4) pa_nil)) pe_int) (pe_op op_mul pe_int (pe_ix ix_list (pv 0) pe_int (fun _ _ => rfl))))) pa_nil)) pe_int))
      (pss_one (ps_ret (pe_op op_mod (pe_callTy call_int1 (by rfl) T.b_int (by decide +kernel) (pa_cons (pe_op op_fdivW (pv 4) pe_int) pa_nil)) (pv 1))))))))), ?_⟩
    refine ⟨_, rfl, p, _, _, _, rfl, rfl, SqL.of hp, rfl, _, _, rfl, rfl, _, rfl, ?_⟩
    refine ite2 (fun c => ?_) (fun c => ?_)
    · have c' : 0 < own := of_decide_eq_true c
      have q0 : 0 ≤ own / u := Int.ediv_nonneg o0 (Int.le_of_lt u0)
      have q1 : own / u < 10 ^ 300 := Int.lt_of_le_of_lt (Int.ediv_le_self _ o0) o1
      refine ⟨_, rfl, p, _, _, _, rfl, rfl, SqL.of hp, rfl, .inl ⟨_, rfl, _, rfl, _, _, rfl, rfl, u0, ?_⟩⟩
      refine ⟨_, rfl, p, _, _, _, rfl, rfl, SqL.of hp, rfl, _, rfl, _, _, rfl, rfl, wide_div u0 (b := 200) (lt200 u0 u1) (by decide) (by decide), _, rfl, p, _, _, _, rfl, rfl, hp, rfl, _, rfl, ?_⟩
      exact k _ n _ (Int.emod_nonneg _ (by omega)) (Int.emod_lt_of_pos _ u0) (Nat.le_succ _) ⟨own / u, mix, upd_same, q0, q1, m0, m1⟩ Keep.rfl'.upd
    · refine ⟨_, rfl, p, _, _, _, rfl, rfl, SqL.of hp, rfl, _, _, rfl, rfl, _, rfl, p, _, _, _, rfl, rfl, hp, rfl, ?_⟩
      obtain ⟨H1, hH1⟩ : ∃ H1, H1 = upd H p (.lst [V.int own, V.int mix, V.int ((n : Int) + 1)]) := ⟨_, rfl⟩
      have hp1 : H1 p = some (.lst [V.int own, V.int mix, V.int ((n : Int) + 1)]) := by rw [hH1]; exact upd_same
      have kp1 : Keep p H H1 := by rw [hH1]; exact Keep.rfl'.upd
      refine Eq.mp (congrArg _ hH1) ?_
      -- the primes
      refine ⟨by show 5 ≤ sizeLine; decide, fun q hq => ?_⟩
      have npq : p ≠ q := ne_of_none hp1 hq
      have hp2 : (upd H1 q (.lst [V.int 2147483647, V.int 2147483629, V.int 2147483587, V.int 2147483579, V.int 2147483563])) p = some (.lst [V.int own, V.int mix, V.int ((n : Int) + 1)]) := by rw [upd_ne npq]; exact hp1
      refine ⟨_, rfl, p, _, _, _, rfl, rfl, SqL.of hp2, rfl, .inl ⟨_, rfl, _, _, rfl, rfl, by show (0 : Int) < 5; decide, ?_⟩⟩
      obtain ⟨v, hv, v0, v1⟩ := prime_at (((n : Int) + 1) % 5) (Int.emod_nonneg _ (by decide)) (Int.emod_lt_of_pos _ (by decide))
      refine ⟨q, _, _, _, rfl, rfl, SqL.of upd_same, hv, ?_⟩
      generalize hH2 : upd H1 q (.lst [V.int 2147483647, V.int 2147483629, V.int 2147483587, V.int 2147483579, V.int 2147483563]) = H2 at hp2 ⊢
      have kp2 : Keep p H H2 := by rw [← hH2]; exact kp1.new hq
      -- mixed
      refine ⟨_, rfl, p, _, _, _, rfl, rfl, SqL.of hp2, rfl, _, rfl, p, _, _, _, rfl, rfl, SqL.of hp2, rfl, _, _, rfl, rfl, .inl (by constructor <;> decide), _, rfl, p, _, _, _, rfl, rfl, SqL.of hp2, rfl, _, _, rfl, rfl, .inr (by constructor <;> omega), _, _, rfl, rfl, _, _, rfl, rfl, .inl ⟨_, rfl, ?_⟩⟩
      have b1 : 0 ≤ 100207 * ((n : Int) + 1) * ((n : Int) + 1) ∧ 100207 * ((n : Int) + 1) * ((n : Int) + 1) ≤ 100207 * 1000000 * 1000000 := by
        have h1 : 0 ≤ (n : Int) + 1 := by omega
        have h2 : (n : Int) + 1 ≤ 1000000 := by omega
        refine ⟨Int.mul_nonneg (Int.mul_nonneg (by decide) h1) h1, ?_⟩
        exact Int.mul_le_mul (Int.mul_le_mul_of_nonneg_left h2 (by decide)) h2 h1 (by decide)
      generalize hz : 100207 * ((n : Int) + 1) * ((n : Int) + 1) = z at b1 ⊢
      have b2 : 0 ≤ mix + z + 59 ∧ mix + z + 59 < 2 ^ 62 := by constructor <;> omega
      generalize mix + z + 59 = y at b2 ⊢
      refine ⟨_, _, rfl, rfl, ⟨by decide, ?_⟩, .inl ⟨_, rfl, ?_⟩⟩
      · have := bits62 b2.1 b2.2
        show ((Builtin.Int.intBits y : Nat) : Int) * 3 ≤ 2 ^ 27
        omega
      refine ⟨_, rfl, _, _, rfl, rfl, by omega, ?_⟩
      have b3 : 0 ≤ y ^ (3 : Int).toNat % v ∧ y ^ (3 : Int).toNat % v < 2147483648 := ⟨Int.emod_nonneg _ (by omega), Int.lt_of_lt_of_le (Int.emod_lt_of_pos _ (by omega)) (by omega)⟩
      refine ⟨_, rfl, _, rfl, .inl ⟨_, rfl, _, _, rfl, rfl, by show (0 : Int) < 10067; decide, _, rfl, p, _, _, _, rfl, rfl, SqL.of hp2, rfl, _, _, rfl, rfl, .inl (by constructor <;> decide), _, _, rfl, rfl, _, _, rfl, rfl, .inl (by constructor <;> omega), .inl ⟨_, rfl, _, _, rfl, rfl, (by decide : (0 : Int) < 2305843009213693907), ?_⟩⟩⟩
      refine ⟨_, rfl, _, _, rfl, rfl, wide_div (j := 127) (by decide) (b := 200) (by decide) (by decide) (by decide), .inl ⟨_, rfl, _, rfl, _, _, rfl, rfl, u0, ?_⟩⟩
      exact k _ (n + 1) _ (Int.emod_nonneg _ (by omega)) (Int.emod_lt_of_pos _ u0) (Nat.le_refl _) ⟨own, mix, hp2, o0, o1, m0, m1⟩ kp2
end
end TT

set_option Elab.async false
set_option linter.all false
set_option maxRecDepth 100000
set_option maxHeartbeats 4000000
namespace TT
open PySem PySem.Spec PyProof.Rows L2
def sp_l_of : Sp := fun vs H Q _ => ∃ (p a : Addr) (n : Nat) (xs : List V), vs = [.ref p, .ref a] ∧ Pot H p n ∧ n < 1000000 ∧ H a = some (.lst xs) ∧ a ≠ p ∧ 0 < xs.length ∧ xs.length ≤ 1000 ∧
  ∀ (v : V) (n' : Nat) (H' : Hp), v ∈ xs → n' ≤ n + 1 → Pot H' p n' → Keep p H H' → Q v H'
def sp_l_pot (K : PySem.W.Frag) : Sp := fun vs H Q _ => ∃ (a : Addr) (ns : List Int) (i : Int), vs = [.ref a, .int i] ∧ SqL K H a (ns.map V.int) ∧ ns.length ≤ 63 ∧ 0 ≤ i ∧ i < 100 ∧
  ∀ (p : Addr) (H' : Hp), H p = none → Same H H' → Pot H' p 0 → Q (.ref p) H'
theorem at_mem {xs : List V} {i : Int} (h0 : 0 ≤ i) (h : i < (xs.length : Int)) : ∃ v, atI xs i = some v ∧ v ∈ xs := by
  obtain ⟨j, rfl⟩ : ∃ j : Nat, i = (j : Int) := ⟨i.toNat, by omega⟩
  have hj : j < xs.length := by omega
  exact ⟨xs[j], atI_nat (List.getElem?_eq_getElem hj), List.getElem_mem hj⟩
theorem ite01 (b : Bool) : -(2 ^ 64) < (if b = true then (1 : Int) else 0) ∧ (if b = true then (1 : Int) else 0) < 2 ^ 64 := by cases b <;> constructor <;> decide
theorem share {T : Int → Prop} {G : Prop} (h : (∀ z, T z) → G) (t : ∀ z, T z) : G := h t
section
variable {P : Program} {w : World} {K : PySem.W.Frag} {mg : Str → Option Value} {base : Heap} {Z : Zs}
theorem ok_l_of (T : Txt K mg Z) : FnOk P w K mg base CX0 2 Z.f_l_of Z.d_l_of ["_law_pot_here", "_law_some"] sp_l_of := by
  refine T.F_l_of.ok sc_l_of (fun vs H Q E h => ?_) (fun cdv A outer s H vs Q E hr h => ?_)
  · obtain ⟨p, a, n, xs, rfl, _⟩ := h
    rfl
  · obtain ⟨p, a, n, xs, rfl, hp, hn, ha, hne, l0, l1, k⟩ := h
    refine ⟨_, (pss_one (ps_ret (pe_ix ix_list (pv 1) (pe_call (ok_l_take T) (hr.mono (by decide)) rfl T.g_l_take T.k_l_take T.bn_l_take .nil pass0 (pa_cons (pv 0) (pa_cons (pe_callB  call_len (by rfl) T.b_len (by decide +kernel) (pa_cons (pv 1) pa_nil)) pa_nil))) (fun _ _ => rfl)))), ?_⟩
    have big : (xs.length : Int) < 10 ^ 60 := by
      have : (1000 : Int) < 10 ^ 60 := by decide
      omega
    refine ⟨_, rfl, _, rfl, _, rfl, _, _, rfl, .inl ⟨_, SqL.of ha, rfl⟩, p, n, _, rfl, hp, hn, by omega, big, fun d n' H' d0 d1 hn' hp' kp => ?_⟩
    obtain ⟨v, hv, hm⟩ := at_mem d0 d1
    exact ⟨a, xs, d, v, rfl, rfl, SqL.of (kp _ _ hne ha), hv, k v n' H' hm hn' hp' kp⟩
theorem own_bound (x : Int) (b : Bool) : 0 ≤ x % ((10 : Int) ^ (60 : Int).toNat) ^ (5 : Int).toNat * (if b = true then 1 else 0) ∧ x % ((10 : Int) ^ (60 : Int).toNat) ^ (5 : Int).toNat * (if b = true then 1 else 0) < 10 ^ 300 := by
  have e : ((10 : Int) ^ (60 : Int).toNat) ^ (5 : Int).toNat = 10 ^ 300 := by decide
  rw [e]
  have h1 := Int.emod_nonneg x (b := 10 ^ 300) (by decide)
  have h2 := Int.emod_lt_of_pos x (b := 10 ^ 300) (by decide)
  cases b
  · simp only [Bool.false_eq_true, if_false, Int.mul_zero]
    exact ⟨Int.le_refl _, by decide⟩
  · simp only [if_true, Int.mul_one]
    exact ⟨h1, h2⟩
theorem ok_l_pot (T : Txt K mg Z) : FnOk P w K mg base CX0 1 Z.f_l_pot Z.d_l_pot ["_law_script", "_law_k"] (sp_l_pot K) := by
  refine T.F_l_pot.ok sc_l_pot (fun vs H Q E h => ?_) (fun cdv A outer s H vs Q E hr h => ?_)
  · obtain ⟨a, ns, i, rfl, _⟩ := h
    rfl
  · obtain ⟨a, ns, i, rfl, hS, hl, i0, i1, k⟩ := h
    refine ⟨_, (pss_cons (ps_set (i := 2) sc_l_pot.nd rfl (Or.inl rfl) (pe_ifExp (pt_cmpR op_lt (pv 1) (pe_callB  call_len (by rfl) T.b_len (by decide +kernel) (pa_cons (pv 0) pa_nil)) (nomark _)) (pe_ix ix_list (pv 0) (pv 1) (fun _ _ => rfl)) (pe_op op_add (pe_op op_mul pe_int (pv 1)) pe_int)))
      (pss_cons (ps_set (i := 3) sc_l_pot.nd rfl (Or.inl rfl) (pe_op op_mul (pe_op op_mod (pe_callTy call_int1 (by rfl) T.b_int (by decide +kernel) (pa_cons (pe_callB  call_abs (by rfl) T.b_abs (by decide +kernel) (pa_cons (pv 2) pa_nil)) pa_nil)) (pe_op op_powW (pe_op op_powW pe_int pe_int) pe_int)) (pe_callTy call_int1 (by rfl) T.b_int (by decide +kernel) (pa_cons (pe_cmpR op_ge (pe_callB  call_abs (by rfl) T.b_abs (by decide +kernel) (pa_cons (pv 2) pa_nil)) (pe_op op_powW pe_int pe_int) (nomark _)) pa_nil))))
      (pss_cons (ps_set (i := 4) sc_l_pot.nd rfl (Or.inl rfl) (pe_op op_mod (pe_callTy call_int1 (by rfl) T.b_int (by decide +kernel) (pa_cons (pv 2) pa_nil)) pe_int))
      (pss_one (ps_ret (pe_lst (pa_cons (pv 3) (pa_cons (pe_op op_mod (pe_callTy call_int1 (by rfl) T.b_int (by decide +kernel) (pa_cons (pe_op op_add (pe_op op_add (pe_op op_mul (pv 4) pe_int) (pe_op op_mul (pe_op op_mul pe_int (pv 1)) (pv 1))) pe_int) pa_nil)) pe_int) (pa_cons pe_int pa_nil))))))))), ?_⟩
    refine ⟨_, rfl, _, rfl, _, _, rfl, .inl ⟨_, hS, rfl⟩, _, _, rfl, rfl, _, rfl, ?_⟩
    rw [List.length_map]
    refine' share (fun tail => ite2 (fun c => ?b1) (fun c => ?b2)) ?b3
    case b1 =>
      have c' : i < (ns.length : Int) := of_decide_eq_true c
      obtain ⟨v, hv, hm⟩ := at_mem (xs := ns.map V.int) i0 (by rw [List.length_map]; exact c')
      obtain ⟨z, _, rfl⟩ := List.mem_map.mp hm
      exact ⟨_, rfl, _, rfl, a, _, _, _, rfl, rfl, hS, hv, tail z⟩
    case b2 => exact ⟨_, rfl, _, _, rfl, rfl, .inl (by constructor <;> decide), _, _, rfl, rfl, tail _⟩
    case b3 =>
      intro z
      refine ⟨_, rfl, _, rfl, .inl ⟨_, rfl, _, _, rfl, rfl, ⟨by decide, by decide +kernel⟩, _, _, rfl, rfl, ⟨by decide, by decide +kernel⟩, _, _, rfl, rfl, (by decide +kernel : (0 : Int) < ((10 : Int) ^ (60 : Int).toNat) ^ (5 : Int).toNat), ?_⟩⟩
      refine ⟨_, rfl, _, rfl, _, _, rfl, rfl, ⟨by decide, by decide +kernel⟩, _, _, rfl, rfl, .inr ⟨_, rfl, _, _, rfl, rfl, .inr (ite01 _), ?_⟩⟩
      have ob := own_bound (if z < 0 then -z else z) (decide ((10 : Int) ^ (18 : Int).toNat ≤ (if z < 0 then -z else z)))
      refine ⟨_, rfl, .inl ⟨_, rfl, _, _, rfl, rfl, by show (0 : Int) < 2305843009213693951; decide, ?_⟩⟩
      refine ⟨_, rfl, _, rfl, _, _, rfl, rfl, .inr (by constructor <;> decide), _, rfl, _, _, rfl, rfl, .inl (by constructor <;> decide), _, rfl, _, _, rfl, rfl, .inr (by constructor <;> omega), _, _, rfl, rfl, _, _, rfl, rfl, .inl ⟨_, rfl, _, _, rfl, rfl, by show (0 : Int) < 2305843009213693921; decide, ?_⟩⟩
      refine ⟨by show 3 ≤ sizeLine; decide, fun p hp => k p _ hp (Same.new (Same.refl H) hp) ⟨_, _, upd_same, ob.1, ob.2, Int.emod_nonneg _ (by decide), ?_⟩⟩
      exact Int.lt_trans (Int.emod_lt_of_pos _ (by decide)) (by decide)
end
end TT


namespace TT
open PySem PySem.Spec PyProof.Rows L2
theorem Pot.new {H : Hp} {p q : Addr} {n : Nat} {o : HO} (h : Pot H p n) (hq : H q = none) : Pot (upd H q o) p n := by
  obtain ⟨a, m, e, r⟩ := h
  exact ⟨a, m, by rw [upd_ne (ne_of_none e hq)]; exact e, r⟩
theorem free_of {H H' : Hp} {p q : Addr} {n m : Nat} (k : Keep p H H') (hp : Pot H p n) (hq : H' q = none) (hp' : Pot H' p m) : H q = none := by
  cases e : H q with
  | none => rfl
  | some o =>
    have ne : q ≠ p := by
      rintro rfl
      obtain ⟨_, _, z, _⟩ := hp'
      rw [hq] at z; cases z
    rw [k q o ne e] at hq
    cases hq
end TT

set_option Elab.async false
set_option linter.all false
set_option maxRecDepth 100000
set_option maxHeartbeats 4000000
namespace TT
open PySem PySem.Spec PyProof.Rows L2
/-! ### integers -/
/-- whether a value is an int and no bool -/
def Whole (K : PySem.W.Frag) (H : Hp) (x : V) (b : Bool) : Prop := ∃ (t : Value) (b1 b2 : Bool), TyX K H x t ∧ PySem.W.kitOne K t (.type "int") = some b1 ∧ PySem.W.kitOne K t (.type "bool") = some b2 ∧ (b1 && !b2) = b
theorem whole_int {K : PySem.W.Frag} {H : Hp} (i : Int) : Whole K H (.int i) true := ⟨_, true, false, .base (.int i), kit_ty (by decide +kernel), kit_ty (by decide +kernel), rfl⟩
def sp_is_whole (K : PySem.W.Frag) : Sp := fun vs H Q _ => ∃ (x : V) (b : Bool), vs = [x] ∧ Whole K H x b ∧ Q (.bl b) H
def sp_is_from (K : PySem.W.Frag) : Sp := fun vs H Q _ => (∃ v l : Int, vs = [.int v, .int l] ∧ Q (.bl (decide (l ≤ v))) H) ∨ ∃ x l : V, vs = [x, l] ∧ Whole K H x false ∧ Q (.bl false) H
def sp_is_between (K : PySem.W.Frag) : Sp := fun vs H Q _ => (∃ v l g : Int, vs = [.int v, .int l, .int g] ∧ Q (.bl (decide (l ≤ v) && decide (v ≤ g))) H) ∨ ∃ x l g : V, vs = [x, l, g] ∧ Whole K H x false ∧ Q (.bl false) H
theorem FnOk.or {P : Program} {w : World} {K : PySem.W.Frag} {mg : Str → Option Value} {base : Heap} {CX : CXT} {k : Nat} {f : Addr} {fd : FuncData} {ps : List Str} {sp sp' : Sp} (F : FnOk P w K mg base CX k f fd ps sp) (G : FnOk P w K mg base CX k f fd ps sp') :
    FnOk P w K mg base CX k f fd ps (fun vs H Q E => sp vs H Q E ∨ sp' vs H Q E) :=
  ⟨fun vs H Q E h => h.elim (F.len _ _ _ _) (G.len _ _ _ _), fun A outer s H args us vs Q E r e b v h => h.elim (F.run A outer s H args us vs Q E r e b v) (G.run A outer s H args us vs Q E r e b v)⟩
section
variable {P : Program} {w : World} {K : PySem.W.Frag} {mg : Str → Option Value} {base : Heap} {Z : Zs}
theorem ok_is_whole (T : Txt K mg Z) : FnOk P w K mg base CX0 1 Z.f_is_whole Z.d_is_whole ["value"] (sp_is_whole K) := by
  refine T.F_is_whole.ok sc_is_whole (fun vs H Q E h => ?_) (fun cdv A outer s H vs Q E hr h => ?_)
  · obtain ⟨x, b, rfl, _⟩ := h
    rfl
  · obtain ⟨x, b, rfl, ⟨t, b1, b2, ty, e1, e2, e3⟩, k⟩ := h
    refine ⟨_, (pss_one (ps_ret (pe_and (pe_callB  call_isi (by rfl) T.b_isinstance (by decide +kernel) (pa_cons (pv 0) (pa_cons (pe_bltn (v := .ty "int") rfl T.b_int (by decide +kernel) rfl) pa_nil))) (pe_one (pe_not (pe_callB  call_isi (by rfl) T.b_isinstance (by decide +kernel) (pa_cons (pv 0) (pa_cons (pe_bltn (v := .ty "bool") rfl T.b_bool (by decide +kernel) rfl) pa_nil)))))))), ?_⟩
    refine ⟨_, rfl, _, _, t, _, b1, rfl, .ty "int", ty, e1, _, rfl, ?_⟩
    subst e3
    cases b1 with
    | true => exact iteT ⟨_, rfl, _, _, t, _, b2, rfl, .ty "bool", ty, e2, _, rfl, k⟩
    | false => exact iteF k
theorem ok_is_from (T : Txt K mg Z) : FnOk P w K mg base CX0 2 Z.f_is_from Z.d_is_from ["value", "least"] (sp_is_from K) := by
  refine T.F_is_from.ok sc_is_from (fun vs H Q E h => ?_) (fun cdv A outer s H vs Q E hr h => ?_)
  · rcases h with ⟨v, l, rfl, _⟩ | ⟨x, l, rfl, _⟩ <;> rfl
  · rcases h with ⟨v, l, rfl, k⟩ | ⟨x, l, rfl, hw, k⟩
    · refine ⟨_, (pss_one (ps_ret (pe_and (pe_call (ok_is_whole T) (hr.mono (by decide)) rfl T.g_is_whole T.k_is_whole T.bn_is_whole .nil pass0 (pa_cons (pv 0) pa_nil)) (pe_one (pe_cmpR op_ge (pv 0) (pv 1) (nomark _)))))), ?_⟩
      exact ⟨_, rfl, _, true, rfl, whole_int v, true, rfl, iteT ⟨_, rfl, _, rfl, _, _, rfl, rfl, k⟩⟩
    · refine ⟨_, (pss_one (ps_ret (pe_and (pe_call (ok_is_whole T) (hr.mono (by decide)) rfl T.g_is_whole T.k_is_whole T.bn_is_whole .nil pass0 (pa_cons (pv 0) pa_nil)) (pe_one (pe_cmpR op_ge (pv 0) (pv 1) (nomark _)))))), ?_⟩
      exact ⟨_, rfl, _, false, rfl, hw, false, rfl, iteF k⟩
theorem ok_is_between (T : Txt K mg Z) : FnOk P w K mg base CX0 3 Z.f_is_between Z.d_is_between ["value", "least", "greatest"] (sp_is_between K) := by
  refine T.F_is_between.ok sc_is_between (fun vs H Q E h => ?_) (fun cdv A outer s H vs Q E hr h => ?_)
  · rcases h with ⟨v, l, g, rfl, _⟩ | ⟨x, l, g, rfl, _⟩ <;> rfl
  · rcases h with ⟨v, l, g, rfl, k⟩ | ⟨x, l, g, rfl, hw, k⟩
    · refine ⟨_, (pss_one (ps_ret (pe_and (pe_call (ok_is_from T) (hr.mono (by decide)) rfl T.g_is_from T.k_is_from T.bn_is_from .nil pass0 (pa_cons (pv 0) (pa_cons (pv 1) pa_nil))) (pe_one (pe_cmpR op_le (pv 0) (pv 2) (nomark _)))))), ?_⟩
      refine ⟨_, rfl, _, rfl, .inl ⟨v, l, rfl, _, rfl, ?_⟩⟩
      cases e : decide (l ≤ v) with
      | true =>
        rw [e] at k
        exact iteT ⟨_, rfl, _, rfl, _, _, rfl, rfl, k⟩
      | false =>
        rw [e] at k
        exact iteF k
    · refine ⟨_, (pss_one (ps_ret (pe_and (pe_call (ok_is_from T) (hr.mono (by decide)) rfl T.g_is_from T.k_is_from T.bn_is_from .nil pass0 (pa_cons (pv 0) (pa_cons (pv 1) pa_nil))) (pe_one (pe_cmpR op_le (pv 0) (pv 2) (nomark _)))))), ?_⟩
      exact ⟨_, rfl, _, rfl, .inr ⟨x, l, rfl, hw, false, rfl, iteF k⟩⟩
end
end TT


namespace TT
open PySem PySem.Spec PyProof.Rows L2
/-! ### the errors are made -/
/-- in a dict of its own, that was not there -/
def sp_E_init (K : PySem.W.Frag) (Z : Zs) : Sp := fun vs H Q _ => ∃ (a C : Addr) (v : V), vs = [.ref a, v] ∧ H a = some (exo a C none) ∧ ExcT K (Z.c 1) Z.f_E_init C ∧
  ∀ (d : Addr) (H' : Hp), Keep a H H' → H d = none → H' a = some (exo a C (some d)) → H' d = some (exd d [("value", v)]) → Q .non H'
/-- what a def lets out: C of v -/
def Out (E : XK) (C : Addr) (v : V) (H : Hp) : Prop := ∀ (d : Addr) (H' : Hp), Same H H' → H d = none → H' d = some (.xd [("value", v)]) → E (.ref C) (some d) H'
section
variable {P : Program} {w : World} {K : PySem.W.Frag} {mg : Str → Option Value} {base : Heap} {Z : Zs}
theorem ok_E_init (T : Txt K mg Z) : FnOk P w K mg base CX0 1 Z.f_E_init Z.d_E_init ["self", "value"] (sp_E_init K Z) := by
  refine T.F_E_init.ok sc_E_init (fun vs H Q E h => ?_) (fun cdv A outer s H vs Q E hr h => ?_)
  · obtain ⟨a, C, v, rfl, _⟩ := h
    rfl
  · obtain ⟨a, C, v, rfl, ha, X, k⟩ := h
    refine ⟨_, (pss_cons (ps_expr (pe_veinit rfl T.b_ValueError T.z_ve (pa_cons (pv 0) (pa_cons (pv 1) pa_nil))))
      (pss_one (ps_ost (pv 0) (pv 1)))), ?_⟩
    refine ⟨_, rfl, _, rfl, a, C, [v], rfl, by show 1 ≤ 1000; decide, X.ox, ha, ?_⟩
    refine ⟨_, rfl, _, rfl, a, C, rfl, X.ox, X.nv, .inl ⟨ha, fun d hd hne => ?_⟩⟩
    refine k d _ (fun b o n e => ?_) hd upd_same ?_
    · rw [upd_ne n, upd_ne (ne_of_none e hd)]
      exact e
    · rw [upd_ne hne]
      exact upd_same
/-- raise C(x): what its reading asks -/
theorem mkR {C : Addr} {x : V} {E : XK} {H : Hp} (T : ExcT K (Z.c 1) Z.f_E_init C) (h : Out E C x H) :
    ([x] : List V).length ≤ 1000 ∧ ∀ a, H a = none → sp_E_init K Z (.ref a :: ([x] ++ [])) (upd H a (exo a C none))
      (fun v H2 => v = .non ∧ ∃ (d : Addr) (fs : List (Str × V)), H2 a = some (exo a C (some d)) ∧ H2 d = some (exd d fs) ∧ H d = none ∧ E (.ref C) (some d) (upd (del H2 a) d (.xd fs))) (fun _ _ _ => False) := by
  refine ⟨by show 1 ≤ 1000; decide, fun a ha => ⟨a, C, x, rfl, upd_same, T, fun d H' k hd e1 e2 => ⟨rfl, d, _, e1, e2, ?_, ?_⟩⟩⟩
  · by_cases c : d = a
    · rw [c]; exact ha
    · rw [upd_ne c] at hd; exact hd
  · have nd : d ≠ a := by
      rintro rfl
      rw [upd_same] at hd
      cases hd
    rw [upd_ne nd] at hd
    refine h d _ (fun b o e => ?_) hd upd_same
    have nb := ne_of_none e ha
    rw [upd_ne (ne_of_none e hd), del_ne nb]
    exact k b o nb (by rw [upd_ne nb]; exact e)
/-- caught as a TuneError, it stands behind the suite -/
theorem Out.met {C : Addr} {v : V} {H : Hp} {G : VK} (T : ExcT K (Z.c 1) Z.f_E_init C) (Te : ExcT K (Z.c 1) Z.f_E_init (Z.c 1)) (h : ∀ a H', Same H H' → Met H' a C [("value", v)] → G (.ref a) H') :
    Out (fun cls d H' => PySem.W.exmOne K cls (.ref (Z.c 1)) = some true ∧ ∀ a, H' a = none → G (.ref a) (upd H' a (exk a cls d))) C v H := fun d H' s hd e => by
  refine ⟨T.exm Te, fun a ha => h a _ (fun b o z => ?_) ⟨d, upd_same, ?_⟩⟩
  · rw [upd_ne (ne_of_none (s _ _ z) ha)]; exact s _ _ z
  · rw [upd_ne (ne_of_none e ha)]; exact e
end
section
variable {P : Program} {w : World} {K : PySem.W.Frag} {mg : Str → Option Value} {base : Heap} {Z : Zs} {k : Nat}
end
end TT


namespace TT
open PySem PySem.Spec PyProof.Rows L2
/-- v is an int i, or none -/
inductive IsI (K : PySem.W.Frag) (H : Hp) : V → Option Int → Prop
  | int (i : Int) : IsI K H (.int i) (some i)
  | no {v : V} (h : Whole K H v false) : IsI K H v none
section
variable {P : Program} {w : World} {K : PySem.W.Frag} {mg : Str → Option Value} {base : Heap} {Z : Zs}
end
end TT


namespace TT
open PySem PySem.Spec PyProof.Rows L2
theorem Same.fresh {H H' : Hp} {q : Addr} (s : Same H H') (n : H' q = none) : H q = none := by
  cases h : H q with
  | none => rfl
  | some o => rw [s _ _ h] at n; cases n
theorem Same.updN {H H1 : Hp} {q : Addr} {o : HO} (s : Same H H1) (n : H q = none) : Same H (L2.upd H1 q o) := fun b u e => by
  rw [upd_ne (ne_of_none e n)]
  exact s _ _ e
end TT

namespace TT
open PySem PySem.Spec PyProof.Rows L2 LamX
/-! ### heaps in which tables may have grown, and the pot drawn from -/
/-- all but the pot and the tables stays -/
def KeepN (p : Addr) (H H' : Hp) : Prop := ∀ b o, b ≠ p → H b = some o → (∀ ps, o ≠ .tbl ps) → H' b = some o
theorem KeepN.of {p : Addr} {H H' : Hp} (k : Keep p H H') : KeepN p H H' := fun b o n e _ => k b o n e
theorem KeepN.then {p : Addr} {H H1 H2 : Hp} (a : KeepN p H H1) (b : KeepN p H1 H2) : KeepN p H H2 := fun c o n e t => b c o n (a c o n e t) t
theorem KeepN.ext {p : Addr} {H H1 : Hp} (e : ExtN H H1) : KeepN p H H1 := fun c o _ h t => e c o h t
theorem Tabs.keep {p : Addr} {n : Nat} {T : List (Addr × Str)} {H H' : Hp} (k : Keep p H H') (hp : Pot H p n) (t : Tabs T H) : Tabs T H' := fun q hq => by
  obtain ⟨own, mix, hpp, _⟩ := hp
  obtain ⟨ps, h1, h2, h3⟩ := t q hq
  refine ⟨ps, k _ _ (ne_of h1 hpp fun z => by cases z) h1, h2, fun pos cv hc => ?_⟩
  obtain ⟨c, e1, e2⟩ := h3 pos cv hc
  exact ⟨c, e1, k _ _ (ne_of e2 hpp fun z => by unfold CodeO at z; cases z) e2⟩
/-- a list's object is written: the tables stay -/
theorem Tabs.lst {T : List (Addr × Str)} {H : Hp} {D : Addr} {xs : List V} {o : HO} (hD : H D = some (.lst xs)) (t : Tabs T H) : Tabs T (upd H D o) := fun q hq => by
  obtain ⟨ps, h1, h2, h3⟩ := t q hq
  refine ⟨ps, by rw [upd_ne (ne_of h1 hD fun z => by cases z)]; exact h1, h2, fun pos cv hc => ?_⟩
  obtain ⟨c, e1, e2⟩ := h3 pos cv hc
  exact ⟨c, e1, by rw [upd_ne (ne_of e2 hD fun z => by unfold CodeO at z; cases z)]; exact e2⟩
theorem Pot.extN {H H' : Hp} {p : Addr} {n : Nat} (e : ExtN H H') (hp : Pot H p n) : Pot H' p n := by
  obtain ⟨own, mix, h, r⟩ := hp
  exact ⟨own, mix, e _ _ h (fun ps z => nomatch z), r⟩
theorem shareT {T : Addr → Hp → Prop} {G : Prop} (C : Addr → Hp → Prop) (h : (∀ q H, C q H → T q H) → G) (t : ∀ q H, C q H → T q H) : G := h t
theorem shareB {T : Bool → Prop} {G : Prop} (C : Bool → Prop) (h : (∀ b, C b → T b) → G) (t : ∀ b, C b → T b) : G := h t
theorem Pot.off {H : Hp} {p q : Addr} {n : Nat} {o : HO} (hp : Pot H p n) (hq : H q = some o) (h : ∀ xs, o ≠ .lst xs) : q ≠ p := by
  rintro rfl
  obtain ⟨a, m, e, _⟩ := hp
  rw [hq] at e
  exact h _ (Option.some.inj e)
theorem rg_mem {a b : Int} {x : V} (h : x ∈ rgV a b) : ∃ z : Int, x = .int z ∧ a ≤ z ∧ z < b := by
  unfold rgV at h
  obtain ⟨j, hj, rfl⟩ := List.mem_map.mp h
  have := List.mem_range.mp hj
  exact ⟨a + (j : Int), rfl, by omega, by omega⟩
/-- the error that is met, since H -/
def Caught (H : Hp) (C : Addr) (v : V) : VK := fun u H2 => ∃ a, u = V.ref a ∧ Same H H2 ∧ Met H2 a C [("value", v)]
/-- what look's reading is asked, so that met_error gives G -/
def met (K : PySem.W.Frag) (CE : Addr) (tl : XK → Hp → VK → Prop) (H : Hp) (G : VK) : Prop := tl (fun cls dd H' => PySem.W.exmOne K cls (.ref CE) = some true ∧ ∀ a, H' a = none → G (.ref a) (upd H' a (exk a cls dd))) H (fun _ H' => G .non H')
end TT


set_option Elab.async false
set_option linter.all false
set_option maxRecDepth 100000
set_option maxHeartbeats 4000000
namespace TT
open PySem PySem.Spec PyProof.Rows L2
theorem Pot.ne {H : Hp} {p q : Addr} {n : Nat} (hp : Pot H p n) (hq : H q = none) : p ≠ q := by
  obtain ⟨_, _, e, _⟩ := hp
  exact ne_of_none e hq
theorem Pot.same {H H' : Hp} {p : Addr} {n : Nat} (hp : Pot H p n) (s : Same H H') : Pot H' p n := by
  obtain ⟨a, m, e, r⟩ := hp
  exact ⟨a, m, s _ _ e, r⟩
theorem Keep.same {H H' H2 : Hp} {p : Addr} (k : Keep p H H') (s : Same H' H2) : Keep p H H2 := fun b o n e => s _ _ (k b o n e)
/-! ### odd things -/
inductive Fl : V → PyData → Prop
  | non : Fl .non .none
  | bl (b : Bool) : Fl (.bl b) (.bool b)
  | int (i : Int) : Fl (.int i) (.int i)
  | str (x : Str) : Fl (.str x) (.str x)
inductive Fls : List V → List PyData → Prop
  | nil : Fls [] []
  | cons {v : V} {d : PyData} {vs : List V} {ds : List PyData} (h : Fl v d) (t : Fls vs ds) : Fls (v :: vs) (d :: ds)
/-- v stands for d, in things other than the pot -/
inductive Odd (p : Addr) (H : Hp) : V → PyData → Prop
  | fl {v : V} {d : PyData} (h : Fl v d) : Odd p H v d
  | t {a : Addr} {xs : List V} {ds : List PyData} (n : a ≠ p) (h : H a = some (.tup xs)) (f : Fls xs ds) : Odd p H (.ref a) (.tuple ds)
  | l {a : Addr} {xs : List V} {ds : List PyData} (n : a ≠ p) (h : H a = some (.lst xs)) (f : Fls xs ds) : Odd p H (.ref a) (.list ds)
  | tt {a b : Addr} (n : a ≠ p) (m : b ≠ p) (h : H a = some (.tup [.ref b])) (h2 : H b = some (.tup [])) : Odd p H (.ref a) (.tuple [.tuple []])
  | d0 {a : Addr} (n : a ≠ p) (h : H a = some (.dK [])) : Odd p H (.ref a) (.dict [])
  | d1 {a : Addr} {k : Str} {i : Int} (n : a ≠ p) (h : H a = some (.dK [(.inr k, .int i)])) : Odd p H (.ref a) (.dict [(.str k, .int i)])
theorem Odd.keep {p : Addr} {H H' : Hp} {v : V} {d : PyData} (k : Keep p H H') (o : Odd p H v d) : Odd p H' v d := by
  cases o with
  | fl h => exact .fl h
  | t n h f => exact .t n (k _ _ n h) f
  | l n h f => exact .l n (k _ _ n h) f
  | tt n m h h2 => exact .tt n m (k _ _ n h) (k _ _ m h2)
  | d0 n h => exact .d0 n (k _ _ n h)
  | d1 n h => exact .d1 n (k _ _ n h)
def menu : List PyData := [.none, .bool true, .bool false, .int (-1), .str "", .str "0", .str "up", .str "back", .tuple [], .list [], .dict [], .tuple [.tuple []], .tuple [.int 0], .list [.int 0], .tuple [.int 0, .int 1], .str "0 1 1 up 0", .str "tie",
  .tuple [.bool true], .list [.str "0"], .dict [(.str "a", .int 0)], .str "size 1", .tuple [.str "down", .int 1]]
/-- all that repr wants of it, alone and thirty times in a list -/
def fine (d : PyData) : Bool := d.showable && decide (d.depth ≤ 60) && decide (d.shown.length ≤ 1000) && (PyData.list (List.replicate 30 d)).showable && decide ((PyData.list (List.replicate 30 d)).depth ≤ 60) && decide ((PyData.list (List.replicate 30 d)).shown.length ≤ 100000)
theorem menu_fine : menu.all fine = true := by decide +kernel
section
variable {P : Program} {w : World} {K : PySem.W.Frag} {mg : Str → Option Value} {base : Heap} {Z : Zs}
end
end TT

set_option Elab.async false
set_option linter.all false
set_option maxRecDepth 100000
set_option maxHeartbeats 4000000
namespace TT
open PySem PySem.Spec PyProof.Rows L2
/-! ### the texts of rows -/
theorem shown_int (i : Int) : (PyData.int i).shown = Str.ofString (toString i) := by simp [PyData.shown]
theorem bool_len (b : Bool) : ((PyData.bool b).shown).length ≤ 5 := by cases b <;> simp [PyData.shown] <;> decide
theorem int_len64 {i : Int} (h0 : -(10 ^ 64) < i) (h1 : i < 10 ^ 64) : (Str.ofString (toString i)).length ≤ 65 := by
  have h := PySem.int_text_length_le10 (a := i) (k := 64) (by decide) (by
    have e : ((10 ^ 64 : Nat) : Int) = 10 ^ 64 := by decide +kernel
    omega)
  rw [PySem.ofString_length]
  omega
theorem int_ok64 {i : Int} (h0 : -(10 ^ 64) < i) (h1 : i < 10 ^ 64) : (PyData.int i).showable = true := by
  have h : i.natAbs.log2 < 1920 := PySem.Flt.log2_lt_of (by decide) (by
    have : (10 : Int) ^ 64 < 2 ^ 1920 := by decide +kernel
    omega)
  simpa [PyData.showable] using h
/-! ### told back -/
end TT


namespace TT
open PySem PySem.Spec PyProof.Rows L2 LamX
/-! ### odd things: whether they are ints; their texts -/
def isInt : V → Option Int
  | .int i => some i
  | _ => none
theorem whole_non {K : PySem.W.Frag} {H : Hp} : Whole K H .non false := ⟨_, false, false, .base .non, kit_ty (by decide +kernel), kit_ty (by decide +kernel), rfl⟩
theorem whole_bl {K : PySem.W.Frag} {H : Hp} (b : Bool) : Whole K H (.bl b) false := ⟨_, true, true, .base (.bl b), kit_ty (by decide +kernel), kit_ty (by decide +kernel), rfl⟩
theorem whole_str {K : PySem.W.Frag} {H : Hp} (x : Str) : Whole K H (.str x) false := ⟨_, false, false, .base (.str x), kit_ty (by decide +kernel), kit_ty (by decide +kernel), rfl⟩
theorem whole_tup {K : PySem.W.Frag} {H : Hp} {a : Addr} {xs : List V} (h : H a = some (.tup xs)) : Whole K H (.ref a) false := ⟨_, false, false, .base (.tup h), kit_ty (by decide +kernel), kit_ty (by decide +kernel), rfl⟩
theorem whole_lst {K : PySem.W.Frag} {H : Hp} {a : Addr} {xs : List V} (h : H a = some (.lst xs)) : Whole K H (.ref a) false := ⟨_, false, false, .base (.lst h), kit_ty (by decide +kernel), kit_ty (by decide +kernel), rfl⟩
theorem whole_dK {K : PySem.W.Frag} {H : Hp} {a : Addr} {kvs : List (Key × V)} (h : H a = some (.dK kvs)) : Whole K H (.ref a) false := ⟨_, false, false, .base (.dK h), kit_ty (by decide +kernel), kit_ty (by decide +kernel), rfl⟩
theorem Odd.isI {K : PySem.W.Frag} {p : Addr} {H : Hp} {v : V} {d : PyData} (o : Odd p H v d) : IsI K H v (isInt v) := by
  cases o with
  | fl h =>
    cases h with
    | non => exact .no whole_non
    | bl b => exact .no (whole_bl b)
    | int i => exact .int i
    | str x => exact .no (whole_str x)
  | t n h f => exact .no (whole_tup h)
  | l n h f => exact .no (whole_lst h)
  | tt n m h h2 => exact .no (whole_tup h)
  | d0 n h => exact .no (whole_dK h)
  | d1 n h => exact .no (whole_dK h)
theorem IsI.whole {K : PySem.W.Frag} {H : Hp} {v : V} {o : Option Int} (h : IsI K H v o) : Whole K H v o.isSome := by
  cases h with
  | int i => exact whole_int i
  | no h => exact h
/-- what repr wants -/
structure Shown (d : PyData) : Prop where
  ok : d.showable = true
  dep : d.depth ≤ 60
  len : d.shown.length ≤ sizeLine
theorem shown_menu {d : PyData} (h : d ∈ menu) : Shown d := by
  have hf := List.all_eq_true.mp menu_fine d h
  unfold fine at hf
  simp only [Bool.and_eq_true, decide_eq_true_eq] at hf
  have sl : sizeLine = 16777216 := sizeLine_eq
  obtain ⟨⟨⟨⟨⟨f1, f2⟩, f3⟩, f4⟩, f5⟩, f6⟩ := hf
  exact ⟨f1, f2, by omega⟩
theorem shown_i {i : Int} (h0 : -(10 ^ 64) < i) (h1 : i < 10 ^ 64) : Shown (.int i) := by
  refine ⟨int_ok64 h0 h1, by simp [PyData.depth], ?_⟩
  rw [shown_int]
  have := int_len64 h0 h1
  have sl : sizeLine = 16777216 := sizeLine_eq
  omega
theorem shown_os {x : String} (h : x.length ≤ 1000) : Shown (.str (Str.ofString x)) := by
  have sl : sizeLine = 16777216 := sizeLine_eq
  refine ⟨by simp [PyData.showable], by simp [PyData.depth], ?_⟩
  have b : (PyData.str (Str.ofString x)).leavesShort 13 = true := by
    simp only [PyData.leavesShort, List.all_eq_true, decide_eq_true_eq]
    intro c hc
    rw [Str.ofString_eq_toList] at hc
    simp only [List.toList_toArray, List.mem_map] at hc
    obtain ⟨ch, _, rfl⟩ := hc
    have h1 : ch.toNat < 1114112 := by
      have := ch.valid
      unfold UInt32.isValidChar Nat.isValidChar at this
      show ch.val.toNat < 1114112
      omega
    omega
  have q := PyData.shown_le 13 (by decide) _ b
  have w : (PyData.str (Str.ofString x)).weight ≤ 1000 := by
    show (Str.ofString x).length ≤ 1000
    rw [PySem.ofString_length]
    exact h
  omega
theorem dig_len {n : Int} (h0 : 0 ≤ n) (h1 : n < 10 ^ 64) : (toString n : String).length ≤ 1000 := by
  have h := int_len64 (i := n) (by have : (0 : Int) < 10 ^ 64 := by decide +kernel
                                   omega) h1
  rw [PySem.ofString_length] at h
  omega
theorem shown_t1 {i : Int} (h0 : -(10 ^ 64) < i) (h1 : i < 10 ^ 64) : Shown (.tuple [.int i]) := by
  have s := shown_i h0 h1
  refine ⟨?_, ?_, ?_⟩
  · have := s.ok
    simp only [PyData.showable, PyData.showableAll, Bool.and_true] at this ⊢
    exact this
  · simp [PyData.depth, PyData.depthAll]
  · have l := int_len64 h0 h1
    have j := tupleText_len_le [(PyData.int i).shown]
    rw [PyData.shown]
    simp only [PyData.shownAll]
    rw [shown_int] at j ⊢
    simp only [List.map_cons, List.map_nil, List.sum_cons, List.sum_nil, List.length_cons, List.length_nil] at j
    have sl : sizeLine = 16777216 := sizeLine_eq
    omega
theorem isInt_some {v : V} {i : Int} (h : isInt v = some i) : v = .int i := by
  cases v <;> simp [isInt] at h
  rw [h]
theorem all_rep (n : Nat) : (List.replicate n true).all id = true := by simp
theorem ExtN.keep {p : Addr} {H H' : Hp} (h : ∀ b o, b ≠ p → H b = some o → (∀ ps, o ≠ .tbl ps) → H' b = some o) {v : V} {d : PyData} (o : Odd p H v d) : Odd p H' v d := by
  cases o with
  | fl h => exact .fl h
  | t n e f => exact .t n (h _ _ n e fun _ z => by cases z) f
  | l n e f => exact .l n (h _ _ n e fun _ z => by cases z) f
  | tt n m e e2 => exact .tt n m (h _ _ n e fun _ z => by cases z) (h _ _ m e2 fun _ z => by cases z)
  | d0 n e => exact .d0 n (h _ _ n e fun _ z => by cases z)
  | d1 n e => exact .d1 n (h _ _ n e fun _ z => by cases z)
theorem Odd.extN {p : Addr} {H H' : Hp} (h : ExtN H H') {v : V} {d : PyData} (o : Odd p H v d) : Odd p H' v d := ExtN.keep (fun b u _ e n => h b u e n) o
/-- repr of an odd thing -/
theorem fls_dp {K : PySem.W.Frag} {H : Hp} {vs : List V} {ds : List PyData} (f : Fls vs ds) : DpAll K H vs ds ∧ PyData.hasDictAll ds = false := by
  induction f with
  | nil => exact ⟨.nil, by simp [PyData.hasDictAll]⟩
  | cons h t ih =>
    refine ⟨.cons (by cases h <;> constructor) ih.1, ?_⟩
    cases h <;> simp [PyData.hasDictAll, PyData.hasDict, ih.2]
theorem Odd.dp {K : PySem.W.Frag} {p : Addr} {H : Hp} {v : V} {d : PyData} (o : Odd p H v d) : DpD K H v d := by
  cases o with
  | fl h => exact .dp (by cases h <;> constructor) (by cases h <;> simp [PyData.hasDict])
  | t n h f => exact .dp (.tup (SqT.of h) (fls_dp f).1) (by simp only [PyData.hasDict]; exact (fls_dp (K := K) (H := H) f).2)
  | l n h f => exact .dp (.lst (SqL.of h) (fls_dp f).1) (by simp only [PyData.hasDict]; exact (fls_dp (K := K) (H := H) f).2)
  | tt n m h h2 => exact .tt h h2
  | d0 n h => exact .d0 h
  | d1 n h => exact .d1 h
end TT

set_option maxHeartbeats 4000000
namespace TT
open PySem PySem.Spec PyProof.Rows L2 LamX TL
/-! ### pieces of a melody -/
inductive Pc where
  | new (l : Int)
  | notes (l x : Int)
  | copy (f l a : Int) (d b : Bool)
def Pc.len : Pc → Int
  | .new l => l
  | .notes l _ => l
  | .copy _ l _ _ _ => l
def Pc.fresh : Pc → Int
  | .new l => l
  | _ => 0
/-- a piece that can begin at the place h -/
def Pc.OkAt (h : Int) : Pc → Prop
  | .new l => 1 ≤ l
  | .notes l x => 1 ≤ l ∧ -(10 ^ 12) ≤ x ∧ x ≤ 10 ^ 12
  | .copy f l a _ b => 0 ≤ f ∧ f < h ∧ 1 ≤ l ∧ -(10 ^ 12) ≤ a ∧ a ≤ 10 ^ 12 ∧ (b = true → f + l ≤ h)
theorem Pc.OkAt.pos {h : Int} {p : Pc} (o : p.OkAt h) : 1 ≤ p.len := by
  cases p with
  | new l => exact o
  | notes l x => exact o.1
  | copy f l a d b => exact o.2.2.1
def pre (ps : List Pc) (i : Nat) : Int := ((ps.take i).map Pc.len).sum
def aheadN (ps : List Pc) (i : Nat) : Int := ((ps.take i).map Pc.fresh).sum
theorem pre_zero (ps : List Pc) : pre ps 0 = 0 := rfl
theorem ahead_zero (ps : List Pc) : aheadN ps 0 = 0 := rfl
theorem take_next {α : Type} {l : List α} {i : Nat} {x : α} (h : l[i]? = some x) : l.take (i + 1) = l.take i ++ [x] := by
  rw [List.take_add_one, h]
  rfl
theorem sum_app (xs ys : List Int) : (xs ++ ys).sum = xs.sum + ys.sum := by
  induction xs with
  | nil => simp
  | cons a t ih => rw [List.cons_append, List.sum_cons, List.sum_cons, ih]; omega
theorem pre_succ {ps : List Pc} {i : Nat} {p : Pc} (h : ps[i]? = some p) : pre ps (i + 1) = pre ps i + p.len := by
  unfold pre
  rw [take_next h, List.map_append, sum_app]
  simp
theorem ahead_succ {ps : List Pc} {i : Nat} {p : Pc} (h : ps[i]? = some p) : aheadN ps (i + 1) = aheadN ps i + p.fresh := by
  unfold aheadN
  rw [take_next h, List.map_append, sum_app]
  simp
def Fits (ps : List Pc) : Prop := ∀ (i : Nat) (p : Pc), ps[i]? = some p → p.OkAt (pre ps i)
structure PsOk (ps : List Pc) : Prop where
  at_ : Fits ps
  n1 : 1 ≤ ps.length
  n8 : ps.length ≤ 1000
  sz : pre ps ps.length ≤ 10 ^ 30
theorem pre_lt {ps : List Pc} (ok : Fits ps) : ∀ {j i : Nat}, j < i → i ≤ ps.length → pre ps j < pre ps i
  | _, 0, h, _ => absurd h (Nat.not_lt_zero _)
  | j, i + 1, h, hi => by
    obtain ⟨p, hp⟩ : ∃ p, ps[i]? = some p := ⟨_, List.getElem?_eq_getElem (by omega)⟩
    have e := pre_succ hp
    have := (ok i p hp).pos
    rcases Nat.lt_or_ge j i with c | c
    · have := pre_lt ok c (by omega)
      omega
    · have : j = i := by omega
      subst this
      omega
theorem pre_le {ps : List Pc} (ok : Fits ps) {j i : Nat} (h : j ≤ i) (hi : i ≤ ps.length) : pre ps j ≤ pre ps i := by
  rcases Nat.lt_or_ge j i with c | c
  · exact Int.le_of_lt (pre_lt ok c hi)
  · rw [Nat.le_antisymm h c]
    exact Int.le_refl _
theorem pre_nn {ps : List Pc} (ok : Fits ps) {i : Nat} (hi : i ≤ ps.length) : 0 ≤ pre ps i := pre_le ok (Nat.zero_le i) hi
/-- a place lies in one piece alone -/
theorem loc_uniq {ps : List Pc} (ok : Fits ps) {i j : Nat} {k : Int} (hi : i < ps.length) (hj : j < ps.length) (a : pre ps i ≤ k) (b : k < pre ps (i + 1)) (c : pre ps j ≤ k) (d : k < pre ps (j + 1)) : i = j := by
  rcases Nat.lt_trichotomy i j with h | h | h
  · have := pre_le ok (show i + 1 ≤ j by omega) (by omega)
    omega
  · exact h
  · have := pre_le ok (show j + 1 ≤ i by omega) (by omega)
    omega
/-! what stands at a place -/
inductive Ent where
  | told (x : Int)
  | rel (dn : Bool) (k c : Int)
def ledI (a : Int) (d : Bool) (x : Int) : Int := if d = true then a - x else a + x
def act (a : Int) (d : Bool) : Ent → Ent
  | .told x => .told (ledI a d x)
  | .rel dn k c => .rel (dn != d) k (ledI a d c)
theorem ledI_twice (a b : Int) (d e : Bool) (x : Int) : ledI b e (ledI a d x) = ledI (ledI b e a) (d != e) x := by
  unfold ledI
  cases d <;> cases e <;> simp <;> omega
theorem act_act (a b : Int) (d e : Bool) (x : Ent) : act b e (act a d x) = act (ledI b e a) (d != e) x := by
  cases x with
  | told x => exact congrArg Ent.told (ledI_twice a b d e x)
  | rel dn k c =>
    show Ent.rel ((dn != d) != e) k _ = Ent.rel (dn != (d != e)) k _
    rw [ledI_twice]
    congr 1
    cases dn <;> cases d <;> cases e <;> rfl
def oftA (a : Int) (d : Bool) (m : Int) : Int := if d = true then (if m % 2 = 1 then a else 0) else m * a
def oftD (d : Bool) (m : Int) : Bool := d && decide (m % 2 = 1)
theorem act_often (a : Int) (d : Bool) : ∀ (m : Nat) (x y : Ent) (f : Nat → Ent), f 0 = x → f m = y → (∀ i, i < m → f (i + 1) = act a d (f i)) → y = act (oftA a d m) (oftD d m) x
  | 0, x, y, f, h0, hm, _ => by
    rw [← hm, h0]
    cases x with
    | told z => simp [act, oftA, oftD, ledI]
    | rel dn k c => cases d <;> simp [act, oftA, oftD, ledI]
  | m + 1, x, y, f, h0, hm, hs => by
    have ih := act_often a d m x (f m) f h0 rfl fun i hi => hs i (by omega)
    rw [← hm, hs m (by omega), ih, act_act]
    have e1 : ledI a d (oftA a d m) = oftA a d ((m + 1 : Nat) : Int) := by
      unfold ledI oftA
      cases d with
      | true =>
        simp only [if_true]
        by_cases c : ((m : Nat) : Int) % 2 = 1
        · rw [if_pos c, if_neg (by omega)]
          omega
        · rw [if_neg c, if_pos (by omega)]
          omega
      | false =>
        simp only [Bool.false_eq_true, if_false]
        rw [show (((m + 1 : Nat)) : Int) = (m : Int) + 1 by omega, Int.add_mul, Int.one_mul, Int.add_comm]
    have e2 : (oftD d m != d) = oftD d ((m + 1 : Nat) : Int) := by
      unfold oftD
      cases d with
      | true =>
        by_cases c : ((m : Nat) : Int) % 2 = 1
        · rw [decide_eq_true c, decide_eq_false (by omega)]
          rfl
        · rw [decide_eq_false c, decide_eq_true (by omega)]
          rfl
      | false => rfl
    rw [e1, e2]
/-- where a place of a copy comes from -/
def spot (f l : Int) (b : Bool) (j : Int) : Int := f + (if b = true then l - 1 - j else j)
/-- what the piece p, which begins at h, says of its j-th place -/
def Says (E : List Ent) (fr : Int) (p : Pc) (h j : Int) : Prop :=
  match p with
  | .new _ => E[(h + j).toNat]? = some (.rel false (fr + j) 0)
  | .notes _ x => E[(h + j).toNat]? = some (.told x)
  | .copy f l a d b => ∃ e, E[(spot f l b j).toNat]? = some e ∧ E[(h + j).toNat]? = some (act a d e)
theorem get_app {α : Type} {E X : List α} {i : Nat} {x : α} (h : E[i]? = some x) : (E ++ X)[i]? = some x := by
  rw [List.getElem?_append_left (List.getElem?_eq_some_iff.mp h).1]
  exact h
theorem Says.app {E X : List Ent} {fr : Int} {p : Pc} {h j : Int} (s : Says E fr p h j) : Says (E ++ X) fr p h j := by
  cases p with
  | new l => exact get_app s
  | notes l x => exact get_app s
  | copy f l a d b =>
    obtain ⟨e, h1, h2⟩ := s
    exact ⟨e, get_app h1, get_app h2⟩
/-- the first m entries are as the pieces say -/
structure Eqs (ps : List Pc) (m : Int) (E : List Ent) : Prop where
  len : (E.length : Int) = m
  says : ∀ i p j, ps[i]? = some p → 0 ≤ j → j < p.len → pre ps i + j < m → Says E (aheadN ps i) p (pre ps i) j
theorem Eqs.snoc {ps : List Pc} (ok : PsOk ps) {m : Int} {E : List Ent} (h : Eqs ps m E) {i : Nat} {p : Pc} {j : Int} {e : Ent} (hp : ps[i]? = some p) (j0 : 0 ≤ j) (j1 : j < p.len) (em : pre ps i + j = m) (s : Says (E ++ [e]) (aheadN ps i) p (pre ps i) j) : Eqs ps (m + 1) (E ++ [e]) := by
  refine ⟨by rw [List.length_append]; simp; have := h.len; omega, fun i' p' j' hp' a b c => ?_⟩
  by_cases e' : pre ps i' + j' = m
  · have hi := (List.getElem?_eq_some_iff.mp hp).1
    have hi' := (List.getElem?_eq_some_iff.mp hp').1
    have x := pre_succ hp; have y := pre_succ hp'
    have u : i = i' := loc_uniq ok.at_ (k := m) hi hi' (by omega) (by omega) (by omega) (by omega)
    subst u
    rw [hp] at hp'
    obtain rfl := Option.some.inj hp'
    have : j = j' := by omega
    subst this
    exact s
  · exact (h.says i' p' j' hp' a b (by omega)).app
/-- the entry of a place -/
theorem Eqs.at {ps : List Pc} {m : Int} {E : List Ent} (h : Eqs ps m E) {k : Int} (k0 : 0 ≤ k) (k1 : k < m) : ∃ e, E[k.toNat]? = some e := ⟨_, List.getElem?_eq_getElem (by have := h.len; omega)⟩
/-- in which piece a place lies -/
theorem locate {ps : List Pc} : ∀ {n : Nat} {k : Int}, n ≤ ps.length → 0 ≤ k → k < pre ps n → ∃ i p, ps[i]? = some p ∧ i < n ∧ pre ps i ≤ k ∧ k < pre ps (i + 1)
  | 0, k, _, h0, h => by rw [pre_zero] at h; omega
  | n + 1, k, hn, h0, h => by
    by_cases c : k < pre ps n
    · obtain ⟨i, p, a, b, c1, c2⟩ := locate (n := n) (by omega) h0 c
      exact ⟨i, p, a, by omega, c1, c2⟩
    · exact ⟨n, ps[n], List.getElem?_eq_getElem (by omega), Nat.lt_succ_self n, by omega, h⟩
/-- the place from which a copy takes a place, led so many times -/
theorem copy_source {ps : List Pc} (ok : PsOk ps) {E : List Ent} (h : Eqs ps (pre ps ps.length) E) {i : Nat} {f l a : Int} {d : Bool} (hp : ps[i]? = some (.copy f l a d false)) {k : Int} (k0 : pre ps i ≤ k) (k1 : k < pre ps i + l) :
    ∀ (m : Nat), 1 ≤ m → pre ps i ≤ k - ((m : Int) - 1) * (pre ps i - f) → ∃ e e', E[(k - (m : Int) * (pre ps i - f)).toNat]? = some e ∧ E[k.toNat]? = some e' ∧ e' = act (oftA a d m) (oftD d m) e := by
  intro m hm hk
  have hi := (List.getElem?_eq_some_iff.mp hp).1
  obtain ⟨f0, f1, l1, a0, a1, _⟩ := ok.at_ i _ hp
  have tot : pre ps i + l ≤ pre ps ps.length := by
    have := pre_le ok.at_ (show i + 1 ≤ ps.length by omega) (Nat.le_refl _)
    rw [pre_succ hp] at this
    exact this
  generalize hs : pre ps i - f = s at hk ⊢
  have s0 : 0 < s := by omega
  -- entries on the way
  have step : ∀ t : Nat, t < m → pre ps i ≤ k - (t : Int) * s := fun t ht => by
    have : (t : Int) * s ≤ ((m : Int) - 1) * s := Int.mul_le_mul_of_nonneg_right (by omega) (by omega)
    omega
  have nn : ∀ t : Nat, t ≤ m → 0 ≤ k - (t : Int) * s := fun t ht => by
    cases t with
    | zero => simp; have := pre_nn ok.at_ (show i ≤ ps.length by omega); omega
    | succ t =>
      have h1 := step t (by omega)
      rw [show ((t + 1 : Nat) : Int) * s = (t : Int) * s + s by rw [show ((t + 1 : Nat) : Int) = (t : Int) + 1 by omega, Int.add_mul, Int.one_mul]]
      omega
  have le : ∀ t : Nat, 0 ≤ (t : Int) * s := fun t => Int.mul_nonneg (by omega) (by omega)
  have ent : ∀ t : Nat, t ≤ m → ∃ e, E[(k - (t : Int) * s).toNat]? = some e := fun t ht => h.at (nn t ht) (by have := le t; omega)
  let g : Nat → Ent := fun t => (E[(k - ((m - t : Nat) : Int) * s).toNat]?).getD (.told 0)
  obtain ⟨e, he⟩ := ent m (Nat.le_refl _)
  obtain ⟨e', he'⟩ := ent 0 (Nat.zero_le _)
  rw [show k - ((0 : Nat) : Int) * s = k by simp] at he'
  refine ⟨e, e', he, he', act_often a d m e e' g ?_ ?_ fun t ht => ?_⟩
  · show (E[(k - ((m - 0 : Nat) : Int) * s).toNat]?).getD _ = e
    rw [Nat.sub_zero, he]
    rfl
  · show (E[(k - ((m - m : Nat) : Int) * s).toNat]?).getD _ = e'
    rw [Nat.sub_self, show k - ((0 : Nat) : Int) * s = k by simp, he']
    rfl
  · show (E[(k - ((m - (t + 1) : Nat) : Int) * s).toNat]?).getD _ = act a d ((E[(k - ((m - t : Nat) : Int) * s).toNat]?).getD _)
    obtain ⟨u, hu⟩ : ∃ u : Nat, u = m - (t + 1) := ⟨_, rfl⟩
    have hu2 : m - t = u + 1 := by omega
    rw [← hu, hu2]
    have b1 := step u (by omega)
    have b2 := le u
    have sy := h.says i _ (k - (u : Int) * s - pre ps i) hp (by omega) (by show k - (u : Int) * s - pre ps i < l; omega) (by omega)
    obtain ⟨e2, h1, h2⟩ := sy
    rw [show pre ps i + (k - (u : Int) * s - pre ps i) = k - (u : Int) * s by omega] at h2
    have es : spot f l false (k - (u : Int) * s - pre ps i) = k - ((u + 1 : Nat) : Int) * s := by
      unfold spot
      rw [if_neg (by decide), show ((u + 1 : Nat) : Int) * s = (u : Int) * s + s by rw [show ((u + 1 : Nat) : Int) = (u : Int) + 1 by omega, Int.add_mul, Int.one_mul]]
      omega
    rw [es] at h1
    rw [h1, h2]
    rfl
end TT

set_option maxHeartbeats 4000000
namespace TT
open PySem PySem.Spec PyProof.Rows L2 LamX TL
/-! ### leads, pieces as they stand -/
def pcV : Pc → List V
  | .new l => [.str "new", .int l]
  | .notes l x => [.str "notes", .int l, .int x]
  | .copy f l a d b => [.str "copy", .int f, .int l, .int a, .bl d, .bl b]
def PcAt (H : Hp) (q : Addr) (p : Pc) : Prop := H q = some (.tup (pcV p))
def PcsAt (H : Hp) : List V → List Pc → Prop := Paired fun v p => ∃ q, v = V.ref q ∧ PcAt H q p
def stV (ps : List Pc) : List V := (List.range (ps.length + 1)).map fun i => V.int (pre ps i)
def ahV (ps : List Pc) : List V := (List.range (ps.length + 1)).map fun i => V.int (aheadN ps i)
theorem Paired.imp {α β : Type} {F G : α → β → Prop} (f : ∀ a b, F a b → G a b) : ∀ {xs : List α} {ys : List β}, Paired F xs ys → Paired G xs ys
  | _, _, .nil => .nil
  | _, _, .cons r t => .cons (f _ _ r) (Paired.imp f t)
theorem Paired.snoc {α β : Type} {F : α → β → Prop} {a : α} {b : β} (h : F a b) : ∀ {xs : List α} {ys : List β}, Paired F xs ys → Paired F (xs ++ [a]) (ys ++ [b])
  | _, _, .nil => .cons h .nil
  | _, _, .cons r t => .cons r (Paired.snoc h t)
theorem Paired.at {α β : Type} {F : α → β → Prop} : ∀ {xs : List α} {ys : List β}, Paired F xs ys → ∀ {i : Nat} {x : α}, xs[i]? = some x → ∃ y, ys[i]? = some y ∧ F x y
  | _, _, .nil, i, x, e => by simp at e
  | _, _, .cons r t, 0, x, e => by
    simp at e
    subst e
    exact ⟨_, rfl, r⟩
  | _, _, .cons r t, i + 1, x, e => by
    obtain ⟨y, e1, e2⟩ := Paired.at t (i := i) (x := x) (by simpa using e)
    exact ⟨y, by simpa using e1, e2⟩
theorem Paired.len {α β : Type} {F : α → β → Prop} : ∀ {xs : List α} {ys : List β}, Paired F xs ys → xs.length = ys.length
  | _, _, .nil => rfl
  | _, _, .cons _ t => by rw [List.length_cons, List.length_cons, Paired.len t]
theorem PcsAt.same {H H' : Hp} (s : Same H H') {xs : List V} {ps : List Pc} (h : PcsAt H xs ps) : PcsAt H' xs ps := Paired.imp (fun _ _ ⟨q, e, t⟩ => ⟨q, e, s _ _ t⟩) h
theorem same_put {D : Addr} {H H1 : Hp} {o : HO} (s : Same H H1) (hD : H D = none) : Same H (upd H1 D o) := fun b u e => by
  rw [upd_ne (ne_of_none e hD)]
  exact s b u e
theorem at_last {xs : List V} {x : V} : atI (xs ++ [x]) (-1) = some x := by
  unfold atI ixN
  rw [if_neg (by decide), List.length_append, if_pos (by simp; omega)]
  show (xs ++ [x])[((-1 : Int) + ((xs.length + [x].length : Nat) : Int)).toNat]? = some x
  have : ((-1 : Int) + ((xs.length + [x].length : Nat) : Int)).toNat = xs.length := by simp; omega
  rw [this, List.getElem?_append_right (Nat.le_refl _), Nat.sub_self]
  rfl
theorem stV_at {ps : List Pc} {i : Nat} (h : i ≤ ps.length) : atI (stV ps) (i : Int) = some (.int (pre ps i)) := atI_nat (by
  unfold stV
  rw [List.getElem?_map, List.getElem?_range (by omega)]
  rfl)
theorem ahV_at {ps : List Pc} {i : Nat} (h : i ≤ ps.length) : atI (ahV ps) (i : Int) = some (.int (aheadN ps i)) := atI_nat (by
  unfold ahV
  rw [List.getElem?_map, List.getElem?_range (by omega)]
  rfl)
theorem stV_len (ps : List Pc) : (stV ps).length = ps.length + 1 := by unfold stV; rw [List.length_map, List.length_range]
theorem ahV_len (ps : List Pc) : (ahV ps).length = ps.length + 1 := by unfold ahV; rw [List.length_map, List.length_range]
theorem stV_last (ps : List Pc) : atI (stV ps) (-1) = some (.int (pre ps ps.length)) := by
  unfold stV
  rw [List.range_succ, List.map_append]
  exact at_last
theorem ahV_last (ps : List Pc) : atI (ahV ps) (-1) = some (.int (aheadN ps ps.length)) := by
  unfold ahV
  rw [List.range_succ, List.map_append]
  exact at_last
def sp_length_of : Sp := fun vs H Q _ => ∃ (q : Addr) (p : Pc), vs = [.ref q] ∧ PcAt H q p ∧ Q (.int p.len) H
def sp_starts_of : Sp := fun vs H Q _ => ∃ (P : Addr) (tr : List V) (ps : List Pc), vs = [.ref P] ∧ H P = some (.tup tr) ∧ PcsAt H tr ps ∧ ps.length ≤ 1000 ∧ ∀ x H', H x = none → Same H H' → H' x = some (.tup (stV ps)) → Q (.ref x) H'
def sp_new_ahead : Sp := fun vs H Q _ => ∃ (P : Addr) (tr : List V) (ps : List Pc), vs = [.ref P] ∧ H P = some (.tup tr) ∧ PcsAt H tr ps ∧ ps.length ≤ 1000 ∧ ∀ x H', H x = none → Same H H' → H' x = some (.tup (ahV ps)) → Q (.ref x) H'
section
variable {P : Program} {w : World} {K : PySem.W.Frag} {mg : Str → Option Value} {base : Heap} {Z : Zs}
theorem ok_length_of (T : Txt K mg Z) : FnOk P w K mg base CX0 1 Z.f_length_of Z.d_length_of ["piece"] sp_length_of := by
  refine T.F_length_of.ok sc_length_of (fun vs H Q E h => ?_) (fun cdv A outer s H vs Q E hr h => ?_)
  · obtain ⟨q, p, rfl, _⟩ := h
    rfl
  · obtain ⟨q, p, rfl, hq, k⟩ := h
    refine ⟨_, (pss_one (ps_ret (pe_ifExp (pt_cmpR op_eq (pe_ix ix_tup (pv 0) pe_int (fun _ _ => rfl)) pe_str (nomark _)) (pe_ix ix_tup (pv 0) pe_int (fun _ _ => rfl)) (pe_ix ix_tup (pv 0) pe_int (fun _ _ => rfl))))), ?_⟩
    cases p with
    | new l =>
      refine ⟨_, rfl, q, _, 0, .str "new", rfl, rfl, SqT.of hq, rfl, rfl, _, rfl, ?_⟩
      rw [show decide (V.str "new" = V.str "copy") = false by decide +kernel]
      exact iteF ⟨_, rfl, q, _, 1, .int l, rfl, rfl, SqT.of hq, rfl, k⟩
    | notes l x =>
      refine ⟨_, rfl, q, _, 0, .str "notes", rfl, rfl, SqT.of hq, rfl, rfl, _, rfl, ?_⟩
      rw [show decide (V.str "notes" = V.str "copy") = false by decide +kernel]
      exact iteF ⟨_, rfl, q, _, 1, .int l, rfl, rfl, SqT.of hq, rfl, k⟩
    | copy f l a d b =>
      refine ⟨_, rfl, q, _, 0, .str "copy", rfl, rfl, SqT.of hq, rfl, rfl, _, rfl, ?_⟩
      rw [show decide (V.str "copy" = V.str "copy") = true by decide +kernel]
      exact iteT ⟨_, rfl, q, _, 2, .int l, rfl, rfl, SqT.of hq, rfl, k⟩
theorem ok_starts_of (T : Txt K mg Z) : FnOk P w K mg base CX0 2 Z.f_starts_of Z.d_starts_of ["pieces"] sp_starts_of := by
  refine T.F_starts_of.ok sc_starts_of (fun vs H Q E h => ?_) (fun cdv A outer s H vs Q E hr h => ?_)
  · obtain ⟨q, tr, ps, rfl, _⟩ := h
    rfl
  · obtain ⟨q, tr, ps, rfl, hq, hp, len, k⟩ := h
    have sl : sizeLine = 16777216 := sizeLine_eq
    have lt := Paired.len hp
    refine ⟨_, (pss_cons (ps_set (i := 1) sc_starts_of.nd rfl (Or.inl rfl) (pe_lst (pa_cons pe_int pa_nil)))
      (pss_cons (ps_for PassesOwn.never rfl (pi_tup (pv 0)) (pg_name (i := 2) sc_starts_of.nd rfl (Or.inl rfl)) (pss_one (ps_expr (pe_bm PySem.F.plainAttrs_list PySem.F.slot_list_append PySem.F.type_list_append mt_append (pv 1) (pa_cons (pe_op op_add (pe_ix ix_list (pv 1) (pe_un un_neg pe_int) (fun _ _ => rfl)) (pe_call (ok_length_of T) (hr.mono (by decide)) rfl T.g_length_of T.k_length_of T.bn_length_of .nil pass0 (pa_cons (pv 2) pa_nil))) pa_nil)))))
      (pss_one (ps_ret (pe_callTy call_tuple_of (by rfl) T.b_tuple (by decide +kernel) (pa_cons (pv 1) pa_nil)))))), ?_⟩
    refine ⟨by show 1 ≤ sizeLine; decide, fun D hD => ?_⟩
    have sD := Same.new (o := .lst [.int 0]) (Same.refl H) hD
    refine ⟨_, rfl, q, rfl, ⟨_, SqT.of (sD _ _ hq)⟩, for_tup (xs := tr) (fun i σ H' => ∃ v2, σ = [some (.ref q), some (.ref D), v2] ∧ H' D = some (.lst ((List.range (i + 1)).map fun j => V.int (pre ps j))) ∧ Same H H') ⟨_, rfl, upd_same, sD⟩ (fun i σ H' _ ⟨_, _, _, s⟩ => SqT.of (s _ _ hq)) ?_ ?_⟩
    · rintro i x σ H1 hi ⟨v2, rfl, hD1, s1⟩
      obtain ⟨p, hp', y, rfl, hy⟩ := Paired.at hp hi
      have il := (List.getElem?_eq_some_iff.mp hp').1
      have ll : (List.map (fun j => V.int (pre ps j)) (List.range (i + 1))).length = i + 1 := by rw [List.length_map, List.length_range]
      have al : atI ((List.range (i + 1)).map fun j => V.int (pre ps j)) (-1) = some (.int (pre ps i)) := by
        rw [List.range_succ, List.map_append]
        exact at_last
      refine ⟨_, rfl, .inl ⟨rfl, _, SqL.of hD1⟩, _, rfl, _, rfl, D, _, _, _, rfl, rfl, SqL.of hD1, al, _, rfl, y, p, rfl, s1 _ _ hy, _, _, rfl, rfl, D, _, _, rfl, rfl, hD1, by omega, ?_⟩
      refine ⟨_, rfl, ?_, same_put s1 hD⟩
      rw [upd_same, List.range_succ (n := i + 1), List.map_append, List.map_singleton, pre_succ hp']
    · rintro σ H1 ⟨v2, rfl, hD1, s1⟩
      rw [lt] at hD1
      exact ⟨_, rfl, D, _, rfl, .inl ⟨SqL.of hD1, fun x hx => k x _ (L2.Same.free s1 hx) (Same.new s1 hx) upd_same⟩⟩
theorem ok_new_ahead (T : Txt K mg Z) : FnOk P w K mg base CX0 2 Z.f_new_ahead Z.d_new_ahead ["pieces"] sp_new_ahead := by
  refine T.F_new_ahead.ok sc_new_ahead (fun vs H Q E h => ?_) (fun cdv A outer s H vs Q E hr h => ?_)
  · obtain ⟨q, tr, ps, rfl, _⟩ := h
    rfl
  · obtain ⟨q, tr, ps, rfl, hq, hp, len, k⟩ := h
    have sl : sizeLine = 16777216 := sizeLine_eq
    have lt := Paired.len hp
    refine ⟨_, (pss_cons (ps_set (i := 1) sc_new_ahead.nd rfl (Or.inl rfl) (pe_lst (pa_cons pe_int pa_nil)))
      (pss_cons (ps_for PassesOwn.never rfl (pi_tup (pv 0)) (pg_name (i := 2) sc_new_ahead.nd rfl (Or.inl rfl)) (pss_one (ps_expr (pe_bm PySem.F.plainAttrs_list PySem.F.slot_list_append PySem.F.type_list_append mt_append (pv 1) (pa_cons (pe_op op_add (pe_ix ix_list (pv 1) (pe_un un_neg pe_int) (fun _ _ => rfl)) (pe_ifExp (pt_cmpR op_eq (pe_ix ix_tup (pv 2) pe_int (fun _ _ => rfl)) pe_str (nomark _)) (pe_ix ix_tup (pv 2) pe_int (fun _ _ => rfl)) pe_int)) pa_nil)))))
      (pss_one (ps_ret (pe_callTy call_tuple_of (by rfl) T.b_tuple (by decide +kernel) (pa_cons (pv 1) pa_nil)))))), ?_⟩
    refine ⟨by show 1 ≤ sizeLine; decide, fun D hD => ?_⟩
    have sD := Same.new (o := .lst [.int 0]) (Same.refl H) hD
    refine ⟨_, rfl, q, rfl, ⟨_, SqT.of (sD _ _ hq)⟩, for_tup (xs := tr) (fun i σ H' => ∃ v2, σ = [some (.ref q), some (.ref D), v2] ∧ H' D = some (.lst ((List.range (i + 1)).map fun j => V.int (aheadN ps j))) ∧ Same H H') ⟨_, rfl, upd_same, sD⟩ (fun i σ H' _ ⟨_, _, _, s⟩ => SqT.of (s _ _ hq)) ?_ ?_⟩
    · rintro i x σ H1 hi ⟨v2, rfl, hD1, s1⟩
      obtain ⟨p, hp', y, rfl, hy⟩ := Paired.at hp hi
      have hy1 : H1 y = some (.tup (pcV p)) := s1 _ _ hy
      have ll : (List.map (fun j => V.int (aheadN ps j)) (List.range (i + 1))).length = i + 1 := by rw [List.length_map, List.length_range]
      have il := (List.getElem?_eq_some_iff.mp hp').1
      have al : atI ((List.range (i + 1)).map fun j => V.int (aheadN ps j)) (-1) = some (.int (aheadN ps i)) := by
        rw [List.range_succ, List.map_append]
        exact at_last
      have nx := ahead_succ hp'
      refine ⟨_, rfl, .inl ⟨rfl, _, SqL.of hD1⟩, _, rfl, _, rfl, D, _, _, _, rfl, rfl, SqL.of hD1, al, ?_⟩
      cases p with
      | new l =>
        refine ⟨_, rfl, y, _, 0, .str "new", rfl, rfl, SqT.of hy1, rfl, rfl, _, rfl, ?_⟩
        rw [show decide (V.str "new" = V.str "new") = true by decide +kernel]
        refine iteT ⟨_, rfl, y, _, 1, .int l, rfl, rfl, SqT.of hy1, rfl, _, _, rfl, rfl, D, _, _, rfl, rfl, hD1, by omega, ?_⟩
        refine ⟨_, rfl, ?_, same_put s1 hD⟩
        rw [upd_same, List.range_succ (n := i + 1), List.map_append, List.map_singleton, nx]
        rfl
      | notes l x =>
        refine ⟨_, rfl, y, _, 0, .str "notes", rfl, rfl, SqT.of hy1, rfl, rfl, _, rfl, ?_⟩
        rw [show decide (V.str "notes" = V.str "new") = false by decide +kernel]
        refine iteF ⟨_, _, rfl, rfl, D, _, _, rfl, rfl, hD1, by omega, ?_⟩
        refine ⟨_, rfl, ?_, same_put s1 hD⟩
        rw [upd_same, List.range_succ (n := i + 1), List.map_append, List.map_singleton, nx]
        rfl
      | copy f l a d b =>
        refine ⟨_, rfl, y, _, 0, .str "copy", rfl, rfl, SqT.of hy1, rfl, rfl, _, rfl, ?_⟩
        rw [show decide (V.str "copy" = V.str "new") = false by decide +kernel]
        refine iteF ⟨_, _, rfl, rfl, D, _, _, rfl, rfl, hD1, by omega, ?_⟩
        refine ⟨_, rfl, ?_, same_put s1 hD⟩
        rw [upd_same, List.range_succ (n := i + 1), List.map_append, List.map_singleton, nx]
        rfl
    · rintro σ H1 ⟨v2, rfl, hD1, s1⟩
      rw [lt] at hD1
      exact ⟨_, rfl, D, _, rfl, .inl ⟨SqL.of hD1, fun x hx => k x _ (L2.Same.free s1 hx) (Same.new s1 hx) upd_same⟩⟩
end
end TT


set_option maxHeartbeats 4000000
namespace TT
open PySem PySem.Spec PyProof.Rows L2 LamX TL
/-! ### a place read -/
def word (d : Bool) : Str := if d = true then Str.ofString "down" else Str.ofString "up"
section
variable {P : Program} {w : World} {K : PySem.W.Frag} {mg : Str → Option Value} {base : Heap} {Z : Zs}
end
end TT

set_option maxHeartbeats 4000000
namespace TT
open PySem PySem.Spec PyProof.Rows L2 LamX TL
/-! ### melodies -/
def mf1 (P : Addr) : List (Str × V) := putF "pieces" (.ref P) []
def mf2 (P S : Addr) : List (Str × V) := putF "starts" (.ref S) (mf1 P)
def mf3 (P S A : Addr) : List (Str × V) := putF "ahead" (.ref A) (mf2 P S)
def mf4 (P S A : Addr) (z : Int) : List (Str × V) := putF "size" (.int z) (mf3 P S A)
def mfs (P S A : Addr) (z n : Int) : List (Str × V) := putF "new" (.int n) (mf4 P S A z)
theorem len_putF {f : Str} {v : V} {fs : List (Str × V)} {n : Nat} (h : fs.length ≤ n) : (putF f v fs).length ≤ n + 1 := Nat.le_trans (length_putF f v fs) (Nat.succ_le_succ h)
theorem mf4_lookup (P S A : Addr) (z : Int) (g : Str) : (mf4 P S A z).lookup g = if g = "size" then some (.int z) else if g = "ahead" then some (.ref A) else if g = "starts" then some (.ref S) else if g = "pieces" then some (.ref P) else none := by
  unfold mf4 mf3 mf2 mf1
  rw [lookup_putF, lookup_putF, lookup_putF, lookup_putF]
  rfl
theorem mfs_lookup (P S A : Addr) (z n : Int) (g : Str) : (mfs P S A z n).lookup g = if g = "new" then some (.int n) else if g = "size" then some (.int z) else if g = "ahead" then some (.ref A) else if g = "starts" then some (.ref S) else if g = "pieces" then some (.ref P) else none := by
  unfold mfs
  rw [lookup_putF, mf4_lookup]
theorem mfs_pieces (P S A : Addr) (z n : Int) : (mfs P S A z n).lookup ("pieces" : Str) = some (.ref P) := by rw [mfs_lookup, if_neg (by decide +kernel), if_neg (by decide +kernel), if_neg (by decide +kernel), if_neg (by decide +kernel), if_pos rfl]
theorem mf3_starts (P S A : Addr) : (mf3 P S A).lookup ("starts" : Str) = some (.ref S) := by
  unfold mf3 mf2 mf1
  rw [lookup_putF, lookup_putF, if_neg (by decide +kernel), if_pos rfl]
theorem mf4_ahead (P S A : Addr) (z : Int) : (mf4 P S A z).lookup ("ahead" : Str) = some (.ref A) := by rw [mf4_lookup, if_neg (by decide +kernel), if_pos rfl]
/-- a melody of these pieces stands at q -/
structure MelIs (B : Addr) (H : Hp) (q : Addr) (ps : List Pc) (dx P S A : Addr) (tr : List V) : Prop where
  ins : H q = some (.ins B dx (mfs P S A (pre ps ps.length) (aheadN ps ps.length)))
  pieces : H P = some (.tup tr)
  pcs : PcsAt H tr ps
  starts : H S = some (.tup (stV ps))
  ahead : H A = some (.tup (ahV ps))
def MelAt (B : Addr) (H : Hp) (q P : Addr) (ps : List Pc) : Prop := ∃ dx S A tr, MelIs B H q ps dx P S A tr
theorem MelAt.same {B : Addr} {H H' : Hp} (s : Same H H') {q P : Addr} {ps : List Pc} (h : MelAt B H q P ps) : MelAt B H' q P ps := by
  obtain ⟨dx, S, A, tr, h⟩ := h
  exact ⟨dx, S, A, tr, s _ _ h.ins, s _ _ h.pieces, h.pcs.same s, s _ _ h.starts, s _ _ h.ahead⟩
def entV : Ent → List V
  | .told x => [.str "told", .int x]
  | .rel d k c => [.str (word d), .int k, .int c]
section
variable {P : Program} {w : World} {K : PySem.W.Frag} {mg : Str → Option Value} {base : Heap} {Z : Zs}
theorem mkM (T : Txt K mg Z) : Mk K Z.cB Z.f_M_init := ⟨T.mkBc, T.a_M_init, T.i_M_init, T.kB⟩
end
end TT


set_option maxHeartbeats 4000000
namespace TT
open PySem PySem.Spec PyProof.Rows L2 LamX TL
/-! ### what the law draws -/
theorem pre_app {ps : List Pc} {X : List Pc} {i : Nat} (h : i ≤ ps.length) : pre (ps ++ X) i = pre ps i := by
  unfold pre
  rw [List.take_append_of_le_length h]
theorem pre_snoc (ps : List Pc) (p : Pc) : pre (ps ++ [p]) (ps.length + 1) = pre ps ps.length + p.len := by
  have e : (ps ++ [p])[ps.length]? = some p := by rw [List.getElem?_append_right (Nat.le_refl _), Nat.sub_self]; rfl
  rw [pre_succ e, pre_app (Nat.le_refl _)]
theorem Fits.snoc {ps : List Pc} {p : Pc} (f : Fits ps) (o : p.OkAt (pre ps ps.length)) : Fits (ps ++ [p]) := by
  intro i q h
  by_cases c : i < ps.length
  · rw [List.getElem?_append_left c] at h
    rw [pre_app (by omega)]
    exact f i q h
  · have hl := (List.getElem?_eq_some_iff.mp h).1
    rw [List.length_append, List.length_singleton] at hl
    have : i = ps.length := by omega
    subst this
    rw [List.getElem?_append_right (Nat.le_refl _), Nat.sub_self] at h
    obtain rfl : p = q := Option.some.inj h
    rw [pre_app (Nat.le_refl _)]
    exact o
theorem keep_put {p D : Addr} {H H1 : Hp} {o : HO} (k : Keep p H H1) (hD : H D = none) : Keep p H (upd H1 D o) := fun b u hb e => by
  rw [upd_ne (ne_of_none e hD)]
  exact k b u hb e
theorem Pot.put {H : Hp} {p D : Addr} {n : Nat} {o : HO} (h : Pot H p n) (e : p ≠ D) : Pot (upd H D o) p n := by
  obtain ⟨own, mix, h, r⟩ := h
  exact ⟨own, mix, by rw [upd_ne e]; exact h, r⟩
theorem PcsAt.put {H : Hp} {D : Addr} {xs : List V} {o : HO} (hD : H D = some (.lst xs)) {tr : List V} {ps : List Pc} (h : PcsAt H tr ps) : PcsAt (upd H D o) tr ps := Paired.imp (fun _ _ ⟨y, e, t⟩ => ⟨y, e, by
  have n : y ≠ D := ne_of t hD fun z => nomatch z
  unfold PcAt
  rw [upd_ne n]
  exact t⟩) h
theorem PcsAt.keep {H H' : Hp} {p : Addr} {n : Nat} (k : Keep p H H') (hp : Pot H p n) {tr : List V} {ps : List Pc} (h : PcsAt H tr ps) : PcsAt H' tr ps := Paired.imp (fun _ _ ⟨y, e, t⟩ => ⟨y, e, k _ _ (hp.off t fun _ z => nomatch z) t⟩) h
def sp_l_lead : Sp := fun vs H Q _ => ∃ (q : Addr) (e : Ent) (d : Bool) (a : Int), vs = [.ref q, .bl d, .int a] ∧ H q = some (.tup (entV e)) ∧ ∀ x H', H x = none → Same H H' → H' x = some (.tup (entV (act a d e))) → Q (.ref x) H'
def sp_l_amt : Sp := fun vs H Q _ => ∃ (p : Addr) (n : Nat), vs = [.ref p] ∧ Pot H p n ∧ n + 2 < 1000000 ∧
  ∀ (v : Int) (n' : Nat) (H' : Hp), -(10 ^ 12) ≤ v → v ≤ 10 ^ 12 → n' ≤ n + 2 → Pot H' p n' → Keep p H H' → Q (.int v) H'
def sp_l_piece : Sp := fun vs H Q _ => ∃ (p : Addr) (n : Nat) (h r : Int), vs = [.ref p, .int h, .int r] ∧ Pot H p n ∧ n + 10 < 1000000 ∧ 0 ≤ h ∧ 1 ≤ r ∧ h + r ≤ 30 ∧
  ∀ (c : Pc) (q : Addr) (n' : Nat) (H' : Hp), c.OkAt h → c.len ≤ r → n' ≤ n + 10 → Pot H' p n' → Keep p H H' → PcAt H' q c → H q = none → Q (.ref q) H'
def sp_l_pieces : Sp := fun vs H Q _ => ∃ (p : Addr) (n : Nat) (z : Int), vs = [.ref p, .int z] ∧ Pot H p n ∧ n + 100 < 1000000 ∧ 1 ≤ z ∧ z ≤ 30 ∧
  ∀ (ps : List Pc) (x : Addr) (tr : List V) (n' : Nat) (H' : Hp), PsOk ps → ps.length ≤ 7 → pre ps ps.length ≤ z → H' x = some (.tup tr) → PcsAt H' tr ps → n' ≤ n + 80 → Pot H' p n' → Keep p H H' → Q (.ref x) H'
section
variable {P : Program} {w : World} {K : PySem.W.Frag} {mg : Str → Option Value} {base : Heap} {Z : Zs}
theorem ok_l_lead (T : Txt K mg Z) : FnOk P w K mg base CX0 1 Z.f_l_lead Z.d_l_lead ["_law_entry", "_law_is_down", "_law_amount_here"] sp_l_lead := by
  refine T.F_l_lead.ok sc_l_lead (fun vs H Q E h => ?_) (fun cdv A outer s H vs Q E hr h => ?_)
  · obtain ⟨q, e, d, a, rfl, _⟩ := h
    rfl
  · obtain ⟨q, e, d, a, rfl, hq, k⟩ := h
    refine ⟨_, (pss_cons (ps_if (pt_cmpR op_eq (pe_ix ix_tup (pv 0) pe_int (fun _ _ => rfl)) pe_str (nomark _)) (pss_one (ps_ret (pe_tup (pa_cons pe_str (pa_cons (pe_ifExp (pt_val (pv 1)) (pe_op op_sub (pv 2) (pe_ix ix_tup (pv 0) pe_int (fun _ _ => rfl))) (pe_op op_add (pv 2) (pe_ix ix_tup (pv 0) pe_int (fun _ _ => rfl)))) pa_nil))))) pss_nil)
      (pss_cons (ps_if (pt_val (pv 1)) (pss_one (ps_ret (pe_tup (pa_cons (pe_ifExp (pt_cmpR op_eq (pe_ix ix_tup (pv 0) pe_int (fun _ _ => rfl)) pe_str (nomark _)) pe_str pe_str) (pa_cons (pe_ix ix_tup (pv 0) pe_int (fun _ _ => rfl)) (pa_cons (pe_op op_sub (pv 2) (pe_ix ix_tup (pv 0) pe_int (fun _ _ => rfl))) pa_nil)))))) pss_nil)
      (pss_one (ps_ret (pe_tup (pa_cons (pe_ix ix_tup (pv 0) pe_int (fun _ _ => rfl)) (pa_cons (pe_ix ix_tup (pv 0) pe_int (fun _ _ => rfl)) (pa_cons (pe_op op_add (pv 2) (pe_ix ix_tup (pv 0) pe_int (fun _ _ => rfl))) pa_nil)))))))), ?_⟩
    cases e with
    | told x =>
      have hq' : H q = some (.tup [.str "told", .int x]) := hq
      have w0 : decide (V.str "told" = V.str "told") = true := by decide +kernel
      refine ⟨_, rfl, q, _, 0, .str "told", rfl, rfl, SqT.of hq', rfl, rfl, true, by rw [w0], iteT ?_⟩
      cases d with
      | true => exact ⟨_, rfl, true, rfl, iteT ⟨_, rfl, _, rfl, q, _, 1, .int x, rfl, rfl, SqT.of hq', rfl, _, _, rfl, rfl, by show 2 ≤ sizeLine; decide, fun y hy => k y _ hy (Same.new (Same.refl H) hy) upd_same⟩⟩
      | false => exact ⟨_, rfl, false, rfl, iteF ⟨_, rfl, _, rfl, q, _, 1, .int x, rfl, rfl, SqT.of hq', rfl, _, _, rfl, rfl, by show 2 ≤ sizeLine; decide, fun y hy => k y _ hy (Same.new (Same.refl H) hy) upd_same⟩⟩
    | rel dn c m =>
      have hq' : H q = some (.tup [.str (word dn), .int c, .int m]) := hq
      have w0 : decide (V.str (word dn) = V.str "told") = false := by cases dn <;> decide +kernel
      refine ⟨_, rfl, q, _, 0, .str (word dn), rfl, rfl, SqT.of hq', rfl, rfl, false, by rw [w0], iteF ?_⟩
      cases d with
      | true =>
        refine ⟨_, rfl, true, rfl, iteT ?_⟩
        refine ⟨_, rfl, q, _, 0, .str (word dn), rfl, rfl, SqT.of hq', rfl, rfl, !dn, ?_, ?_⟩
        · cases dn <;> decide +kernel
        cases dn with
        | true =>
          refine iteF ⟨_, rfl, q, _, 1, .int c, rfl, rfl, SqT.of hq', rfl, _, rfl, _, rfl, q, _, 2, .int m, rfl, rfl, SqT.of hq', rfl, _, _, rfl, rfl, by show 3 ≤ sizeLine; decide, fun y hy => k y _ hy (Same.new (Same.refl H) hy) upd_same⟩
        | false =>
          refine iteT ⟨_, rfl, q, _, 1, .int c, rfl, rfl, SqT.of hq', rfl, _, rfl, _, rfl, q, _, 2, .int m, rfl, rfl, SqT.of hq', rfl, _, _, rfl, rfl, by show 3 ≤ sizeLine; decide, fun y hy => k y _ hy (Same.new (Same.refl H) hy) upd_same⟩
      | false =>
        refine ⟨_, rfl, false, rfl, iteF ?_⟩
        refine ⟨_, rfl, q, _, 0, .str (word dn), rfl, rfl, SqT.of hq', rfl, _, rfl, q, _, 1, .int c, rfl, rfl, SqT.of hq', rfl, _, rfl, _, rfl, q, _, 2, .int m, rfl, rfl, SqT.of hq', rfl, _, _, rfl, rfl, by show 3 ≤ sizeLine; decide, fun y hy => k y _ hy (Same.new (Same.refl H) hy) ?_⟩
        rw [upd_same]
        cases dn <;> rfl
theorem ok_l_amount (T : Txt K mg Z) : FnOk P w K mg base CX0 3 Z.f_l_amount Z.d_l_amount ["_law_pot_here"] sp_l_amt := by
  refine T.F_l_amount.ok sc_l_amount (fun vs H Q E h => ?_) (fun cdv A outer s H vs Q E hr h => ?_)
  · obtain ⟨p, n, rfl, _⟩ := h
    rfl
  · obtain ⟨p, n, rfl, hp, hn, k⟩ := h
    refine ⟨_, (pss_one (ps_ret (pe_call (ok_l_of T) (hr.mono (by decide)) rfl T.g_l_of T.k_l_of T.bn_l_of .nil pass0 (pa_cons (pv 0) (pa_cons (pe_lst (pa_cons pe_int (pa_cons pe_int (pa_cons pe_int (pa_cons pe_int (pa_cons (pe_un un_neg pe_int) (pa_cons pe_int (pa_cons (pe_un un_neg pe_int) (pa_cons pe_int (pa_cons pe_int (pa_cons (pe_op op_sub (pe_call (ok_l_take T) (hr.mono (by decide)) rfl T.g_l_take T.k_l_take T.bn_l_take .nil pass0 (pa_cons (pv 0) (pa_cons pe_int pa_nil))) pe_int) (pa_cons (pe_op op_powW pe_int pe_int) pa_nil)))))))))))) pa_nil))))), ?_⟩
    refine ⟨_, rfl, _, rfl, _, rfl, _, rfl, p, n, 200, rfl, hp, by omega, by decide, by decide, fun d n1 H1 d0 d1 hn1 hp1 k1 => ?_⟩
    refine ⟨_, _, rfl, rfl, _, _, rfl, rfl, ⟨by decide, by decide +kernel⟩, by show 11 ≤ sizeLine; decide, fun a ha => ?_⟩
    have hpa : p ≠ a := hp1.ne ha
    refine ⟨p, a, n1, _, rfl, hp1.new ha, by omega, upd_same, hpa.symm, Nat.zero_lt_succ _, by show 11 ≤ 1000; decide, fun v n' H' hv hn' hp' kp => ?_⟩
    have kp' : Keep p H H' := k1.trans ((Keep.new Keep.rfl' ha).trans kp)
    simp only [List.mem_cons, List.not_mem_nil, or_false] at hv
    rcases hv with rfl | rfl | rfl | rfl | rfl | rfl | rfl | rfl | rfl | rfl | rfl
    all_goals first | exact k _ n' H' (by decide) (by decide) (by omega) hp' kp' | exact k _ n' H' (by show -(10 ^ 12) ≤ d - 100; omega) (by show d - 100 ≤ 10 ^ 12; omega) (by omega) hp' kp'
theorem ok_l_piece (T : Txt K mg Z) : FnOk P w K mg base CX0 4 Z.f_l_piece Z.d_l_piece ["_law_pot_here", "_law_here", "_law_room_left"] sp_l_piece := by
  refine T.F_l_piece.ok sc_l_piece (fun vs H Q E h => ?_) (fun cdv A outer s H vs Q E hr h => ?_)
  · obtain ⟨p, n, h, r, rfl, _⟩ := h
    rfl
  · obtain ⟨p, n, h, r, rfl, hp, hn, h0, r1, hr30, k⟩ := h
    refine ⟨_, (pss_cons (ps_par (i := 3) (j := 4) (by rfl) sc_l_piece.nd rfl rfl (by decide) rfl rfl (pa_cons (pe_op op_add pe_int (pe_call (ok_l_take T) (hr.mono (by decide)) rfl T.g_l_take T.k_l_take T.bn_l_take .nil pass0 (pa_cons (pv 0) (pa_cons (pe_callB  (call_min2 rfl) (by rfl) T.b_min (by decide +kernel) (pa_cons pe_int (pa_cons (pv 2) pa_nil))) pa_nil)))) (pa_cons (pe_call (ok_l_take T) (hr.mono (by decide)) rfl T.g_l_take T.k_l_take T.bn_l_take .nil pass0 (pa_cons (pv 0) (pa_cons pe_int pa_nil))) pa_nil)) (by rfl))
      (pss_cons (ps_if (PW.pt (pw_or (pt_cmpR op_eq (pv 4) pe_int (nomark _)) (pw_or1 (PW.pt (pw_and (pt_cmpR op_eq (pv 1) pe_int (nomark _)) (pw_and1 (pt_cmpR op_gt (pv 4) pe_int (nomark _)))))))) (pss_one (ps_ret (pe_tup (pa_cons pe_str (pa_cons (pv 3) pa_nil))))) pss_nil)
      (pss_cons (ps_if (pt_cmpR op_eq (pv 4) pe_int (nomark _)) (pss_one (ps_ret (pe_tup (pa_cons pe_str (pa_cons (pv 3) (pa_cons (pe_call (ok_l_amount T) (hr.mono (by decide)) rfl T.g_l_amount T.k_l_amount T.bn_l_amount .nil pass0 (pa_cons (pv 0) pa_nil)) pa_nil)))))) pss_nil)
      (pss_cons (ps_par (i := 5) (j := 6) (by rfl) sc_l_piece.nd rfl rfl (by decide) rfl rfl (pa_cons (pe_call (ok_l_take T) (hr.mono (by decide)) rfl T.g_l_take T.k_l_take T.bn_l_take .nil pass0 (pa_cons (pv 0) (pa_cons (pv 1) pa_nil))) (pa_cons (pe_cmpR op_eq (pe_call (ok_l_take T) (hr.mono (by decide)) rfl T.g_l_take T.k_l_take T.bn_l_take .nil pass0 (pa_cons (pv 0) (pa_cons pe_int pa_nil))) pe_int (nomark _)) pa_nil)) (by rfl))
      (pss_cons (ps_set (i := 7) sc_l_piece.nd rfl (Or.inl rfl) (pe_and (pe_cmpR op_eq (pe_call (ok_l_take T) (hr.mono (by decide)) rfl T.g_l_take T.k_l_take T.bn_l_take .nil pass0 (pa_cons (pv 0) (pa_cons pe_int pa_nil))) pe_int (nomark _)) (pe_one (pe_cmpR op_le (pe_op op_add (pv 5) (pv 3)) (pv 1) (nomark _)))))
      (pss_one (ps_ret (pe_tup (pa_cons pe_str (pa_cons (pv 5) (pa_cons (pv 3) (pa_cons (pe_call (ok_l_amount T) (hr.mono (by decide)) rfl T.g_l_amount T.k_l_amount T.bn_l_amount .nil pass0 (pa_cons (pv 0) pa_nil)) (pa_cons (pv 6) (pa_cons (pv 7) pa_nil)))))))))))))), ?_⟩
    have big : (100 : Int) < 10 ^ 60 := by decide
    have b1 : 0 < (if r < 6 then r else 6) ∧ (if r < 6 then r else 6) < 10 ^ 60 ∧ (if r < 6 then r else 6) ≤ r := by split <;> omega
    refine ⟨_, rfl, _, rfl, _, _, rfl, p, n, _, rfl, hp, by omega, b1.1, b1.2.1, fun d1 n1 H1 a0 a1 hn1 hp1 k1 => ?_⟩
    have l1 : 1 + d1 ≤ r := by have := b1.2.2; omega
    clear a1 b1
    refine ⟨_, _, rfl, rfl, _, rfl, p, n1, 6, rfl, hp1, by omega, by decide, by decide, fun d2 n2 H2 b0 b1 hn2 hp2 k2 => ?_⟩
    refine ⟨_, _, rfl, ?_⟩
    have kp2 := k1.trans k2
    by_cases c0 : d2 = 0
    · subst c0
      refine ⟨_, rfl, rfl, true, rfl, iteT (iteT ⟨_, rfl, by show 2 ≤ sizeLine; decide, fun q hq => ?_⟩)⟩
      exact k (.new (1 + d1)) q n2 _ (by show 1 ≤ 1 + d1; omega) l1 (by omega) (hp2.new hq) (kp2.new hq) upd_same (free_of kp2 hp hq hp2)
    refine ⟨_, rfl, rfl, false, by rw [decide_eq_false fun z => c0 (V.int.inj z)], iteF ?_⟩
    by_cases h00 : h = 0
    · subst h00
      by_cases c1 : 1 < d2
      · refine ⟨_, rfl, rfl, true, rfl, iteT ⟨_, rfl, _, _, rfl, rfl, true, by show V.bl (decide (1 < d2)) = V.bl true; rw [decide_eq_true c1], iteT ⟨_, rfl, by show 2 ≤ sizeLine; decide, fun q hq => ?_⟩⟩⟩
        exact k (.new (1 + d1)) q n2 _ (by show 1 ≤ 1 + d1; omega) l1 (by omega) (hp2.new hq) (kp2.new hq) upd_same (free_of kp2 hp hq hp2)
      · have c2 : d2 = 1 := by omega
        subst c2
        refine ⟨_, rfl, rfl, true, rfl, iteT ⟨_, rfl, _, _, rfl, rfl, false, rfl, iteF ?_⟩⟩
        refine ⟨_, rfl, rfl, true, rfl, iteT ⟨_, rfl, _, rfl, p, n2, rfl, hp2, by omega, fun am n3 H3 e0 e1 hn3 hp3 k3 => ⟨by show 3 ≤ sizeLine; decide, fun q hq => ?_⟩⟩⟩
        exact k (.notes (1 + d1) am) q n3 _ ⟨by omega, e0, e1⟩ l1 (by omega) (hp3.new hq) ((kp2.trans k3).new hq) upd_same (free_of (kp2.trans k3) hp hq hp3)
    refine ⟨_, rfl, rfl, false, by rw [decide_eq_false fun z => h00 (V.int.inj z)], iteF (iteF ?_)⟩
    by_cases c2 : d2 = 1
    · subst c2
      refine ⟨_, rfl, rfl, true, rfl, iteT ⟨_, rfl, _, rfl, p, n2, rfl, hp2, by omega, fun am n3 H3 e0 e1 hn3 hp3 k3 => ⟨by show 3 ≤ sizeLine; decide, fun q hq => ?_⟩⟩⟩
      exact k (.notes (1 + d1) am) q n3 _ ⟨by omega, e0, e1⟩ l1 (by omega) (hp3.new hq) ((kp2.trans k3).new hq) upd_same (free_of (kp2.trans k3) hp hq hp3)
    refine ⟨_, rfl, rfl, false, by rw [decide_eq_false fun z => c2 (V.int.inj z)], iteF ?_⟩
    refine ⟨_, rfl, _, rfl, p, n2, h, rfl, hp2, by omega, by omega, by omega, fun d3 n3 H3 e0 e1 hn3 hp3 k3 => ?_⟩
    refine ⟨_, rfl, p, n3, 3, rfl, hp3, by omega, by decide, by decide, fun d4 n4 H4 f0 f1 hn4 hp4 k4 => ⟨rfl, _, _, rfl, ?_⟩⟩
    refine ⟨_, rfl, p, n4, 3, rfl, hp4, by omega, by decide, by decide, fun d5 n5 H5 g0 g1 hn5 hp5 k5 => ⟨rfl, _, rfl, ?_⟩⟩
    have kp5 := ((kp2.trans k3).trans k4).trans k5
    have fin : ∀ (bk : Bool), (bk = true → d3 + (1 + d1) ≤ h) → ∀ (am : Int) (n6 : Nat) (H6 : Hp), -(10 ^ 12) ≤ am → am ≤ 10 ^ 12 → n6 ≤ n5 + 2 → Pot H6 p n6 → Keep p H5 H6 → ∀ q, H6 q = none → Q (.ref q) (upd H6 q (.tup [.str "copy", .int d3, .int (1 + d1), .int am, .bl (decide (V.int d4 = V.int 0)), .bl bk])) := fun bk hb am n6 H6 e2 e3 hn6 hp6 k6 q hq =>
      k (.copy d3 (1 + d1) am (decide (V.int d4 = V.int 0)) bk) q n6 _ ⟨e0, e1, by omega, e2, e3, hb⟩ l1 (by omega) (hp6.new hq) ((kp5.trans k6).new hq) upd_same (free_of (kp5.trans k6) hp hq hp6)
    refine ite2 (fun c => ?_) (fun c => ?_)
    · refine ⟨_, rfl, _, rfl, _, _, rfl, rfl, _, rfl, _, _, rfl, rfl, ?_⟩
      refine ⟨_, rfl, _, rfl, _, rfl, p, n5, rfl, hp5, by omega, fun am n6 H6 e2 e3 hn6 hp6 k6 => ⟨_, rfl, _, rfl, by show 6 ≤ sizeLine; decide, fun q hq => ?_⟩⟩
      exact fin (decide (d3 + (1 + d1) ≤ h)) (fun z => of_decide_eq_true z) am n6 H6 e2 e3 hn6 hp6 k6 q hq
    · refine ⟨_, rfl, _, rfl, _, rfl, p, n5, rfl, hp5, by omega, fun am n6 H6 e2 e3 hn6 hp6 k6 => ⟨_, rfl, _, rfl, by show 6 ≤ sizeLine; decide, fun q hq => ?_⟩⟩
      exact fin false (fun z => nomatch z) am n6 H6 e2 e3 hn6 hp6 k6 q hq
theorem ok_l_pieces (T : Txt K mg Z) : FnOk P w K mg base CX0 5 Z.f_l_pieces Z.d_l_pieces ["_law_pot_here", "_law_size"] sp_l_pieces := by
  refine T.F_l_pieces.ok sc_l_pieces (fun vs H Q E h => ?_) (fun cdv A outer s H vs Q E hr h => ?_)
  · obtain ⟨p, n, z, rfl, _⟩ := h
    rfl
  · obtain ⟨p, n, z, rfl, hp, hn, z0, z1, k⟩ := h
    refine ⟨_, (pss_cons (ps_par (i := 2) (j := 3) (by rfl) sc_l_pieces.nd rfl rfl (by decide) rfl rfl (pa_cons (pe_lst pa_nil) (pa_cons pe_int pa_nil)) (by rfl))
      (pss_cons (ps_for PassesOwn.never rfl (pi_range1 rfl T.b_range (pa_cons (pe_op op_add pe_int (pe_call (ok_l_take T) (hr.mono (by decide)) rfl T.g_l_take T.k_l_take T.bn_l_take .nil pass0 (pa_cons (pv 0) (pa_cons pe_int pa_nil)))) pa_nil)) (pg_name (i := 4) sc_l_pieces.nd rfl (Or.inl rfl)) (pss_one (ps_if (pt_cmpR op_lt (pv 3) (pv 1) (nomark _)) (pss_cons (ps_set (i := 5) sc_l_pieces.nd rfl (Or.inl rfl) (pe_call (ok_l_piece T) (hr.mono (by decide)) rfl T.g_l_piece T.k_l_piece T.bn_l_piece .nil pass0 (pa_cons (pv 0) (pa_cons (pv 3) (pa_cons (pe_op op_sub (pv 1) (pv 3)) pa_nil)))))
      (pss_cons (ps_expr (pe_bm PySem.F.plainAttrs_list PySem.F.slot_list_append PySem.F.type_list_append mt_append (pv 2) (pa_cons (pv 5) pa_nil)))
      (pss_one (ps_set (i := 3) sc_l_pieces.nd rfl (Or.inl rfl) (pe_op op_add (pv 3) (pe_ifExp (pt_cmpR op_eq (pe_ix ix_tup (pv 5) pe_int (fun _ _ => rfl)) pe_str (nomark _)) (pe_ix ix_tup (pv 5) pe_int (fun _ _ => rfl)) (pe_ix ix_tup (pv 5) pe_int (fun _ _ => rfl)))))))) pss_nil)))
      (pss_one (ps_ret (pe_callTy call_tuple_of (by rfl) T.b_tuple (by decide +kernel) (pa_cons (pv 2) pa_nil)))))), ?_⟩
    have sl : sizeLine = 16777216 := sizeLine_eq
    refine ⟨by show 0 ≤ sizeLine; exact Nat.zero_le _, fun D hD => ⟨_, _, rfl, ?_⟩⟩
    have npD : p ≠ D := hp.ne hD
    refine ⟨_, rfl, p, n, 7, rfl, hp.new hD, by omega, by decide, by decide, fun d n1 H1 d0 d1 hn1 hp1 k1 => ⟨_, _, rfl, rfl, _, rfl, by show -(2 ^ 62) ≤ 1 + d; omega, by show 1 + d < 2 ^ 62; omega, ?_⟩⟩
    have k1' : Keep p H H1 := (Keep.rfl'.new hD).trans k1
    have hD1 := k1 _ _ npD.symm (upd_same (H := H) (a := D))
    refine for_range (n := (1 + d).toNat) (fun i σ H' => ∃ n' v4 v5 tr ps, σ = [some (.ref p), some (.int z), some (.ref D), some (.int (pre ps ps.length)), v4, v5] ∧ H' D = some (.lst tr) ∧ PcsAt H' tr ps ∧ Fits ps ∧ pre ps ps.length ≤ z ∧ ps.length ≤ i ∧ (1 ≤ i → 1 ≤ ps.length) ∧ n' ≤ n + 1 + 10 * i ∧ Pot H' p n' ∧ Keep p H H')
      ⟨n1, none, none, [], [], rfl, hD1, .nil, (fun i p h => by simp at h), by rw [show pre [] ([] : List Pc).length = 0 from rfl]; omega, Nat.le_refl _, fun h => by omega, by omega, hp1, k1'⟩ ?_ ?_
    · rintro i σ H2 hi ⟨n2, v4, v5, tr, ps, rfl, hD2, hps, fit, lez, li, l1, hn2, hp2, k2⟩
      have i6 : i < 7 := by omega
      have nn := pre_nn fit (Nat.le_refl _)
      have lt := Paired.len hps
      by_cases c : pre ps ps.length < z
      · refine ⟨_, rfl, _, rfl, _, _, rfl, rfl, true, by show V.bl (decide (pre ps ps.length < z)) = V.bl true; rw [decide_eq_true c], iteT ?_⟩
        refine ⟨_, rfl, _, rfl, _, rfl, _, rfl, _, _, rfl, rfl, p, n2, _, _, rfl, hp2, by omega, nn, by omega, by omega, fun pc q n3 H3 o3 l3 hn3 hp3 k3 hq nq => ?_⟩
        have hD3 := k3 _ _ npD.symm hD2
        have hps3 := hps.keep k3 hp2
        refine ⟨_, rfl, .inl ⟨rfl, _, SqL.of hD3⟩, _, rfl, D, _, _, rfl, rfl, hD3, by omega, ?_⟩
        have qD : q ≠ D := ne_of hq hD3 fun z => nomatch z
        have hq4 : upd H3 D (.lst (tr ++ [.ref q])) q = some (.tup (pcV pc)) := by rw [upd_ne qD]; exact hq
        obtain ⟨tr0, et⟩ : ∃ t, t = tr := ⟨_, rfl⟩
        have e : [some (V.ref p), some (V.int z), some (V.ref D), some (V.int (pre ps ps.length + pc.len)), some (V.int (0 + (i : Int))), some (V.ref q)] = [some (V.ref p), some (V.int z), some (V.ref D), some (V.int (pre (ps ++ [pc]) (ps ++ [pc]).length)), some (V.int (0 + (i : Int))), some (V.ref q)] := by
          rw [List.length_append, List.length_singleton, pre_snoc]
        have fin : ∀ σ, σ = [some (V.ref p), some (V.int z), some (V.ref D), some (V.int (pre ps ps.length + pc.len)), some (V.int (0 + (i : Int))), some (V.ref q)] → ∃ n' v4 v5 tr ps, σ = [some (.ref p), some (.int z), some (.ref D), some (.int (pre ps ps.length)), v4, v5] ∧ (upd H3 D (.lst (tr0 ++ [.ref q]))) D = some (.lst tr) ∧ PcsAt (upd H3 D (.lst (tr0 ++ [.ref q]))) tr ps ∧ Fits ps ∧ pre ps ps.length ≤ z ∧ ps.length ≤ i + 1 ∧ (1 ≤ i + 1 → 1 ≤ ps.length) ∧ n' ≤ n + 1 + 10 * (i + 1) ∧ Pot (upd H3 D (.lst (tr0 ++ [.ref q]))) p n' ∧ Keep p H (upd H3 D (.lst (tr0 ++ [.ref q]))) := by
          rintro σ rfl
          subst et
          exact ⟨n3, _, _, tr0 ++ [.ref q], ps ++ [pc], e, upd_same, Paired.snoc ⟨q, rfl, hq4⟩ (hps3.put hD3), fit.snoc o3, by rw [List.length_append, List.length_singleton, pre_snoc]; omega, by rw [List.length_append, List.length_singleton]; omega, fun _ => by rw [List.length_append, List.length_singleton]; omega, by omega, hp3.put npD, keep_put (k2.trans k3) hD⟩
        rw [← et] at hq4 ⊢
        cases pc with
        | new l =>
          refine ⟨_, rfl, _, rfl, q, _, 0, .str "new", rfl, rfl, SqT.of hq4, rfl, rfl, false, by rw [show decide (V.str "new" = V.str "copy") = false by decide +kernel], iteF ⟨_, rfl, q, _, 1, .int l, rfl, rfl, SqT.of hq4, rfl, _, _, rfl, rfl, fin _ rfl⟩⟩
        | notes l x =>
          refine ⟨_, rfl, _, rfl, q, _, 0, .str "notes", rfl, rfl, SqT.of hq4, rfl, rfl, false, by rw [show decide (V.str "notes" = V.str "copy") = false by decide +kernel], iteF ⟨_, rfl, q, _, 1, .int l, rfl, rfl, SqT.of hq4, rfl, _, _, rfl, rfl, fin _ rfl⟩⟩
        | copy f l a d b =>
          refine ⟨_, rfl, _, rfl, q, _, 0, .str "copy", rfl, rfl, SqT.of hq4, rfl, rfl, true, by rw [show decide (V.str "copy" = V.str "copy") = true by decide +kernel], iteT ⟨_, rfl, q, _, 2, .int l, rfl, rfl, SqT.of hq4, rfl, _, _, rfl, rfl, fin _ rfl⟩⟩
      · refine ⟨_, rfl, _, rfl, _, _, rfl, rfl, false, by show V.bl (decide (pre ps ps.length < z)) = V.bl false; rw [decide_eq_false c], iteF ?_⟩
        refine ⟨n2, _, _, tr, ps, rfl, hD2, hps, fit, lez, by omega, fun _ => ?_, by omega, hp2, k2⟩
        cases ps with
        | nil => exact absurd (show pre [] ([] : List Pc).length < z from by rw [show pre [] ([] : List Pc).length = 0 from rfl]; omega) c
        | cons a t => exact Nat.succ_le_succ (Nat.zero_le _)
    · rintro σ H2 ⟨n2, v4, v5, tr, ps, rfl, hD2, hps, fit, lez, li, l1, hn2, hp2, k2⟩
      have e30 : (30 : Int) ≤ 10 ^ 30 := by decide +kernel
      refine ⟨_, rfl, D, _, rfl, .inl ⟨SqL.of hD2, fun x hx => ?_⟩⟩
      exact k ps x tr n2 _ ⟨fit, l1 (by omega), by omega, by omega⟩ (by omega) lez upd_same (hps.same (Same.new (Same.refl H2) hx)) (by omega) (hp2.new hx) (k2.new hx)
/-! the entries, place by place -/
def EntAt (H : Hp) (v : V) (e : Ent) : Prop := ∃ q, v = V.ref q ∧ H q = some (.tup (entV e))
def EntsAt (H : Hp) : List V → List Ent → Prop := Paired (EntAt H)
theorem EntsAt.same {H H' : Hp} (s : Same H H') {xs : List V} {es : List Ent} (h : EntsAt H xs es) : EntsAt H' xs es := Paired.imp (fun _ _ ⟨q, e, t⟩ => ⟨q, e, s _ _ t⟩) h
theorem Paired.repN {α β : Type} {F : α → β → Prop} {a : α} {b : β} (h : F a b) : ∀ n, Paired F (List.replicate n a) (List.replicate n b)
  | 0 => .nil
  | n + 1 => .cons h (Paired.repN h n)
theorem Paired.app {α β : Type} {F : α → β → Prop} {us : List α} {ws : List β} (h : Paired F us ws) : ∀ {xs : List α} {ys : List β}, Paired F xs ys → Paired F (xs ++ us) (ys ++ ws)
  | _, _, .nil => h
  | _, _, .cons r t => .cons r (Paired.app h t)
theorem EntsAt.put {H : Hp} {D : Addr} {ys : List V} {o : HO} (hD : H D = some (.lst ys)) {xs : List V} {es : List Ent} (h : EntsAt H xs es) : EntsAt (upd H D o) xs es := Paired.imp (fun _ _ ⟨y, e, t⟩ => ⟨y, e, by
  have n : y ≠ D := ne_of t hD fun z => nomatch z
  rw [upd_ne n]
  exact t⟩) h
theorem get_ext {E zs : List Ent} {h : Int} {j : Nat} {e : Ent} (l : (E.length : Int) = h) (hz : zs[j]? = some e) : (E ++ zs.take (j + 1))[(h + (j : Int)).toNat]? = some e := by
  rw [List.getElem?_append_right (by omega), show (h + (j : Int)).toNat - E.length = j by omega, List.getElem?_take, if_pos (Nat.lt_succ_self j)]
  exact hz
/-- more entries of one piece -/
theorem Eqs.exts {ps : List Pc} (ok : PsOk ps) {i : Nat} {p : Pc} (hp : ps[i]? = some p) {E zs : List Ent} (h : Eqs ps (pre ps i) E) (l : (zs.length : Int) ≤ p.len)
    (sy : ∀ (j : Nat) e, zs[j]? = some e → Says (E ++ zs.take (j + 1)) (aheadN ps i) p (pre ps i) (j : Int)) : Eqs ps (pre ps i + (zs.length : Int)) (E ++ zs) := by
  have all : ∀ n : Nat, n ≤ zs.length → Eqs ps (pre ps i + (n : Int)) (E ++ zs.take n) := by
    intro n
    induction n with
    | zero => intro _; simpa using h
    | succ n ih =>
      intro hn
      have hz : zs[n]? = some zs[n] := List.getElem?_eq_getElem (by omega)
      have := (ih (by omega)).snoc ok (e := zs[n]) hp (j := (n : Int)) (by omega) (by omega) rfl (by
        rw [List.append_assoc, ← take_next hz]
        exact sy n _ hz)
      rw [List.append_assoc, ← take_next hz] at this
      rw [show pre ps i + ((n + 1 : Nat) : Int) = pre ps i + (n : Int) + 1 by omega]
      exact this
  have := all zs.length (Nat.le_refl _)
  rw [List.take_length] at this
  exact this
theorem eqs_nil {ps : List Pc} (ok : Fits ps) : Eqs ps (pre ps 0) [] := ⟨rfl, fun i p j hp j0 _ h => by
  have := pre_nn ok (show i ≤ ps.length by have := (List.getElem?_eq_some_iff.mp hp).1; omega)
  rw [pre_zero] at h
  omega⟩
def sp_told (K : PySem.W.Frag) (Z : Zs) : (XK → Hp → VK → Prop) → List V → Hp → VK → Prop := fun tl vs H Q =>
  vs = [] ∧ ∃ G : V → V → Hp → Prop, (∀ c f H', G c f H' → ∀ x, H' x = none → Q (.ref x) (upd H' x (.tup [c, f]))) ∧ ∀ H1, Same H H1 → tl (fun cls d H' => PySem.W.exmOne K cls (.ref (Z.c 1)) = some true ∧ ∀ a, H' a = none → G (.ref a) .non (upd H' a (exk a cls d))) H1 (fun v H' => G .non v H')
def sp_l_shown : Sp := fun vs H Q _ => ∃ (R : Addr) (tr : List V) (ps : List Pc), vs = [.ref R] ∧ H R = some (.tup tr) ∧ PcsAt H tr ps ∧ PsOk ps ∧ pre ps ps.length ≤ 30 ∧
  ∀ (x : Addr) (es : List Ent) (xs : List V) (H' : Hp), H x = none → Same H H' → H' x = some (.lst xs) → EntsAt H' xs es → Eqs ps (pre ps ps.length) es → Q (.ref x) H'
def sp_l_pots (K : PySem.W.Frag) : Sp := fun vs H Q _ => ∃ (a : Addr) (ns : List Int), vs = [.ref a, .int 6] ∧ SqL K H a (ns.map V.int) ∧ ns.length ≤ 63 ∧
  ∀ (x : Addr) (qs : List Addr) (H' : Hp), H x = none → Same H H' → H' x = some (.lst (qs.map V.ref)) → qs.length ≤ 6 → (∀ q ∈ qs, H q = none ∧ Pot H' q 0) → qs.Nodup → Q (.ref x) H'
theorem ok_l_shown (T : Txt K mg Z) : FnOk P w K mg base CX0 2 Z.f_l_shown Z.d_l_shown ["_law_pieces_here"] sp_l_shown := by
  refine T.F_l_shown.ok sc_l_shown (fun vs H Q E h => ?_) (fun cdv A outer s H vs Q E hr h => ?_)
  · obtain ⟨R, tr, ps, rfl, _⟩ := h
    rfl
  · obtain ⟨R, tr, ps, rfl, hR, hps, ok, z30, k⟩ := h
    refine ⟨_, (pss_cons (ps_asg (pe_tup (pa_cons (pe_lst pa_nil) (pa_cons pe_int pa_nil))) (pg_tup rfl (pgs_cons (pg_name (i := 1) sc_l_shown.nd rfl (Or.inl rfl)) (pgs_cons (pg_name (i := 2) sc_l_shown.nd rfl (Or.inr rfl)) pgs_nil))))
      (pss_cons (ps_for PassesOwn.never rfl (pi_tup (pv 0)) (pg_name (i := 3) sc_l_shown.nd rfl (Or.inl rfl)) (pss_one (ps_if (pt_cmpR op_eq (pe_ix ix_tup (pv 3) pe_int (fun _ _ => rfl)) pe_str (nomark _)) (pss_cons (ps_expr (pe_bm PySem.F.plainAttrs_list PySem.F.slot_list_extend PySem.F.type_list_extend mt_extend (pv 1) (pa_cons (pe_lc (own := [("_law_number", 4)]) rfl sc_l_shown.nd (pi_range1 rfl T.b_range (pa_cons (pe_ix ix_tup (pv 3) pe_int (fun _ _ => rfl)) pa_nil)) (blkOk_by (own := [("_law_number", 4)]) (N := ["_law_pieces_here", "_law_found", "_law_fresh", "_law_piece_here", "_law_number", "_law_spot"]) (sc := defScope s_l_shown) (by decide +kernel)) (fun _ _ _ _ _ => (pg_name (i := 4) sc_l_shown.nd rfl (Or.inl rfl))) (fun _ _ _ _ _ => pts_nil) (fun _ _ _ _ _ => (pe_tup (pa_cons pe_str (pa_cons (pe_op op_add (pv 2) (pv 4)) (pa_cons pe_int pa_nil)))))) pa_nil)))
      (pss_one (ps_set (i := 2) sc_l_shown.nd rfl (Or.inr rfl) (pe_op op_add (pv 2) (pe_ix ix_tup (pv 3) pe_int (fun _ _ => rfl)))))) (pss_one (ps_if (pt_cmpR op_eq (pe_ix ix_tup (pv 3) pe_int (fun _ _ => rfl)) pe_str (nomark _)) (pss_one (ps_expr (pe_bm PySem.F.plainAttrs_list PySem.F.slot_list_extend PySem.F.type_list_extend mt_extend (pv 1) (pa_cons (pe_op op_rep (pe_lst (pa_cons (pe_tup (pa_cons pe_str (pa_cons (pe_ix ix_tup (pv 3) pe_int (fun _ _ => rfl)) pa_nil))) pa_nil)) (pe_ix ix_tup (pv 3) pe_int (fun _ _ => rfl))) pa_nil)))) (pss_one (ps_for PassesOwn.never rfl (pi_range1 rfl T.b_range (pa_cons (pe_ix ix_tup (pv 3) pe_int (fun _ _ => rfl)) pa_nil)) (pg_name (i := 4) sc_l_shown.nd rfl (Or.inl rfl)) (pss_cons (ps_set (i := 5) sc_l_shown.nd rfl (Or.inl rfl) (pe_op op_add (pe_ix ix_tup (pv 3) pe_int (fun _ _ => rfl)) (pe_ifExp (pt_val (pe_ix ix_tup (pv 3) pe_int (fun _ _ => rfl))) (pe_op op_sub (pe_op op_sub (pe_ix ix_tup (pv 3) pe_int (fun _ _ => rfl)) pe_int) (pv 4)) (pv 4))))
      (pss_one (ps_expr (pe_bm PySem.F.plainAttrs_list PySem.F.slot_list_append PySem.F.type_list_append mt_append (pv 1) (pa_cons (pe_call (ok_l_lead T) (hr.mono (by decide)) rfl T.g_l_lead T.k_l_lead T.bn_l_lead .nil pass0 (pa_cons (pe_ix ix_list (pv 1) (pv 5) (fun _ _ => rfl)) (pa_cons (pe_ix ix_tup (pv 3) pe_int (fun _ _ => rfl)) (pa_cons (pe_ix ix_tup (pv 3) pe_int (fun _ _ => rfl)) pa_nil)))) pa_nil))))))))))))
      (pss_one (ps_ret (pv 1))))), ?_⟩
    have sl : sizeLine = 16777216 := sizeLine_eq
    have lt := Paired.len hps
    refine ⟨by show 0 ≤ sizeLine; exact Nat.zero_le _, fun D hD => ⟨by show 2 ≤ sizeLine; decide, fun t ht => ⟨t, _, rfl, SqT.of upd_same, rfl, _, _, rfl, _, _, rfl, rfl, ?_⟩⟩⟩
    have sA := Same.new (o := .lst []) (Same.refl H) hD
    have s1 := Same.new (o := .tup [.ref D, .int 0]) sA ht
    have hD1 : upd (upd H D (.lst [])) t (.tup [.ref D, .int 0]) D = some (.lst []) := Same.new (o := .tup [.ref D, .int 0]) (Same.refl _) ht _ _ upd_same
    clear sA ht
    generalize upd (upd H D (.lst [])) t (.tup [.ref D, .int 0]) = H1 at s1 hD1 ⊢
    refine ⟨_, rfl, R, rfl, ⟨_, SqT.of (s1 _ _ hR)⟩, for_tup (xs := tr) (fun i σ H' => ∃ v3 v4 v5 xs es, σ = [some (.ref R), some (.ref D), some (.int (aheadN ps i)), v3, v4, v5] ∧ H' D = some (.lst xs) ∧ EntsAt H' xs es ∧ Eqs ps (pre ps i) es ∧ Same H H') ⟨_, _, _, [], [], rfl, hD1, .nil, eqs_nil ok.at_, s1⟩ (fun i σ H' _ ⟨_, _, _, _, _, _, _, _, _, s⟩ => SqT.of (s _ _ hR)) ?_ ?_⟩
    · rintro i x σ H2 hi ⟨v3, v4, v5, xs, es, rfl, hD2, hx, eq, s2⟩
      obtain ⟨p, hp', y, rfl, hy⟩ := Paired.at hps hi
      have hy2 : H2 y = some (.tup (pcV p)) := s2 _ _ hy
      have il := (List.getElem?_eq_some_iff.mp hp').1
      have lx := Paired.len hx
      have le := eq.len
      have nx := pre_succ hp'
      have na := ahead_succ hp'
      have mono := pre_le ok.at_ (show i + 1 ≤ ps.length by omega) (Nat.le_refl _)
      have nn := pre_nn ok.at_ (show i ≤ ps.length by omega)
      have po := (ok.at_ i p hp').pos
      cases p with
      | new l =>
        have nx' : pre ps (i + 1) = pre ps i + l := nx
        have na' : aheadN ps (i + 1) = aheadN ps i + l := na
        have po' : 1 ≤ l := po
        refine ⟨_, rfl, y, _, 0, .str "new", rfl, rfl, SqT.of hy2, rfl, rfl, true, by rw [show decide (V.str "new" = V.str "new") = true by decide +kernel], iteT ?_⟩
        refine ⟨_, rfl, .inl ⟨rfl, _, SqL.of hD2⟩, _, rfl, y, _, 1, .int l, rfl, rfl, SqT.of hy2, rfl, _, rfl, by show -(2 ^ 62) ≤ l; omega, by show l < 2 ^ 62; omega, fun G hG => ?_⟩
        refine lc_range (n := l.toNat) (fun j H' => ∃ zs, H' G = some (.lst zs) ∧ EntsAt H' zs ((List.range j).map fun t : Nat => Ent.rel false (aheadN ps i + (0 + (t : Int))) 0) ∧ Same H2 H') ⟨[], upd_same, .nil, Same.new (Same.refl H2) hG⟩ ?_ ?_
        · rintro j H3 hj ⟨zs, hG3, hz, s3⟩
          refine ⟨rfl, ?_⟩
          unfold tYes
          refine iteT ⟨_, rfl, _, rfl, _, _, rfl, rfl, by show 3 ≤ sizeLine; decide, fun u hu => ?_⟩
          have s4 := Same.new (o := .tup [.str "up", .int (aheadN ps i + (0 + (j : Int))), .int 0]) (Same.refl H3) hu
          have hu4 : upd H3 u (.tup [.str "up", .int (aheadN ps i + (0 + (j : Int))), .int 0]) u = some (.tup (entV (.rel false (aheadN ps i + (0 + (j : Int))) 0))) := upd_same
          have lz := Paired.len hz
          rw [List.length_map, List.length_range] at lz
          refine ⟨zs, s4 _ _ hG3, by omega, _, upd_same, ?_, ?_⟩
          · rw [List.range_succ, List.map_append]
            exact Paired.snoc ⟨u, rfl, by
              have : u ≠ G := ne_of hu4 (s4 _ _ hG3) fun z => nomatch z
              rw [upd_ne this]
              exact hu4⟩ ((hz.same s4).put (s4 _ _ hG3))
          · exact same_put (s3.trans s4) hG
        · rintro H3 ⟨zs, hG3, hz, s3⟩
          have lz := Paired.len hz
          rw [List.length_map, List.length_range] at lz
          have hD3 := s3 _ _ hD2
          refine ⟨D, G, xs, zs, rfl, rfl, hD3, hG3, by omega, ?_⟩
          have hyD : y ≠ D := ne_of hy2 hD2 fun z => nomatch z
          have hy4 : upd H3 D (.lst (xs ++ zs)) y = some (.tup [.str "new", .int l]) := by
            rw [upd_ne hyD]
            exact s3 _ _ hy2
          refine ⟨_, rfl, _, rfl, y, _, 1, .int l, rfl, rfl, SqT.of hy4, rfl, _, _, rfl, rfl, ?_⟩
          refine ⟨some (.ref y), _, _, xs ++ zs, es ++ (List.range l.toNat).map (fun t : Nat => Ent.rel false (aheadN ps i + (0 + (t : Int))) 0), by rw [na']; rfl, upd_same, Paired.app (hz.put hD3) ((hx.same s3).put hD3), ?_, same_put (s2.trans s3) hD⟩
          have ex := Eqs.exts ok hp' eq (zs := (List.range l.toNat).map (fun t : Nat => Ent.rel false (aheadN ps i + (0 + (t : Int))) 0)) (by rw [List.length_map, List.length_range]; show ((l.toNat : Nat) : Int) ≤ l; omega) (fun j e he => ?_)
          · rw [List.length_map, List.length_range, show pre ps i + ((l.toNat : Nat) : Int) = pre ps (i + 1) by omega] at ex
            exact ex
          · have g := get_ext le he
            rw [List.getElem?_map] at he
            obtain ⟨j', h1, h2⟩ := Option.map_eq_some_iff.mp he
            have hj := (List.getElem?_eq_some_iff.mp h1).1
            rw [List.length_range] at hj
            rw [List.getElem?_range hj] at h1
            obtain rfl := Option.some.inj h1
            show (es ++ _)[(pre ps i + (j : Int)).toNat]? = some (.rel false (aheadN ps i + (j : Int)) 0)
            rw [g, ← h2, Int.zero_add]
      | notes l x =>
        have nx' : pre ps (i + 1) = pre ps i + l := nx
        have na' : aheadN ps (i + 1) = aheadN ps i + 0 := na
        have po' : 1 ≤ l := po
        refine ⟨_, rfl, y, _, 0, .str "notes", rfl, rfl, SqT.of hy2, rfl, rfl, false, by rw [show decide (V.str "notes" = V.str "new") = false by decide +kernel], iteF ?_⟩
        refine ⟨_, rfl, y, _, 0, .str "notes", rfl, rfl, SqT.of hy2, rfl, rfl, true, by rw [show decide (V.str "notes" = V.str "notes") = true by decide +kernel], iteT ?_⟩
        refine ⟨_, rfl, .inl ⟨rfl, _, SqL.of hD2⟩, _, rfl, y, _, 2, .int x, rfl, rfl, SqT.of hy2, rfl, by show 2 ≤ sizeLine; decide, fun u hu => ⟨by show 1 ≤ sizeLine; decide, fun G hG => ?_⟩⟩
        have sU := Same.new (o := .tup [.str "told", .int x]) (Same.refl H2) hu
        have sG := Same.new (o := .lst [.ref u]) sU hG
        have hG3 : upd (upd H2 u (.tup [.str "told", .int x])) G (.lst [.ref u]) G = some (.lst [.ref u]) := upd_same
        have hu3 : upd (upd H2 u (.tup [.str "told", .int x])) G (.lst [.ref u]) u = some (.tup (entV (.told x))) := Same.new (o := .lst [.ref u]) (Same.refl _) hG _ _ upd_same
        generalize upd (upd H2 u (.tup [.str "told", .int x])) G (.lst [.ref u]) = H3 at sG hG3 hu3 ⊢
        refine ⟨_, rfl, y, _, 1, .int l, rfl, rfl, SqT.of (sG _ _ hy2), rfl, G, l, [.ref u], rfl, rfl, hG3, by omega, by omega, by show 1 * l.toNat ≤ sizeLine; omega, fun M hM => ?_⟩
        have sM := Same.new (o := .lst (List.replicate l.toNat [V.ref u]).flatten) (Same.refl H3) hM
        refine ⟨D, M, xs, (List.replicate l.toNat [V.ref u]).flatten, rfl, rfl, sM _ _ (sG _ _ hD2), upd_same, ?_, ?_⟩
        · rw [List.flatten_replicate_singleton, List.length_replicate]
          omega
        rw [List.flatten_replicate_singleton] at sM ⊢
        generalize upd H3 M (.lst (List.replicate l.toNat (V.ref u))) = H4 at sM ⊢
        have s24 := sG.trans sM
        have hD4 := s24 _ _ hD2
        refine ⟨some (.ref y), _, _, xs ++ List.replicate l.toNat (V.ref u), es ++ List.replicate l.toNat (Ent.told x), by rw [na', Int.add_zero]; rfl, upd_same, Paired.app (Paired.repN ⟨u, rfl, ?_⟩ _) ((hx.same s24).put hD4), ?_, same_put (s2.trans s24) hD⟩
        · have ex := Eqs.exts ok hp' eq (zs := List.replicate l.toNat (Ent.told x)) (by rw [List.length_replicate]; show ((l.toNat : Nat) : Int) ≤ l; omega) (fun j e he => ?_)
          · rw [List.length_replicate, show pre ps i + ((l.toNat : Nat) : Int) = pre ps (i + 1) by omega] at ex
            exact ex
          · have g := get_ext le he
            rw [List.getElem?_replicate] at he
            split at he
            · obtain rfl := Option.some.inj he
              exact g
            · cases he
        · have : u ≠ D := ne_of (sM _ _ hu3) hD4 fun z => nomatch z
          rw [upd_ne this]
          exact sM _ _ hu3
      | copy f l a d b =>
        have nx' : pre ps (i + 1) = pre ps i + l := nx
        have na' : aheadN ps (i + 1) = aheadN ps i + 0 := na
        obtain ⟨f0, f1, l1, _, _, fb⟩ := ok.at_ i _ hp'
        refine ⟨_, rfl, y, _, 0, .str "copy", rfl, rfl, SqT.of hy2, rfl, rfl, false, by rw [show decide (V.str "copy" = V.str "new") = false by decide +kernel], iteF ?_⟩
        refine ⟨_, rfl, y, _, 0, .str "copy", rfl, rfl, SqT.of hy2, rfl, rfl, false, by rw [show decide (V.str "copy" = V.str "notes") = false by decide +kernel], iteF ?_⟩
        refine ⟨_, rfl, y, _, 2, .int l, rfl, rfl, SqT.of hy2, rfl, _, rfl, by show -(2 ^ 62) ≤ l; omega, by show l < 2 ^ 62; omega, ?_⟩
        refine for_range (n := l.toNat) (fun j σ H' => ∃ v4 v5 xs es, σ = [some (.ref R), some (.ref D), some (.int (aheadN ps i)), some (.ref y), v4, v5] ∧ H' D = some (.lst xs) ∧ EntsAt H' xs es ∧ Eqs ps (pre ps i + (j : Int)) es ∧ Same H H') ⟨_, _, xs, es, rfl, hD2, hx, by rw [show pre ps i + ((0 : Nat) : Int) = pre ps i by omega]; exact eq, s2⟩ ?_ ?_
        · rintro j σ H3 hj ⟨v4, v5, xs3, es3, rfl, hD3, hx3, eq3, s3⟩
          have hy3 : H3 y = some (.tup [.str "copy", .int f, .int l, .int a, .bl d, .bl b]) := s3 _ _ hy
          obtain ⟨sp, esp⟩ : ∃ sp, sp = spot f l b (j : Int) := ⟨_, rfl⟩
          have sp01 : 0 ≤ sp ∧ sp < pre ps i + (j : Int) := by
            rw [esp]
            unfold spot
            cases b with
            | true => have := fb rfl; rw [if_pos rfl]; omega
            | false => rw [if_neg (by decide)]; omega
          have le3 := eq3.len
          have lx3 := Paired.len hx3
          obtain ⟨v, hv⟩ : ∃ v, xs3[sp.toNat]? = some v := ⟨_, List.getElem?_eq_getElem (by omega)⟩
          obtain ⟨e, he, q, rfl, hq⟩ := Paired.at hx3 hv
          have hat : atI xs3 sp = some (V.ref q) := by
            have := atI_nat hv
            rw [Int.toNat_of_nonneg sp01.1] at this
            exact this
          have fin : ∀ (w : Addr) (H4 : Hp), H3 w = none → Same H3 H4 → H4 w = some (.tup (entV (act a d e))) → ∀ σ, σ = [some (V.ref R), some (V.ref D), some (V.int (aheadN ps i)), some (V.ref y), some (V.int (0 + (j : Int))), some (V.int sp)] → ∃ v4 v5 xs es, σ = [some (V.ref R), some (V.ref D), some (V.int (aheadN ps i)), some (V.ref y), v4, v5] ∧ (upd H4 D (.lst (xs3 ++ [.ref w]))) D = some (.lst xs) ∧ EntsAt (upd H4 D (.lst (xs3 ++ [.ref w]))) xs es ∧ Eqs ps (pre ps i + ((j + 1 : Nat) : Int)) es ∧ Same H (upd H4 D (.lst (xs3 ++ [.ref w]))) := by
            rintro w H4 nw s4 hw σ rfl
            have hD4 := s4 _ _ hD3
            refine ⟨_, _, xs3 ++ [.ref w], es3 ++ [act a d e], rfl, upd_same, Paired.snoc ⟨w, rfl, ?_⟩ ((hx3.same s4).put hD4), ?_, same_put (s3.trans s4) hD⟩
            · have sn := Eqs.snoc ok eq3 (e := act a d e) hp' (j := (j : Int)) (by omega) (by show (j : Int) < l; omega) rfl ⟨e, get_app (by rw [← esp]; exact he), by rw [List.getElem?_append_right (by omega), show (pre ps i + (j : Int)).toNat - es3.length = 0 by omega]; rfl⟩
              rw [show pre ps i + ((j + 1 : Nat) : Int) = pre ps i + (j : Int) + 1 by omega]
              exact sn
            · have : w ≠ D := ne_of hw hD4 fun z => nomatch z
              rw [upd_ne this]
              exact hw
          refine ⟨_, rfl, y, _, 1, .int f, rfl, rfl, SqT.of hy3, rfl, _, rfl, y, _, 5, .bl b, rfl, rfl, SqT.of hy3, rfl, b, rfl, ?_⟩
          cases b with
          | true =>
            refine iteT ⟨_, rfl, y, _, 2, .int l, rfl, rfl, SqT.of hy3, rfl, _, _, rfl, rfl, _, rfl, _, _, rfl, rfl, _, _, rfl, rfl, ?_⟩
            show gName 5 (V.int (f + (l - 1 - (0 + (j : Int))))) _ _ _
            rw [show f + (l - 1 - (0 + (j : Int))) = sp by rw [esp]; unfold spot; rw [if_pos rfl, Int.zero_add]]
            refine ⟨_, rfl, .inl ⟨rfl, _, SqL.of hD3⟩, _, rfl, _, rfl, D, xs3, sp, .ref q, rfl, rfl, SqL.of hD3, hat, _, rfl, y, _, 4, .bl d, rfl, rfl, SqT.of hy3, rfl, _, rfl, y, _, 3, .int a, rfl, rfl, SqT.of hy3, rfl, q, e, d, a, rfl, hq, fun w H4 nw s4 hw => ?_⟩
            exact ⟨D, xs3, .ref w, rfl, rfl, s4 _ _ hD3, by omega, fin w H4 nw s4 hw _ rfl⟩
          | false =>
            refine iteF ⟨_, rfl, _, _, rfl, rfl, ?_⟩
            show gName 5 (V.int (f + (0 + (j : Int)))) _ _ _
            rw [show f + (0 + (j : Int)) = sp by rw [esp]; unfold spot; rw [if_neg (by decide), Int.zero_add]]
            refine ⟨_, rfl, .inl ⟨rfl, _, SqL.of hD3⟩, _, rfl, _, rfl, D, xs3, sp, .ref q, rfl, rfl, SqL.of hD3, hat, _, rfl, y, _, 4, .bl d, rfl, rfl, SqT.of hy3, rfl, _, rfl, y, _, 3, .int a, rfl, rfl, SqT.of hy3, rfl, q, e, d, a, rfl, hq, fun w H4 nw s4 hw => ?_⟩
            exact ⟨D, xs3, .ref w, rfl, rfl, s4 _ _ hD3, by omega, fin w H4 nw s4 hw _ rfl⟩
        · rintro σ H3 ⟨v4, v5, xs3, es3, rfl, hD3, hx3, eq3, s3⟩
          refine ⟨_, _, _, xs3, es3, by rw [na', Int.add_zero], hD3, hx3, ?_, s3⟩
          rw [show pre ps (i + 1) = pre ps i + ((l.toNat : Nat) : Int) by omega]
          exact eq3
    · rintro σ H2 ⟨v3, v4, v5, xs, es, rfl, hD2, hx, eq, s2⟩
      rw [lt] at eq
      exact ⟨_, rfl, k D es xs H2 hD s2 hD2 hx eq⟩
theorem ok_l_pots (T : Txt K mg Z) : FnOk P w K mg base CX0 2 Z.f_l_pots Z.d_l_pots ["_law_script", "_law_most"] (sp_l_pots K) := by
  refine T.F_l_pots.ok sc_l_pots (fun vs H Q E h => ?_) (fun cdv A outer s H vs Q E hr h => ?_)
  · obtain ⟨a, ns, rfl, _⟩ := h
    rfl
  · obtain ⟨a, ns, rfl, hS, hl, k⟩ := h
    refine ⟨_, (pss_one (ps_ret (pe_lc (own := [("_law_k", 2)]) rfl sc_l_pots.nd (pi_range1 rfl T.b_range (pa_cons (pe_callB  (call_max2 rfl) (by rfl) T.b_max (by decide +kernel) (pa_cons pe_int (pa_cons (pe_callB  (call_min2 rfl) (by rfl) T.b_min (by decide +kernel) (pa_cons (pv 1) (pa_cons (pe_callB  call_len (by rfl) T.b_len (by decide +kernel) (pa_cons (pv 0) pa_nil)) pa_nil))) pa_nil))) pa_nil)) (blkOk_by (own := [("_law_k", 2)]) (N := ["_law_script", "_law_most", "_law_k"]) (sc := defScope s_l_pots) (by decide +kernel)) (fun _ _ _ _ _ => (pg_name (i := 2) sc_l_pots.nd rfl (Or.inl rfl))) (fun _ _ _ _ _ => pts_nil) (fun _ _ _ _ _ => (pe_call (ok_l_pot T) (hr.mono (by decide)) rfl T.g_l_pot T.k_l_pot T.bn_l_pot .nil pass0 (pa_cons (pv 0) (pa_cons (pv 2) pa_nil))))))), ?_⟩
    have sl : sizeLine = 16777216 := sizeLine_eq
    refine ⟨_, rfl, _, rfl, _, _, rfl, .inl ⟨_, hS, rfl⟩, _, _, rfl, _, _, rfl, ?_⟩
    rw [List.length_map]
    have bd : 1 ≤ (if (if (ns.length : Int) < 6 then (ns.length : Int) else 6) > 1 then (if (ns.length : Int) < 6 then (ns.length : Int) else 6) else 1) ∧ (if (if (ns.length : Int) < 6 then (ns.length : Int) else 6) > 1 then (if (ns.length : Int) < 6 then (ns.length : Int) else 6) else 1) ≤ 6 := by
      constructor <;> split <;> first | omega | (split <;> omega)
    generalize (if (if (ns.length : Int) < 6 then (ns.length : Int) else 6) > 1 then (if (ns.length : Int) < 6 then (ns.length : Int) else 6) else 1) = m at bd ⊢
    refine ⟨m, rfl, by omega, by omega, fun D hD => ?_⟩
    refine lc_range (n := m.toNat) (fun i H' => ∃ qs : List Addr, qs.length = i ∧ H' D = some (.lst (qs.map V.ref)) ∧ (∀ q ∈ qs, H q = none ∧ q ≠ D ∧ Pot H' q 0) ∧ qs.Nodup ∧ Same H H') ⟨[], rfl, upd_same, (fun _ h => nomatch h), List.nodup_nil, Same.new (Same.refl H) hD⟩ ?_ ?_
    · rintro i H2 hi ⟨qs, lq, hD2, hq, nd, s2⟩
      refine ⟨rfl, ?_⟩
      unfold tYes
      refine iteT ⟨_, rfl, _, rfl, a, ns, _, rfl, s2.seq hS, hl, by omega, by omega, fun p H3 np s3 hp => ?_⟩
      have hD3 := s3 _ _ hD2
      have pD : p ≠ D := fun z => by rw [z, hD2] at np; cases np
      refine ⟨_, hD3, by rw [List.length_map]; omega, qs ++ [p], by rw [List.length_append, List.length_singleton, lq], by rw [List.map_append, upd_same]; rfl, fun q hq' => ?_, ?_, same_put (s2.trans s3) hD⟩
      · rcases List.mem_append.mp hq' with h | h
        · obtain ⟨h1, h2, h3⟩ := hq q h
          exact ⟨h1, h2, (h3.same s3).put h2⟩
        · obtain rfl := List.mem_singleton.mp h
          exact ⟨L2.Same.free s2 np, pD, hp.put pD⟩
      · rw [List.nodup_append]
        refine ⟨nd, List.nodup_cons.mpr ⟨(fun h => nomatch h), List.nodup_nil⟩, fun x hx y hy e => ?_⟩
        obtain rfl := List.mem_singleton.mp hy
        subst e
        exact (hq x hx).2.2.ne np rfl
    · rintro H2 ⟨qs, lq, hD2, hq, nd, s2⟩
      exact k D qs H2 hD s2 hD2 (by omega) (fun q h => ⟨(hq q h).1, (hq q h).2.2⟩) nd
/-- _law_told(look): what was met, what was found -/
theorem ok_l_told (T : Txt K mg Z) {k : Nat} : LOk P w K mg base (k + 2) k Z.f_l_told Z.d_l_told ["_law_look"] (sp_told K Z) := by
  refine okL T.F_l_told sc_l_told (fun tl vs H Q h => ?_) (fun cdv A outer s H vs Q f tl g hr R h => ?_)
  · obtain ⟨rfl, _⟩ := h
    rfl
  · obtain ⟨rfl, G, hG, t⟩ := h
    refine ⟨_, pss_cons (ps_asg (pe_tup (pa_cons pe_non (pa_cons pe_non pa_nil))) (pg_tup rfl (pgs_cons (pg_name (i := 1) sc_l_told.nd rfl (Or.inl rfl)) (pgs_cons (pg_name (i := 2) sc_l_told.nd rfl (Or.inl rfl)) pgs_nil))))
      (pss_cons (ps_try_kept (i := 3) (c := .ref (Z.c 1)) rfl rfl rfl sc_l_told.nd rfl rfl ⟨by rfl, by decide, .inl T.g_TuneError⟩ (fun W pn xe tk _ => pss_one (ps_set (i := 2) sc_l_told.nd rfl (Or.inl rfl) (pe_lookS (i := 0) tk R rfl hr rfl (.inl rfl))))
        (fun a oe cls d pn _ _ => pss_one (ps_set (i := 1) sc_l_told.nd rfl (Or.inl rfl) (pv 3))))
      (pss_one (ps_ret (pe_tup (pa_cons (pv 1) (pa_cons (pv 2) pa_nil)))))), ?_⟩
    refine ⟨by show 2 ≤ sizeLine; decide, fun y hy => ⟨y, _, rfl, SqT.of upd_same, rfl, _, _, rfl, _, _, rfl, rfl, ?_⟩⟩
    refine ⟨_, _, fun cls d H' e => ⟨e.1, fun a ha => ⟨_, rfl, fun ha' => ⟨_, rfl, _, rfl, by show 2 ≤ sizeLine; decide, hG _ _ _ (e.2 a ha')⟩⟩⟩, fun v H' q => ⟨_, rfl, _, rfl, by show 2 ≤ sizeLine; decide, hG _ _ _ q⟩, rfl, t _ (Same.new (Same.refl H) hy)⟩
end
end TT

set_option maxHeartbeats 4000000
namespace TT
open PySem PySem.Spec PyProof.Rows L2 LamX TL
/-! ### data that repr can show, of so many leaves and so deep -/
structure Gd (d : PyData) (n m : Nat) : Prop where
  s : d.showable = true
  h : d.hasDict = false
  dp : d.depth ≤ m
  l : d.leavesShort 65 = true
  b : d.bulk ≤ n
structure Gds (ds : List PyData) (n m : Nat) : Prop where
  s : PyData.showableAll ds = true
  h : PyData.hasDictAll ds = false
  dp : PyData.depthAll ds ≤ m
  l : PyData.leavesShortAll 65 ds = true
  b : PyData.bulkAll ds ≤ n
theorem Gds.nil {n m : Nat} : Gds [] n m := ⟨by simp [PyData.showableAll], by simp [PyData.hasDictAll], by simp [PyData.depthAll], by simp [PyData.leavesShortAll], by simp [PyData.bulkAll]⟩
theorem Gds.cons {d : PyData} {ds : List PyData} {n k m : Nat} (a : Gd d n m) (t : Gds ds k m) : Gds (d :: ds) (n + 1 + k) m := by
  have h1 := a.dp; have h2 := t.dp; have h3 := a.b; have h4 := t.b
  exact ⟨by simp [PyData.showableAll, a.s, t.s], by simp [PyData.hasDictAll, a.h, t.h], by rw [PyData.depthAll]; omega, by simp [PyData.leavesShortAll, a.l, t.l], by rw [PyData.bulkAll]; omega⟩
theorem Gd.tup {ds : List PyData} {n m : Nat} (t : Gds ds n m) : Gd (.tuple ds) n (m + 1) := by
  have h := t.dp
  exact ⟨by rw [PyData.showable]; exact t.s, by rw [PyData.hasDict]; exact t.h, by rw [PyData.depth]; omega, by rw [PyData.leavesShort]; exact t.l, by rw [PyData.bulk]; exact t.b⟩
theorem Gd.lst {ds : List PyData} {n m : Nat} (t : Gds ds n m) : Gd (.list ds) n (m + 1) := by
  have h := t.dp
  exact ⟨by rw [PyData.showable]; exact t.s, by rw [PyData.hasDict]; exact t.h, by rw [PyData.depth]; omega, by rw [PyData.leavesShort]; exact t.l, by rw [PyData.bulk]; exact t.b⟩
theorem Gd.int {i : Int} {n m : Nat} (h0 : -(10 ^ 64) < i) (h1 : i < 10 ^ 64) : Gd (.int i) n m := by
  refine ⟨int_ok64 h0 h1, by simp [PyData.hasDict], by simp [PyData.depth], ?_, by simp [PyData.bulk]⟩
  have := int_len64 h0 h1
  rw [PyData.leavesShort, decide_eq_true_eq, shown_int]
  exact this
theorem Gd.bl {b : Bool} {n m : Nat} : Gd (.bool b) n m := ⟨by simp [PyData.showable], by simp [PyData.hasDict], by simp [PyData.depth], by simp [PyData.leavesShort], by simp [PyData.bulk]⟩
theorem Gd.word {x : String} {m : Nat} (h : ((Str.ofString x).cps.toList.all fun c => decide (c < 16 ^ 8)) = true) (l : (Str.ofString x).cps.size ≤ 5) : Gd (.str (Str.ofString x)) 5 m :=
  ⟨by simp [PyData.showable], by simp [PyData.hasDict], by simp [PyData.depth], by rw [PyData.leavesShort]; exact h, by rw [PyData.bulk]; exact l⟩
theorem Gd.le {d : PyData} {n m n' m' : Nat} (g : Gd d n m) (h : n ≤ n') (h2 : m ≤ m') : Gd d n' m' := ⟨g.s, g.h, Nat.le_trans g.dp h2, g.l, Nat.le_trans g.b h⟩
theorem Gds.map {α : Type} {f : α → PyData} {n m : Nat} : ∀ {l : List α}, (∀ x ∈ l, Gd (f x) n m) → Gds (l.map f) (l.length * (n + 1)) m
  | [], _ => Gds.nil
  | a :: t, h => by
    have i := Gds.map (l := t) fun x hx => h x (List.mem_cons_of_mem _ hx)
    have c := Gds.cons (h a (List.mem_cons_self ..)) i
    rw [List.map_cons, List.length_cons, Nat.succ_mul, Nat.add_comm]
    exact c
theorem Gd.shown {d : PyData} {n m : Nat} (g : Gd d n m) (hm : m ≤ 60) (hn : n ≤ 10000) : Shown d := by
  have sl : sizeLine = 16777216 := sizeLine_eq
  have q := PyData.shown_le_bulk 65 (by decide) _ g.l
  have := g.b; have := g.dp
  exact ⟨g.s, by omega, by omega⟩
/-! pieces, entries as data -/
def dPc : Pc → PyData
  | .new l => .tuple [.str "new", .int l]
  | .notes l x => .tuple [.str "notes", .int l, .int x]
  | .copy f l a d b => .tuple [.str "copy", .int f, .int l, .int a, .bool d, .bool b]
def dEnt : Ent → PyData
  | .told x => .tuple [.str "told", .int x]
  | .rel d k c => .tuple [.str (word d), .int k, .int c]
theorem dp_pc {K : PySem.W.Frag} {H : Hp} {q : Addr} {p : Pc} (h : PcAt H q p) : Dp K H (.ref q) (dPc p) := by
  cases p with
  | new l => exact .tup (SqT.of h) (.cons (.str _) (.cons (.int _) .nil))
  | notes l x => exact .tup (SqT.of h) (.cons (.str _) (.cons (.int _) (.cons (.int _) .nil)))
  | copy f l a d b => exact .tup (SqT.of h) (.cons (.str _) (.cons (.int _) (.cons (.int _) (.cons (.int _) (.cons (.bl _) (.cons (.bl _) .nil))))))
theorem dp_ent {K : PySem.W.Frag} {H : Hp} {q : Addr} {e : Ent} (h : H q = some (.tup (entV e))) : Dp K H (.ref q) (dEnt e) := by
  cases e with
  | told x => exact .tup (SqT.of h) (.cons (.str _) (.cons (.int _) .nil))
  | rel d k c => exact .tup (SqT.of h) (.cons (.str _) (.cons (.int _) (.cons (.int _) .nil)))
theorem dp_pcs {K : PySem.W.Frag} {H : Hp} : ∀ {xs : List V} {ps : List Pc}, PcsAt H xs ps → DpAll K H xs (ps.map dPc)
  | _, _, .nil => .nil
  | _, _, .cons ⟨q, e, t⟩ r => by subst e; exact .cons (dp_pc t) (dp_pcs r)
theorem dp_ents {K : PySem.W.Frag} {H : Hp} : ∀ {xs : List V} {es : List Ent}, EntsAt H xs es → DpAll K H xs (es.map dEnt)
  | _, _, .nil => .nil
  | _, _, .cons ⟨q, e, t⟩ r => by subst e; exact .cons (dp_ent t) (dp_ents r)
theorem gd_pc {p : Pc} {h : Int} (o : p.OkAt h) (hh : h ≤ 30) (l30 : p.len ≤ 30) : Gd (dPc p) 12 1 := by
  have e64 : (10 : Int) ^ 12 < 10 ^ 64 := by decide +kernel
  have e30 : (30 : Int) < 10 ^ 12 := by decide +kernel
  cases p with
  | new l =>
    have o1 : 1 ≤ l := o
    have l1 : l ≤ 30 := l30
    exact (Gd.tup (Gds.cons (Gd.word (x := "new") (by decide +kernel) (by decide +kernel)) (Gds.cons (n := 0) (Gd.int (by omega) (by omega)) (Gds.nil (n := 0) (m := 0))))).le (by decide) (by decide)
  | notes l x =>
    obtain ⟨o1, o2, o3⟩ := o
    have l1 : l ≤ 30 := l30
    exact (Gd.tup (Gds.cons (Gd.word (x := "notes") (by decide +kernel) (by decide +kernel)) (Gds.cons (n := 0) (Gd.int (by omega) (by omega)) (Gds.cons (n := 0) (Gd.int (by omega) (by omega)) (Gds.nil (n := 0) (m := 0)))))).le (by decide) (by decide)
  | copy f l a d b =>
    obtain ⟨f0, f1, o1, o2, o3, _⟩ := o
    have l1 : l ≤ 30 := l30
    exact (Gd.tup (Gds.cons (Gd.word (x := "copy") (by decide +kernel) (by decide +kernel)) (Gds.cons (n := 0) (Gd.int (by omega) (by omega)) (Gds.cons (n := 0) (Gd.int (by omega) (by omega)) (Gds.cons (n := 0) (Gd.int (by omega) (by omega)) (Gds.cons (n := 0) Gd.bl (Gds.cons (n := 0) Gd.bl (Gds.nil (n := 0) (m := 0))))))))).le (by decide) (by decide)
def EB (k : Nat) : Ent → Prop
  | .told x => -((k + 1 : Nat) * 10 ^ 12) ≤ x ∧ x ≤ (k + 1 : Nat) * 10 ^ 12
  | .rel _ m c => 0 ≤ m ∧ m ≤ 30 ∧ -((k + 1 : Nat) * 10 ^ 12) ≤ c ∧ c ≤ (k + 1 : Nat) * 10 ^ 12
theorem EB.act {k j : Nat} {e : Ent} {a : Int} {d : Bool} (h : EB k e) (a0 : -(10 ^ 12) ≤ a) (a1 : a ≤ 10 ^ 12) (kj : k < j) : EB j (act a d e) := by
  cases e with
  | told x =>
    obtain ⟨h1, h2⟩ := h
    show _ ≤ ledI a d x ∧ ledI a d x ≤ _
    unfold ledI
    cases d <;> simp <;> omega
  | rel dn m c =>
    obtain ⟨m0, m1, h1, h2⟩ := h
    refine ⟨m0, m1, ?_⟩
    unfold ledI
    cases d <;> simp <;> omega
theorem ahead_le {ps : List Pc} (ok : Fits ps) : ∀ {i : Nat}, i ≤ ps.length → 0 ≤ aheadN ps i ∧ aheadN ps i ≤ pre ps i
  | 0, _ => by rw [ahead_zero, pre_zero]; exact ⟨Int.le_refl _, Int.le_refl _⟩
  | i + 1, h => by
    obtain ⟨p, hp⟩ : ∃ p, ps[i]? = some p := ⟨_, List.getElem?_eq_getElem (by omega)⟩
    have ih := ahead_le ok (i := i) (by omega)
    have po := (ok i p hp).pos
    rw [ahead_succ hp, pre_succ hp]
    cases p with
    | new l => have : 1 ≤ l := po; constructor <;> (simp only [Pc.fresh, Pc.len]; omega)
    | notes l x => have : 1 ≤ l := po; constructor <;> (simp only [Pc.fresh, Pc.len]; omega)
    | copy f l a d b => have : 1 ≤ l := po; constructor <;> (simp only [Pc.fresh, Pc.len]; omega)
/-- how great an entry can be -/
theorem ent_bound {ps : List Pc} (ok : PsOk ps) (z30 : pre ps ps.length ≤ 30) {E : List Ent} (h : Eqs ps (pre ps ps.length) E) : ∀ (k : Nat) (e : Ent), E[k]? = some e → EB k e := by
  intro k
  induction k using Nat.strongRecOn with
  | _ k ih =>
    intro e he
    have kl := (List.getElem?_eq_some_iff.mp he).1
    have hl := h.len
    obtain ⟨i, p, hp, il, h1, h2⟩ := locate (ps := ps) (n := ps.length) (k := (k : Int)) (Nat.le_refl _) (by omega) (by omega)
    have nx := pre_succ hp
    have nn := pre_nn ok.at_ (show i ≤ ps.length by omega)
    have mono := pre_le ok.at_ (show i + 1 ≤ ps.length by omega) (Nat.le_refl _)
    have sy := h.says i p ((k : Int) - pre ps i) hp (by omega) (by omega) (by omega)
    have ek : (pre ps i + ((k : Int) - pre ps i)).toNat = k := by omega
    have al := ahead_le ok.at_ (show i ≤ ps.length by omega)
    have oki := ok.at_ i p hp
    cases p with
    | new l =>
      have sy' : E[(pre ps i + ((k : Int) - pre ps i)).toNat]? = some (.rel false (aheadN ps i + ((k : Int) - pre ps i)) 0) := sy
      rw [ek, he] at sy'
      obtain rfl := Option.some.inj sy'
      exact ⟨by omega, by omega, by omega, by omega⟩
    | notes l x =>
      have sy' : E[(pre ps i + ((k : Int) - pre ps i)).toNat]? = some (.told x) := sy
      rw [ek, he] at sy'
      obtain rfl := Option.some.inj sy'
      obtain ⟨_, x0, x1⟩ := oki
      exact ⟨by omega, by omega⟩
    | copy f l a d b =>
      obtain ⟨f0, f1, l1, a0, a1, fb⟩ := oki
      obtain ⟨e0, s1, s2⟩ := sy
      rw [ek, he] at s2
      obtain rfl := Option.some.inj s2
      have nx' : pre ps (i + 1) = pre ps i + l := nx
      have sp : 0 ≤ spot f l b ((k : Int) - pre ps i) ∧ spot f l b ((k : Int) - pre ps i) < k := by
        unfold spot
        cases b with
        | true => have := fb rfl; rw [if_pos rfl]; omega
        | false => rw [if_neg (by decide)]; omega
      exact (ih _ (by omega) e0 s1).act a0 a1 (by omega)
theorem gd_ent {k : Nat} {e : Ent} (hk : k < 30) (h : EB k e) : Gd (dEnt e) 8 1 := by
  have e64 : (30 : Int) * 10 ^ 12 < 10 ^ 64 := by decide +kernel
  have b1 : (((k + 1 : Nat)) : Int) * 10 ^ 12 ≤ 30 * 10 ^ 12 := Int.mul_le_mul_of_nonneg_right (by omega) (by decide)
  have e30 : (30 : Int) < 10 ^ 64 := by decide +kernel
  cases e with
  | told x =>
    obtain ⟨h1, h2⟩ := h
    exact (Gd.tup (Gds.cons (Gd.word (x := "told") (by decide +kernel) (by decide +kernel)) (Gds.cons (n := 0) (Gd.int (by omega) (by omega)) (Gds.nil (n := 0) (m := 0))))).le (by decide) (by decide)
  | rel d m c =>
    obtain ⟨m0, m1, h1, h2⟩ := h
    cases d with
    | true => exact (Gd.tup (Gds.cons (Gd.word (x := "down") (by decide +kernel) (by decide +kernel)) (Gds.cons (n := 0) (Gd.int (by omega) (by omega)) (Gds.cons (n := 0) (Gd.int (by omega) (by omega)) (Gds.nil (n := 0) (m := 0)))))).le (by decide) (by decide)
    | false => exact (Gd.tup (Gds.cons (Gd.word (x := "up") (by decide +kernel) (by decide +kernel)) (Gds.cons (n := 0) (Gd.int (by omega) (by omega)) (Gds.cons (n := 0) (Gd.int (by omega) (by omega)) (Gds.nil (n := 0) (m := 0)))))).le (by decide) (by decide)
theorem gds_ents {ps : List Pc} (ok : PsOk ps) (z30 : pre ps ps.length ≤ 30) {E : List Ent} (h : Eqs ps (pre ps ps.length) E) : Gds (E.map dEnt) (E.length * 9) 1 := Gds.map fun e he => by
  obtain ⟨k, hk⟩ := List.mem_iff_getElem?.mp he
  have kl := (List.getElem?_eq_some_iff.mp hk).1
  have hl := h.len
  exact gd_ent (by omega) (ent_bound ok z30 h k e hk)
theorem gds_pcs {ps : List Pc} (ok : PsOk ps) (z30 : pre ps ps.length ≤ 30) : Gds (ps.map dPc) (ps.length * 13) 1 := Gds.map fun p hp => by
  obtain ⟨i, hi⟩ := List.mem_iff_getElem?.mp hp
  have il := (List.getElem?_eq_some_iff.mp hi).1
  have nx := pre_succ hi
  have nn := pre_nn ok.at_ (show i ≤ ps.length by omega)
  have mono := pre_le ok.at_ (show i + 1 ≤ ps.length by omega) (Nat.le_refl _)
  have po := (ok.at_ i p hi).pos
  exact gd_pc (ok.at_ i p hi) (by omega) (by omega)
end TT

set_option maxHeartbeats 4000000
namespace TT
open PySem PySem.Spec PyProof.Rows L2 LamX TL
theorem strOk_of (x : String) : PyData.strOk (Str.ofString x) = true := by
  unfold PyData.strOk
  rw [Array.all_eq_true_iff_forall_mem]
  intro c hc
  rw [Str.ofString_eq_toList] at hc
  simp only [List.mem_toArray, List.mem_map] at hc
  obtain ⟨ch, _, rfl⟩ := hc
  have := ch.valid
  unfold UInt32.isValidChar Nat.isValidChar at this
  have h1 : ch.toNat < 1114112 := by
    show ch.val.toNat < 1114112
    omega
  simpa using h1
end TT
set_option maxHeartbeats 4000000
namespace TT
open PySem PySem.Spec PyProof.Rows L2 LamX TL
/-! ### tracked data: tuples, lists in the heap, ints of fewer than forty digits, good words -/
def wordOk (x : Str) : Bool := (PyData.str x).canLay0 && (PyData.str x).leavesShort 65
mutual
inductive TD (p : Addr → Prop) (H : Hp) : V → PyData → Prop
  | non : TD p H .non .none
  | bl (b : Bool) : TD p H (.bl b) (.bool b)
  | int {i : Int} (h0 : -(10 ^ 40) < i) (h1 : i < 10 ^ 40) : TD p H (.int i) (.int i)
  | str {x : Str} (h : wordOk x = true) : TD p H (.str x) (.str x)
  | lst {a : Addr} {xs : List V} {ds : List PyData} (n : ¬ p a) (h : H a = some (.lst xs)) (t : TDs p H xs ds) : TD p H (.ref a) (.list ds)
  | tup {a : Addr} {xs : List V} {ds : List PyData} (h : H a = some (.tup xs)) (t : TDs p H xs ds) : TD p H (.ref a) (.tuple ds)
inductive TDs (p : Addr → Prop) (H : Hp) : List V → List PyData → Prop
  | nil : TDs p H [] []
  | cons {v : V} {vs : List V} {d : PyData} {ds : List PyData} (h : TD p H v d) (t : TDs p H vs ds) : TDs p H (v :: vs) (d :: ds)
end
def MoveF (p : Addr → Prop) (H H' : Hp) : Prop := ∀ b o, (∀ xs, o = HO.lst xs → ¬ p b) → (∀ ps, o ≠ .tbl ps) → H b = some o → H' b = some o
theorem lst_nt {xs : List V} (ps) : HO.lst xs ≠ HO.tbl ps := by intro z; cases z
theorem tup_nt {xs : List V} (ps) : HO.tup xs ≠ HO.tbl ps := by intro z; cases z
theorem tup_nl {p : Addr → Prop} {a : Addr} {ys : List V} (xs : List V) : HO.tup ys = HO.lst xs → ¬ p a := by intro z; cases z
theorem TD.move {p : Addr → Prop} {H H' : Hp} {v : V} {d : PyData} (t : TD p H v d) (f : MoveF p H H') : TD p H' v d :=
  TD.rec (motive_1 := fun v d _ => TD p H' v d) (motive_2 := fun vs ds _ => TDs p H' vs ds) .non (fun b => .bl b) (fun h0 h1 => .int h0 h1) (fun h => .str h)
    (fun n h _ ih => .lst n (f _ _ (fun _ _ => n) lst_nt h) ih) (fun h _ ih => .tup (f _ _ tup_nl tup_nt h) ih) .nil (fun _ _ ih1 ih2 => .cons ih1 ih2) t
theorem TDs.move {p : Addr → Prop} {H H' : Hp} {vs : List V} {ds : List PyData} (t : TDs p H vs ds) (f : MoveF p H H') : TDs p H' vs ds :=
  TDs.rec (motive_1 := fun v d _ => TD p H' v d) (motive_2 := fun vs ds _ => TDs p H' vs ds) .non (fun b => .bl b) (fun h0 h1 => .int h0 h1) (fun h => .str h)
    (fun n h _ ih => .lst n (f _ _ (fun _ _ => n) lst_nt h) ih) (fun h _ ih => .tup (f _ _ tup_nl tup_nt h) ih) .nil (fun _ _ ih1 ih2 => .cons ih1 ih2) t
theorem TD.same {p : Addr → Prop} {H H' : Hp} {v : V} {d : PyData} (t : TD p H v d) (s : Same H H') : TD p H' v d := t.move fun _ _ _ _ e => s _ _ e
theorem TDs.same {p : Addr → Prop} {H H' : Hp} {v : List V} {d : List PyData} (t : TDs p H v d) (s : Same H H') : TDs p H' v d := t.move fun _ _ _ _ e => s _ _ e
theorem TD.extN {p : Addr → Prop} {H H' : Hp} {v : V} {d : PyData} (t : TD p H v d) (s : ExtN H H') : TD p H' v d := t.move fun _ _ _ nt e => s _ _ e nt
theorem TDs.extN {p : Addr → Prop} {H H' : Hp} {v : List V} {d : List PyData} (t : TDs p H v d) (s : ExtN H H') : TDs p H' v d := t.move fun _ _ _ nt e => s _ _ e nt
theorem keep_f {p : Addr → Prop} {r : Addr} {n : Nat} {H H' : Hp} (k : Keep r H H') (hp : Pot H r n) (hr : p r) : MoveF p H H' := fun b o nl _ e => by
  refine k b o (fun z => ?_) e
  subst z
  obtain ⟨_, _, e', _⟩ := hp
  rw [e'] at e
  exact nl _ (Option.some.inj e).symm hr
theorem TD.keep {p : Addr → Prop} {r : Addr} {n : Nat} {H H' : Hp} {v : V} {d : PyData} (t : TD p H v d) (k : Keep r H H') (hp : Pot H r n) (hr : p r) : TD p H' v d := t.move (keep_f k hp hr)
theorem TDs.keep {p : Addr → Prop} {r : Addr} {n : Nat} {H H' : Hp} {v : List V} {d : List PyData} (t : TDs p H v d) (k : Keep r H H') (hp : Pot H r n) (hr : p r) : TDs p H' v d := t.move (keep_f k hp hr)
/-- what is there stays there -/
theorem al_keep {X : Addr → Prop} {r : Addr} {n : Nat} {H H' : Hp} (al : ∀ a, X a → H a ≠ none) (k : Keep r H H') (hp : Pot H' r n) : ∀ a, X a → H' a ≠ none := fun a x z => by
  by_cases c : a = r
  · rw [c] at z
    exact hp.ne z rfl
  · cases h : H a with
    | none => exact al a x h
    | some o => rw [k a o c h] at z; cases z
theorem al_same {X : Addr → Prop} {H H' : Hp} (al : ∀ a, X a → H a ≠ none) (s : Same H H') : ∀ a, X a → H' a ≠ none := fun a x z => by
  cases h : H a with
  | none => exact al a x h
  | some o => rw [s a o h] at z; cases z
mutual
theorem TD.dp {K : PySem.W.Frag} {p : Addr → Prop} {H : Hp} : ∀ {v : V} {d : PyData}, TD p H v d → Dp K H v d
  | _, _, .non => .non
  | _, _, .bl b => .bl b
  | _, _, .int _ _ => .int _
  | _, _, .str _ => .str _
  | _, _, .lst _ h t => .lst (SqL.of h) (TDs.dp t)
  | _, _, .tup h t => .tup (SqT.of h) (TDs.dp t)
theorem TDs.dp {K : PySem.W.Frag} {p : Addr → Prop} {H : Hp} : ∀ {vs : List V} {ds : List PyData}, TDs p H vs ds → DpAll K H vs ds
  | _, _, .nil => .nil
  | _, _, .cons h t => .cons (TD.dp h) (TDs.dp t)
end
/-- what such data is -/
structure Fd (d : PyData) : Prop where
  s : d.showable = true
  h : d.hasDict = false
  l : d.leavesShort 65 = true
  c : d.canLay0 = true
structure Fds (ds : List PyData) : Prop where
  s : PyData.showableAll ds = true
  h : PyData.hasDictAll ds = false
  l : PyData.leavesShortAll 65 ds = true
  c : PyData.canLayAll0 ds = true
mutual
theorem TD.fd {p : Addr → Prop} {H : Hp} : ∀ {v : V} {d : PyData}, TD p H v d → Fd d
  | _, _, .non => ⟨by simp [PyData.showable], by simp [PyData.hasDict], by simp [PyData.leavesShort], by simp [PyData.canLay0]⟩
  | _, _, .bl b => ⟨by simp [PyData.showable], by simp [PyData.hasDict], by simp [PyData.leavesShort], by simp [PyData.canLay0]⟩
  | _, _, .int (i := i) h0 h1 => by
    have e : (10 : Int) ^ 40 < 10 ^ 64 := by decide +kernel
    refine ⟨int_ok64 (by omega) (by omega), by simp [PyData.hasDict], ?_, by simp [PyData.canLay0]⟩
    rw [PyData.leavesShort, decide_eq_true_eq, shown_int]
    exact int_len64 (by omega) (by omega)
  | _, _, .str h => by
    unfold wordOk at h
    rw [Bool.and_eq_true] at h
    exact ⟨by simp [PyData.showable], by simp [PyData.hasDict], h.2, h.1⟩
  | _, _, .lst _ _ t => by
    have f := TDs.fd t
    exact ⟨by rw [PyData.showable]; exact f.s, by rw [PyData.hasDict]; exact f.h, by rw [PyData.leavesShort]; exact f.l, by rw [PyData.canLay0]; exact f.c⟩
  | _, _, .tup _ t => by
    have f := TDs.fd t
    exact ⟨by rw [PyData.showable]; exact f.s, by rw [PyData.hasDict]; exact f.h, by rw [PyData.leavesShort]; exact f.l, by rw [PyData.canLay0]; exact f.c⟩
theorem TDs.fd {p : Addr → Prop} {H : Hp} : ∀ {vs : List V} {ds : List PyData}, TDs p H vs ds → Fds ds
  | _, _, .nil => ⟨by simp [PyData.showableAll], by simp [PyData.hasDictAll], by simp [PyData.leavesShortAll], by simp [PyData.canLayAll0]⟩
  | _, _, .cons h t => by
    have a := TD.fd h; have b := TDs.fd t
    exact ⟨by simp [PyData.showableAll, a.s, b.s], by simp [PyData.hasDictAll, a.h, b.h], by simp [PyData.leavesShortAll, a.l, b.l], by simp [PyData.canLayAll0, a.c, b.c]⟩
end
theorem Fd.shown {d : PyData} (f : Fd d) (hm : d.depth ≤ 60) (hn : d.bulk ≤ 10000) : Shown d := by
  have sl : sizeLine = 16777216 := sizeLine_eq
  have q := PyData.shown_le_bulk 65 (by decide) _ f.l
  exact ⟨f.s, hm, by omega⟩
theorem Fd.shaped {d : PyData} (f : Fd d) (hm : d.depth ≤ 60) : SeqAt.shaped d = true := by
  unfold SeqAt.shaped
  rw [f.c, decide_eq_true (by omega)] <;> rfl
/-- the name of its type -/
def tyN : PyData → String
  | .none => "NoneType"
  | .bool _ => "bool"
  | .int _ => "int"
  | .str _ => "str"
  | .list _ => "list"
  | .tuple _ => "tuple"
  | .dict _ => "dict"
theorem TD.ty {K : PySem.W.Frag} {p : Addr → Prop} {H : Hp} {v : V} {d : PyData} (t : TD p H v d) : TyX K H v (.type (tyN d)) := by
  cases t with
  | non => exact .base .non
  | bl b => exact .base (.bl b)
  | int _ _ => exact .base (.int _)
  | str _ => exact .base (.str _)
  | lst _ h _ => exact .base (.lst h)
  | tup h _ => exact .base (.tup h)
def isTup : PyData → Bool
  | .tuple _ => true
  | _ => false
def isStr : PyData → Bool
  | .str _ => true
  | _ => false
def isBl : PyData → Bool
  | .bool _ => true
  | _ => false
/-- isinstance(x, int): bools too -/
def isIn : PyData → Bool
  | .bool _ => true
  | .int _ => true
  | _ => false
theorem kit_tup {K : PySem.W.Frag} (d : PyData) : PySem.W.kitOne K (.type (tyN d)) (.type "tuple") = some (isTup d) := by cases d <;> (refine kit_ty ?_; simp only [tyN, isTup]; decide +kernel)
theorem kit_str {K : PySem.W.Frag} (d : PyData) : PySem.W.kitOne K (.type (tyN d)) (.type "str") = some (isStr d) := by cases d <;> (refine kit_ty ?_; simp only [tyN, isStr]; decide +kernel)
theorem kit_bl {K : PySem.W.Frag} (d : PyData) : PySem.W.kitOne K (.type (tyN d)) (.type "bool") = some (isBl d) := by cases d <;> (refine kit_ty ?_; simp only [tyN, isBl]; decide +kernel)
theorem kit_in {K : PySem.W.Frag} (d : PyData) : PySem.W.kitOne K (.type (tyN d)) (.type "int") = some (isIn d) := by cases d <;> (refine kit_ty ?_; simp only [tyN, isIn]; decide +kernel)
def isW : PyData → Option Int
  | .int i => some i
  | _ => none
theorem TD.whole {K : PySem.W.Frag} {p : Addr → Prop} {H : Hp} {v : V} {d : PyData} (t : TD p H v d) : Whole K H v (isW d).isSome := by
  cases t with
  | non => exact whole_non
  | bl b => exact whole_bl b
  | int _ _ => exact whole_int _
  | str _ => exact whole_str _
  | lst _ h _ => exact whole_lst h
  | tup h _ => exact whole_tup h
theorem TDs.len {p : Addr → Prop} {H : Hp} : ∀ {vs : List V} {ds : List PyData}, TDs p H vs ds → vs.length = ds.length
  | _, _, .nil => rfl
  | _, _, .cons _ t => by rw [List.length_cons, List.length_cons, TDs.len t]
theorem TDs.at {p : Addr → Prop} {H : Hp} : ∀ {vs : List V} {ds : List PyData}, TDs p H vs ds → ∀ {i : Nat} {v : V}, vs[i]? = some v → ∃ d, ds[i]? = some d ∧ TD p H v d
  | _, _, .nil, i, v, e => by simp at e
  | _, _, .cons h t, 0, v, e => by
    simp at e
    subst e
    exact ⟨_, rfl, h⟩
  | _, _, .cons h t, i + 1, v, e => by
    obtain ⟨d, e1, e2⟩ := TDs.at t (i := i) (v := v) (by simpa using e)
    exact ⟨d, by simpa using e1, e2⟩
theorem TDs.app {p : Addr → Prop} {H : Hp} {us : List V} {es : List PyData} (h : TDs p H us es) : ∀ {vs : List V} {ds : List PyData}, TDs p H vs ds → TDs p H (vs ++ us) (ds ++ es)
  | _, _, .nil => h
  | _, _, .cons a t => .cons a (TDs.app h t)
theorem TDs.take {p : Addr → Prop} {H : Hp} : ∀ {vs : List V} {ds : List PyData} (n : Nat), TDs p H vs ds → TDs p H (vs.take n) (ds.take n)
  | _, _, 0, _ => .nil
  | _, _, n + 1, .nil => .nil
  | _, _, n + 1, .cons a t => .cons a (TDs.take n t)
theorem TDs.drop {p : Addr → Prop} {H : Hp} : ∀ {vs : List V} {ds : List PyData} (n : Nat), TDs p H vs ds → TDs p H (vs.drop n) (ds.drop n)
  | _, _, 0, h => h
  | _, _, n + 1, .nil => .nil
  | _, _, n + 1, .cons a t => TDs.drop n t
theorem TDs.rev {p : Addr → Prop} {H : Hp} : ∀ {vs : List V} {ds : List PyData}, TDs p H vs ds → TDs p H vs.reverse ds.reverse
  | _, _, .nil => .nil
  | _, _, .cons a t => by
    rw [List.reverse_cons, List.reverse_cons]
    exact TDs.app (.cons a .nil) (TDs.rev t)
/-! pieces among them -/
def Pc.OkW (h : Int) : Pc → Prop
  | .new l => 1 ≤ l
  | .notes l _ => 1 ≤ l
  | .copy f l _ _ b => 0 ≤ f ∧ f < h ∧ 1 ≤ l ∧ (b = true → f + l ≤ h)
theorem Pc.OkAt.w {h : Int} {p : Pc} (o : p.OkAt h) : p.OkW h := by
  cases p with
  | new l => exact o
  | notes l x => exact o.1
  | copy f l a d b => exact ⟨o.1, o.2.1, o.2.2.1, o.2.2.2.2.2⟩
theorem Pc.OkW.pos {h : Int} {p : Pc} (o : p.OkW h) : 1 ≤ p.len := by
  cases p with
  | new l => exact o
  | notes l x => exact o
  | copy f l a d b => exact o.2.2.1
def FitsW (ps : List Pc) : Prop := ∀ (i : Nat) (p : Pc), ps[i]? = some p → p.OkW (pre ps i)
/-- d is pieces -/
def IsPcs (d : PyData) : Prop := ∃ ps : List Pc, d = .tuple (ps.map dPc) ∧ FitsW ps ∧ 1 ≤ ps.length ∧ pre ps ps.length ≤ 10 ^ 30
theorem pc_at {p : Addr → Prop} {H : Hp} {v : V} {c : Pc} (t : TD p H v (dPc c)) : ∃ q, v = .ref q ∧ PcAt H q c := by
  cases c with
  | new l =>
    unfold dPc at t
    cases t with
    | tup h t =>
      cases t with
      | cons a t =>
        cases t with
        | cons b t =>
          cases t
          cases a; cases b
          exact ⟨_, rfl, h⟩
  | notes l x =>
    unfold dPc at t
    cases t with
    | tup h t =>
      cases t with
      | cons a t =>
        cases t with
        | cons b t =>
          cases t with
          | cons c t =>
            cases t
            cases a; cases b; cases c
            exact ⟨_, rfl, h⟩
  | copy f l x d b =>
    unfold dPc at t
    cases t with
    | tup h t =>
      cases t with
      | cons a t =>
        cases t with
        | cons b t =>
          cases t with
          | cons c t =>
            cases t with
            | cons e t =>
              cases t with
              | cons g t =>
                cases t with
                | cons j t =>
                  cases t
                  cases a; cases b; cases c; cases e; cases g; cases j
                  exact ⟨_, rfl, h⟩
theorem pcs_at {p : Addr → Prop} {H : Hp} : ∀ {ps : List Pc} {vs : List V}, TDs p H vs (ps.map dPc) → PcsAt H vs ps
  | [], vs, t => by cases t; exact .nil
  | c :: ps, vs, t => by
    rw [List.map_cons] at t
    cases t with
    | cons a t => exact .cons (pc_at a) (pcs_at t)
end TT

set_option maxHeartbeats 4000000
namespace TT
open PySem PySem.Spec PyProof.Rows L2 LamX TL
/-! ### are these pieces? any value -/
theorem TD.isw {K : PySem.W.Frag} {p : Addr → Prop} {H : Hp} {v : V} {d : PyData} (t : TD p H v d) : (∃ i, v = .int i ∧ d = .int i) ∨ ((∀ i, d ≠ .int i) ∧ Whole K H v false) := by
  have w := t.whole (K := K)
  cases t with
  | int _ _ => exact .inl ⟨_, rfl, rfl⟩
  | non => exact .inr ⟨(fun _ z => by cases z), w⟩
  | bl b => exact .inr ⟨(fun _ z => by cases z), w⟩
  | str _ => exact .inr ⟨(fun _ z => by cases z), w⟩
  | lst _ _ _ => exact .inr ⟨(fun _ z => by cases z), w⟩
  | tup _ _ => exact .inr ⟨(fun _ z => by cases z), w⟩
theorem TD.isb {p : Addr → Prop} {H : Hp} {v : V} {d : PyData} (t : TD p H v d) : (∃ b, v = .bl b ∧ d = .bool b) ∨ ((∀ b, d ≠ .bool b) ∧ isBl d = false) := by
  cases t with
  | bl b => exact .inl ⟨_, rfl, rfl⟩
  | int _ _ => exact .inr ⟨(fun _ z => by cases z), rfl⟩
  | non => exact .inr ⟨(fun _ z => by cases z), rfl⟩
  | str _ => exact .inr ⟨(fun _ z => by cases z), rfl⟩
  | lst _ _ _ => exact .inr ⟨(fun _ z => by cases z), rfl⟩
  | tup _ _ => exact .inr ⟨(fun _ z => by cases z), rfl⟩
theorem noI {X : Prop} (h : ¬ X) : (false = true ↔ X) := ⟨fun z => (by cases z), fun x => absurd x h⟩
theorem decI {b : Bool} {X : Prop} (h : b = true ↔ X) : b = true ↔ X := h
theorem TDs.six {p : Addr → Prop} {H : Hp} {xs : List V} {ds : List PyData} (t : TDs p H xs ds) (h : ds.length = 6) : ∃ v0 v1 v2 v3 v4 v5 d0 d1 d2 d3 d4 d5, xs = [v0, v1, v2, v3, v4, v5] ∧ ds = [d0, d1, d2, d3, d4, d5] ∧ TD p H v0 d0 ∧ TD p H v1 d1 ∧ TD p H v2 d2 ∧ TD p H v3 d3 ∧ TD p H v4 d4 ∧ TD p H v5 d5 := by
  cases t with
  | nil => cases h
  | cons a0 t => cases t with
    | nil => cases h
    | cons a1 t => cases t with
      | nil => cases h
      | cons a2 t => cases t with
        | nil => cases h
        | cons a3 t => cases t with
          | nil => cases h
          | cons a4 t => cases t with
            | nil => cases h
            | cons a5 t => cases t with
              | nil => exact ⟨_, _, _, _, _, _, _, _, _, _, _, _, rfl, rfl, a0, a1, a2, a3, a4, a5⟩
              | cons a6 t => simp at h
theorem TDs.one {p : Addr → Prop} {H : Hp} {xs : List V} {ds : List PyData} (t : TDs p H xs ds) (h : ds.length = 1) : ∃ v d, xs = [v] ∧ ds = [d] ∧ TD p H v d := by
  cases t with
  | nil => cases h
  | cons a t => cases t with
    | nil => exact ⟨_, _, rfl, rfl, a⟩
    | cons b t => simp at h
theorem TDs.two {p : Addr → Prop} {H : Hp} {xs : List V} {ds : List PyData} (t : TDs p H xs ds) (h : ds.length = 2) : ∃ v d v' d', xs = [v, v'] ∧ ds = [d, d'] ∧ TD p H v d ∧ TD p H v' d' := by
  cases t with
  | nil => cases h
  | cons a t => cases t with
    | nil => cases h
    | cons b t => cases t with
      | nil => exact ⟨_, _, _, _, rfl, rfl, a, b⟩
      | cons c t => simp at h
def sp_is_copyD (p : Addr → Prop) : Sp := fun vs H Q _ => ∃ (q : Addr) (xs : List V) (ds : List PyData) (h : Int), vs = [.ref q, .int h] ∧ H q = some (.tup xs) ∧ TDs p H xs ds ∧ ds.length = 6 ∧
  ∀ b : Bool, (b = true ↔ ∃ f l a dn bk, (Pc.copy f l a dn bk).OkW h ∧ ds.drop 1 = [.int f, .int l, .int a, .bool dn, .bool bk]) → Q (.bl b) H
def sp_is_pieceD (p : Addr → Prop) : Sp := fun vs H Q _ => ∃ (v : V) (d : PyData) (h : Int), vs = [v, .int h] ∧ TD p H v d ∧ d.depth ≤ 60 ∧ ∀ b : Bool, (b = true ↔ ∃ c : Pc, d = dPc c ∧ c.OkW h) → Q (.bl b) H
def sp_are_piecesD (K : PySem.W.Frag) (p : Addr → Prop) : Sp := fun vs H Q _ => (∃ (v : V) (T : String), vs = [v] ∧ TyX K H v (.type T) ∧ PySem.W.kitOne K (.type T) (.type "tuple") = some false ∧ Q (.bl false) H) ∨
  ∃ (q : Addr) (xs : List V) (ds : List PyData), vs = [.ref q] ∧ H q = some (.tup xs) ∧ TDs p H xs ds ∧ PyData.depthAll ds ≤ 60 ∧ ∀ b : Bool, (b = true ↔ IsPcs (.tuple ds)) → Q (.bl b) H
section
variable {P : Program} {w : World} {K : PySem.W.Frag} {mg : Str → Option Value} {base : Heap} {Z : Zs} {p : Addr → Prop}
theorem ok_is_copy (T : Txt K mg Z) : FnOk P w K mg base CX0 4 Z.f_is_copy Z.d_is_copy ["piece", "here"] (sp_is_copyD p) := by
  refine T.F_is_copy.ok sc_is_copy (fun vs H Q E h => ?_) (fun cdv A outer s H vs Q E hr h => ?_)
  · obtain ⟨q, xs, ds, h, rfl, _⟩ := h
    rfl
  · obtain ⟨q, xs, ds, h, rfl, hq, t, l6, k⟩ := h
    obtain ⟨v0, v1, v2, v3, v4, v5, d0, d1, d2, d3, d4, d5, rfl, rfl, t0, t1, t2, t3, t4, t5⟩ := t.six l6
    refine ⟨_, (pss_cons (ps_asg (pv 0) (pg_tup rfl (pgs_cons (pg_name (i := 2) sc_is_copy.nd rfl (Or.inl rfl)) (pgs_cons (pg_name (i := 3) sc_is_copy.nd rfl (Or.inl rfl)) (pgs_cons (pg_name (i := 4) sc_is_copy.nd rfl (Or.inl rfl)) (pgs_cons (pg_name (i := 5) sc_is_copy.nd rfl (Or.inl rfl)) (pgs_cons (pg_name (i := 6) sc_is_copy.nd rfl (Or.inl rfl)) (pgs_cons (pg_name (i := 7) sc_is_copy.nd rfl (Or.inl rfl)) pgs_nil))))))))
      (pss_cons (ps_if (pt_not (PW.pt (pw_and (pt_val (pe_call (ok_is_between T) (hr.mono (by decide)) rfl T.g_is_between T.k_is_between T.bn_is_between .nil pass0 (pa_cons (pv 3) (pa_cons pe_int (pa_cons (pe_op op_sub (pv 1) pe_int) pa_nil))))) (pw_and (pt_val (pe_call (ok_is_from T) (hr.mono (by decide)) rfl T.g_is_from T.k_is_from T.bn_is_from .nil pass0 (pa_cons (pv 4) (pa_cons pe_int pa_nil)))) (pw_and1 (pt_val (pe_call (ok_is_whole T) (hr.mono (by decide)) rfl T.g_is_whole T.k_is_whole T.bn_is_whole .nil pass0 (pa_cons (pv 5) pa_nil)))))))) (pss_one (ps_ret pe_bl)) pss_nil)
      (pss_cons (ps_if (pt_not (PW.pt (pw_and (pt_val (pe_callB  call_isi (by rfl) T.b_isinstance (by decide +kernel) (pa_cons (pv 6) (pa_cons (pe_bltn (v := .ty "bool") rfl T.b_bool (by decide +kernel) rfl) pa_nil)))) (pw_and1 (pt_val (pe_callB  call_isi (by rfl) T.b_isinstance (by decide +kernel) (pa_cons (pv 7) (pa_cons (pe_bltn (v := .ty "bool") rfl T.b_bool (by decide +kernel) rfl) pa_nil)))))))) (pss_one (ps_ret pe_bl)) pss_nil)
      (pss_one (ps_ret (pe_or (pe_not (pv 7)) (pe_one (pe_cmpR op_le (pe_op op_add (pv 3) (pv 4)) (pv 1) (nomark _))))))))), ?_⟩
    have no : (∀ f l a dn bk, (Pc.copy f l a dn bk).OkW h → d1 = .int f → d2 = .int l → d3 = .int a → d4 = .bool dn → d5 = .bool bk → False) → Q (.bl false) H := fun c => k false (noI (by
      rintro ⟨f, l, a, dn, bk, o, e⟩
      simp only [List.drop_succ_cons, List.drop_zero, List.cons.injEq, and_true] at e
      obtain ⟨e1, e2, e3, e4, e5⟩ := e
      exact c f l a dn bk o e1 e2 e3 e4 e5))
    refine ⟨_, rfl, q, _, rfl, SqT.of hq, rfl, _, _, rfl, _, _, rfl, _, _, rfl, _, _, rfl, _, _, rfl, _, _, rfl, rfl, ?_⟩
    refine ⟨_, rfl, _, rfl, _, _, rfl, rfl, ?_⟩
    rcases t1.isw (K := K) with ⟨f, rfl, rfl⟩ | ⟨n1, w1⟩
    · refine .inl ⟨f, 0, h - 1, rfl, ?_⟩
      by_cases c1 : 0 ≤ f ∧ f < h
      · refine ⟨true, by rw [decide_eq_true c1.1, decide_eq_true (by omega)] <;> rfl, iteT ?_⟩
        refine ⟨_, rfl, ?_⟩
        rcases t2.isw (K := K) with ⟨l, rfl, rfl⟩ | ⟨n2, w2⟩
        · refine .inl ⟨l, 1, rfl, ?_⟩
          by_cases c2 : 1 ≤ l
          · refine ⟨true, by rw [decide_eq_true c2], iteT ?_⟩
            rcases t3.isw (K := K) with ⟨a, rfl, rfl⟩ | ⟨n3, w3⟩
            · refine ⟨_, rfl, _, true, rfl, whole_int a, true, rfl, iteF ?_⟩
              rcases t4.isb with ⟨dn, rfl, rfl⟩ | ⟨n4, b4⟩
              · refine ⟨_, rfl, _, _, _, _, true, rfl, .ty "bool", .base (.bl dn), kit_ty (by decide +kernel), true, rfl, iteT ?_⟩
                rcases t5.isb with ⟨bk, rfl, rfl⟩ | ⟨n5, b5⟩
                · refine ⟨_, rfl, _, _, _, _, true, rfl, .ty "bool", .base (.bl bk), kit_ty (by decide +kernel), true, rfl, iteF ?_⟩
                  cases bk with
                  | false => exact ⟨_, rfl, false, rfl, true, rfl, iteT (k true ⟨fun _ => ⟨f, l, a, dn, false, ⟨c1.1, c1.2, c2, fun z => by cases z⟩, rfl⟩, fun _ => rfl⟩)⟩
                  | true =>
                    refine ⟨_, rfl, true, rfl, false, rfl, iteF ⟨_, rfl, _, rfl, _, _, rfl, rfl, _, rfl, _, _, rfl, rfl, k _ ?_⟩⟩
                    show decide (f + l ≤ h) = true ↔ _
                    rw [decide_eq_true_iff]
                    refine ⟨fun z => ⟨f, l, a, dn, true, ⟨c1.1, c1.2, c2, fun _ => z⟩, rfl⟩, fun ⟨f', l', a', dn', bk', o, e⟩ => ?_⟩
                    simp only [List.drop_succ_cons, List.drop_zero, List.cons.injEq, and_true, PyData.int.injEq, PyData.bool.injEq] at e
                    obtain ⟨rfl, rfl, rfl, rfl, rfl⟩ := e
                    exact o.2.2.2 rfl
                · exact ⟨_, rfl, _, _, _, _, false, rfl, .ty "bool", t5.ty, by rw [kit_bl, b5], false, rfl, iteT (no fun _ _ _ _ _ _ _ _ _ _ e => n5 _ e)⟩
              · exact ⟨_, rfl, _, _, _, _, false, rfl, .ty "bool", t4.ty, by rw [kit_bl, b4], false, rfl, iteF (iteT (no fun _ _ _ _ _ _ _ _ _ e _ => n4 _ e))⟩
            · exact ⟨_, rfl, _, false, rfl, w3, false, rfl, iteT (no fun _ _ _ _ _ _ _ _ e _ _ => n3 _ e)⟩
          · exact ⟨false, by rw [decide_eq_false c2], iteF (iteT (no fun f l a dn bk o _ e _ _ _ => c2 (by cases e; exact o.2.2.1)))⟩
        · exact .inr ⟨_, _, rfl, w2, false, rfl, iteF (iteT (no fun _ _ _ _ _ _ _ e _ _ _ => n2 _ e))⟩
      · refine ⟨false, ?_, iteF (iteT (no fun f' l a dn bk o e _ _ _ _ => c1 (by cases e; exact ⟨o.1, o.2.1⟩)))⟩
        by_cases c : 0 ≤ f
        · rw [decide_eq_true c, decide_eq_false (by omega)] <;> rfl
        · rw [decide_eq_false c] <;> rfl
    · exact .inr ⟨_, _, _, rfl, w1, false, rfl, iteF (iteT (no fun _ _ _ _ _ _ e _ _ _ _ => n1 _ e))⟩
theorem eqv_word {d : PyData} {x : Str} : PyData.eqv d (.str x) = true ↔ d = .str x := by
  cases d with
  | str y =>
    rw [PyData.eqv]
    exact ⟨fun h => by rw [LawfulBEq.eq_of_beq h], fun h => by injection h with h; rw [h]; exact beq_self_eq_true _⟩
  | none => exact ⟨fun h => by simp [PyData.eqv] at h, fun h => by cases h⟩
  | bool b => exact ⟨fun h => by simp [PyData.eqv] at h, fun h => by cases h⟩
  | int i => exact ⟨fun h => by simp [PyData.eqv] at h, fun h => by cases h⟩
  | list l => exact ⟨fun h => by simp [PyData.eqv] at h, fun h => by cases h⟩
  | tuple l => exact ⟨fun h => by simp [PyData.eqv] at h, fun h => by cases h⟩
  | dict l => exact ⟨fun h => by simp [PyData.eqv] at h, fun h => by cases h⟩
theorem depth_mem : ∀ {ds : List PyData} {d : PyData}, d ∈ ds → d.depth ≤ PyData.depthAll ds
  | a :: t, d, h => by
    rw [PyData.depthAll]
    rcases List.mem_cons.mp h with rfl | h
    · exact Nat.le_max_left _ _
    · exact Nat.le_trans (depth_mem h) (Nat.le_max_right _ _)
/-- the first part of a tuple, asked whether it is a word -/
theorem word_shaped {x : Str} (h : (PyData.str x).canLay0 = true) : SeqAt.shaped (.str x) = true := by
  unfold SeqAt.shaped
  rw [h, decide_eq_true (by simp [PyData.depth])] <;> rfl
theorem ok_is_piece (T : Txt K mg Z) : FnOk P w K mg base CX0 5 Z.f_is_piece Z.d_is_piece ["value", "here"] (sp_is_pieceD p) := by
  refine T.F_is_piece.ok sc_is_piece (fun vs H Q E h => ?_) (fun cdv A outer s H vs Q E hr h => ?_)
  · obtain ⟨v, d, h, rfl, _⟩ := h
    rfl
  · obtain ⟨v, d, h, rfl, t, dep, k⟩ := h
    refine ⟨_, (pss_cons (ps_if (PW.pt (pw_or (pt_not (pt_val (pe_callB  call_isi (by rfl) T.b_isinstance (by decide +kernel) (pa_cons (pv 0) (pa_cons (pe_bltn (v := .ty "tuple") rfl T.b_tuple (by decide +kernel) rfl) pa_nil))))) (pw_or1 (pt_cmpR op_eq (pe_callB  call_len (by rfl) T.b_len (by decide +kernel) (pa_cons (pv 0) pa_nil)) pe_int (nomark _))))) (pss_one (ps_ret pe_bl)) pss_nil)
      (pss_cons (ps_if (pt_cmpR (op_eqD (by exact hr.units)) (pe_ix ix_tup (pv 0) pe_int (fun _ _ => rfl)) pe_str (nomark _)) (pss_one (ps_ret (pe_and (pe_cmpR op_eq (pe_callB  call_len (by rfl) T.b_len (by decide +kernel) (pa_cons (pv 0) pa_nil)) pe_int (nomark _)) (pe_one (pe_call (ok_is_from T) (hr.mono (by decide)) rfl T.g_is_from T.k_is_from T.bn_is_from .nil pass0 (pa_cons (pe_ix ix_tup (pv 0) pe_int (fun _ _ => rfl)) (pa_cons pe_int pa_nil))))))) pss_nil)
      (pss_cons (ps_if (pt_cmpR (op_eqD (by exact hr.units)) (pe_ix ix_tup (pv 0) pe_int (fun _ _ => rfl)) pe_str (nomark _)) (pss_one (ps_ret (pe_and (pe_cmpR op_eq (pe_callB  call_len (by rfl) T.b_len (by decide +kernel) (pa_cons (pv 0) pa_nil)) pe_int (nomark _)) (pe_and (pe_call (ok_is_from T) (hr.mono (by decide)) rfl T.g_is_from T.k_is_from T.bn_is_from .nil pass0 (pa_cons (pe_ix ix_tup (pv 0) pe_int (fun _ _ => rfl)) (pa_cons pe_int pa_nil))) (pe_one (pe_call (ok_is_whole T) (hr.mono (by decide)) rfl T.g_is_whole T.k_is_whole T.bn_is_whole .nil pass0 (pa_cons (pe_ix ix_tup (pv 0) pe_int (fun _ _ => rfl)) pa_nil))))))) pss_nil)
      (pss_one (ps_ret (pe_and (pe_cmpR (op_eqD (by exact hr.units)) (pe_ix ix_tup (pv 0) pe_int (fun _ _ => rfl)) pe_str (nomark _)) (pe_and (pe_cmpR op_eq (pe_callB  call_len (by rfl) T.b_len (by decide +kernel) (pa_cons (pv 0) pa_nil)) pe_int (nomark _)) (pe_one (pe_call (ok_is_copy (p := p) T) (hr.mono (by decide)) rfl T.g_is_copy T.k_is_copy T.bn_is_copy .nil pass0 (pa_cons (pv 0) (pa_cons (pv 1) pa_nil))))))))))), ?_⟩
    refine ⟨_, rfl, _, _, _, _, isTup d, rfl, .ty "tuple", t.ty, kit_tup d, isTup d, rfl, ?_⟩
    have no : (∀ c : Pc, d = dPc c → c.OkW h → False) → Q (.bl false) H := fun c => k false (noI (by rintro ⟨x, e, o⟩; exact c x e o))
    have nt : isTup d = false → Q (.bl false) H := fun e => no fun c e2 _ => by
      subst e2
      cases c <;> cases e
    cases t with
    | non => exact iteT (iteT (nt rfl))
    | bl b => exact iteT (iteT (nt rfl))
    | int _ _ => exact iteT (iteT (nt rfl))
    | str _ => exact iteT (iteT (nt rfl))
    | lst _ _ _ => exact iteT (iteT (nt rfl))
    | @tup q xs ds hq t =>
      refine iteF ?_
      have lx := t.len
      refine ⟨_, rfl, _, _, rfl, .inr ⟨_, SqT.of hq, rfl⟩, rfl, ds.isEmpty, ?_, ?_⟩
      · show V.bl (decide (V.int (xs.length : Int) = V.int 0)) = V.bl ds.isEmpty
        cases ds with
        | nil => rw [lx]; rfl
        | cons a t => rw [lx, decide_eq_false (fun z => by have := V.int.inj z; rw [List.length_cons] at this; omega)] <;> rfl
      cases t with
      | nil => exact iteT (no fun c e _ => by cases c <;> cases e)
      | @cons v0 xs d0 ds t0 t =>
        refine iteF ?_
        have dep0 : d0.depth ≤ 60 := by
          have h1 := depth_mem (ds := d0 :: ds) (d := d0) (List.mem_cons_self ..)
          rw [PyData.depth] at dep
          omega
        have sh0 := t0.fd.shaped dep0
        have ta : TDs p H (v0 :: xs) (d0 :: ds) := .cons t0 t
        have a0 : atI (v0 :: xs) ((0 : Nat) : Int) = some v0 := atI_nat rfl
        refine ⟨_, rfl, q, _, 0, v0, rfl, rfl, SqT.of hq, a0, d0, _, t0.dp, .str _, sh0, word_shaped (by decide +kernel), _, rfl, ?_⟩
        have ln : ∀ n : Nat, ds.length ≠ n → V.bl (decide (V.int ((v0 :: xs).length : Int) = V.int ((n + 1 : Nat) : Int))) = V.bl false := fun n e => by
          rw [decide_eq_false fun z => by have := V.int.inj z; rw [lx, List.length_cons] at this; omega]
        have ly : ∀ n : Nat, ds.length = n → V.bl (decide (V.int ((v0 :: xs).length : Int) = V.int ((n + 1 : Nat) : Int))) = V.bl true := fun n e => by
          rw [decide_eq_true (by rw [lx, List.length_cons, e])]
        by_cases e0 : d0 = .str (Str.ofString "new")
        · rw [eqv_word.mpr e0]
          refine iteT ?_
          by_cases l1 : ds.length = 1
          · obtain ⟨v1, d1, rfl, rfl, t1⟩ := t.one l1
            refine ⟨_, rfl, _, _, rfl, .inr ⟨_, SqT.of hq, rfl⟩, rfl, true, ly 1 l1, iteT ?_⟩
            refine ⟨_, rfl, q, _, 1, v1, rfl, rfl, SqT.of hq, rfl, ?_⟩
            rcases t1.isw (K := K) with ⟨l, rfl, rfl⟩ | ⟨n1, w1⟩
            · refine .inl ⟨l, 1, rfl, k _ ?_⟩
              rw [decide_eq_true_iff]
              subst e0
              exact ⟨fun z => ⟨.new l, rfl, z⟩, fun ⟨c, e, o⟩ => by cases c <;> cases e; exact o⟩
            · exact .inr ⟨_, _, rfl, w1, no fun c e _ => by cases c <;> cases e; exact n1 _ rfl⟩
          · refine ⟨_, rfl, _, _, rfl, .inr ⟨_, SqT.of hq, rfl⟩, rfl, false, ln 1 l1, iteF (no fun c e _ => ?_)⟩
            subst e0
            cases c <;> cases e
            exact l1 rfl
        rw [Bool.eq_false_iff.mpr fun z => e0 (eqv_word.mp z)]
        refine iteF ?_
        refine ⟨_, rfl, q, _, 0, v0, rfl, rfl, SqT.of hq, a0, d0, _, t0.dp, .str _, sh0, word_shaped (by decide +kernel), _, rfl, ?_⟩
        by_cases e1 : d0 = .str (Str.ofString "notes")
        · rw [eqv_word.mpr e1]
          refine iteT ?_
          by_cases l2 : ds.length = 2
          · obtain ⟨v1, d1, v2, d2, rfl, rfl, t1, t2⟩ := t.two l2
            refine ⟨_, rfl, _, _, rfl, .inr ⟨_, SqT.of hq, rfl⟩, rfl, true, ly 2 l2, iteT ?_⟩
            refine ⟨_, rfl, q, _, 1, v1, rfl, rfl, SqT.of hq, rfl, ?_⟩
            rcases t1.isw (K := K) with ⟨l, rfl, rfl⟩ | ⟨n1, w1⟩
            · refine .inl ⟨l, 1, rfl, ?_⟩
              by_cases c2 : 1 ≤ l
              · refine ⟨true, by rw [decide_eq_true c2], iteT ⟨_, rfl, q, _, 2, v2, rfl, rfl, SqT.of hq, rfl, ?_⟩⟩
                rcases t2.isw (K := K) with ⟨x, rfl, rfl⟩ | ⟨n2, w2⟩
                · subst e1
                  exact ⟨_, true, rfl, whole_int x, k true ⟨fun _ => ⟨.notes l x, rfl, c2⟩, fun _ => rfl⟩⟩
                · exact ⟨_, false, rfl, w2, no fun c e _ => by cases c <;> cases e; exact n2 _ rfl⟩
              · exact ⟨false, by rw [decide_eq_false c2], iteF (no fun c e o => by cases c <;> cases e; exact c2 o)⟩
            · exact .inr ⟨_, _, rfl, w1, false, rfl, iteF (no fun c e _ => by cases c <;> cases e; exact n1 _ rfl)⟩
          · refine ⟨_, rfl, _, _, rfl, .inr ⟨_, SqT.of hq, rfl⟩, rfl, false, ln 2 l2, iteF (no fun c e _ => ?_)⟩
            subst e1
            cases c <;> cases e
            exact l2 rfl
        rw [Bool.eq_false_iff.mpr fun z => e1 (eqv_word.mp z)]
        refine iteF ?_
        refine ⟨_, rfl, q, _, 0, v0, rfl, rfl, SqT.of hq, a0, d0, _, t0.dp, .str _, sh0, word_shaped (by decide +kernel), _, rfl, ?_⟩
        by_cases e2 : d0 = .str (Str.ofString "copy")
        · rw [eqv_word.mpr e2]
          refine iteT ?_
          by_cases l5 : ds.length = 5
          · refine ⟨_, rfl, _, _, rfl, .inr ⟨_, SqT.of hq, rfl⟩, rfl, true, ly 5 l5, iteT ?_⟩
            refine ⟨_, rfl, _, rfl, q, _, _, h, rfl, hq, ta, by rw [List.length_cons, l5], fun b hb => k b ?_⟩
            rw [hb]
            subst e2
            constructor
            · rintro ⟨f, l, a, dn, bk, o, e⟩
              rw [List.drop_succ_cons, List.drop_zero] at e
              subst e
              exact ⟨.copy f l a dn bk, rfl, o⟩
            · rintro ⟨c, e, o⟩
              cases c <;> cases e
              exact ⟨_, _, _, _, _, o, rfl⟩
          · refine ⟨_, rfl, _, _, rfl, .inr ⟨_, SqT.of hq, rfl⟩, rfl, false, ln 5 l5, iteF (no fun c e _ => ?_)⟩
            subst e2
            cases c <;> cases e
            exact l5 rfl
        rw [Bool.eq_false_iff.mpr fun z => e2 (eqv_word.mp z)]
        exact iteF (no fun c e _ => by
          cases c <;> cases e
          · exact e0 rfl
          · exact e1 rfl
          · exact e2 rfl)
theorem pre_app' {ps : List Pc} {X : List Pc} {i : Nat} (h : i ≤ ps.length) : pre (ps ++ X) i = pre ps i := pre_app h
theorem FitsW.snoc {ps : List Pc} {p : Pc} (f : FitsW ps) (o : p.OkW (pre ps ps.length)) : FitsW (ps ++ [p]) := by
  intro i q h
  by_cases c : i < ps.length
  · rw [List.getElem?_append_left c] at h
    rw [pre_app (by omega)]
    exact f i q h
  · have hl := (List.getElem?_eq_some_iff.mp h).1
    rw [List.length_append, List.length_singleton] at hl
    have : i = ps.length := by omega
    subst this
    rw [List.getElem?_append_right (Nat.le_refl _), Nat.sub_self] at h
    obtain rfl : p = q := Option.some.inj h
    rw [pre_app (Nat.le_refl _)]
    exact o
theorem dPc_inj {a b : Pc} (h : dPc a = dPc b) : a = b := by
  cases a <;> cases b <;> simp [dPc] at h <;> first | (obtain ⟨_, rfl, rfl, rfl, rfl, rfl⟩ := h; rfl) | (obtain ⟨rfl, rfl, rfl, rfl, rfl⟩ := h; rfl) | (obtain ⟨rfl, rfl⟩ := h; rfl) | (subst h; rfl) | skip
theorem dPcs_inj : ∀ {a b : List Pc}, a.map dPc = b.map dPc → a = b
  | [], [], _ => rfl
  | [], _ :: _, h => by simp at h
  | _ :: _, [], h => by simp at h
  | x :: a, y :: b, h => by
    rw [List.map_cons, List.map_cons] at h
    injection h with h1 h2
    rw [dPc_inj h1, dPcs_inj h2]
/-- the first i of these data are pieces -/
def Front (ds : List PyData) (i : Nat) (ps : List Pc) : Prop := ps.length = i ∧ ds.take i = ps.map dPc ∧ FitsW ps
theorem Front.uniq {ds : List PyData} {i : Nat} {ps qs : List Pc} (h : Front ds i ps) (hq : ds = qs.map dPc) (hi : i ≤ ds.length) : ps = qs.take i := by
  have e := h.2.1
  rw [hq, ← List.map_take] at e
  exact (dPcs_inj e).symm
theorem Front.next {ds : List PyData} {i : Nat} {ps : List Pc} {c : Pc} (h : Front ds i ps) (hd : ds[i]? = some (dPc c)) (o : c.OkW (pre ps i)) : Front ds (i + 1) (ps ++ [c]) := by
  refine ⟨by rw [List.length_append, List.length_singleton, h.1], ?_, ?_⟩
  · rw [take_next hd, h.2.1, List.map_append]
    rfl
  · exact h.2.2.snoc (by rw [h.1]; exact o)
theorem pre_take {qs : List Pc} {i : Nat} : pre (qs.take i) i = pre qs i := by
  unfold pre
  rw [List.take_take, Nat.min_self]
/-- a part that is no piece there: no pieces -/
theorem Front.stop {ds : List PyData} {i : Nat} {ps : List Pc} {d : PyData} (h : Front ds i ps) (hd : ds[i]? = some d) (no : ∀ c : Pc, d = dPc c → ¬ c.OkW (pre ps i)) : ¬ IsPcs (.tuple ds) := by
  rintro ⟨qs, e, f, _, _⟩
  injection e with e
  have il := (List.getElem?_eq_some_iff.mp hd).1
  have u := h.uniq e (by omega)
  rw [e, List.getElem?_map] at hd
  obtain ⟨c, hc, hcd⟩ := Option.map_eq_some_iff.mp hd
  refine no c hcd.symm ?_
  rw [u, pre_take]
  exact f i c hc
theorem TDs.depthAll_le {ds : List PyData} {m : Nat} (h : PyData.depthAll ds ≤ m) : ∀ d ∈ ds, d.depth ≤ m := fun _ hd => Nat.le_trans (depth_mem hd) h
theorem ok_length_ofP (T : Txt K mg Z) : FnOk P w K mg base CX0 1 Z.f_length_of Z.d_length_of ["piece"] sp_length_of := ok_length_of T
theorem ok_are_pieces (T : Txt K mg Z) : FnOk P w K mg base CX0 6 Z.f_are_pieces Z.d_are_pieces ["value"] (sp_are_piecesD K p) := by
  refine T.F_are_pieces.ok sc_are_pieces (fun vs H Q E h => ?_) (fun cdv A outer s H vs Q E hr h => ?_)
  · rcases h with ⟨v, t, rfl, _⟩ | ⟨q, xs, ds, rfl, _⟩ <;> rfl
  · refine ⟨_, (pss_cons (ps_if (PW.pt (pw_or (pt_not (pt_val (pe_callB  call_isi (by rfl) T.b_isinstance (by decide +kernel) (pa_cons (pv 0) (pa_cons (pe_bltn (v := .ty "tuple") rfl T.b_tuple (by decide +kernel) rfl) pa_nil))))) (pw_or1 (pt_cmpR op_eq (pe_callB  call_len (by rfl) T.b_len (by decide +kernel) (pa_cons (pv 0) pa_nil)) pe_int (nomark _))))) (pss_one (ps_ret pe_bl)) pss_nil)
      (pss_cons (ps_set (i := 1) sc_are_pieces.nd rfl (Or.inl rfl) pe_int)
      (pss_cons (ps_for PassesOwn.never rfl (pi_tup (pv 0)) (pg_name (i := 2) sc_are_pieces.nd rfl (Or.inl rfl)) (pss_cons (ps_if (pt_not (pt_val (pe_call (ok_is_piece (p := p) T) (hr.mono (by decide)) rfl T.g_is_piece T.k_is_piece T.bn_is_piece .nil pass0 (pa_cons (pv 2) (pa_cons (pv 1) pa_nil))))) (pss_one (ps_ret pe_bl)) pss_nil)
      (pss_one (ps_set (i := 1) sc_are_pieces.nd rfl (Or.inl rfl) (pe_op op_add (pv 1) (pe_call (ok_length_of T) (hr.mono (by decide)) rfl T.g_length_of T.k_length_of T.bn_length_of .nil pass0 (pa_cons (pv 2) pa_nil)))))))
      (pss_one (ps_ret (pe_cmpR op_le (pv 1) (pe_glob (v := .int 1000000000000000000000000000000) rfl T.c_GREATEST ⟨_, rfl⟩) (nomark _))))))), ?_⟩
    rcases h with ⟨v, t, rfl, ty, kt, k⟩ | ⟨q, xs, ds, rfl, hq, t, dep, k⟩
    · exact ⟨_, rfl, _, _, _, _, false, rfl, .ty "tuple", ty, kt, false, rfl, iteT (iteT k)⟩
    have lx := t.len
    refine ⟨_, rfl, _, _, _, _, true, rfl, .ty "tuple", .base (.tup hq), kit_ty (by decide +kernel), true, rfl, iteF ?_⟩
    refine ⟨_, rfl, _, _, rfl, .inr ⟨_, SqT.of hq, rfl⟩, rfl, ds.isEmpty, ?_, ?_⟩
    · show V.bl (decide (V.int (xs.length : Int) = V.int 0)) = V.bl ds.isEmpty
      cases ds with
      | nil => rw [lx]; rfl
      | cons a t => rw [lx, decide_eq_false (fun z => by have := V.int.inj z; rw [List.length_cons] at this; omega)] <;> rfl
    cases ds with
    | nil => exact iteT (k false (noI (by rintro ⟨ps, e, _, l, _⟩; injection e with e; have := congrArg List.length e; rw [List.length_map] at this; simp at this; omega)))
    | cons d0 dt =>
    refine iteF ?_
    generalize hds : d0 :: dt = ds at *
    have n1 : 1 ≤ ds.length := by rw [← hds, List.length_cons]; omega
    refine ⟨_, rfl, q, rfl, ⟨_, SqT.of hq⟩, for_tup (xs := xs) (fun i σ H' => ∃ v2 ps, σ = [some (.ref q), some (.int (pre ps i)), v2] ∧ H' = H ∧ Front ds i ps) ⟨_, [], rfl, rfl, rfl, rfl, fun i p h => by simp at h⟩ (fun i σ H' _ ⟨_, _, _, e, _⟩ => by rw [e]; exact SqT.of hq) ?_ ?_⟩
    · rintro i x σ H1 hi ⟨v2, ps, rfl, rfl, fr⟩
      obtain ⟨d, hd, td⟩ := t.at hi
      refine ⟨_, rfl, _, rfl, x, d, _, rfl, td, TDs.depthAll_le dep d (List.mem_of_getElem? hd), fun b hb => ⟨b, rfl, ?_⟩⟩
      cases b with
      | true =>
        obtain ⟨c, rfl, o⟩ := hb.mp rfl
        obtain ⟨y, rfl, hy⟩ := pc_at td
        refine iteF ?_
        refine ⟨_, rfl, _, rfl, y, c, rfl, hy, _, _, rfl, rfl, ?_⟩
        refine ⟨some (.ref y), ps ++ [c], ?_, rfl, fr.next hd o⟩
        have e : pre (ps ++ [c]) (i + 1) = pre ps i + c.len := by
          have := pre_snoc ps c
          rw [fr.1] at this
          exact this
        rw [e]
        rfl
      | false =>
        exact iteT (k false (noI (fr.stop hd fun c e o => by have := hb.mpr ⟨c, e, o⟩; cases this)))
    · rintro σ H1 ⟨v2, ps, rfl, rfl, fr⟩
      refine ⟨_, rfl, _, _, rfl, rfl, k _ ?_⟩
      have tk := fr.2.1
      rw [lx, List.take_length] at tk
      have ll := fr.1
      show decide (pre ps xs.length ≤ 1000000000000000000000000000000) = true ↔ _
      rw [decide_eq_true_iff]
      rw [← ll]
      constructor
      · intro h
        exact ⟨ps, by rw [tk], fr.2.2, by omega, by omega⟩
      · rintro ⟨qs, e, f, _, h⟩
        injection e with e
        have : ps = qs := dPcs_inj (by rw [← tk, e])
        subst this
        omega
end
end TT

set_option maxHeartbeats 4000000
namespace TT
open PySem PySem.Spec PyProof.Rows L2 LamX TL
/-! ### a melody of any value -/
/-- data that is no pieces -/
inductive NoPcs (K : PySem.W.Frag) (p : Addr → Prop) (H : Hp) : V → Prop
  | ty {v : V} {T : String} (h : TyX K H v (.type T)) (k : PySem.W.kitOne K (.type T) (.type "tuple") = some false) : NoPcs K p H v
  | tup {q : Addr} {xs : List V} {ds : List PyData} (h : H q = some (.tup xs)) (t : TDs p H xs ds) (dep : PyData.depthAll ds ≤ 60) (no : ¬ IsPcs (.tuple ds)) : NoPcs K p H (.ref q)
def sp_M_initD (K : PySem.W.Frag) (Z : Zs) (p : Addr → Prop) : Sp := fun vs H Q E => ∃ (q dx : Addr) (v : V), vs = [.ref q, v] ∧ H q = some (.ins Z.cB dx []) ∧
  ((NoPcs K p H v ∧ Out E (Z.c 0) v H) ∨ ∃ R tr ps, v = .ref R ∧ H R = some (.tup tr) ∧ TDs p H tr (ps.map dPc) ∧ PyData.depthAll (ps.map dPc) ≤ 60 ∧ IsPcs (.tuple (ps.map dPc)) ∧ ps.length ≤ 1000 ∧ ∀ H', MelAt Z.cB H' q R ps → Keep q H H' → Q .non H')
section
variable {P : Program} {w : World} {K : PySem.W.Frag} {mg : Str → Option Value} {base : Heap} {Z : Zs} {p : Addr → Prop}
theorem ok_M_initD (T : Txt K mg Z) : FnOk P w K mg base (L2.CX P w) 11 Z.f_M_init Z.d_M_init ["self", "pieces"] (sp_M_initD K Z p) := by
  refine T.F_M_init.okX sc_M_init (fun vs H Q E h => ?_) (fun cdv A outer s H vs Q E hr h => ?_)
  · obtain ⟨q, dx, v, rfl, _⟩ := h
    rfl
  · obtain ⟨q, dx, v, rfl, hq, h⟩ := h
    have X0 := T.ex 0 (by decide)
    refine ⟨_, (pss_cons (ps_if (pt_not (pt_val (pe_call (ok_are_pieces (p := p) T) (hr.mono (by decide)) rfl T.g_are_pieces T.k_are_pieces T.bn_are_pieces .nil pass0 (pa_cons (pv 1) pa_nil)))) (pss_one (ps_raise rfl (takes_of rfl rfl rfl rfl) (pmk_oex (T.ex 0 (by decide)).ox (T.ex 0 (by decide)).ini T.t_E_init (ok_E_init T) (hr.mono (by decide)) T.bn_E_init .nil pass0 rfl T.g_BadPieces (pa_cons (pv 1) pa_nil)))) pss_nil)
      (pss_cons (ps_fld (pv 0) (pv 1) rfl)
      (pss_cons (ps_fld (pv 0) (pe_call (ok_starts_of T) (hr.mono (by decide)) rfl T.g_starts_of T.k_starts_of T.bn_starts_of .nil pass0 (pa_cons (pv 1) pa_nil)) rfl)
      (pss_cons (ps_fld (pv 0) (pe_call (ok_new_ahead T) (hr.mono (by decide)) rfl T.g_new_ahead T.k_new_ahead T.bn_new_ahead .nil pass0 (pa_cons (pv 1) pa_nil)) rfl)
      (pss_cons (ps_fld (pv 0) (pe_ix ix_tup (pe_fld (pv 0) rfl) (pe_un un_neg pe_int) (fun _ _ => rfl)) rfl)
      (pss_one (ps_fld (pv 0) (pe_ix ix_tup (pe_fld (pv 0) rfl) (pe_un un_neg pe_int) (fun _ _ => rfl)) rfl))))))), ?_⟩
    refine ⟨_, rfl, ?_⟩
    rcases h with ⟨np, out⟩ | ⟨R, tr, ps, rfl, hR, td, dep, isp, l8, k⟩
    · cases np with
      | ty h1 h2 => exact .inl ⟨_, _, rfl, h1, h2, false, rfl, iteT ⟨_, rfl, mkR X0 out⟩⟩
      | tup h1 t dp no => exact .inr ⟨_, _, _, rfl, h1, t, dp, fun b hb => ⟨b, rfl, by
          cases b with
          | true => exact absurd (hb.mp rfl) no
          | false => exact iteT ⟨_, rfl, mkR X0 out⟩⟩⟩
    refine .inr ⟨_, _, _, rfl, hR, td, dep, fun b hb => ⟨b, rfl, ?_⟩⟩
    obtain rfl := hb.mpr isp
    refine iteF ?_
    have pcs := pcs_at td
    have l1 : (mf1 R).length ≤ 1 := len_putF (Nat.le_refl 0)
    have pq : R ≠ q := ne_of hR hq fun z => nomatch z
    refine ⟨_, rfl, _, rfl, q, _, dx, _, rfl, hq, T.clB, T.nB_pieces, (by decide : 0 < 1000), ?_⟩
    have c1 : ∀ y o, y ≠ q → H y = some o → upd H q (.ins Z.cB dx (mf1 R)) y = some o := fun y o n e => by rw [upd_ne n]; exact e
    have i1 : upd H q (.ins Z.cB dx (mf1 R)) q = some (.ins Z.cB dx (mf1 R)) := upd_same
    have pne : ∀ {y : Addr} {pc : Pc}, H y = some (.tup (pcV pc)) → y ≠ q := fun e => ne_of e hq fun z => nomatch z
    have ps1 : PcsAt (upd H q (.ins Z.cB dx (mf1 R))) tr ps := Paired.imp (fun _ _ ⟨y, e, t⟩ => ⟨y, e, c1 _ _ (pne t) t⟩) pcs
    have R1 := c1 _ _ pq hR
    change tSeq _ _ _ _ (upd H q (.ins Z.cB dx (mf1 R)))
    generalize upd H q (.ins Z.cB dx (mf1 R)) = H1 at c1 i1 ps1 R1 ⊢
    have l2 : ∀ S, (mf2 R S).length ≤ 2 := fun S => len_putF l1
    have l3 : ∀ S A, (mf3 R S A).length ≤ 3 := fun S A => len_putF (l2 S)
    have l4 : ∀ S A z, (mf4 R S A z).length ≤ 4 := fun S A z => len_putF (l3 S A)
    refine ⟨_, rfl, R, tr, ps, rfl, R1, ps1, l8, fun S H2 hS s2 fS => ⟨_, rfl, q, _, dx, _, rfl, s2 _ _ i1, T.clB, T.nB_starts, Nat.lt_of_le_of_lt l1 (by decide), ?_⟩⟩
    have Sq : S ≠ q := ne_of fS (s2 _ _ i1) fun z => nomatch z
    have c2 : ∀ y o, y ≠ q → H2 y = some o → upd H2 q (.ins Z.cB dx (mf2 R S)) y = some o := fun y o n e => by rw [upd_ne n]; exact e
    have i2 : upd H2 q (.ins Z.cB dx (mf2 R S)) q = some (.ins Z.cB dx (mf2 R S)) := upd_same
    have k2 : ∀ y o, y ≠ q → H y = some o → upd H2 q (.ins Z.cB dx (mf2 R S)) y = some o := fun y o n e => c2 _ _ n (s2 _ _ (c1 _ _ n e))
    have S2 := c2 _ _ Sq fS
    change tSeq _ _ _ _ (upd H2 q (.ins Z.cB dx (mf2 R S)))
    generalize upd H2 q (.ins Z.cB dx (mf2 R S)) = H3 at c2 i2 k2 S2 ⊢
    have R2 := k2 _ _ pq hR
    have ps2 : PcsAt H3 tr ps := Paired.imp (fun _ _ ⟨y, e, t⟩ => ⟨y, e, k2 _ _ (pne t) t⟩) pcs
    refine ⟨_, rfl, R, tr, ps, rfl, R2, ps2, l8, fun A' H4 hA s4 fA => ⟨_, rfl, q, _, dx, _, rfl, s4 _ _ i2, T.clB, T.nB_ahead, Nat.lt_of_le_of_lt (l2 S) (by decide), ?_⟩⟩
    have Aq : A' ≠ q := ne_of fA (s4 _ _ i2) fun z => nomatch z
    have c4 : ∀ y o, y ≠ q → H4 y = some o → upd H4 q (.ins Z.cB dx (mf3 R S A')) y = some o := fun y o n e => by rw [upd_ne n]; exact e
    have i4 : upd H4 q (.ins Z.cB dx (mf3 R S A')) q = some (.ins Z.cB dx (mf3 R S A')) := upd_same
    have k4 : ∀ y o, y ≠ q → H y = some o → upd H4 q (.ins Z.cB dx (mf3 R S A')) y = some o := fun y o n e => c4 _ _ n (s4 _ _ (k2 _ _ n e))
    have S4 := c4 _ _ Sq (s4 _ _ S2)
    have A4 := c4 _ _ Aq fA
    change tSeq _ _ _ _ (upd H4 q (.ins Z.cB dx (mf3 R S A')))
    generalize upd H4 q (.ins Z.cB dx (mf3 R S A')) = H5 at c4 i4 k4 S4 A4 ⊢
    refine ⟨_, rfl, q, _, dx, _, _, rfl, i4, T.clB, T.nB_starts, mf3_starts _ _ _, _, rfl, S, _, _, _, rfl, rfl, SqT.of S4, stV_last ps, _, rfl, q, _, dx, _, rfl, i4, T.clB, T.nB_size, Nat.lt_of_le_of_lt (l3 S A') (by decide), ?_⟩
    refine ⟨_, rfl, q, _, dx, _, _, rfl, upd_same, T.clB, T.nB_ahead, mf4_ahead _ _ _ _, _, rfl, A', _, _, _, rfl, rfl, SqT.of (by rw [upd_ne Aq]; exact A4), ahV_last ps, _, rfl, q, _, dx, _, rfl, upd_same, T.clB, T.nB_new, Nat.lt_of_le_of_lt (l4 S A' _) (by decide), ?_⟩
    have c6 : ∀ y o, y ≠ q → H5 y = some o → upd (upd H5 q (.ins Z.cB dx (mf4 R S A' (pre ps ps.length)))) q (.ins Z.cB dx (mfs R S A' (pre ps ps.length) (aheadN ps ps.length))) y = some o := fun y o n e => by
      rw [upd_ne n, upd_ne n]
      exact e
    exact k _ ⟨dx, S, A', tr, upd_same, c6 _ _ pq (k4 _ _ pq hR), Paired.imp (fun _ _ ⟨y, e, t⟩ => ⟨y, e, c6 _ _ (pne t) (k4 _ _ (pne t) t)⟩) pcs, c6 _ _ Sq S4, c6 _ _ Aq A4⟩ fun y o n e => c6 _ _ n (k4 _ _ n e)
end
end TT

set_option maxHeartbeats 4000000
namespace TT
open PySem PySem.Spec PyProof.Rows L2 LamX TL
/-! ### the law's own reading of any value -/
theorem TD.iss {p : Addr → Prop} {H : Hp} {v : V} {d : PyData} (t : TD p H v d) : (∃ x, v = .str x ∧ d = .str x) ∨ ((∀ x, d ≠ .str x) ∧ isStr d = false) := by
  cases t with
  | str _ => exact .inl ⟨_, rfl, rfl⟩
  | bl b => exact .inr ⟨(fun _ z => by cases z), rfl⟩
  | int _ _ => exact .inr ⟨(fun _ z => by cases z), rfl⟩
  | non => exact .inr ⟨(fun _ z => by cases z), rfl⟩
  | lst _ _ _ => exact .inr ⟨(fun _ z => by cases z), rfl⟩
  | tup _ _ => exact .inr ⟨(fun _ z => by cases z), rfl⟩
theorem eqv_nil (ds : List PyData) : PyData.eqv (.tuple ds) (.tuple []) = ds.isEmpty := by
  cases ds with
  | nil => simp [PyData.eqv, PyData.eqvAll]
  | cons a t => simp [PyData.eqv, PyData.eqvAll]
/-- the first i are pieces, none too long -/
theorem Front.stopL {ds : List PyData} {i : Nat} {ps : List Pc} {d : PyData} (h : Front ds i ps) (hd : ds[i]? = some d) (no : ∀ c : Pc, d = dPc c → c.OkW (pre ps i) → c.len ≤ 10 ^ 30 → False) : ¬ IsPcs (.tuple ds) := by
  rintro ⟨qs, e, f, _, z⟩
  injection e with e
  have il := (List.getElem?_eq_some_iff.mp hd).1
  have u := h.uniq e (by omega)
  have lq : ds.length = qs.length := by rw [e, List.length_map]
  rw [e, List.getElem?_map] at hd
  obtain ⟨c, hc, hcd⟩ := Option.map_eq_some_iff.mp hd
  refine no c hcd.symm ?_ ?_
  · rw [u, pre_take]
    exact f i c hc
  · have mono : ∀ j : Nat, j ≤ qs.length → 0 ≤ pre qs j ∧ ∀ m : Nat, j + m ≤ qs.length → pre qs j ≤ pre qs (j + m) := by
      have step : ∀ j : Nat, j < qs.length → pre qs j ≤ pre qs (j + 1) := fun j hj => by
        have := pre_succ (List.getElem?_eq_getElem hj)
        have := (f j _ (List.getElem?_eq_getElem hj)).pos
        omega
      have nn : ∀ j : Nat, j ≤ qs.length → 0 ≤ pre qs j := by
        intro j
        induction j with
        | zero => intro _; rw [pre_zero]; exact Int.le_refl _
        | succ j ih => intro hj; have := ih (by omega); have := step j (by omega); omega
      intro j hj
      refine ⟨nn j hj, fun m => ?_⟩
      induction m with
      | zero => intro _; exact Int.le_refl _
      | succ m ih => intro hm; have := ih (by omega); have := step (j + m) (by omega); rw [← Nat.add_assoc]; omega
    have p1 := (mono i (by omega)).1
    have p2 := (mono (i + 1) (by omega)).2 (qs.length - (i + 1)) (by omega)
    rw [show i + 1 + (qs.length - (i + 1)) = qs.length by omega] at p2
    have p3 := pre_succ hc
    omega
def Pc.OkL (h : Int) (c : Pc) : Prop := c.OkW h ∧ c.len ≤ 10 ^ 30
def sp_l_is_int (p : Addr → Prop) : Sp := fun vs H Q _ => ∃ (v : V) (d : PyData) (lo hi : Int), vs = [v, .int lo, .int hi] ∧ TD p H v d ∧ ∀ b : Bool, (b = true ↔ ∃ i, d = .int i ∧ lo ≤ i ∧ i ≤ hi) → Q (.bl b) H
def sp_l_is_piece (p : Addr → Prop) : Sp := fun vs H Q _ => ∃ (v : V) (d : PyData) (h : Int), vs = [v, .int h] ∧ TD p H v d ∧ ∀ b : Bool, (b = true ↔ ∃ c : Pc, d = dPc c ∧ c.OkL h) → Q (.bl b) H
def sp_l_are_pieces (K : PySem.W.Frag) (p : Addr → Prop) : Sp := fun vs H Q _ => (∃ (v : V) (T : String), vs = [v] ∧ TyX K H v (.type T) ∧ PySem.W.kitOne K (.type T) (.type "tuple") = some false ∧ Q (.bl false) H) ∨
  ∃ (q : Addr) (xs : List V) (ds : List PyData), vs = [.ref q] ∧ H q = some (.tup xs) ∧ TDs p H xs ds ∧ PyData.depthAll ds ≤ 50 ∧ ∀ b : Bool, (b = true ↔ IsPcs (.tuple ds)) → ∀ H', Same H H' → Q (.bl b) H'
section
variable {P : Program} {w : World} {K : PySem.W.Frag} {mg : Str → Option Value} {base : Heap} {Z : Zs} {p : Addr → Prop}
theorem ok_l_is_int (T : Txt K mg Z) : FnOk P w K mg base CX0 1 Z.f_l_is_int Z.d_l_is_int ["_law_value", "_law_low", "_law_high"] (sp_l_is_int p) := by
  refine T.F_l_is_int.ok sc_l_is_int (fun vs H Q E h => ?_) (fun cdv A outer s H vs Q E hr h => ?_)
  · obtain ⟨v, d, lo, hi, rfl, _⟩ := h
    rfl
  · obtain ⟨v, d, lo, hi, rfl, t, k⟩ := h
    refine ⟨_, (pss_one (ps_ret (pe_and (pe_callB  call_isi (by rfl) T.b_isinstance (by decide +kernel) (pa_cons (pv 0) (pa_cons (pe_bltn (v := .ty "int") rfl T.b_int (by decide +kernel) rfl) pa_nil))) (pe_and (pe_not (pe_callB  call_isi (by rfl) T.b_isinstance (by decide +kernel) (pa_cons (pv 0) (pa_cons (pe_bltn (v := .ty "bool") rfl T.b_bool (by decide +kernel) rfl) pa_nil)))) (pe_one (pe_chain op_le op_le (pv 1) (pv 0) (pv 2))))))), ?_⟩
    have no : (∀ i, d ≠ .int i) → Q (.bl false) H := fun n => k false (noI (by rintro ⟨i, e, _⟩; exact n i e))
    have ty := t.ty (K := K)
    refine ⟨_, rfl, _, _, _, _, isIn d, rfl, .ty "int", ty, kit_in d, isIn d, rfl, ?_⟩
    cases t with
    | non => exact iteF (no fun _ z => by cases z)
    | str _ => exact iteF (no fun _ z => by cases z)
    | lst _ _ _ => exact iteF (no fun _ z => by cases z)
    | tup _ _ => exact iteF (no fun _ z => by cases z)
    | bl b => exact iteT ⟨_, rfl, _, _, _, _, true, rfl, .ty "bool", ty, kit_bl _, true, rfl, false, rfl, iteF (no fun _ z => by cases z)⟩
    | @int i h0 h1 =>
      refine iteT ⟨_, rfl, _, _, _, _, false, rfl, .ty "bool", ty, kit_bl _, false, rfl, true, rfl, iteT ?_⟩
      refine ⟨_, rfl, _, rfl, _, _, rfl, rfl, decide (lo ≤ i), rfl, ?_⟩
      by_cases c : lo ≤ i
      · rw [decide_eq_true c]
        refine iteT ⟨_, rfl, _, _, rfl, rfl, k _ ?_⟩
        rw [decide_eq_true_iff]
        exact ⟨fun z => ⟨i, rfl, c, z⟩, fun ⟨j, e, _, z⟩ => by cases e; exact z⟩
      · rw [decide_eq_false c]
        exact iteF (k false (noI (by rintro ⟨j, e, z, _⟩; cases e; exact c z)))
theorem ok_l_is_piece (T : Txt K mg Z) : FnOk P w K mg base CX0 2 Z.f_l_is_piece Z.d_l_is_piece ["_law_piece_here", "_law_here"] (sp_l_is_piece p) := by
  refine T.F_l_is_piece.ok sc_l_is_piece (fun vs H Q E h => ?_) (fun cdv A outer s H vs Q E hr h => ?_)
  · obtain ⟨v, d, h, rfl, _⟩ := h
    rfl
  · obtain ⟨v, d, h, rfl, t, k⟩ := h
    refine ⟨_, (pss_cons (ps_if (PW.pt (pw_or (pt_not (pt_val (pe_callB  call_isi (by rfl) T.b_isinstance (by decide +kernel) (pa_cons (pv 0) (pa_cons (pe_bltn (v := .ty "tuple") rfl T.b_tuple (by decide +kernel) rfl) pa_nil))))) (pw_or (pt_cmpR op_lt (pe_callB  call_len (by rfl) T.b_len (by decide +kernel) (pa_cons (pv 0) pa_nil)) pe_int (nomark _)) (pw_or1 (pt_not (pt_val (pe_callB  call_isi (by rfl) T.b_isinstance (by decide +kernel) (pa_cons (pe_ix ix_tup (pv 0) pe_int (fun _ _ => rfl)) (pa_cons (pe_bltn (v := .ty "str") rfl T.b_str (by decide +kernel) rfl) pa_nil))))))))) (pss_one (ps_ret pe_bl)) pss_nil)
      (pss_cons (ps_if (pt_cmpR op_eq (pe_ix ix_tup (pv 0) pe_int (fun _ _ => rfl)) pe_str (nomark _)) (pss_one (ps_ret (pe_and (pe_cmpR op_eq (pe_callB  call_len (by rfl) T.b_len (by decide +kernel) (pa_cons (pv 0) pa_nil)) pe_int (nomark _)) (pe_one (pe_call (ok_l_is_int (p := p) T) (hr.mono (by decide)) rfl T.g_l_is_int T.k_l_is_int T.bn_l_is_int .nil pass0 (pa_cons (pe_ix ix_tup (pv 0) pe_int (fun _ _ => rfl)) (pa_cons pe_int (pa_cons (pe_op op_powW pe_int pe_int) pa_nil)))))))) pss_nil)
      (pss_cons (ps_if (pt_cmpR op_eq (pe_ix ix_tup (pv 0) pe_int (fun _ _ => rfl)) pe_str (nomark _)) (pss_one (ps_ret (pe_and (pe_cmpR op_eq (pe_callB  call_len (by rfl) T.b_len (by decide +kernel) (pa_cons (pv 0) pa_nil)) pe_int (nomark _)) (pe_and (pe_call (ok_l_is_int (p := p) T) (hr.mono (by decide)) rfl T.g_l_is_int T.k_l_is_int T.bn_l_is_int .nil pass0 (pa_cons (pe_ix ix_tup (pv 0) pe_int (fun _ _ => rfl)) (pa_cons pe_int (pa_cons (pe_op op_powW pe_int pe_int) pa_nil)))) (pe_one (pe_call (ok_l_is_int (p := p) T) (hr.mono (by decide)) rfl T.g_l_is_int T.k_l_is_int T.bn_l_is_int .nil pass0 (pa_cons (pe_ix ix_tup (pv 0) pe_int (fun _ _ => rfl)) (pa_cons (pe_un un_neg (pe_op op_powW pe_int pe_int)) (pa_cons (pe_op op_powW pe_int pe_int) pa_nil))))))))) pss_nil)
      (pss_cons (ps_if (PW.pt (pw_or (pt_cmpR op_ne (pe_ix ix_tup (pv 0) pe_int (fun _ _ => rfl)) pe_str (nomark _)) (pw_or (pt_cmpR op_ne (pe_callB  call_len (by rfl) T.b_len (by decide +kernel) (pa_cons (pv 0) pa_nil)) pe_int (nomark _)) (pw_or1 (pt_not (pt_val (pe_call (ok_l_is_int (p := p) T) (hr.mono (by decide)) rfl T.g_l_is_int T.k_l_is_int T.bn_l_is_int .nil pass0 (pa_cons (pe_ix ix_tup (pv 0) pe_int (fun _ _ => rfl)) (pa_cons pe_int (pa_cons (pe_op op_sub (pv 1) pe_int) pa_nil)))))))))) (pss_one (ps_ret pe_bl)) pss_nil)
      (pss_cons (ps_if (PW.pt (pw_or (pt_not (pt_val (pe_call (ok_l_is_int (p := p) T) (hr.mono (by decide)) rfl T.g_l_is_int T.k_l_is_int T.bn_l_is_int .nil pass0 (pa_cons (pe_ix ix_tup (pv 0) pe_int (fun _ _ => rfl)) (pa_cons pe_int (pa_cons (pe_op op_powW pe_int pe_int) pa_nil)))))) (pw_or1 (pt_not (pt_val (pe_call (ok_l_is_int (p := p) T) (hr.mono (by decide)) rfl T.g_l_is_int T.k_l_is_int T.bn_l_is_int .nil pass0 (pa_cons (pe_ix ix_tup (pv 0) pe_int (fun _ _ => rfl)) (pa_cons (pe_un un_neg (pe_op op_powW pe_int pe_int)) (pa_cons (pe_op op_powW pe_int pe_int) pa_nil))))))))) (pss_one (ps_ret pe_bl)) pss_nil)
      (pss_cons (ps_if (PW.pt (pw_or (pt_not (pt_val (pe_callB  call_isi (by rfl) T.b_isinstance (by decide +kernel) (pa_cons (pe_ix ix_tup (pv 0) pe_int (fun _ _ => rfl)) (pa_cons (pe_bltn (v := .ty "bool") rfl T.b_bool (by decide +kernel) rfl) pa_nil))))) (pw_or1 (pt_not (pt_val (pe_callB  call_isi (by rfl) T.b_isinstance (by decide +kernel) (pa_cons (pe_ix ix_tup (pv 0) pe_int (fun _ _ => rfl)) (pa_cons (pe_bltn (v := .ty "bool") rfl T.b_bool (by decide +kernel) rfl) pa_nil)))))))) (pss_one (ps_ret pe_bl)) pss_nil)
      (pss_one (ps_ret (pe_or (pe_not (pe_ix ix_tup (pv 0) pe_int (fun _ _ => rfl))) (pe_one (pe_cmpR op_le (pe_op op_add (pe_ix ix_tup (pv 0) pe_int (fun _ _ => rfl)) (pe_ix ix_tup (pv 0) pe_int (fun _ _ => rfl))) (pv 1) (nomark _)))))))))))), ?_⟩
    have no : (∀ c : Pc, d = dPc c → c.OkL h → False) → Q (.bl false) H := fun c => k false (noI (by rintro ⟨x, e, o⟩; exact c x e o))
    have nt : isTup d = false → Q (.bl false) H := fun e => no fun c e2 _ => by
      subst e2
      cases c <;> cases e
    have ty := t.ty (K := K)
    refine ⟨_, rfl, _, _, _, _, isTup d, rfl, .ty "tuple", ty, kit_tup d, isTup d, rfl, ?_⟩
    cases t with
    | non => exact iteT (iteT (nt rfl))
    | bl b => exact iteT (iteT (nt rfl))
    | int _ _ => exact iteT (iteT (nt rfl))
    | str _ => exact iteT (iteT (nt rfl))
    | lst _ _ _ => exact iteT (iteT (nt rfl))
    | @tup q xs ds hq t =>
      refine iteF ?_
      have lx := t.len
      refine ⟨_, rfl, _, _, rfl, .inr ⟨_, SqT.of hq, rfl⟩, _, _, rfl, rfl, decide ((xs.length : Int) < 2), rfl, ?_⟩
      cases t with
      | nil => exact iteT (iteT (no fun c e _ => by cases c <;> cases e))
      | @cons v0 xs d0 ds t0 t =>
        have ta : TDs p H (v0 :: xs) (d0 :: ds) := .cons t0 t
        have a0 : atI (v0 :: xs) ((0 : Nat) : Int) = some v0 := atI_nat rfl
        by_cases l0 : ds.length = 0
        · rw [decide_eq_true (by rw [lx, List.length_cons]; omega)]
          refine iteT (iteT (no fun c e _ => ?_))
          have : ds = [] := List.length_eq_zero_iff.mp l0
          subst this
          cases c <;> cases e
        rw [decide_eq_false (by rw [lx, List.length_cons]; omega)]
        refine iteF ?_
        refine ⟨_, rfl, q, _, 0, v0, rfl, rfl, SqT.of hq, a0, _, _, _, _, isStr d0, rfl, .ty "str", t0.ty, kit_str d0, isStr d0, rfl, ?_⟩
        rcases t0.iss with ⟨x, rfl, rfl⟩ | ⟨n0, b0⟩
        case inr =>
          rw [b0]
          exact iteT (no fun c e _ => by cases c <;> cases e <;> exact n0 _ rfl)
        refine iteF ?_
        have ln : ∀ n : Nat, ds.length ≠ n → V.bl (decide (V.int ((V.str x :: xs).length : Int) = V.int ((n + 1 : Nat) : Int))) = V.bl false := fun n e => by
          rw [decide_eq_false fun z => by have := V.int.inj z; rw [lx, List.length_cons] at this; omega]
        have ly : ∀ n : Nat, ds.length = n → V.bl (decide (V.int ((V.str x :: xs).length : Int) = V.int ((n + 1 : Nat) : Int))) = V.bl true := fun n e => by
          rw [decide_eq_true (by rw [lx, List.length_cons, e])]
        have bg : (10 : Int) ^ 40 < 10 ^ 50 := by decide +kernel
        have within : ∀ {v : V} {e : PyData} {i : Int}, TD p H v e → e = .int i → -(10 ^ 40) < i ∧ i < 10 ^ 40 := fun te ee => by
          subst ee
          cases te with
          | int h0 h1 => exact ⟨h0, h1⟩
        by_cases e0 : x = Str.ofString "new"
        · subst e0
          refine ⟨_, rfl, q, _, 0, _, rfl, rfl, SqT.of hq, a0, rfl, true, by rw [decide_eq_true rfl], iteT ?_⟩
          by_cases l1 : ds.length = 1
          · obtain ⟨v1, d1, rfl, rfl, t1⟩ := t.one l1
            refine ⟨_, rfl, _, _, rfl, .inr ⟨_, SqT.of hq, rfl⟩, rfl, true, ly 1 l1, iteT ?_⟩
            refine ⟨_, rfl, q, _, 1, v1, rfl, rfl, SqT.of hq, rfl, _, _, rfl, rfl, ⟨by decide, by decide +kernel⟩, v1, d1, 1, _, rfl, t1, fun b hb => k b ?_⟩
            have hb : b = true ↔ ∃ i, d1 = .int i ∧ 1 ≤ i ∧ i ≤ 10 ^ 30 := hb
            rw [hb]
            exact ⟨fun ⟨i, e, z1, z2⟩ => ⟨.new i, by rw [e]; rfl, z1, z2⟩, fun ⟨c, e, o⟩ => by cases c <;> cases e; exact ⟨_, rfl, o.1, o.2⟩⟩
          · refine ⟨_, rfl, _, _, rfl, .inr ⟨_, SqT.of hq, rfl⟩, rfl, false, ln 1 l1, iteF (no fun c e _ => ?_)⟩
            cases c <;> cases e
            exact l1 rfl
        refine ⟨_, rfl, q, _, 0, _, rfl, rfl, SqT.of hq, a0, rfl, false, by rw [decide_eq_false fun z => e0 (V.str.inj z)], iteF ?_⟩
        by_cases e1 : x = Str.ofString "notes"
        · subst e1
          refine ⟨_, rfl, q, _, 0, _, rfl, rfl, SqT.of hq, a0, rfl, true, by rw [decide_eq_true rfl], iteT ?_⟩
          by_cases l2 : ds.length = 2
          · obtain ⟨v1, d1, v2, d2, rfl, rfl, t1, t2⟩ := t.two l2
            refine ⟨_, rfl, _, _, rfl, .inr ⟨_, SqT.of hq, rfl⟩, rfl, true, ly 2 l2, iteT ?_⟩
            refine ⟨_, rfl, q, _, 1, v1, rfl, rfl, SqT.of hq, rfl, _, _, rfl, rfl, ⟨by decide, by decide +kernel⟩, v1, d1, 1, _, rfl, t1, fun b hb => ⟨b, rfl, ?_⟩⟩
            have hb : b = true ↔ ∃ i, d1 = .int i ∧ 1 ≤ i ∧ i ≤ 10 ^ 30 := hb
            cases b with
            | false => exact iteF (no fun c e o => by cases c <;> cases e; have := hb.mpr ⟨_, rfl, o.1, o.2⟩; cases this)
            | true =>
              obtain ⟨l, rfl, z1, z2⟩ := hb.mp rfl
              refine iteT ⟨_, rfl, q, _, 2, v2, rfl, rfl, SqT.of hq, rfl, _, _, rfl, rfl, ⟨by decide, by decide +kernel⟩, _, rfl, _, _, rfl, rfl, ⟨by decide, by decide +kernel⟩, v2, d2, _, _, rfl, t2, fun b hb2 => k b ?_⟩
              have hb2 : b = true ↔ ∃ i, d2 = .int i ∧ -(10 ^ 50) ≤ i ∧ i ≤ 10 ^ 50 := hb2
              rw [hb2]
              exact ⟨fun ⟨i, e, _, _⟩ => ⟨.notes l i, by rw [e]; rfl, z1, z2⟩, fun ⟨c, e, o⟩ => by
                cases c <;> cases e
                have := within t2 rfl
                exact ⟨_, rfl, by omega, by omega⟩⟩
          · refine ⟨_, rfl, _, _, rfl, .inr ⟨_, SqT.of hq, rfl⟩, rfl, false, ln 2 l2, iteF (no fun c e _ => ?_)⟩
            cases c <;> cases e
            exact l2 rfl
        refine ⟨_, rfl, q, _, 0, _, rfl, rfl, SqT.of hq, a0, rfl, false, by rw [decide_eq_false fun z => e1 (V.str.inj z)], iteF ?_⟩
        by_cases e2 : x = Str.ofString "copy"
        case neg =>
          refine ⟨_, rfl, q, _, 0, _, rfl, rfl, SqT.of hq, a0, rfl, true, by rw [decide_eq_false fun z => e2 (V.str.inj z)] <;> rfl, iteT (iteT (no fun c e _ => ?_))⟩
          cases c <;> cases e
          · exact e0 rfl
          · exact e1 rfl
          · exact e2 rfl
        subst e2
        refine ⟨_, rfl, q, _, 0, _, rfl, rfl, SqT.of hq, a0, rfl, false, by rw [decide_eq_true rfl] <;> rfl, iteF ?_⟩
        by_cases l5 : ds.length = 5
        case neg =>
          refine ⟨_, rfl, _, _, rfl, .inr ⟨_, SqT.of hq, rfl⟩, rfl, true, by rw [show (!decide (V.int ((V.str (Str.ofString "copy") :: xs).length : Int) = V.int 6)) = true from congrArg (!·) (V.bl.inj (ln 5 l5))], iteT (iteT (no fun c e _ => ?_))⟩
          cases c <;> cases e
          exact l5 rfl
        refine ⟨_, rfl, _, _, rfl, .inr ⟨_, SqT.of hq, rfl⟩, rfl, false, by rw [show (!decide (V.int ((V.str (Str.ofString "copy") :: xs).length : Int) = V.int 6)) = false from congrArg (!·) (V.bl.inj (ly 5 l5))], iteF ?_⟩
        obtain ⟨w0, v1, v2, v3, v4, v5, g0, d1, d2, d3, d4, d5, ex, ed, _, t1, t2, t3, t4, t5⟩ := ta.six (by rw [List.length_cons, l5])
        injection ex with _ ex
        injection ed with _ ed
        subst ex
        subst ed
        refine ⟨_, rfl, q, _, 1, v1, rfl, rfl, SqT.of hq, rfl, _, rfl, _, _, rfl, rfl, v1, d1, 0, h - 1, rfl, t1, fun b1 hb1 => ⟨b1, rfl, ?_⟩⟩
        cases b1 with
        | false => exact iteT (no fun c e o => by cases c <;> cases e; have := hb1.mpr ⟨_, rfl, o.1.1, by have := o.1.2.1; omega⟩; cases this)
        | true =>
        obtain ⟨f, rfl, f0, f1⟩ := hb1.mp rfl
        refine iteF ?_
        refine ⟨_, rfl, q, _, 2, v2, rfl, rfl, SqT.of hq, rfl, _, _, rfl, rfl, ⟨by decide, by decide +kernel⟩, v2, d2, 1, _, rfl, t2, fun b2 hb2 => ⟨b2, rfl, ?_⟩⟩
        have hb2 : b2 = true ↔ ∃ i, d2 = .int i ∧ 1 ≤ i ∧ i ≤ 10 ^ 30 := hb2
        cases b2 with
        | false => exact iteT (iteT (no fun c e o => by cases c <;> cases e; have := hb2.mpr ⟨_, rfl, o.1.2.2.1, o.2⟩; cases this))
        | true =>
        obtain ⟨l, rfl, z1, z2⟩ := hb2.mp rfl
        refine iteF ?_
        refine ⟨_, rfl, q, _, 3, v3, rfl, rfl, SqT.of hq, rfl, _, _, rfl, rfl, ⟨by decide, by decide +kernel⟩, _, rfl, _, _, rfl, rfl, ⟨by decide, by decide +kernel⟩, v3, d3, _, _, rfl, t3, fun b3 hb3 => ⟨b3, rfl, ?_⟩⟩
        have hb3 : b3 = true ↔ ∃ i, d3 = .int i ∧ -(10 ^ 50) ≤ i ∧ i ≤ 10 ^ 50 := hb3
        cases b3 with
        | false => exact iteT (no fun c e o => by
            cases c <;> cases e
            have := within t3 rfl
            have := hb3.mpr ⟨_, rfl, by omega, by omega⟩
            cases this)
        | true =>
        obtain ⟨a, rfl, _, _⟩ := hb3.mp rfl
        refine iteF ?_
        refine ⟨_, rfl, q, _, 4, v4, rfl, rfl, SqT.of hq, rfl, _, _, _, _, isBl d4, rfl, .ty "bool", t4.ty, kit_bl d4, isBl d4, rfl, ?_⟩
        rcases t4.isb with ⟨dn, rfl, rfl⟩ | ⟨n4, b4⟩
        case inr =>
          rw [b4]
          exact iteT (iteT (no fun c e _ => by cases c <;> cases e; exact n4 _ rfl))
        refine iteF ?_
        refine ⟨_, rfl, q, _, 5, v5, rfl, rfl, SqT.of hq, rfl, _, _, _, _, isBl d5, rfl, .ty "bool", t5.ty, kit_bl d5, isBl d5, rfl, ?_⟩
        rcases t5.isb with ⟨bk, rfl, rfl⟩ | ⟨n5, b5⟩
        case inr =>
          rw [b5]
          exact iteT (no fun c e _ => by cases c <;> cases e; exact n5 _ rfl)
        refine iteF ?_
        refine ⟨_, rfl, q, _, 5, .bl bk, rfl, rfl, SqT.of hq, rfl, bk, rfl, !bk, rfl, ?_⟩
        cases bk with
        | false => exact iteT (k true ⟨fun _ => ⟨.copy f l a dn false, rfl, ⟨f0, by omega, z1, fun z => by cases z⟩, z2⟩, fun _ => rfl⟩)
        | true =>
          obtain rfl : v1 = .int f := by cases t1; rfl
          obtain rfl : v2 = .int l := by cases t2; rfl
          refine iteF ⟨_, rfl, q, _, 1, .int f, rfl, rfl, SqT.of hq, rfl, _, rfl, q, _, 2, .int l, rfl, rfl, SqT.of hq, rfl, _, _, rfl, rfl, _, rfl, _, _, rfl, rfl, k _ ?_⟩
          show decide (f + l ≤ h) = true ↔ _
          rw [decide_eq_true_iff]
          exact ⟨fun z => ⟨.copy f l a dn true, rfl, ⟨f0, by omega, z1, fun _ => z⟩, z2⟩, fun ⟨c, e, o⟩ => by cases c <;> cases e; exact o.1.2.2.2 rfl⟩
theorem ok_l_are_pieces (T : Txt K mg Z) : FnOk P w K mg base CX0 3 Z.f_l_are_pieces Z.d_l_are_pieces ["_law_value"] (sp_l_are_pieces K p) := by
  refine T.F_l_are_pieces.ok sc_l_are_pieces (fun vs H Q E h => ?_) (fun cdv A outer s H vs Q E hr h => ?_)
  · rcases h with ⟨v, t, rfl, _⟩ | ⟨q, xs, ds, rfl, _⟩ <;> rfl
  · refine ⟨_, (pss_cons (ps_if (PW.pt (pw_or (pt_not (pt_val (pe_callB  call_isi (by rfl) T.b_isinstance (by decide +kernel) (pa_cons (pv 0) (pa_cons (pe_bltn (v := .ty "tuple") rfl T.b_tuple (by decide +kernel) rfl) pa_nil))))) (pw_or1 (pt_cmpR (op_eqD (by exact hr.units)) (pv 0) (pe_tup pa_nil) (nomark _))))) (pss_one (ps_ret pe_bl)) pss_nil)
      (pss_cons (ps_set (i := 1) sc_l_are_pieces.nd rfl (Or.inl rfl) pe_int)
      (pss_cons (ps_for PassesOwn.never rfl (pi_tup (pv 0)) (pg_name (i := 2) sc_l_are_pieces.nd rfl (Or.inl rfl)) (pss_cons (ps_if (pt_not (pt_val (pe_call (ok_l_is_piece (p := p) T) (hr.mono (by decide)) rfl T.g_l_is_piece T.k_l_is_piece T.bn_l_is_piece .nil pass0 (pa_cons (pv 2) (pa_cons (pv 1) pa_nil))))) (pss_one (ps_ret pe_bl)) pss_nil)
      (pss_one (ps_set (i := 1) sc_l_are_pieces.nd rfl (Or.inl rfl) (pe_op op_add (pv 1) (pe_ifExp (pt_cmpR op_eq (pe_ix ix_tup (pv 2) pe_int (fun _ _ => rfl)) pe_str (nomark _)) (pe_ix ix_tup (pv 2) pe_int (fun _ _ => rfl)) (pe_ix ix_tup (pv 2) pe_int (fun _ _ => rfl))))))))
      (pss_one (ps_ret (pe_cmpR op_le (pv 1) (pe_op op_powW pe_int pe_int) (nomark _))))))), ?_⟩
    rcases h with ⟨v, t, rfl, ty, kt, k⟩ | ⟨q, xs, ds, rfl, hq, t, dep, k⟩
    · exact ⟨_, rfl, _, _, _, _, false, rfl, .ty "tuple", ty, kt, false, rfl, iteT (iteT k)⟩
    have lx := t.len
    refine ⟨_, rfl, _, _, _, _, true, rfl, .ty "tuple", .base (.tup hq), kit_ty (by decide +kernel), true, rfl, iteF ?_⟩
    refine ⟨_, rfl, by show 0 ≤ sizeLine; exact Nat.zero_le _, fun u hu => ?_⟩
    have s1 := Same.new (o := .tup []) (Same.refl H) hu
    have at1 : upd H u (.tup []) u = some (.tup []) := upd_same
    generalize upd H u (.tup []) = H1 at s1 at1 ⊢
    have hq1 := s1 _ _ hq
    have t1 := t.same s1
    have f1 := (TD.tup hq1 t1).fd
    have k1 : ∀ b : Bool, (b = true ↔ IsPcs (.tuple ds)) → Q (.bl b) H1 := fun b hb => k b hb H1 s1
    refine ⟨.tuple ds, .tuple [], (TD.tup hq1 t1).dp, .tup (SqT.of at1) .nil, f1.shaped (by rw [PyData.depth]; omega), by decide +kernel, _, rfl, ?_⟩
    rw [eqv_nil]
    cases ds with
    | nil => exact iteT (k1 false (noI (by rintro ⟨ps, e, _, l, _⟩; injection e with e; have := congrArg List.length e; rw [List.length_map] at this; simp at this; omega)))
    | cons d0 dt =>
    refine iteF ?_
    generalize hds : d0 :: dt = ds at *
    have n1 : 1 ≤ ds.length := by rw [← hds, List.length_cons]; omega
    refine ⟨_, rfl, q, rfl, ⟨_, SqT.of hq1⟩, for_tup (xs := xs) (fun i σ H' => ∃ v2 ps, σ = [some (.ref q), some (.int (pre ps i)), v2] ∧ H' = H1 ∧ Front ds i ps) ⟨_, [], rfl, rfl, rfl, rfl, fun i p h => by simp at h⟩ (fun i σ H' _ ⟨_, _, _, e, _⟩ => by rw [e]; exact SqT.of hq1) ?_ ?_⟩
    · rintro i x σ H2 hi ⟨v2, ps, rfl, rfl, fr⟩
      obtain ⟨d, hd, td⟩ := t1.at hi
      refine ⟨_, rfl, _, rfl, x, d, _, rfl, td, fun b hb => ⟨b, rfl, ?_⟩⟩
      cases b with
      | true =>
        obtain ⟨c, rfl, o⟩ := hb.mp rfl
        obtain ⟨y, rfl, hy⟩ := pc_at td
        refine iteF ?_
        have e : pre (ps ++ [c]) (i + 1) = pre ps i + c.len := by
          have := pre_snoc ps c
          rw [fr.1] at this
          exact this
        have fin : ∀ σ, σ = [some (V.ref q), some (V.int (pre ps i + c.len)), some (V.ref y)] → ∃ v2 ps, σ = [some (V.ref q), some (V.int (pre ps (i + 1))), v2] ∧ H2 = H2 ∧ Front ds (i + 1) ps := fun σ h => ⟨some (.ref y), ps ++ [c], by rw [h, e], rfl, fr.next hd o.1⟩
        cases c with
        | new l =>
          exact ⟨_, rfl, _, rfl, y, _, 0, .str "new", rfl, rfl, SqT.of hy, rfl, rfl, false, by rw [show decide (V.str "new" = V.str "copy") = false by decide +kernel], iteF ⟨_, rfl, y, _, 1, .int l, rfl, rfl, SqT.of hy, rfl, _, _, rfl, rfl, fin _ rfl⟩⟩
        | notes l x =>
          exact ⟨_, rfl, _, rfl, y, _, 0, .str "notes", rfl, rfl, SqT.of hy, rfl, rfl, false, by rw [show decide (V.str "notes" = V.str "copy") = false by decide +kernel], iteF ⟨_, rfl, y, _, 1, .int l, rfl, rfl, SqT.of hy, rfl, _, _, rfl, rfl, fin _ rfl⟩⟩
        | copy f l a d b =>
          exact ⟨_, rfl, _, rfl, y, _, 0, .str "copy", rfl, rfl, SqT.of hy, rfl, rfl, true, by rw [show decide (V.str "copy" = V.str "copy") = true by decide +kernel], iteT ⟨_, rfl, y, _, 2, .int l, rfl, rfl, SqT.of hy, rfl, _, _, rfl, rfl, fin _ rfl⟩⟩
      | false =>
        exact iteT (k1 false (noI (fr.stopL hd fun c e o l => by have := hb.mpr ⟨c, e, o, l⟩; cases this)))
    · rintro σ H2 ⟨v2, ps, rfl, rfl, fr⟩
      refine ⟨_, rfl, _, _, rfl, rfl, ⟨by decide, by decide +kernel⟩, _, _, rfl, rfl, k1 _ ?_⟩
      have tk := fr.2.1
      rw [lx, List.take_length] at tk
      have ll := fr.1
      show decide (pre ps xs.length ≤ 10 ^ 30) = true ↔ _
      rw [decide_eq_true_iff]
      rw [← ll]
      constructor
      · intro h
        exact ⟨ps, by rw [tk], fr.2.2, by omega, h⟩
      · rintro ⟨qs, e, f, _, h⟩
        injection e with e
        have : ps = qs := dPcs_inj (by rw [← tk, e])
        subst this
        exact h
end
end TT

set_option maxHeartbeats 4000000
namespace TT
open PySem PySem.Spec PyProof.Rows L2 LamX TL
/-! ### values bent -/
theorem bulk_app (a b : List PyData) : PyData.bulkAll (a ++ b) = PyData.bulkAll a + PyData.bulkAll b := by
  induction a with
  | nil => simp [PyData.bulkAll]
  | cons x t ih => rw [List.cons_append, PyData.bulkAll, PyData.bulkAll, ih]; omega
theorem depth_app (a b : List PyData) : PyData.depthAll (a ++ b) = max (PyData.depthAll a) (PyData.depthAll b) := by
  induction a with
  | nil => simp [PyData.depthAll]
  | cons x t ih => rw [List.cons_append, PyData.depthAll, PyData.depthAll, ih]; omega
theorem bulk_cut (ds : List PyData) (i n : Nat) : PyData.bulkAll ((ds.drop i).take n) ≤ PyData.bulkAll ds ∧ PyData.depthAll ((ds.drop i).take n) ≤ PyData.depthAll ds := by
  have h1 : PyData.bulkAll ds = PyData.bulkAll (ds.take i) + PyData.bulkAll (ds.drop i) := by rw [← bulk_app, List.take_append_drop]
  have h2 : PyData.bulkAll (ds.drop i) = PyData.bulkAll ((ds.drop i).take n) + PyData.bulkAll ((ds.drop i).drop n) := by rw [← bulk_app, List.take_append_drop]
  have h3 : PyData.depthAll ds = max (PyData.depthAll (ds.take i)) (PyData.depthAll (ds.drop i)) := by rw [← depth_app, List.take_append_drop]
  have h4 : PyData.depthAll (ds.drop i) = max (PyData.depthAll ((ds.drop i).take n)) (PyData.depthAll ((ds.drop i).drop n)) := by rw [← depth_app, List.take_append_drop]
  omega
theorem bulk_rev (ds : List PyData) : PyData.bulkAll ds.reverse = PyData.bulkAll ds ∧ PyData.depthAll ds.reverse = PyData.depthAll ds := by
  induction ds with
  | nil => simp
  | cons x t ih => rw [List.reverse_cons, bulk_app, depth_app, ih.1, ih.2]; simp only [PyData.bulkAll, PyData.depthAll]; omega
theorem bulk_mem : ∀ {ds : List PyData} {d : PyData}, d ∈ ds → d.bulk + 1 ≤ PyData.bulkAll ds
  | a :: t, d, h => by
    rw [PyData.bulkAll]
    rcases List.mem_cons.mp h with rfl | h
    · omega
    · have := bulk_mem h
      omega
/-- t[lo:hi] of tracked data -/
theorem slA {K : PySem.W.Frag} {H : Hp} {q : Addr} {xs : List V} {lo hi : Option Int} {Q : VK} (hq : H q = some (.tup xs)) (k : ∀ r H', Same H H' → H' r = some (.tup (cutV xs lo hi)) → Q (.ref r) H') : rSlA K (.ref q) lo hi H Q :=
  ⟨q, xs, rfl, SqT.of hq, fun w => k q H (Same.refl H) (by unfold cutV; rw [w.1, w.2, List.drop_zero, Nat.sub_zero, List.take_length]; exact hq), fun _ r hr => k r _ (Same.new (Same.refl H) hr) upd_same⟩
theorem catA {K : PySem.W.Frag} {H : Hp} {a b : Addr} {xs ys : List V} {Q : VK} (ha : H a = some (.tup xs)) (hb : H b = some (.tup ys)) (sz : xs.length + ys.length ≤ sizeLine) (k : ∀ r H', Same H H' → H' r = some (.tup (xs ++ ys)) → Q (.ref r) H') : rCatA K (.ref a) (.ref b) H Q := by
  refine ⟨a, b, xs, ys, rfl, rfl, SqT.of ha, SqT.of hb, sz, fun e => ?_, fun _ e => ?_, fun _ _ r hr => k r _ (Same.new (Same.refl H) hr) upd_same⟩
  · subst e
    exact k b H (Same.refl H) hb
  · subst e
    exact k a H (Same.refl H) (by rw [List.append_nil]; exact ha)
theorem TDs.cut {p : Addr → Prop} {H : Hp} {vs : List V} {ds : List PyData} (t : TDs p H vs ds) (lo hi : Option Int) : ∃ es, TDs p H (cutV vs lo hi) es ∧ PyData.bulkAll es ≤ PyData.bulkAll ds ∧ PyData.depthAll es ≤ PyData.depthAll ds :=
  ⟨_, (t.drop _).take _, bulk_cut ds _ _⟩
theorem log40 {i : Int} (h0 : -(10 ^ 40) < i) (h1 : i < 10 ^ 40) : i.natAbs.log2 < 1920 := by
  have e : (10 : Int) ^ 40 < 10 ^ 64 := by decide +kernel
  have := int_ok64 (i := i) (by omega) (by omega)
  rw [PyData.showable, decide_eq_true_eq] at this
  exact this
theorem word_os {x : String} : wordOk (Str.ofString x) = true := by
  unfold wordOk
  rw [Bool.and_eq_true]
  constructor
  · rw [PyData.canLay0]
    exact strOk_of _
  · simp only [PyData.leavesShort, List.all_eq_true, decide_eq_true_eq]
    intro c hc
    rw [Str.ofString_eq_toList] at hc
    simp only [List.toList_toArray, List.mem_map] at hc
    obtain ⟨ch, _, rfl⟩ := hc
    have h1 : ch.toNat < 1114112 := by
      have := ch.valid
      unfold UInt32.isValidChar Nat.isValidChar at this
      show ch.val.toNat < 1114112
      omega
    omega
theorem word_num {i : Int} (h0 : -(10 ^ 40) < i) (h1 : i < 10 ^ 40) : wordOk (Str.ofString (toString i)) = true := word_os
theorem num_size {i : Int} (h0 : -(10 ^ 20) < i) (h1 : i < 10 ^ 20) : (Str.ofString (toString i)).cps.size ≤ (3 * 0 + 3) * (PyData.int i).bulk + 80 := by
  have e : (10 : Int) ^ 20 < 10 ^ 64 := by decide +kernel
  have h : (Str.ofString (toString i)).cps.size ≤ 65 := int_len64 (i := i) (by omega) (by omega)
  omega
def leafOk : PyData → Prop
  | .bool _ => True
  | .int i => -(10 ^ 20) < i ∧ i < 10 ^ 20
  | .str x => x = Str.ofString "new" ∨ x = Str.ofString "notes" ∨ x = Str.ofString "copy"
  | _ => False
def Lv : Nat → PyData → Prop
  | 0, d => leafOk d
  | j + 1, d => ∃ ds, d = .tuple ds ∧ 1 ≤ ds.length ∧ ds.length ≤ 8 ∧ ∀ e ∈ ds, Lv j e
def sp_bent (j : Nat) : Sp := fun vs H Q _ => ∃ (p : Addr) (X : Addr → Prop) (n : Nat) (v : V) (d : PyData), vs = [.ref p, v] ∧ Pot H p n ∧ n + 10 * (j + 1) < 1000000 ∧ X p ∧ (∀ a, X a → H a ≠ none) ∧ TD X H v d ∧ Lv j d ∧ d.depth ≤ 10 ∧ d.bulk ≤ 1000 ∧
  ∀ (v' : V) (d' : PyData) (n' : Nat) (H' : Hp), TD X H' v' d' → d'.depth ≤ d.depth + 1 → d'.bulk ≤ (3 * j + 3) * d.bulk + 80 → n' ≤ n + 3 * (j + 1) → Pot H' p n' → Keep p H H' → Q v' H'
section
variable {P : Program} {w : World} {K : PySem.W.Frag} {mg : Str → Option Value} {base : Heap} {Z : Zs}
theorem ok_bent0 (T : Txt K mg Z) : FnOk P w K mg base CX0 4 Z.f_l_bent Z.d_l_bent ["_law_pot_here", "_law_value"] (sp_bent 0) := by
  refine T.F_l_bent.ok sc_l_bent (fun vs H Q E h => ?_) (fun cdv A outer s H vs Q E hr h => ?_)
  · obtain ⟨p, X, n, v, d, rfl, _⟩ := h
    rfl
  · obtain ⟨p, X, n, v, d, rfl, hp, hn, xp, al, t, lv, dep, bk, k⟩ := h
    have ty := t.ty (K := K)
    cases t with
    | non => cases lv
    | lst _ _ _ => cases lv
    | tup _ _ => cases lv
    | bl b =>
      refine ⟨_, (pss_cons (ps_if (PW.pt (pw_and (pt_val (pe_callB  call_isi (by rfl) T.b_isinstance (by decide +kernel) (pa_cons (pv 1) (pa_cons (pe_bltn (v := .ty "tuple") rfl T.b_tuple (by decide +kernel) rfl) pa_nil)))) (pw_and (pt_cmpR (op_neD (by exact hr.units)) (pv 1) (pe_tup pa_nil) (nomark _)) (pw_and1 (pt_cmpR op_gt (pe_call (ok_l_take T) (hr.mono (by decide)) rfl T.g_l_take T.k_l_take T.bn_l_take .nil pass0 (pa_cons (pv 0) (pa_cons pe_int pa_nil))) pe_int (nomark _)))))) (pss_cons ps_never (pss_one ps_never)) pss_nil)
      (pss_cons (ps_if (pt_val (pe_callB  call_isi (by rfl) T.b_isinstance (by decide +kernel) (pa_cons (pv 1) (pa_cons (pe_bltn (v := .ty "tuple") rfl T.b_tuple (by decide +kernel) rfl) pa_nil)))) (pss_one ps_never) pss_nil)
      (pss_cons (ps_if (pt_val (pe_callB  call_isi (by rfl) T.b_isinstance (by decide +kernel) (pa_cons (pv 1) (pa_cons (pe_bltn (v := .ty "bool") rfl T.b_bool (by decide +kernel) rfl) pa_nil)))) (pss_one (ps_ret (pe_call (ok_l_of T) (hr.mono (by decide)) rfl T.g_l_of T.k_l_of T.bn_l_of .nil pass0 (pa_cons (pv 0) (pa_cons (pe_lst (pa_cons (pe_not (pv 1)) (pa_cons (pe_callTy call_int1 (by rfl) T.b_int (by decide +kernel) (pa_cons (pv 1) pa_nil)) (pa_cons pe_non pa_nil)))) pa_nil))))) pss_nil)
      (pss_cons (ps_if (pt_val (pe_callB  call_isi (by rfl) T.b_isinstance (by decide +kernel) (pa_cons (pv 1) (pa_cons (pe_bltn (v := .ty "int") rfl T.b_int (by decide +kernel) rfl) pa_nil)))) (pss_one ps_never) pss_nil)
      (pss_cons (ps_if (pt_val (pe_callB  call_isi (by rfl) T.b_isinstance (by decide +kernel) (pa_cons (pv 1) (pa_cons (pe_bltn (v := .ty "str") rfl T.b_str (by decide +kernel) rfl) pa_nil)))) (pss_one ps_never) pss_nil)
      (pss_cons ps_never
      (pss_one ps_never))))))), ?_⟩
      refine ⟨_, rfl, _, _, _, _, false, rfl, .ty "tuple", ty, kit_tup _, false, rfl, iteF (iteF ?_)⟩
      refine ⟨_, rfl, _, _, _, _, false, rfl, .ty "tuple", ty, kit_tup _, false, rfl, iteF ?_⟩
      refine ⟨_, rfl, _, _, _, _, true, rfl, .ty "bool", ty, kit_bl _, true, rfl, iteT ?_⟩
      refine ⟨_, rfl, _, rfl, b, rfl, _, rfl, .inr ⟨b, rfl, by show 3 ≤ sizeLine; decide, fun a ha => ?_⟩⟩
      have sh := Same.new (o := .lst [.bl (!b), .int (if b = true then 1 else 0), .non]) (Same.refl H) ha
      have ath : upd H a (.lst [.bl (!b), .int (if b = true then 1 else 0), .non]) a = some (.lst [.bl (!b), .int (if b = true then 1 else 0), .non]) := upd_same
      have ap : a ≠ p := (hp.ne ha).symm
      generalize upd H a (.lst [.bl (!b), .int (if b = true then 1 else 0), .non]) = Hh at sh ath ⊢
      refine ⟨p, a, n, _, rfl, hp.same sh, by omega, ath, ap, Nat.zero_lt_succ _, by show 3 ≤ 1000; decide, fun v n' H' hv hn' hp' kp' => ?_⟩
      have kk : Keep p H H' := (Keep.of sh).trans kp'
      have out : ∀ v' d', TD X Hh v' d' → d'.depth ≤ 1 → d'.bulk ≤ 20 → Q v' H' := fun v' d' tv e1 e2 => k v' d' n' H' (tv.keep kp' (hp.same sh) xp) (by omega) (by omega) (by omega) hp' kk
      simp only [List.mem_cons, List.not_mem_nil, or_false] at hv
      rcases hv with rfl | rfl | rfl
      · exact out _ _ (.bl _) (by simp [PyData.depth]) (by simp [PyData.bulk])
      · exact out _ _ (.int (by cases b <;> decide +kernel) (by cases b <;> decide +kernel)) (by simp [PyData.depth]) (by simp [PyData.bulk])
      · exact out _ _ .non (by simp [PyData.depth]) (by simp [PyData.bulk])
    | @int i h0 h1 =>
      refine ⟨_, (pss_cons (ps_if (PW.pt (pw_and (pt_val (pe_callB  call_isi (by rfl) T.b_isinstance (by decide +kernel) (pa_cons (pv 1) (pa_cons (pe_bltn (v := .ty "tuple") rfl T.b_tuple (by decide +kernel) rfl) pa_nil)))) (pw_and (pt_cmpR (op_neD (by exact hr.units)) (pv 1) (pe_tup pa_nil) (nomark _)) (pw_and1 (pt_cmpR op_gt (pe_call (ok_l_take T) (hr.mono (by decide)) rfl T.g_l_take T.k_l_take T.bn_l_take .nil pass0 (pa_cons (pv 0) (pa_cons pe_int pa_nil))) pe_int (nomark _)))))) (pss_cons ps_never (pss_one ps_never)) pss_nil)
      (pss_cons (ps_if (pt_val (pe_callB  call_isi (by rfl) T.b_isinstance (by decide +kernel) (pa_cons (pv 1) (pa_cons (pe_bltn (v := .ty "tuple") rfl T.b_tuple (by decide +kernel) rfl) pa_nil)))) (pss_one ps_never) pss_nil)
      (pss_cons (ps_if (pt_val (pe_callB  call_isi (by rfl) T.b_isinstance (by decide +kernel) (pa_cons (pv 1) (pa_cons (pe_bltn (v := .ty "bool") rfl T.b_bool (by decide +kernel) rfl) pa_nil)))) (pss_one ps_never) pss_nil)
      (pss_cons (ps_if (pt_val (pe_callB  call_isi (by rfl) T.b_isinstance (by decide +kernel) (pa_cons (pv 1) (pa_cons (pe_bltn (v := .ty "int") rfl T.b_int (by decide +kernel) rfl) pa_nil)))) (pss_one (ps_ret (pe_call (ok_l_of T) (hr.mono (by decide)) rfl T.g_l_of T.k_l_of T.bn_l_of .nil pass0 (pa_cons (pv 0) (pa_cons (pe_lst (pa_cons (pe_op op_add (pv 1) pe_int) (pa_cons (pe_op op_sub (pv 1) pe_int) (pa_cons (pe_un un_neg (pv 1)) (pa_cons (pe_cmpR op_eq (pv 1) pe_int (nomark _)) (pa_cons (pe_callTy call_str_int (by rfl) T.b_str (by decide +kernel) (pa_cons (pv 1) pa_nil)) (pa_cons pe_int (pa_cons pe_non (pa_cons (pe_tup (pa_cons (pv 1) pa_nil)) pa_nil))))))))) pa_nil))))) pss_nil)
      (pss_cons (ps_if (pt_val (pe_callB  call_isi (by rfl) T.b_isinstance (by decide +kernel) (pa_cons (pv 1) (pa_cons (pe_bltn (v := .ty "str") rfl T.b_str (by decide +kernel) rfl) pa_nil)))) (pss_one ps_never) pss_nil)
      (pss_cons ps_never
      (pss_one ps_never))))))), ?_⟩
      refine ⟨_, rfl, _, _, _, _, false, rfl, .ty "tuple", ty, kit_tup _, false, rfl, iteF (iteF ?_)⟩
      refine ⟨_, rfl, _, _, _, _, false, rfl, .ty "tuple", ty, kit_tup _, false, rfl, iteF ?_⟩
      refine ⟨_, rfl, _, _, _, _, false, rfl, .ty "bool", ty, kit_bl _, false, rfl, iteF ?_⟩
      refine ⟨_, rfl, _, _, _, _, true, rfl, .ty "int", ty, kit_in _, true, rfl, iteT ?_⟩
      have lv' : -(10 ^ 20) < i ∧ i < 10 ^ 20 := lv
      have e20 : (10 : Int) ^ 20 + 1 < 10 ^ 40 := by decide +kernel
      refine ⟨_, rfl, _, rfl, _, _, rfl, rfl, _, rfl, _, _, rfl, rfl, _, rfl, _, rfl, _, rfl, rfl, _, rfl, i, rfl, log40 h0 h1, _, rfl, by show 1 ≤ sizeLine; decide, fun u hu => ⟨by show 8 ≤ sizeLine; decide, fun a ha => ?_⟩⟩
      have su := Same.new (o := .tup [.int i]) (Same.refl H) hu
      have atu : upd H u (.tup [.int i]) u = some (.tup [.int i]) := upd_same
      generalize upd H u (.tup [.int i]) = Hu at su atu ha ⊢
      have sa := Same.new (o := .lst [.int (i + 1), .int (i - 1), .int (-i), .bl (decide (V.int i = V.int 1)), .str (Str.ofString (toString i)), .int 0, .non, .ref u]) (Same.refl Hu) ha
      have ath : upd Hu a (.lst [.int (i + 1), .int (i - 1), .int (-i), .bl (decide (V.int i = V.int 1)), .str (Str.ofString (toString i)), .int 0, .non, .ref u]) a = some (.lst [.int (i + 1), .int (i - 1), .int (-i), .bl (decide (V.int i = V.int 1)), .str (Str.ofString (toString i)), .int 0, .non, .ref u]) := upd_same
      have ap : a ≠ p := ((hp.same su).ne ha).symm
      generalize upd Hu a (.lst [.int (i + 1), .int (i - 1), .int (-i), .bl (decide (V.int i = V.int 1)), .str (Str.ofString (toString i)), .int 0, .non, .ref u]) = Hh at sa ath ⊢
      have sh := su.trans sa
      refine ⟨p, a, n, _, rfl, hp.same sh, by omega, ath, ap, Nat.zero_lt_succ _, by show 8 ≤ 1000; decide, fun v n' H' hv hn' hp' kp' => ?_⟩
      have kk : Keep p H H' := (Keep.of sh).trans kp'
      have out : ∀ v' d', TD X Hh v' d' → d'.depth ≤ 1 → d'.bulk ≤ 20 → Q v' H' := fun v' d' tv e1 e2 => k v' d' n' H' (tv.keep kp' (hp.same sh) xp) (by omega) (by omega) (by omega) hp' kk
      simp only [List.mem_cons, List.not_mem_nil, or_false] at hv
      rcases hv with rfl | rfl | rfl | rfl | rfl | rfl | rfl | rfl
      · exact out _ _ (.int (by omega) (by omega)) (by simp [PyData.depth]) (by simp [PyData.bulk])
      · exact out _ _ (.int (by omega) (by omega)) (by simp [PyData.depth]) (by simp [PyData.bulk])
      · exact out _ _ (.int (by omega) (by omega)) (by simp [PyData.depth]) (by simp [PyData.bulk])
      · exact out _ _ (.bl _) (by simp [PyData.depth]) (by simp [PyData.bulk])
      · exact k _ (.str (Str.ofString (toString i))) n' H' (.str (word_num h0 h1)) (by simp [PyData.depth]) (by rw [PyData.bulk]; exact num_size lv'.1 lv'.2) (by omega) hp' kk
      · exact out _ _ (.int (by decide +kernel) (by decide +kernel)) (by simp [PyData.depth]) (by simp [PyData.bulk])
      · exact out _ _ .non (by simp [PyData.depth]) (by simp [PyData.bulk])
      · exact out _ _ (.tup (sa _ _ atu) (.cons (.int h0 h1) .nil)) (by simp [PyData.depth, PyData.depthAll]) (by simp [PyData.bulk, PyData.bulkAll])
    | @str x h =>
      refine ⟨_, (pss_cons (ps_if (PW.pt (pw_and (pt_val (pe_callB  call_isi (by rfl) T.b_isinstance (by decide +kernel) (pa_cons (pv 1) (pa_cons (pe_bltn (v := .ty "tuple") rfl T.b_tuple (by decide +kernel) rfl) pa_nil)))) (pw_and (pt_cmpR (op_neD (by exact hr.units)) (pv 1) (pe_tup pa_nil) (nomark _)) (pw_and1 (pt_cmpR op_gt (pe_call (ok_l_take T) (hr.mono (by decide)) rfl T.g_l_take T.k_l_take T.bn_l_take .nil pass0 (pa_cons (pv 0) (pa_cons pe_int pa_nil))) pe_int (nomark _)))))) (pss_cons ps_never (pss_one ps_never)) pss_nil)
      (pss_cons (ps_if (pt_val (pe_callB  call_isi (by rfl) T.b_isinstance (by decide +kernel) (pa_cons (pv 1) (pa_cons (pe_bltn (v := .ty "tuple") rfl T.b_tuple (by decide +kernel) rfl) pa_nil)))) (pss_one ps_never) pss_nil)
      (pss_cons (ps_if (pt_val (pe_callB  call_isi (by rfl) T.b_isinstance (by decide +kernel) (pa_cons (pv 1) (pa_cons (pe_bltn (v := .ty "bool") rfl T.b_bool (by decide +kernel) rfl) pa_nil)))) (pss_one ps_never) pss_nil)
      (pss_cons (ps_if (pt_val (pe_callB  call_isi (by rfl) T.b_isinstance (by decide +kernel) (pa_cons (pv 1) (pa_cons (pe_bltn (v := .ty "int") rfl T.b_int (by decide +kernel) rfl) pa_nil)))) (pss_one ps_never) pss_nil)
      (pss_cons (ps_if (pt_val (pe_callB  call_isi (by rfl) T.b_isinstance (by decide +kernel) (pa_cons (pv 1) (pa_cons (pe_bltn (v := .ty "str") rfl T.b_str (by decide +kernel) rfl) pa_nil)))) (pss_one (ps_ret (pe_call (ok_l_of T) (hr.mono (by decide)) rfl T.g_l_of T.k_l_of T.bn_l_of .nil pass0 (pa_cons (pv 0) (pa_cons (pe_lst (pa_cons (pe_op op_add_str (pv 1) pe_str) (pa_cons (pe_slice sl_str (pv 1) po_none (po_some (pe_un un_neg pe_int))) (pa_cons (pe_m0 PySem.F.slot_str_upper PySem.F.type_str_upper mt_upper (pv 1)) (pa_cons pe_str (pa_cons pe_str (pa_cons pe_str (pa_cons pe_non (pa_cons (pe_lst (pa_cons (pv 1) pa_nil)) pa_nil))))))))) pa_nil))))) pss_nil)
      (pss_cons ps_never
      (pss_one ps_never))))))), ?_⟩
      refine ⟨_, rfl, _, _, _, _, false, rfl, .ty "tuple", ty, kit_tup _, false, rfl, iteF (iteF ?_)⟩
      refine ⟨_, rfl, _, _, _, _, false, rfl, .ty "tuple", ty, kit_tup _, false, rfl, iteF ?_⟩
      refine ⟨_, rfl, _, _, _, _, false, rfl, .ty "bool", ty, kit_bl _, false, rfl, iteF ?_⟩
      refine ⟨_, rfl, _, _, _, _, false, rfl, .ty "int", ty, kit_in _, false, rfl, iteF ?_⟩
      refine ⟨_, rfl, _, _, _, _, true, rfl, .ty "str", ty, kit_str _, true, rfl, iteT ?_⟩
      have hx : x.length ≤ 5 ∧ wordOk (x ++ Str.ofString "x") = true ∧ (x ++ Str.ofString "x").cps.size ≤ 6 ∧ wordOk (cutS x none (some (-1))) = true ∧ (cutS x none (some (-1))).cps.size ≤ 6 ∧ wordOk (Txt.upper x) = true ∧ (Txt.upper x).cps.size ≤ 6 ∧ x.cps.size ≤ 6 := by
        rcases lv with rfl | rfl | rfl <;> decide +kernel
      obtain ⟨x1, x2, x3, x4, x5, x6, x7, x8⟩ := hx
      have sl : sizeLine = 16777216 := sizeLine_eq
      refine ⟨_, rfl, _, rfl, x, _, rfl, rfl, by show x.length + (Str.ofString "x").length ≤ sizeLine; rw [show (Str.ofString "x").length = 1 by decide +kernel]; omega, _, rfl, _, rfl, _, rfl, x, rfl, by omega, _, rfl, ⟨x, rfl⟩, x, rfl, rfl, by omega, _, rfl, by show 1 ≤ sizeLine; decide, fun u hu => ⟨by show 8 ≤ sizeLine; decide, fun a ha => ?_⟩⟩
      have su := Same.new (o := .lst [.str x]) (Same.refl H) hu
      have atu : upd H u (.lst [.str x]) u = some (.lst [.str x]) := upd_same
      have up : ¬ X u := fun z => al u z hu
      generalize upd H u (.lst [.str x]) = Hu at su atu ha ⊢
      have sa := Same.new (o := .lst [.str (x ++ Str.ofString "x"), .str (cutS x none (some (-1))), .str (Txt.upper x), .str "back", .str "told", .str "copy", .non, .ref u]) (Same.refl Hu) ha
      have ath : upd Hu a (.lst [.str (x ++ Str.ofString "x"), .str (cutS x none (some (-1))), .str (Txt.upper x), .str "back", .str "told", .str "copy", .non, .ref u]) a = some (.lst [.str (x ++ Str.ofString "x"), .str (cutS x none (some (-1))), .str (Txt.upper x), .str "back", .str "told", .str "copy", .non, .ref u]) := upd_same
      have ap : a ≠ p := ((hp.same su).ne ha).symm
      generalize upd Hu a (.lst [.str (x ++ Str.ofString "x"), .str (cutS x none (some (-1))), .str (Txt.upper x), .str "back", .str "told", .str "copy", .non, .ref u]) = Hh at sa ath ⊢
      have sh := su.trans sa
      refine ⟨p, a, n, _, rfl, hp.same sh, by omega, ath, ap, Nat.zero_lt_succ _, by show 8 ≤ 1000; decide, fun v n' H' hv hn' hp' kp' => ?_⟩
      have kk : Keep p H H' := (Keep.of sh).trans kp'
      have out : ∀ v' d', TD X Hh v' d' → d'.depth ≤ 1 → d'.bulk ≤ 20 → Q v' H' := fun v' d' tv e1 e2 => k v' d' n' H' (tv.keep kp' (hp.same sh) xp) (by omega) (by omega) (by omega) hp' kk
      simp only [List.mem_cons, List.not_mem_nil, or_false] at hv
      have wd : ∀ {y : Str}, wordOk y = true → y.cps.size ≤ 6 → Q (.str y) H' := fun h1 h2 => out _ _ (.str h1) (by simp [PyData.depth]) (by rw [PyData.bulk]; omega)
      rcases hv with rfl | rfl | rfl | rfl | rfl | rfl | rfl | rfl
      · exact wd x2 x3
      · exact wd x4 x5
      · exact wd x6 x7
      · exact wd (by decide +kernel) (by decide +kernel)
      · exact wd (by decide +kernel) (by decide +kernel)
      · exact wd (by decide +kernel) (by decide +kernel)
      · exact out _ _ .non (by simp [PyData.depth]) (by simp [PyData.bulk])
      · exact out _ _ (.lst up (sa _ _ atu) (.cons (.str h) .nil)) (by simp [PyData.depth, PyData.depthAll]) (by simp [PyData.bulk, PyData.bulkAll]; omega)
end
end TT

set_option maxHeartbeats 4000000
namespace TT
open PySem PySem.Spec PyProof.Rows L2 LamX TL
section
variable {P : Program} {w : World} {K : PySem.W.Frag} {mg : Str → Option Value} {base : Heap} {Z : Zs}
theorem ok_bent1 (T : Txt K mg Z) : FnOk P w K mg base CX0 5 Z.f_l_bent Z.d_l_bent ["_law_pot_here", "_law_value"] (sp_bent (0 + 1)) := by
  refine T.F_l_bent.ok sc_l_bent (fun vs H Q E h => ?_) (fun cdv A outer s H vs Q E hr h => ?_)
  · obtain ⟨p, X, n, v, d, rfl, _⟩ := h
    rfl
  · obtain ⟨p, X, n, v, d, rfl, hp, hn, xp, al, t, ⟨ds, rfl, l1, l8, lv⟩, dep, bk, k⟩ := h
    cases t with
    | @tup q xs _ hq t =>
    refine ⟨_, (pss_cons (ps_if (PW.pt (pw_and (pt_val (pe_callB  call_isi (by rfl) T.b_isinstance (by decide +kernel) (pa_cons (pv 1) (pa_cons (pe_bltn (v := .ty "tuple") rfl T.b_tuple (by decide +kernel) rfl) pa_nil)))) (pw_and (pt_cmpR (op_neD (by exact hr.units)) (pv 1) (pe_tup pa_nil) (nomark _)) (pw_and1 (pt_cmpR op_gt (pe_call (ok_l_take T) (hr.mono (by decide)) rfl T.g_l_take T.k_l_take T.bn_l_take .nil pass0 (pa_cons (pv 0) (pa_cons pe_int pa_nil))) pe_int (nomark _)))))) (pss_cons (ps_set (i := 2) sc_l_bent.nd rfl (Or.inl rfl) (pe_call (ok_l_take T) (hr.mono (by decide)) rfl T.g_l_take T.k_l_take T.bn_l_take .nil pass0 (pa_cons (pv 0) (pa_cons (pe_callB  call_len (by rfl) T.b_len (by decide +kernel) (pa_cons (pv 1) pa_nil)) pa_nil))))
      (pss_one (ps_ret (pe_op op_catA (pe_op op_catA (pe_slice sl_tupA (pv 1) po_none (po_some (pv 2))) (pe_tup (pa_cons (pe_call (ok_bent0 T) (hr.mono (by decide)) rfl T.g_l_bent T.k_l_bent T.bn_l_bent .nil pass0 (pa_cons (pv 0) (pa_cons (pe_ix ix_tup (pv 1) (pv 2) (fun _ _ => rfl)) pa_nil))) pa_nil))) (pe_slice sl_tupA (pv 1) (po_some (pe_op op_add (pv 2) pe_int)) po_none))))) pss_nil)
      (pss_cons (ps_if (pt_val (pe_callB  call_isi (by rfl) T.b_isinstance (by decide +kernel) (pa_cons (pv 1) (pa_cons (pe_bltn (v := .ty "tuple") rfl T.b_tuple (by decide +kernel) rfl) pa_nil)))) (pss_one (ps_ret (pe_call (ok_l_of T) (hr.mono (by decide)) rfl T.g_l_of T.k_l_of T.bn_l_of .nil pass0 (pa_cons (pv 0) (pa_cons (pe_lst (pa_cons (pe_callTy call_list_of (by rfl) T.b_list (by decide +kernel) (pa_cons (pv 1) pa_nil)) (pa_cons (pe_slice sl_tupA (pv 1) (po_some pe_int) po_none) (pa_cons (pe_slice sl_tupA (pv 1) po_none (po_some (pe_un un_neg pe_int))) (pa_cons (pe_op op_catA (pv 1) (pe_slice sl_tupA (pv 1) (po_some (pe_un un_neg pe_int)) po_none)) (pa_cons (pe_revT (pv 1)) (pa_cons (pe_tup pa_nil) (pa_cons pe_non pa_nil)))))))) pa_nil))))) pss_nil)
      (pss_cons (ps_if (pt_val (pe_callB  call_isi (by rfl) T.b_isinstance (by decide +kernel) (pa_cons (pv 1) (pa_cons (pe_bltn (v := .ty "bool") rfl T.b_bool (by decide +kernel) rfl) pa_nil)))) (pss_one ps_never) pss_nil)
      (pss_cons (ps_if (pt_val (pe_callB  call_isi (by rfl) T.b_isinstance (by decide +kernel) (pa_cons (pv 1) (pa_cons (pe_bltn (v := .ty "int") rfl T.b_int (by decide +kernel) rfl) pa_nil)))) (pss_one ps_never) pss_nil)
      (pss_cons (ps_if (pt_val (pe_callB  call_isi (by rfl) T.b_isinstance (by decide +kernel) (pa_cons (pv 1) (pa_cons (pe_bltn (v := .ty "str") rfl T.b_str (by decide +kernel) rfl) pa_nil)))) (pss_one ps_never) pss_nil)
      (pss_cons ps_never
      (pss_one ps_never))))))), ?_⟩
    have sl : sizeLine = 16777216 := sizeLine_eq
    have lx := t.len
    have lx8 : xs.length ≤ 8 := by omega
    have e8 : (8 : Int) < 10 ^ 60 := by decide +kernel
    have tq : TD X H (.ref q) (.tuple ds) := .tup hq t
    have bk' : PyData.bulkAll ds ≤ 1000 := by rw [PyData.bulk] at bk; exact bk
    have dep' : PyData.depthAll ds + 1 ≤ 10 := by rw [PyData.depth] at dep; omega
    refine ⟨_, rfl, _, _, _, _, true, rfl, .ty "tuple", .base (.tup hq), kit_ty (by decide +kernel), true, rfl, iteT ?_⟩
    refine ⟨_, rfl, by show 0 ≤ sizeLine; exact Nat.zero_le _, fun u0 hu0 => ?_⟩
    have s0 := Same.new (o := .tup []) (Same.refl H) hu0
    have at0 : upd H u0 (.tup []) u0 = some (.tup []) := upd_same
    generalize upd H u0 (.tup []) = H0 at s0 at0 ⊢
    have tq0 := tq.same s0
    refine ⟨.tuple ds, .tuple [], tq0.dp, .tup (SqT.of at0) .nil, tq0.fd.shaped (by rw [PyData.depth]; omega), by decide +kernel, true, ?_, iteT ?_⟩
    · rw [eqv_nil]
      cases ds with
      | nil => simp at l1
      | cons a t => rfl
    have hp0 := hp.same s0
    have hq0 := s0 _ _ hq
    have t0 := t.same s0
    refine ⟨_, rfl, p, n, 5, rfl, hp0, by omega, by decide, by decide, fun d1 n1 H1 a0 a1 hn1 hp1 k1 => ⟨_, _, rfl, rfl, decide (0 < d1), rfl, ?_⟩⟩
    have kp1 : Keep p H H1 := (Keep.of s0).trans k1
    have hq1 := k1 _ _ (hp0.off hq0 fun _ z => nomatch z) hq0
    have t1 := t0.keep k1 hp0 xp
    by_cases c : 0 < d1
    · rw [decide_eq_true c]
      refine iteT ?_
      refine ⟨_, rfl, _, rfl, _, _, rfl, .inr ⟨_, SqT.of hq1, rfl⟩, p, n1, _, rfl, hp1, by omega, by omega, by omega, fun d2 n2 H2 b0 b1 hn2 hp2 k2 => ?_⟩
      obtain ⟨i, rfl⟩ : ∃ i : Nat, d2 = (i : Int) := ⟨d2.toNat, by omega⟩
      have il : i < xs.length := by omega
      have hq2 := k2 _ _ (hp1.off hq1 fun _ z => nomatch z) hq1
      have t2 := t1.keep k2 hp1 xp
      obtain ⟨d, hd⟩ : ∃ d, ds[i]? = some d := ⟨_, List.getElem?_eq_getElem (by omega)⟩
      obtain ⟨y, hy⟩ : ∃ y, xs[i]? = some y := ⟨_, List.getElem?_eq_getElem il⟩
      have dm := List.mem_of_getElem? hd
      have bm := bulk_mem dm
      have dpm := depth_mem dm
      refine ⟨_, rfl, _, rfl, _, rfl, slA hq2 fun r1 H3 s3 hr1 => ?_⟩
      obtain ⟨es1, e1, eb1, ed1⟩ := (t2.same s3).cut none (some (i : Int))
      have hq3 := s3 _ _ hq2
      have t3 := t2.same s3
      obtain ⟨d', hd', td⟩ := t3.at hy
      rw [hd] at hd'
      obtain rfl := Option.some.inj hd'
      refine ⟨_, rfl, _, rfl, _, rfl, q, xs, _, y, rfl, rfl, SqT.of hq3, atI_nat hy, p, X, n2, y, d, rfl, hp2.same s3, by omega, xp, al_same (al_keep al (kp1.trans k2) hp2) s3, td, lv d dm, by omega, by omega, fun v' d' n4 H4 tv vd vb hn4 hp4 k4 => ?_⟩
      have hq4 := k4 _ _ ((hp2.same s3).off hq3 fun _ z => nomatch z) hq3
      have t4 := t3.keep k4 (hp2.same s3) xp
      have hr14 := k4 _ _ ((hp2.same s3).off hr1 fun _ z => nomatch z) hr1
      have e14 := e1.keep k4 (hp2.same s3) xp
      refine ⟨by show 1 ≤ sizeLine; decide, fun u hu => ?_⟩
      have su := Same.new (o := .tup [v']) (Same.refl H4) hu
      have atu : upd H4 u (.tup [v']) u = some (.tup [v']) := upd_same
      generalize upd H4 u (.tup [v']) = H5 at su atu ⊢
      have cl : (cutV xs none (some (i : Int))).length ≤ xs.length := cutV_length _ _ _
      refine catA (su _ _ hr14) atu (by rw [List.length_singleton]; omega) fun r2 H6 s6 hr2 => ?_
      have s56 := su.trans s6
      refine ⟨_, rfl, _, rfl, _, _, rfl, rfl, _, rfl, ?_⟩
      try unfold tNoPart
      refine slA (s56 _ _ hq4) fun r3 H7 s7 hr3 => ?_
      obtain ⟨es3, e3, eb3, ed3⟩ := ((t4.same s56).same s7).cut (some ((i : Int) + 1)) none
      have cl2 : (cutV xs (some ((i : Int) + 1)) none).length ≤ xs.length := cutV_length _ _ _
      refine catA (s7 _ _ hr2) hr3 (by rw [List.length_append, List.length_singleton]; omega) fun r4 H8 s8 hr4 => ?_
      have s58 := (s56.trans s7).trans s8
      have fin : TDs X H8 (cutV xs none (some (i : Int)) ++ [v'] ++ cutV xs (some ((i : Int) + 1)) none) (es1 ++ [d'] ++ es3) := TDs.app (e3.same s8) (TDs.app (.cons (tv.same s58) .nil) (e14.same s58))
      refine k _ _ n4 H8 (.tup hr4 fin) ?_ ?_ (by omega) (hp4.same s58) (((kp1.trans k2).same s3).trans (k4.same s58))
      · simp only [PyData.depth, depth_app, PyData.depthAll]
        omega
      · simp only [PyData.bulk, bulk_app, PyData.bulkAll]
        omega
    · rw [decide_eq_false c]
      refine iteF ?_
      refine ⟨_, rfl, _, _, _, _, true, rfl, .ty "tuple", .base (.tup hq1), kit_ty (by decide +kernel), true, rfl, iteT ?_⟩
      refine ⟨_, rfl, _, rfl, q, xs, rfl, .inr (SqT.of hq1), fun b1 h1 => ?_⟩
      have n1' : ¬ X b1 := fun z => al_keep al kp1 hp1 b1 z h1
      have sa := Same.new (o := .lst xs) (Same.refl H1) h1
      have ata : upd H1 b1 (.lst xs) b1 = some (.lst xs) := upd_same
      generalize upd H1 b1 (.lst xs) = Ha at sa ata ⊢
      refine ⟨_, rfl, _, rfl, ?_⟩
      try unfold tNoPart
      refine slA (sa _ _ hq1) fun b2 Hb sb h2 => ?_
      refine ⟨_, rfl, _, rfl, _, rfl, slA (sb _ _ (sa _ _ hq1)) fun b3 Hc sc h3 => ?_⟩
      have s1c := (sa.trans sb).trans sc
      refine ⟨_, rfl, _, rfl, _, rfl, _, rfl, ?_⟩
      try unfold tNoPart
      refine slA (s1c _ _ hq1) fun b4 Hd sd h4 => ?_
      have cl : (cutV xs (some (-1)) none).length ≤ xs.length := cutV_length _ _ _
      refine catA ((s1c.trans sd) _ _ hq1) h4 (by omega) fun b5 He se h5 => ?_
      have s1e := (s1c.trans sd).trans se
      refine ⟨_, rfl, q, xs, rfl, SqT.of (s1e _ _ hq1), fun b6 h6 => ?_⟩
      have sf := Same.new (o := .tup xs.reverse) (Same.refl He) h6
      have atf : upd He b6 (.tup xs.reverse) b6 = some (.tup xs.reverse) := upd_same
      generalize upd He b6 (.tup xs.reverse) = Hf at sf atf ⊢
      refine ⟨by show 0 ≤ sizeLine; exact Nat.zero_le _, fun b7 h7 => ?_⟩
      have sg := Same.new (o := .tup []) (Same.refl Hf) h7
      have atg : upd Hf b7 (.tup []) b7 = some (.tup []) := upd_same
      generalize upd Hf b7 (.tup []) = Hg at sg atg ⊢
      refine ⟨by show 7 ≤ sizeLine; decide, fun a ha => ?_⟩
      have sh := Same.new (o := .lst [.ref b1, .ref b2, .ref b3, .ref b5, .ref b6, .ref b7, .non]) (Same.refl Hg) ha
      have ath : upd Hg a (.lst [.ref b1, .ref b2, .ref b3, .ref b5, .ref b6, .ref b7, .non]) a = some (.lst [.ref b1, .ref b2, .ref b3, .ref b5, .ref b6, .ref b7, .non]) := upd_same
      generalize upd Hg a (.lst [.ref b1, .ref b2, .ref b3, .ref b5, .ref b6, .ref b7, .non]) = Hh at sh ath ⊢
      have s1h := ((s1e.trans sf).trans sg).trans sh
      have hph := hp1.same s1h
      have ap : a ≠ p := (((hp1.same s1e).same (sf.trans sg)).ne ha).symm
      refine ⟨p, a, n1, _, rfl, hph, by omega, ath, ap, Nat.zero_lt_succ _, by show 7 ≤ 1000; decide, fun v n' H' hv hn' hp' kp' => ?_⟩
      have kk : Keep p H H' := (kp1.same s1h).trans kp'
      have th := t1.same s1h
      have out : ∀ v' d', TD X Hh v' d' → d'.depth ≤ PyData.depthAll ds + 2 → d'.bulk ≤ 2 * PyData.bulkAll ds + 20 → Q v' H' := fun v' d' tv e1 e2 => k v' d' n' H' (tv.keep kp' hph xp) (by rw [PyData.depth]; omega) (by rw [PyData.bulk]; omega) (by omega) hp' kk
      simp only [List.mem_cons, List.not_mem_nil, or_false] at hv
      rcases hv with rfl | rfl | rfl | rfl | rfl | rfl | rfl
      · exact out _ _ (.lst n1' ((((sb.trans sc).trans sd).trans se).trans ((sf.trans sg).trans sh) _ _ ata) th) (by rw [PyData.depth]; omega) (by rw [PyData.bulk]; omega)
      · obtain ⟨es, e, eb, ed⟩ := th.cut (some 1) none
        exact out _ _ (.tup (((sc.trans sd).trans se).trans ((sf.trans sg).trans sh) _ _ h2) e) (by rw [PyData.depth]; omega) (by rw [PyData.bulk]; omega)
      · obtain ⟨es, e, eb, ed⟩ := th.cut none (some (-1))
        exact out _ _ (.tup ((sd.trans se).trans ((sf.trans sg).trans sh) _ _ h3) e) (by rw [PyData.depth]; omega) (by rw [PyData.bulk]; omega)
      · obtain ⟨es, e, eb, ed⟩ := th.cut (some (-1)) none
        exact out _ _ (.tup ((sf.trans sg).trans sh _ _ h5) (TDs.app e th)) (by rw [PyData.depth, depth_app]; omega) (by rw [PyData.bulk, bulk_app]; omega)
      · exact out _ _ (.tup (sg.trans sh _ _ atf) th.rev) (by rw [PyData.depth, (bulk_rev ds).2]; omega) (by rw [PyData.bulk, (bulk_rev ds).1]; omega)
      · exact out _ _ (.tup (sh _ _ atg) .nil) (by simp [PyData.depth, PyData.depthAll]) (by simp [PyData.bulk, PyData.bulkAll])
      · exact out _ _ .non (by simp [PyData.depth]) (by simp [PyData.bulk])
end
end TT

set_option maxHeartbeats 4000000
namespace TT
open PySem PySem.Spec PyProof.Rows L2 LamX TL
section
variable {P : Program} {w : World} {K : PySem.W.Frag} {mg : Str → Option Value} {base : Heap} {Z : Zs}
theorem ok_bent2 (T : Txt K mg Z) : FnOk P w K mg base CX0 6 Z.f_l_bent Z.d_l_bent ["_law_pot_here", "_law_value"] (sp_bent (1 + 1)) := by
  refine T.F_l_bent.ok sc_l_bent (fun vs H Q E h => ?_) (fun cdv A outer s H vs Q E hr h => ?_)
  · obtain ⟨p, X, n, v, d, rfl, _⟩ := h
    rfl
  · obtain ⟨p, X, n, v, d, rfl, hp, hn, xp, al, t, ⟨ds, rfl, l1, l8, lv⟩, dep, bk, k⟩ := h
    cases t with
    | @tup q xs _ hq t =>
    refine ⟨_, (pss_cons (ps_if (PW.pt (pw_and (pt_val (pe_callB  call_isi (by rfl) T.b_isinstance (by decide +kernel) (pa_cons (pv 1) (pa_cons (pe_bltn (v := .ty "tuple") rfl T.b_tuple (by decide +kernel) rfl) pa_nil)))) (pw_and (pt_cmpR (op_neD (by exact hr.units)) (pv 1) (pe_tup pa_nil) (nomark _)) (pw_and1 (pt_cmpR op_gt (pe_call (ok_l_take T) (hr.mono (by decide)) rfl T.g_l_take T.k_l_take T.bn_l_take .nil pass0 (pa_cons (pv 0) (pa_cons pe_int pa_nil))) pe_int (nomark _)))))) (pss_cons (ps_set (i := 2) sc_l_bent.nd rfl (Or.inl rfl) (pe_call (ok_l_take T) (hr.mono (by decide)) rfl T.g_l_take T.k_l_take T.bn_l_take .nil pass0 (pa_cons (pv 0) (pa_cons (pe_callB  call_len (by rfl) T.b_len (by decide +kernel) (pa_cons (pv 1) pa_nil)) pa_nil))))
      (pss_one (ps_ret (pe_op op_catA (pe_op op_catA (pe_slice sl_tupA (pv 1) po_none (po_some (pv 2))) (pe_tup (pa_cons (pe_call (ok_bent1 T) (hr.mono (by decide)) rfl T.g_l_bent T.k_l_bent T.bn_l_bent .nil pass0 (pa_cons (pv 0) (pa_cons (pe_ix ix_tup (pv 1) (pv 2) (fun _ _ => rfl)) pa_nil))) pa_nil))) (pe_slice sl_tupA (pv 1) (po_some (pe_op op_add (pv 2) pe_int)) po_none))))) pss_nil)
      (pss_cons (ps_if (pt_val (pe_callB  call_isi (by rfl) T.b_isinstance (by decide +kernel) (pa_cons (pv 1) (pa_cons (pe_bltn (v := .ty "tuple") rfl T.b_tuple (by decide +kernel) rfl) pa_nil)))) (pss_one (ps_ret (pe_call (ok_l_of T) (hr.mono (by decide)) rfl T.g_l_of T.k_l_of T.bn_l_of .nil pass0 (pa_cons (pv 0) (pa_cons (pe_lst (pa_cons (pe_callTy call_list_of (by rfl) T.b_list (by decide +kernel) (pa_cons (pv 1) pa_nil)) (pa_cons (pe_slice sl_tupA (pv 1) (po_some pe_int) po_none) (pa_cons (pe_slice sl_tupA (pv 1) po_none (po_some (pe_un un_neg pe_int))) (pa_cons (pe_op op_catA (pv 1) (pe_slice sl_tupA (pv 1) (po_some (pe_un un_neg pe_int)) po_none)) (pa_cons (pe_revT (pv 1)) (pa_cons (pe_tup pa_nil) (pa_cons pe_non pa_nil)))))))) pa_nil))))) pss_nil)
      (pss_cons (ps_if (pt_val (pe_callB  call_isi (by rfl) T.b_isinstance (by decide +kernel) (pa_cons (pv 1) (pa_cons (pe_bltn (v := .ty "bool") rfl T.b_bool (by decide +kernel) rfl) pa_nil)))) (pss_one ps_never) pss_nil)
      (pss_cons (ps_if (pt_val (pe_callB  call_isi (by rfl) T.b_isinstance (by decide +kernel) (pa_cons (pv 1) (pa_cons (pe_bltn (v := .ty "int") rfl T.b_int (by decide +kernel) rfl) pa_nil)))) (pss_one ps_never) pss_nil)
      (pss_cons (ps_if (pt_val (pe_callB  call_isi (by rfl) T.b_isinstance (by decide +kernel) (pa_cons (pv 1) (pa_cons (pe_bltn (v := .ty "str") rfl T.b_str (by decide +kernel) rfl) pa_nil)))) (pss_one ps_never) pss_nil)
      (pss_cons ps_never
      (pss_one ps_never))))))), ?_⟩
    have sl : sizeLine = 16777216 := sizeLine_eq
    have lx := t.len
    have lx8 : xs.length ≤ 8 := by omega
    have e8 : (8 : Int) < 10 ^ 60 := by decide +kernel
    have tq : TD X H (.ref q) (.tuple ds) := .tup hq t
    have bk' : PyData.bulkAll ds ≤ 1000 := by rw [PyData.bulk] at bk; exact bk
    have dep' : PyData.depthAll ds + 1 ≤ 10 := by rw [PyData.depth] at dep; omega
    refine ⟨_, rfl, _, _, _, _, true, rfl, .ty "tuple", .base (.tup hq), kit_ty (by decide +kernel), true, rfl, iteT ?_⟩
    refine ⟨_, rfl, by show 0 ≤ sizeLine; exact Nat.zero_le _, fun u0 hu0 => ?_⟩
    have s0 := Same.new (o := .tup []) (Same.refl H) hu0
    have at0 : upd H u0 (.tup []) u0 = some (.tup []) := upd_same
    generalize upd H u0 (.tup []) = H0 at s0 at0 ⊢
    have tq0 := tq.same s0
    refine ⟨.tuple ds, .tuple [], tq0.dp, .tup (SqT.of at0) .nil, tq0.fd.shaped (by rw [PyData.depth]; omega), by decide +kernel, true, ?_, iteT ?_⟩
    · rw [eqv_nil]
      cases ds with
      | nil => simp at l1
      | cons a t => rfl
    have hp0 := hp.same s0
    have hq0 := s0 _ _ hq
    have t0 := t.same s0
    refine ⟨_, rfl, p, n, 5, rfl, hp0, by omega, by decide, by decide, fun d1 n1 H1 a0 a1 hn1 hp1 k1 => ⟨_, _, rfl, rfl, decide (0 < d1), rfl, ?_⟩⟩
    have kp1 : Keep p H H1 := (Keep.of s0).trans k1
    have hq1 := k1 _ _ (hp0.off hq0 fun _ z => nomatch z) hq0
    have t1 := t0.keep k1 hp0 xp
    by_cases c : 0 < d1
    · rw [decide_eq_true c]
      refine iteT ?_
      refine ⟨_, rfl, _, rfl, _, _, rfl, .inr ⟨_, SqT.of hq1, rfl⟩, p, n1, _, rfl, hp1, by omega, by omega, by omega, fun d2 n2 H2 b0 b1 hn2 hp2 k2 => ?_⟩
      obtain ⟨i, rfl⟩ : ∃ i : Nat, d2 = (i : Int) := ⟨d2.toNat, by omega⟩
      have il : i < xs.length := by omega
      have hq2 := k2 _ _ (hp1.off hq1 fun _ z => nomatch z) hq1
      have t2 := t1.keep k2 hp1 xp
      obtain ⟨d, hd⟩ : ∃ d, ds[i]? = some d := ⟨_, List.getElem?_eq_getElem (by omega)⟩
      obtain ⟨y, hy⟩ : ∃ y, xs[i]? = some y := ⟨_, List.getElem?_eq_getElem il⟩
      have dm := List.mem_of_getElem? hd
      have bm := bulk_mem dm
      have dpm := depth_mem dm
      refine ⟨_, rfl, _, rfl, _, rfl, slA hq2 fun r1 H3 s3 hr1 => ?_⟩
      obtain ⟨es1, e1, eb1, ed1⟩ := (t2.same s3).cut none (some (i : Int))
      have hq3 := s3 _ _ hq2
      have t3 := t2.same s3
      obtain ⟨d', hd', td⟩ := t3.at hy
      rw [hd] at hd'
      obtain rfl := Option.some.inj hd'
      refine ⟨_, rfl, _, rfl, _, rfl, q, xs, _, y, rfl, rfl, SqT.of hq3, atI_nat hy, p, X, n2, y, d, rfl, hp2.same s3, by omega, xp, al_same (al_keep al (kp1.trans k2) hp2) s3, td, lv d dm, by omega, by omega, fun v' d' n4 H4 tv vd vb hn4 hp4 k4 => ?_⟩
      have hq4 := k4 _ _ ((hp2.same s3).off hq3 fun _ z => nomatch z) hq3
      have t4 := t3.keep k4 (hp2.same s3) xp
      have hr14 := k4 _ _ ((hp2.same s3).off hr1 fun _ z => nomatch z) hr1
      have e14 := e1.keep k4 (hp2.same s3) xp
      refine ⟨by show 1 ≤ sizeLine; decide, fun u hu => ?_⟩
      have su := Same.new (o := .tup [v']) (Same.refl H4) hu
      have atu : upd H4 u (.tup [v']) u = some (.tup [v']) := upd_same
      generalize upd H4 u (.tup [v']) = H5 at su atu ⊢
      have cl : (cutV xs none (some (i : Int))).length ≤ xs.length := cutV_length _ _ _
      refine catA (su _ _ hr14) atu (by rw [List.length_singleton]; omega) fun r2 H6 s6 hr2 => ?_
      have s56 := su.trans s6
      refine ⟨_, rfl, _, rfl, _, _, rfl, rfl, _, rfl, ?_⟩
      try unfold tNoPart
      refine slA (s56 _ _ hq4) fun r3 H7 s7 hr3 => ?_
      obtain ⟨es3, e3, eb3, ed3⟩ := ((t4.same s56).same s7).cut (some ((i : Int) + 1)) none
      have cl2 : (cutV xs (some ((i : Int) + 1)) none).length ≤ xs.length := cutV_length _ _ _
      refine catA (s7 _ _ hr2) hr3 (by rw [List.length_append, List.length_singleton]; omega) fun r4 H8 s8 hr4 => ?_
      have s58 := (s56.trans s7).trans s8
      have fin : TDs X H8 (cutV xs none (some (i : Int)) ++ [v'] ++ cutV xs (some ((i : Int) + 1)) none) (es1 ++ [d'] ++ es3) := TDs.app (e3.same s8) (TDs.app (.cons (tv.same s58) .nil) (e14.same s58))
      refine k _ _ n4 H8 (.tup hr4 fin) ?_ ?_ (by omega) (hp4.same s58) (((kp1.trans k2).same s3).trans (k4.same s58))
      · simp only [PyData.depth, depth_app, PyData.depthAll]
        omega
      · simp only [PyData.bulk, bulk_app, PyData.bulkAll]
        omega
    · rw [decide_eq_false c]
      refine iteF ?_
      refine ⟨_, rfl, _, _, _, _, true, rfl, .ty "tuple", .base (.tup hq1), kit_ty (by decide +kernel), true, rfl, iteT ?_⟩
      refine ⟨_, rfl, _, rfl, q, xs, rfl, .inr (SqT.of hq1), fun b1 h1 => ?_⟩
      have n1' : ¬ X b1 := fun z => al_keep al kp1 hp1 b1 z h1
      have sa := Same.new (o := .lst xs) (Same.refl H1) h1
      have ata : upd H1 b1 (.lst xs) b1 = some (.lst xs) := upd_same
      generalize upd H1 b1 (.lst xs) = Ha at sa ata ⊢
      refine ⟨_, rfl, _, rfl, ?_⟩
      try unfold tNoPart
      refine slA (sa _ _ hq1) fun b2 Hb sb h2 => ?_
      refine ⟨_, rfl, _, rfl, _, rfl, slA (sb _ _ (sa _ _ hq1)) fun b3 Hc sc h3 => ?_⟩
      have s1c := (sa.trans sb).trans sc
      refine ⟨_, rfl, _, rfl, _, rfl, _, rfl, ?_⟩
      try unfold tNoPart
      refine slA (s1c _ _ hq1) fun b4 Hd sd h4 => ?_
      have cl : (cutV xs (some (-1)) none).length ≤ xs.length := cutV_length _ _ _
      refine catA ((s1c.trans sd) _ _ hq1) h4 (by omega) fun b5 He se h5 => ?_
      have s1e := (s1c.trans sd).trans se
      refine ⟨_, rfl, q, xs, rfl, SqT.of (s1e _ _ hq1), fun b6 h6 => ?_⟩
      have sf := Same.new (o := .tup xs.reverse) (Same.refl He) h6
      have atf : upd He b6 (.tup xs.reverse) b6 = some (.tup xs.reverse) := upd_same
      generalize upd He b6 (.tup xs.reverse) = Hf at sf atf ⊢
      refine ⟨by show 0 ≤ sizeLine; exact Nat.zero_le _, fun b7 h7 => ?_⟩
      have sg := Same.new (o := .tup []) (Same.refl Hf) h7
      have atg : upd Hf b7 (.tup []) b7 = some (.tup []) := upd_same
      generalize upd Hf b7 (.tup []) = Hg at sg atg ⊢
      refine ⟨by show 7 ≤ sizeLine; decide, fun a ha => ?_⟩
      have sh := Same.new (o := .lst [.ref b1, .ref b2, .ref b3, .ref b5, .ref b6, .ref b7, .non]) (Same.refl Hg) ha
      have ath : upd Hg a (.lst [.ref b1, .ref b2, .ref b3, .ref b5, .ref b6, .ref b7, .non]) a = some (.lst [.ref b1, .ref b2, .ref b3, .ref b5, .ref b6, .ref b7, .non]) := upd_same
      generalize upd Hg a (.lst [.ref b1, .ref b2, .ref b3, .ref b5, .ref b6, .ref b7, .non]) = Hh at sh ath ⊢
      have s1h := ((s1e.trans sf).trans sg).trans sh
      have hph := hp1.same s1h
      have ap : a ≠ p := (((hp1.same s1e).same (sf.trans sg)).ne ha).symm
      refine ⟨p, a, n1, _, rfl, hph, by omega, ath, ap, Nat.zero_lt_succ _, by show 7 ≤ 1000; decide, fun v n' H' hv hn' hp' kp' => ?_⟩
      have kk : Keep p H H' := (kp1.same s1h).trans kp'
      have th := t1.same s1h
      have out : ∀ v' d', TD X Hh v' d' → d'.depth ≤ PyData.depthAll ds + 2 → d'.bulk ≤ 2 * PyData.bulkAll ds + 20 → Q v' H' := fun v' d' tv e1 e2 => k v' d' n' H' (tv.keep kp' hph xp) (by rw [PyData.depth]; omega) (by rw [PyData.bulk]; omega) (by omega) hp' kk
      simp only [List.mem_cons, List.not_mem_nil, or_false] at hv
      rcases hv with rfl | rfl | rfl | rfl | rfl | rfl | rfl
      · exact out _ _ (.lst n1' ((((sb.trans sc).trans sd).trans se).trans ((sf.trans sg).trans sh) _ _ ata) th) (by rw [PyData.depth]; omega) (by rw [PyData.bulk]; omega)
      · obtain ⟨es, e, eb, ed⟩ := th.cut (some 1) none
        exact out _ _ (.tup (((sc.trans sd).trans se).trans ((sf.trans sg).trans sh) _ _ h2) e) (by rw [PyData.depth]; omega) (by rw [PyData.bulk]; omega)
      · obtain ⟨es, e, eb, ed⟩ := th.cut none (some (-1))
        exact out _ _ (.tup ((sd.trans se).trans ((sf.trans sg).trans sh) _ _ h3) e) (by rw [PyData.depth]; omega) (by rw [PyData.bulk]; omega)
      · obtain ⟨es, e, eb, ed⟩ := th.cut (some (-1)) none
        exact out _ _ (.tup ((sf.trans sg).trans sh _ _ h5) (TDs.app e th)) (by rw [PyData.depth, depth_app]; omega) (by rw [PyData.bulk, bulk_app]; omega)
      · exact out _ _ (.tup (sg.trans sh _ _ atf) th.rev) (by rw [PyData.depth, (bulk_rev ds).2]; omega) (by rw [PyData.bulk, (bulk_rev ds).1]; omega)
      · exact out _ _ (.tup (sh _ _ atg) .nil) (by simp [PyData.depth, PyData.depthAll]) (by simp [PyData.bulk, PyData.bulkAll])
      · exact out _ _ .non (by simp [PyData.depth]) (by simp [PyData.bulk])
end
end TT

set_option maxHeartbeats 4000000
namespace TT
open PySem PySem.Spec PyProof.Rows L2 LamX TL
/-! ### values near to pieces -/
inductive Val (p : Addr) (H : Hp) : V → PyData → Prop
  | td {v : V} {d : PyData} (t : TD (· = p) H v d) (dep : d.depth ≤ 12) (bk : d.bulk ≤ 1000) : Val p H v d
  | d0 {a : Addr} (n : a ≠ p) (h : H a = some (.dK [])) : Val p H (.ref a) (.dict [])
theorem Val.move {p : Addr} {H H' : Hp} {v : V} {d : PyData} (t : Val p H v d) (f : MoveF (· = p) H H') (g : ∀ a, a ≠ p → H a = some (.dK []) → H' a = some (.dK [])) : Val p H' v d := by
  cases t with
  | td t dep bk => exact .td (t.move f) dep bk
  | d0 n h => exact .d0 n (g _ n h)
theorem Val.same {p : Addr} {H H' : Hp} {v : V} {d : PyData} (t : Val p H v d) (s : Same H H') : Val p H' v d := t.move (fun _ _ _ _ e => s _ _ e) fun _ _ e => s _ _ e
theorem Val.extN {p : Addr} {H H' : Hp} {v : V} {d : PyData} (t : Val p H v d) (s : ExtN H H') : Val p H' v d := t.move (fun _ _ _ nt e => s _ _ e nt) fun _ _ e => s _ _ e (by intro _ z; cases z)
theorem Val.keep {p : Addr} {n : Nat} {H H' : Hp} {v : V} {d : PyData} (t : Val p H v d) (k : Keep p H H') (hp : Pot H p n) : Val p H' v d := t.move (keep_f k hp rfl) fun _ n e => k _ _ n e
def AllVal (p : Addr) (H : Hp) (xs : List V) : Prop := ∀ v ∈ xs, ∃ d, Val p H v d
def sp_l_oddV : Sp := fun vs H Q _ => ∃ (p : Addr) (n : Nat), vs = [.ref p] ∧ Pot H p n ∧ n < 1000000 ∧ ∀ (v : V) (d : PyData) (n' : Nat) (H' : Hp), Val p H' v d → n' ≤ n + 1 → Pot H' p n' → Keep p H H' → Q v H'
def sp_l_near : Sp := fun vs H Q _ => ∃ (p : Addr) (n : Nat) (R : Addr) (tr : List V) (ps : List Pc), vs = [.ref p, .ref R] ∧ Pot H p n ∧ n + 200 < 1000000 ∧ H R = some (.tup tr) ∧ TDs (· = p) H tr (ps.map dPc) ∧ PsOk ps ∧ ps.length ≤ 7 ∧ pre ps ps.length ≤ 20 ∧
  ∀ (x : Addr) (xs : List V) (n' : Nat) (H' : Hp), H' x = some (.lst xs) → x ≠ p → AllVal p H' xs → n' ≤ n + 200 → Pot H' p n' → Keep p H H' → Q (.ref x) H'
theorem del_same {H : Hp} {D : Addr} : Same (del H D) H := fun b o e => by
  by_cases c : b = D
  · rw [c] at e; unfold del at e; simp at e
  · rw [del_ne c] at e; exact e
theorem same_del {H H' : Hp} {D : Addr} (s : Same H H') : Same (del H D) (del H' D) := fun b o e => by
  by_cases c : b = D
  · rw [c] at e; unfold del at e; simp at e
  · rw [del_ne c] at e ⊢; exact s _ _ e
theorem del_upd {H : Hp} {D : Addr} {o : HO} : Same (del H D) (del (upd H D o) D) := fun b u e => by
  by_cases c : b = D
  · rw [c] at e; unfold del at e; simp at e
  · rw [del_ne c] at e ⊢; rw [upd_ne c]; exact e
/-- tuples alone, of words, ints and bools -/
inductive Flt : List V → List PyData → Prop
  | nil : Flt [] []
  | str {x : Str} {vs ds} (h : wordOk x = true) (t : Flt vs ds) : Flt (.str x :: vs) (.str x :: ds)
  | int {i : Int} {vs ds} (h0 : -(10 ^ 40) < i) (h1 : i < 10 ^ 40) (t : Flt vs ds) : Flt (.int i :: vs) (.int i :: ds)
  | bl (b : Bool) {vs ds} (t : Flt vs ds) : Flt (.bl b :: vs) (.bool b :: ds)
theorem Flt.td {p : Addr → Prop} {H : Hp} : ∀ {vs : List V} {ds : List PyData}, Flt vs ds → TDs p H vs ds
  | _, _, .nil => .nil
  | _, _, .str h t => .cons (.str h) (Flt.td t)
  | _, _, .int h0 h1 t => .cons (.int h0 h1) (Flt.td t)
  | _, _, .bl b t => .cons (.bl b) (Flt.td t)
/-- the ints of a piece are small -/
def PB : Pc → Prop
  | .new l => -(10 ^ 40) < l ∧ l < 10 ^ 40
  | .notes l x => (-(10 ^ 40) < l ∧ l < 10 ^ 40) ∧ -(10 ^ 40) < x ∧ x < 10 ^ 40
  | .copy f l a _ _ => (-(10 ^ 40) < f ∧ f < 10 ^ 40) ∧ (-(10 ^ 40) < l ∧ l < 10 ^ 40) ∧ -(10 ^ 40) < a ∧ a < 10 ^ 40
theorem PB.of {c : Pc} {h : Int} (o : c.OkAt h) (hh : h ≤ 30) (l30 : c.len ≤ 30) : PB c := by
  have e : (10 : Int) ^ 12 < 10 ^ 40 := by decide +kernel
  have e30 : (30 : Int) < 10 ^ 12 := by decide +kernel
  cases c with
  | new l => have o1 : 1 ≤ l := o; have l1 : l ≤ 30 := l30; exact ⟨by omega, by omega⟩
  | notes l x => obtain ⟨o1, o2, o3⟩ := o; have l1 : l ≤ 30 := l30; exact ⟨⟨by omega, by omega⟩, by omega, by omega⟩
  | copy f l a d b => obtain ⟨f0, f1, o1, o2, o3, _⟩ := o; have l1 : l ≤ 30 := l30; exact ⟨⟨by omega, by omega⟩, ⟨by omega, by omega⟩, by omega, by omega⟩
theorem PB.all {ps : List Pc} (ok : PsOk ps) (z30 : pre ps ps.length ≤ 30) : ∀ c ∈ ps, PB c := fun c hc => by
  obtain ⟨i, hi⟩ := List.mem_iff_getElem?.mp hc
  have il := (List.getElem?_eq_some_iff.mp hi).1
  have nx := pre_succ hi
  have nn := pre_nn ok.at_ (show i ≤ ps.length by omega)
  have mono := pre_le ok.at_ (show i + 1 ≤ ps.length by omega) (Nat.le_refl _)
  have po := (ok.at_ i c hi).pos
  exact PB.of (ok.at_ i c hi) (by omega) (by omega)
theorem td_pc {p : Addr → Prop} {H : Hp} {q : Addr} {c : Pc} (h : PcAt H q c) (b : PB c) : TD p H (.ref q) (dPc c) := by
  cases c with
  | new l => exact .tup h (.cons (.str (by decide +kernel)) (.cons (.int b.1 b.2) .nil))
  | notes l x => exact .tup h (.cons (.str (by decide +kernel)) (.cons (.int b.1.1 b.1.2) (.cons (.int b.2.1 b.2.2) .nil)))
  | copy f l a d k => exact .tup h (.cons (.str (by decide +kernel)) (.cons (.int b.1.1 b.1.2) (.cons (.int b.2.1.1 b.2.1.2) (.cons (.int b.2.2.1 b.2.2.2) (.cons (.bl _) (.cons (.bl _) .nil))))))
theorem td_pcs {p : Addr → Prop} {H : Hp} : ∀ {vs : List V} {ps : List Pc}, PcsAt H vs ps → (∀ c ∈ ps, PB c) → TDs p H vs (ps.map dPc)
  | _, _, .nil, _ => .nil
  | _, _, .cons ⟨q, e, h⟩ t, b => by
    subst e
    exact .cons (td_pc h (b _ (List.mem_cons_self ..))) (td_pcs t fun c hc => b c (List.mem_cons_of_mem _ hc))
theorem TD.wide {p p' : Addr → Prop} {H : Hp} {v : V} {d : PyData} (t : TD p H v d) (h : ∀ a, p' a → p a) : TD p' H v d :=
  TD.rec (motive_1 := fun v d _ => TD p' H v d) (motive_2 := fun vs ds _ => TDs p' H vs ds) .non (fun b => .bl b) (fun h0 h1 => .int h0 h1) (fun h => .str h)
    (fun n e _ ih => .lst (fun z => n (h _ z)) e ih) (fun e _ ih => .tup e ih) .nil (fun _ _ ih1 ih2 => .cons ih1 ih2) t
theorem lv_pc {c : Pc} {h : Int} (o : c.OkAt h) (hh : h ≤ 30) (l30 : c.len ≤ 30) : Lv 1 (dPc c) := by
  have e : (10 : Int) ^ 12 < 10 ^ 20 := by decide +kernel
  have e30 : (30 : Int) < 10 ^ 12 := by decide +kernel
  cases c with
  | new l =>
    have o1 : 1 ≤ l := o; have l1 : l ≤ 30 := l30
    refine ⟨_, rfl, by show 1 ≤ 2; decide, by show 2 ≤ 8; decide, fun x hx => ?_⟩
    simp only [List.mem_cons, List.not_mem_nil, or_false] at hx
    rcases hx with rfl | rfl
    · exact .inl rfl
    · exact ⟨by omega, by omega⟩
  | notes l x =>
    obtain ⟨o1, o2, o3⟩ := o; have l1 : l ≤ 30 := l30
    refine ⟨_, rfl, by show 1 ≤ 3; decide, by show 3 ≤ 8; decide, fun y hx => ?_⟩
    simp only [List.mem_cons, List.not_mem_nil, or_false] at hx
    rcases hx with rfl | rfl | rfl
    · exact .inr (.inl rfl)
    · exact ⟨by omega, by omega⟩
    · exact ⟨by omega, by omega⟩
  | copy f l a d b =>
    obtain ⟨f0, f1, o1, o2, o3, _⟩ := o; have l1 : l ≤ 30 := l30
    refine ⟨_, rfl, by show 1 ≤ 6; decide, by show 6 ≤ 8; decide, fun y hx => ?_⟩
    simp only [List.mem_cons, List.not_mem_nil, or_false] at hx
    rcases hx with rfl | rfl | rfl | rfl | rfl | rfl
    · exact .inr (.inr rfl)
    · exact ⟨by omega, by omega⟩
    · exact ⟨by omega, by omega⟩
    · exact ⟨by omega, by omega⟩
    · exact True.intro
    · exact True.intro
theorem lv2 {ps : List Pc} (ok : PsOk ps) (z30 : pre ps ps.length ≤ 30) (l7 : ps.length ≤ 7) : Lv 2 (.tuple (ps.map dPc)) := by
  refine ⟨_, rfl, by rw [List.length_map]; exact ok.n1, by rw [List.length_map]; omega, fun e he => ?_⟩
  obtain ⟨c, hc, rfl⟩ := List.mem_map.mp he
  obtain ⟨i, hi⟩ := List.mem_iff_getElem?.mp hc
  have il := (List.getElem?_eq_some_iff.mp hi).1
  have nx := pre_succ hi
  have nn := pre_nn ok.at_ (show i ≤ ps.length by omega)
  have mono := pre_le ok.at_ (show i + 1 ≤ ps.length by omega) (Nat.le_refl _)
  have po := (ok.at_ i c hi).pos
  exact lv_pc (ok.at_ i c hi) (by omega) (by omega)
/-- what stands while the values are gathered -/
structure NS (p R D : Addr) (tr : List V) (ps : List Pc) (n : Nat) (H0 H : Hp) (xs : List V) : Prop where
  hp : Pot H p n
  hR : H R = some (.tup tr)
  t : PcsAt H tr ps
  hD : H D = some (.lst xs)
  all : AllVal p (del H D) xs
  kp : Keep p H0 H
  fr : H0 D = none
  pD : p ≠ D
  pb : ∀ c ∈ ps, PB c
theorem PcsAt.del {H : Hp} {D : Addr} {ys : List V} (hD : H D = some (.lst ys)) {tr : List V} {ps : List Pc} (t : PcsAt H tr ps) : PcsAt (del H D) tr ps := Paired.imp (fun _ _ ⟨y, e, h⟩ => ⟨y, e, by
  have n : y ≠ D := ne_of h hD fun z => nomatch z
  unfold PcAt
  rw [del_ne n]
  exact h⟩) t
/-- pieces and one thing more are put to the list -/
theorem NS.add {p R D u r : Addr} {tr lit : List V} {dl : List PyData} {ps : List Pc} {n m : Nat} {H0 H H1 : Hp} {xs : List V} (N : NS p R D tr ps n H0 H xs) (k : Keep p H H1) (hp1 : Pot H1 p m) (hu : H1 u = some (.tup lit)) (hr : H1 r = some (.tup (tr ++ [.ref u]))) (fl : Flt lit dl) (b : PyData.bulkAll (ps.map dPc) ≤ 100) (bl : PyData.bulkAll dl ≤ 100) (dp : PyData.depthAll (ps.map dPc) ≤ 5) (dl' : PyData.depthAll dl ≤ 5) :
    NS p R D tr ps m H0 (upd H1 D (.lst (xs ++ [.ref r]))) (xs ++ [.ref r]) := by
  have pD := N.pD
  have hD1 := k _ _ pD.symm N.hD
  have hR1 := k _ _ (N.hp.off N.hR fun _ z => nomatch z) N.hR
  have t1 := N.t.keep k N.hp
  have nR : R ≠ D := ne_of hR1 hD1 fun z => nomatch z
  have nu : u ≠ D := ne_of hu hD1 fun z => nomatch z
  have nr : r ≠ D := ne_of hr hD1 fun z => nomatch z
  refine ⟨hp1.put pD, by rw [upd_ne nR]; exact hR1, t1.put hD1, upd_same, fun v hv => ?_, keep_put (N.kp.trans k) N.fr, N.fr, N.pD, N.pb⟩
  have hdp : Pot (del H D) p n := by
    obtain ⟨o, mm, e, z⟩ := N.hp
    exact ⟨o, mm, by rw [del_ne pD]; exact e, z⟩
  have kd : Keep p (del H D) (del (upd H1 D (.lst (xs ++ [.ref r]))) D) := fun bb o nb e => by
    by_cases c : bb = D
    · rw [c] at e; unfold del at e; simp at e
    · rw [del_ne c] at e ⊢; rw [upd_ne c]; exact k _ _ nb e
  rcases List.mem_append.mp hv with h | h
  · obtain ⟨d, hd⟩ := N.all v h
    exact ⟨d, hd.keep kd hdp⟩
  · obtain rfl := List.mem_singleton.mp h
    have hu' : del (upd H1 D (.lst (xs ++ [.ref r]))) D u = some (.tup lit) := by rw [del_ne nu, upd_ne nu]; exact hu
    have hr' : del (upd H1 D (.lst (xs ++ [.ref r]))) D r = some (.tup (tr ++ [.ref u])) := by rw [del_ne nr, upd_ne nr]; exact hr
    have td := td_pcs (p := (· = p)) ((t1.del hD1).same (del_upd (o := .lst (xs ++ [.ref r])))) N.pb
    refine ⟨_, .td (.tup hr' (TDs.app (.cons (.tup hu' fl.td) .nil) td)) ?_ ?_⟩
    · simp only [PyData.depth, depth_app, PyData.depthAll]
      omega
    · simp only [PyData.bulk, bulk_app, PyData.bulkAll]
      omega
section
variable {P : Program} {w : World} {K : PySem.W.Frag} {mg : Str → Option Value} {base : Heap} {Z : Zs}
theorem ok_l_odd (T : Txt K mg Z) : FnOk P w K mg base CX0 3 Z.f_l_odd Z.d_l_odd ["_law_pot_here"] sp_l_oddV := by
  refine T.F_l_odd.ok sc_l_odd (fun vs H Q E h => ?_) (fun cdv A outer s H vs Q E hr h => ?_)
  · obtain ⟨p, n, rfl, _⟩ := h
    rfl
  · obtain ⟨p, n, rfl, hp, hn, k⟩ := h
    refine ⟨_, (pss_cons (ps_set (i := 1) sc_l_odd.nd rfl (Or.inl rfl) (pe_lst (pa_cons pe_non (pa_cons pe_bl (pa_cons pe_bl (pa_cons pe_int (pa_cons pe_int (pa_cons (pe_un un_neg pe_int) (pa_cons pe_int (pa_cons pe_str (pa_cons pe_str (pa_cons pe_str (pa_cons pe_str (pa_cons (pe_tup pa_nil) (pa_cons (pe_lst pa_nil) (pa_cons pe_dnewK (pa_cons (pe_tup (pa_cons (pe_tup pa_nil) pa_nil)) (pa_cons (pe_tup (pa_cons pe_int pa_nil)) (pa_cons (pe_tup (pa_cons pe_str (pa_cons pe_int (pa_cons pe_int pa_nil)))) (pa_cons (pe_op op_powW pe_int pe_int) pa_nil))))))))))))))))))))
      (pss_one (ps_ret (pe_call (ok_l_of T) (hr.mono (by decide)) rfl T.g_l_of T.k_l_of T.bn_l_of .nil pass0 (pa_cons (pv 0) (pa_cons (pv 1) pa_nil)))))), ?_⟩
    have sl : sizeLine = 16777216 := sizeLine_eq
    refine ⟨_, rfl, by show 0 ≤ sizeLine; exact Nat.zero_le _, fun u1 h1 => ⟨by show 0 ≤ sizeLine; exact Nat.zero_le _, fun u2 h2 => ?_⟩⟩
    intro u3 h3
    have s1 := Same.new (o := .tup []) (Same.refl H) h1
    have a1 : upd H u1 (.tup []) u1 = some (.tup []) := upd_same
    generalize upd H u1 (.tup []) = H1 at s1 a1 h2 h3 ⊢
    have s2 := Same.new (o := .lst []) (Same.refl H1) h2
    have a2 : upd H1 u2 (.lst []) u2 = some (.lst []) := upd_same
    have n2 : u2 ≠ p := ((hp.same s1).ne h2).symm
    generalize upd H1 u2 (.lst []) = H2 at s2 a2 h3 ⊢
    have s3 := Same.new (o := .dK []) (Same.refl H2) h3
    have a3 : upd H2 u3 (.dK []) u3 = some (.dK []) := upd_same
    have n3 : u3 ≠ p := ((hp.same (s1.trans s2)).ne h3).symm
    generalize upd H2 u3 (.dK []) = H3 at s3 a3 ⊢
    refine ⟨by show 0 ≤ sizeLine; exact Nat.zero_le _, fun u4 h4 => ⟨by show 1 ≤ sizeLine; decide, fun u5 h5 => ?_⟩⟩
    have s4 := Same.new (o := .tup []) (Same.refl H3) h4
    have a4 : upd H3 u4 (.tup []) u4 = some (.tup []) := upd_same
    generalize upd H3 u4 (.tup []) = H4 at s4 a4 h5 ⊢
    have s5 := Same.new (o := .tup [.ref u4]) (Same.refl H4) h5
    have a5 : upd H4 u5 (.tup [.ref u4]) u5 = some (.tup [.ref u4]) := upd_same
    generalize upd H4 u5 (.tup [.ref u4]) = H5 at s5 a5 ⊢
    refine ⟨by show 1 ≤ sizeLine; decide, fun u6 h6 => ?_⟩
    have s6 := Same.new (o := .tup [.int 0]) (Same.refl H5) h6
    have a6 : upd H5 u6 (.tup [.int 0]) u6 = some (.tup [.int 0]) := upd_same
    generalize upd H5 u6 (.tup [.int 0]) = H6 at s6 a6 ⊢
    refine ⟨by show 3 ≤ sizeLine; decide, fun u7 h7 => ?_⟩
    have s7 := Same.new (o := .tup [.str "up", .int 0, .int 0]) (Same.refl H6) h7
    have a7 : upd H6 u7 (.tup [.str "up", .int 0, .int 0]) u7 = some (.tup [.str "up", .int 0, .int 0]) := upd_same
    generalize upd H6 u7 (.tup [.str "up", .int 0, .int 0]) = H7 at s7 a7 ⊢
    refine ⟨_, _, rfl, rfl, ⟨by decide, by decide +kernel⟩, by show 18 ≤ sizeLine; decide, fun a ha => ?_⟩
    have s17 := (((((s1.trans s2).trans s3).trans s4).trans s5).trans s6).trans s7
    have ap : a ≠ p := ((hp.same s17).ne ha).symm
    refine ⟨_, rfl, _, rfl, p, a, n, _, rfl, (hp.same s17).new ha, hn, upd_same, ap, Nat.zero_lt_succ _, by show 18 ≤ 1000; decide, fun v n' H' hv hn' hp' kp => ?_⟩
    have kk : Keep p H7 H' := (Keep.new Keep.rfl' ha).trans kp
    have kH : Keep p H H' := (Keep.of s17).trans kk
    have hp7 := hp.same s17
    have out : ∀ {v d}, TD (· = p) H7 v d → d.depth ≤ 12 → d.bulk ≤ 1000 → Q v H' := fun tv e1 e2 => k _ _ n' H' (.td (tv.keep kk hp7 rfl) e1 e2) hn' hp' kH
    simp only [List.mem_cons, List.not_mem_nil, or_false] at hv
    rcases hv with rfl | rfl | rfl | rfl | rfl | rfl | rfl | rfl | rfl | rfl | rfl | rfl | rfl | rfl | rfl | rfl | rfl | rfl
    · exact out .non (by decide) (by decide)
    · exact out (.bl _) (by decide) (by decide)
    · exact out (.bl _) (by decide) (by decide)
    · exact out (.int (by decide +kernel) (by decide +kernel)) (by decide) (by decide)
    · exact out (.int (by decide +kernel) (by decide +kernel)) (by decide) (by decide)
    · exact out (.int (by decide +kernel) (by decide +kernel)) (by decide) (by decide)
    · exact out (.int (by decide +kernel) (by decide +kernel)) (by decide) (by decide)
    · exact out (.str (by decide +kernel)) (by decide +kernel) (by decide +kernel)
    · exact out (.str (by decide +kernel)) (by decide +kernel) (by decide +kernel)
    · exact out (.str (by decide +kernel)) (by decide +kernel) (by decide +kernel)
    · exact out (.str (by decide +kernel)) (by decide +kernel) (by decide +kernel)
    · exact out (.tup ((((((s2.trans s3).trans s4).trans s5).trans s6).trans s7) _ _ a1) .nil) (by decide +kernel) (by decide +kernel)
    · exact out (.lst n2 (((((s3.trans s4).trans s5).trans s6).trans s7) _ _ a2) .nil) (by decide +kernel) (by decide +kernel)
    · exact k _ _ n' H' (.d0 n3 (kk _ _ n3 ((((s4.trans s5).trans s6).trans s7) _ _ a3))) hn' hp' kH
    · exact out (.tup ((s6.trans s7) _ _ a5) (.cons (.tup (((s5.trans s6).trans s7) _ _ a4) .nil) .nil)) (by decide +kernel) (by decide +kernel)
    · exact out (.tup (s7 _ _ a6) (.cons (.int (by decide +kernel) (by decide +kernel)) .nil)) (by decide +kernel) (by decide +kernel)
    · exact out (.tup a7 (.cons (.str (by decide +kernel)) (.cons (.int (by decide +kernel) (by decide +kernel)) (.cons (.int (by decide +kernel) (by decide +kernel)) .nil)))) (by decide +kernel) (by decide +kernel)
    · exact out (.int (by decide +kernel) (by decide +kernel)) (by decide) (by decide)
theorem ok_l_near (T : Txt K mg Z) : FnOk P w K mg base CX0 8 Z.f_l_near Z.d_l_near ["_law_pot_here", "_law_pieces_here"] sp_l_near := by
  refine T.F_l_near.ok sc_l_near (fun vs H Q E h => ?_) (fun cdv A outer s H vs Q E hr h => ?_)
  · obtain ⟨p, n, R, tr, ps, rfl, _⟩ := h
    rfl
  · obtain ⟨p, n, R, tr, ps, rfl, hp, hn, hR, t, ok, l7, z20, k⟩ := h
    refine ⟨_, (pss_cons (ps_set (i := 2) sc_l_near.nd rfl (Or.inl rfl) (pe_callB  call_len (by rfl) T.b_len (by decide +kernel) (pa_cons (pe_call (ok_l_shown T) (hr.mono (by decide)) rfl T.g_l_shown T.k_l_shown T.bn_l_shown .nil pass0 (pa_cons (pv 1) pa_nil)) pa_nil)))
      (pss_cons (ps_set (i := 3) sc_l_near.nd rfl (Or.inl rfl) (pe_lst (pa_cons (pv 1) (pa_cons (pe_callTy call_list_of (by rfl) T.b_list (by decide +kernel) (pa_cons (pv 1) pa_nil)) (pa_cons (pe_tup pa_nil) (pa_cons (pe_call (ok_l_odd T) (hr.mono (by decide)) rfl T.g_l_odd T.k_l_odd T.bn_l_odd .nil pass0 (pa_cons (pv 0) pa_nil)) (pa_cons (pe_slice sl_tupA (pv 1) (po_some pe_int) po_none) (pa_cons (pe_op op_catA (pv 1) (pe_tup (pa_cons (pe_tup (pa_cons pe_str (pa_cons (pv 2) (pa_cons pe_int (pa_cons pe_int (pa_cons pe_bl (pa_cons pe_bl pa_nil))))))) pa_nil))) pa_nil))))))))
      (pss_cons (ps_expr (pe_bm PySem.F.plainAttrs_list PySem.F.slot_list_append PySem.F.type_list_append mt_append (pv 3) (pa_cons (pe_op op_catA (pv 1) (pe_tup (pa_cons (pe_tup (pa_cons pe_str (pa_cons (pe_op op_sub (pv 2) pe_int) (pa_cons pe_int (pa_cons pe_int (pa_cons pe_bl (pa_cons pe_bl pa_nil))))))) pa_nil))) pa_nil)))
      (pss_cons (ps_expr (pe_bm PySem.F.plainAttrs_list PySem.F.slot_list_append PySem.F.type_list_append mt_append (pv 3) (pa_cons (pe_op op_catA (pv 1) (pe_tup (pa_cons (pe_tup (pa_cons pe_str (pa_cons (pe_op op_sub (pv 2) pe_int) (pa_cons pe_int (pa_cons pe_int (pa_cons pe_bl (pa_cons pe_bl pa_nil))))))) pa_nil))) pa_nil)))
      (pss_cons (ps_expr (pe_bm PySem.F.plainAttrs_list PySem.F.slot_list_append PySem.F.type_list_append mt_append (pv 3) (pa_cons (pe_op op_catA (pv 1) (pe_tup (pa_cons (pe_tup (pa_cons pe_str (pa_cons (pe_op op_sub (pv 2) pe_int) (pa_cons pe_int (pa_cons pe_int (pa_cons pe_bl (pa_cons pe_bl pa_nil))))))) pa_nil))) pa_nil)))
      (pss_cons (ps_expr (pe_bm PySem.F.plainAttrs_list PySem.F.slot_list_append PySem.F.type_list_append mt_append (pv 3) (pa_cons (pe_op op_catA (pv 1) (pe_tup (pa_cons (pe_tup (pa_cons pe_str (pa_cons (pe_op op_add (pe_op op_sub (pe_op op_powW pe_int pe_int) (pv 2)) (pe_call (ok_l_take T) (hr.mono (by decide)) rfl T.g_l_take T.k_l_take T.bn_l_take .nil pass0 (pa_cons (pv 0) (pa_cons pe_int pa_nil)))) pa_nil))) pa_nil))) pa_nil)))
      (pss_cons (ps_expr (pe_bm PySem.F.plainAttrs_list PySem.F.slot_list_append PySem.F.type_list_append mt_append (pv 3) (pa_cons (pe_op op_catA (pv 1) (pe_tup (pa_cons (pe_tup (pa_cons pe_str (pa_cons pe_int pa_nil))) pa_nil))) pa_nil)))
      (pss_cons (ps_expr (pe_bm PySem.F.plainAttrs_list PySem.F.slot_list_append PySem.F.type_list_append mt_append (pv 3) (pa_cons (pe_op op_catA (pv 1) (pe_tup (pa_cons (pe_tup (pa_cons pe_str (pa_cons pe_int (pa_cons pe_bl pa_nil)))) pa_nil))) pa_nil)))
      (pss_one (ps_ret (pe_op op_cat (pv 3) (pe_lc (own := [("_law_lap", 4)]) rfl sc_l_near.nd (pi_range1 rfl T.b_range (pa_cons pe_int pa_nil)) (blkOk_by (own := [("_law_lap", 4)]) (N := ["_law_pot_here", "_law_pieces_here", "_law_size", "_law_some", "_law_lap"]) (sc := defScope s_l_near) (by decide +kernel)) (fun _ _ _ _ _ => (pg_name (i := 4) sc_l_near.nd rfl (Or.inl rfl))) (fun _ _ _ _ _ => pts_nil) (fun _ _ _ _ _ => (pe_call (ok_bent2 T) (hr.mono (by decide)) rfl T.g_l_bent T.k_l_bent T.bn_l_bent .nil pass0 (pa_cons (pv 0) (pa_cons (pv 1) pa_nil)))))))))))))))), ?_⟩
    have sl : sizeLine = 16777216 := sizeLine_eq
    have e40 : (10 : Int) ^ (30 : Int).toNat + 100 < 10 ^ 40 := by decide +kernel
    have e40b : (100 : Int) < 10 ^ 40 := by decide +kernel
    have e30 : (0 : Int) < (10 : Int) ^ (30 : Int).toNat - 30 := by decide +kernel
    have z30 : pre ps ps.length ≤ 30 := by omega
    have pcs := pcs_at t
    have pb := PB.all ok z30
    have gp := gds_pcs ok z30
    have bkp : PyData.bulkAll (ps.map dPc) ≤ 100 := by have := gp.b; omega
    have dpp : PyData.depthAll (ps.map dPc) ≤ 5 := by have := gp.dp; omega
    have ltr := Paired.len pcs
    have n1 := ok.n1
    have zp := pre_lt ok.at_ (show 0 < ps.length by omega) (Nat.le_refl _)
    rw [pre_zero] at zp
    refine ⟨_, rfl, R, tr, ps, rfl, hR, pcs, ok, z30, fun sx es sxs H1 nsx s1 hsx hes eq => ⟨_, _, rfl, .inl ⟨_, SqL.of hsx, rfl⟩, ?_⟩⟩
    have le := eq.len
    have lxs := Paired.len hes
    obtain ⟨z, ez⟩ : ∃ z : Int, z = ((sxs.length : Nat) : Int) := ⟨_, rfl⟩
    have z1 : 1 ≤ z := by omega
    have z20' : z ≤ 20 := by omega
    rw [← ez]
    have hR1 := s1 _ _ hR
    have hp1 := hp.same s1
    clear hes hsx eq le lxs ez nsx
    refine ⟨_, rfl, _, rfl, R, tr, rfl, .inr (SqT.of hR1), fun b1 hb1 => ⟨by show 0 ≤ sizeLine; exact Nat.zero_le _, fun b2 hb2 => ?_⟩⟩
    have sa := Same.new (o := .lst tr) (Same.refl H1) hb1
    have ata : upd H1 b1 (.lst tr) b1 = some (.lst tr) := upd_same
    have nb1 : b1 ≠ p := (hp1.ne hb1).symm
    generalize upd H1 b1 (.lst tr) = H2 at sa ata hb2 ⊢
    have sb := Same.new (o := .tup []) (Same.refl H2) hb2
    have atb : upd H2 b2 (.tup []) b2 = some (.tup []) := upd_same
    generalize upd H2 b2 (.tup []) = H3 at sb atb ⊢
    have hp3 := hp1.same (sa.trans sb)
    refine ⟨_, rfl, p, n, rfl, hp3, by omega, fun v d m0 H4 hv hm0 hp4 k4 => ?_⟩
    have hR3 := (sa.trans sb) _ _ hR1
    have hR4 := k4 _ _ (hp3.off hR3 fun _ z => nomatch z) hR3
    have pc3 := pcs.same (s1.trans (sa.trans sb))
    have pc4 := pc3.keep k4 hp3
    have ata4 := k4 _ _ nb1 (sb _ _ ata)
    have atb4 := k4 _ _ (hp3.off atb fun _ z => nomatch z) atb
    have kp4 : Keep p H H4 := (Keep.of (s1.trans (sa.trans sb))).trans k4
    refine ⟨_, rfl, _, rfl, ?_⟩
    try unfold tNoPart
    refine slA hR4 fun r1 H5 s5 hr1 => ?_
    refine ⟨_, rfl, _, rfl, by show 6 ≤ sizeLine; decide, fun u hu => ⟨by show 1 ≤ sizeLine; decide, fun w hw => ?_⟩⟩
    have su := Same.new (o := .tup [.str "copy", .int z, .int 1, .int 0, .bl false, .bl false]) (Same.refl H5) hu
    have atu : upd H5 u (.tup [.str "copy", .int z, .int 1, .int 0, .bl false, .bl false]) u = some (.tup [.str "copy", .int z, .int 1, .int 0, .bl false, .bl false]) := upd_same
    generalize upd H5 u (.tup [.str "copy", .int z, .int 1, .int 0, .bl false, .bl false]) = H6 at su atu hw ⊢
    have sw := Same.new (o := .tup [.ref u]) (Same.refl H6) hw
    have atw : upd H6 w (.tup [.ref u]) w = some (.tup [.ref u]) := upd_same
    generalize upd H6 w (.tup [.ref u]) = H7 at sw atw ⊢
    refine catA (((s5.trans su).trans sw) _ _ hR4) atw (by rw [List.length_singleton]; omega) fun r2 H8 s8 hr2 => ?_
    refine ⟨by show 6 ≤ sizeLine; decide, fun D hD => ?_⟩
    have s58 := ((su.trans sw).trans s8)
    have s48 := s5.trans s58
    have pc8 := pc4.same s48
    have td8 := td_pcs (p := (· = p)) pc8 pb
    have hp8 := hp4.same s48
    have kp8 : Keep p H H8 := kp4.same s48
    have HD : H D = none := free_of kp8 hp hD hp8
    have dn : ∀ {b o}, H8 b = some o → del (upd H8 D (.lst [.ref R, .ref b1, .ref b2, v, .ref r1, .ref r2])) D b = some o := fun {b o} e => by
      have nb : b ≠ D := ne_of_none e hD
      rw [del_ne nb, upd_ne nb]
      exact e
    have sd : Same H8 (del (upd H8 D (.lst [.ref R, .ref b1, .ref b2, v, .ref r1, .ref r2])) D) := fun b o e => dn e
    have N0 : NS p R D tr ps m0 H (upd H8 D (.lst [.ref R, .ref b1, .ref b2, v, .ref r1, .ref r2])) [.ref R, .ref b1, .ref b2, v, .ref r1, .ref r2] := by
      refine ⟨hp8.new hD, Same.new (Same.refl H8) hD _ _ (s48 _ _ hR4), pc8.same (Same.new (Same.refl H8) hD), upd_same, fun x hx => ?_, kp8.new hD, HD, hp8.ne hD, pb⟩
      simp only [List.mem_cons, List.not_mem_nil, or_false] at hx
      rcases hx with rfl | rfl | rfl | rfl | rfl | rfl
      · exact ⟨_, (Val.td (.tup (s48 _ _ hR4) td8) (by rw [PyData.depth]; omega) (by rw [PyData.bulk]; omega)).same sd⟩
      · exact ⟨_, (Val.td (.lst nb1 (s48 _ _ ata4) td8) (by rw [PyData.depth]; omega) (by rw [PyData.bulk]; omega)).same sd⟩
      · exact ⟨_, (Val.td (.tup (s48 _ _ atb4) .nil) (by decide +kernel) (by decide +kernel)).same sd⟩
      · exact ⟨d, (hv.same s48).same sd⟩
      · obtain ⟨es1, e1, eb, ed⟩ := td8.cut (some 1) none
        exact ⟨_, (Val.td (.tup (s58 _ _ hr1) e1) (by rw [PyData.depth]; omega) (by rw [PyData.bulk]; omega)).same sd⟩
      · refine ⟨_, (Val.td (.tup hr2 (TDs.app (.cons (.tup ((sw.trans s8) _ _ atu) (Flt.td (.str (by decide +kernel) (.int (by omega) (by omega) (.int (by decide +kernel) (by decide +kernel) (.int (by decide +kernel) (by decide +kernel) (.bl _ (.bl _ .nil)))))))) .nil) td8)) ?_ ?_).same sd⟩
        · simp only [PyData.depth, depth_app, PyData.depthAll]
          omega
        · simp only [PyData.bulk, bulk_app, PyData.bulkAll]
          have : (Str.ofString "copy").cps.size = 4 := by decide +kernel
          omega
    generalize upd H8 D (.lst [.ref R, .ref b1, .ref b2, v, .ref r1, .ref r2]) = K0 at N0 ⊢
    obtain ⟨x0, ex0⟩ : ∃ q : List V, q = [.ref R, .ref b1, .ref b2, v, .ref r1, .ref r2] := ⟨_, rfl⟩
    have lx0 : x0.length ≤ 6 := by rw [ex0]; exact Nat.le_refl _
    rw [← ex0] at N0
    clear su atu sw atw s8 hr2 hr1 hu hw s58 s48 td8 pc8 pc4 pc3 hv dn sd kp8 hp8 hD HD s5 hR4 hR3 ata4 atb4 kp4 ata atb sa sb hp3 k4
    -- one more: 1
    have hR0 := N0.hR
    have hD0 := N0.hD
    refine ⟨_, rfl, .inl ⟨rfl, _, SqL.of hD0⟩, _, rfl, _, rfl, _, _, rfl, rfl, by show 6 ≤ sizeLine; decide, fun u hu => ⟨by show 1 ≤ sizeLine; decide, fun w hw => ?_⟩⟩
    obtain ⟨m1, hm1⟩ : ∃ m, m = m0 := ⟨_, rfl⟩
    have su := Same.new (o := .tup [.str "copy", .int (z - 1), .int 2, .int 1, .bl false, .bl true]) (Same.refl K0) hu
    have atu : upd K0 u (.tup [.str "copy", .int (z - 1), .int 2, .int 1, .bl false, .bl true]) u = some (.tup [.str "copy", .int (z - 1), .int 2, .int 1, .bl false, .bl true]) := upd_same
    generalize upd K0 u (.tup [.str "copy", .int (z - 1), .int 2, .int 1, .bl false, .bl true]) = U1 at su atu hw ⊢
    have sw := Same.new (o := .tup [.ref u]) (Same.refl U1) hw
    have atw : upd U1 w (.tup [.ref u]) w = some (.tup [.ref u]) := upd_same
    generalize upd U1 w (.tup [.ref u]) = U2 at sw atw ⊢
    refine catA ((su.trans sw) _ _ hR0) atw (by rw [List.length_singleton]; omega) fun r U3 sr hr => ?_
    have s := (su.trans sw).trans sr
    refine ⟨D, x0, .ref r, rfl, rfl, s _ _ hD0, by omega, ?_⟩
    have N1 := N0.add (m := m1) (Keep.of s) ((by rw [hm1]; exact (N0.hp).same s)) ((sw.trans sr) _ _ atu) hr (.str (by decide +kernel) (.int (by omega) (by omega) (.int (by decide +kernel) (by decide +kernel) (.int (by decide +kernel) (by decide +kernel) (.bl _ (.bl _ .nil)))))) bkp (by simp only [PyData.bulkAll, PyData.bulk]; decide +kernel) dpp (by simp only [PyData.depthAll, PyData.depth]; decide +kernel)
    obtain ⟨x1, ex1⟩ : ∃ q, q = x0 ++ [.ref r] := ⟨_, rfl⟩
    have lx1 : x1.length ≤ 7 := by rw [ex1, List.length_append, List.length_singleton]; omega
    rw [← ex1] at N1 ⊢
    generalize upd U3 D (.lst x1) = K1 at N1 ⊢
    clear su atu sw atw sr hr s hu hw
    -- one more: 2
    have hR1 := N1.hR
    have hD1 := N1.hD
    refine ⟨_, rfl, .inl ⟨rfl, _, SqL.of hD1⟩, _, rfl, _, rfl, _, _, rfl, rfl, by show 6 ≤ sizeLine; decide, fun u hu => ⟨by show 1 ≤ sizeLine; decide, fun w hw => ?_⟩⟩
    obtain ⟨m2, hm2⟩ : ∃ m, m = m1 := ⟨_, rfl⟩
    have su := Same.new (o := .tup [.str "copy", .int (z - 1), .int 1, .int 1, .bl true, .bl true]) (Same.refl K1) hu
    have atu : upd K1 u (.tup [.str "copy", .int (z - 1), .int 1, .int 1, .bl true, .bl true]) u = some (.tup [.str "copy", .int (z - 1), .int 1, .int 1, .bl true, .bl true]) := upd_same
    generalize upd K1 u (.tup [.str "copy", .int (z - 1), .int 1, .int 1, .bl true, .bl true]) = U1 at su atu hw ⊢
    have sw := Same.new (o := .tup [.ref u]) (Same.refl U1) hw
    have atw : upd U1 w (.tup [.ref u]) w = some (.tup [.ref u]) := upd_same
    generalize upd U1 w (.tup [.ref u]) = U2 at sw atw ⊢
    refine catA ((su.trans sw) _ _ hR1) atw (by rw [List.length_singleton]; omega) fun r U3 sr hr => ?_
    have s := (su.trans sw).trans sr
    refine ⟨D, x1, .ref r, rfl, rfl, s _ _ hD1, by omega, ?_⟩
    have N2 := N1.add (m := m2) (Keep.of s) ((by rw [hm2]; exact (N1.hp).same s)) ((sw.trans sr) _ _ atu) hr (.str (by decide +kernel) (.int (by omega) (by omega) (.int (by decide +kernel) (by decide +kernel) (.int (by decide +kernel) (by decide +kernel) (.bl _ (.bl _ .nil)))))) bkp (by simp only [PyData.bulkAll, PyData.bulk]; decide +kernel) dpp (by simp only [PyData.depthAll, PyData.depth]; decide +kernel)
    obtain ⟨x2, ex2⟩ : ∃ q, q = x1 ++ [.ref r] := ⟨_, rfl⟩
    have lx2 : x2.length ≤ 8 := by rw [ex2, List.length_append, List.length_singleton]; omega
    rw [← ex2] at N2 ⊢
    generalize upd U3 D (.lst x2) = K2 at N2 ⊢
    clear su atu sw atw sr hr s hu hw
    -- one more: 3
    have hR2 := N2.hR
    have hD2 := N2.hD
    refine ⟨_, rfl, .inl ⟨rfl, _, SqL.of hD2⟩, _, rfl, _, rfl, _, _, rfl, rfl, by show 6 ≤ sizeLine; decide, fun u hu => ⟨by show 1 ≤ sizeLine; decide, fun w hw => ?_⟩⟩
    obtain ⟨m3, hm3⟩ : ∃ m, m = m2 := ⟨_, rfl⟩
    have su := Same.new (o := .tup [.str "copy", .int (z - 1), .int 5, .int 1, .bl true, .bl false]) (Same.refl K2) hu
    have atu : upd K2 u (.tup [.str "copy", .int (z - 1), .int 5, .int 1, .bl true, .bl false]) u = some (.tup [.str "copy", .int (z - 1), .int 5, .int 1, .bl true, .bl false]) := upd_same
    generalize upd K2 u (.tup [.str "copy", .int (z - 1), .int 5, .int 1, .bl true, .bl false]) = U1 at su atu hw ⊢
    have sw := Same.new (o := .tup [.ref u]) (Same.refl U1) hw
    have atw : upd U1 w (.tup [.ref u]) w = some (.tup [.ref u]) := upd_same
    generalize upd U1 w (.tup [.ref u]) = U2 at sw atw ⊢
    refine catA ((su.trans sw) _ _ hR2) atw (by rw [List.length_singleton]; omega) fun r U3 sr hr => ?_
    have s := (su.trans sw).trans sr
    refine ⟨D, x2, .ref r, rfl, rfl, s _ _ hD2, by omega, ?_⟩
    have N3 := N2.add (m := m3) (Keep.of s) ((by rw [hm3]; exact (N2.hp).same s)) ((sw.trans sr) _ _ atu) hr (.str (by decide +kernel) (.int (by omega) (by omega) (.int (by decide +kernel) (by decide +kernel) (.int (by decide +kernel) (by decide +kernel) (.bl _ (.bl _ .nil)))))) bkp (by simp only [PyData.bulkAll, PyData.bulk]; decide +kernel) dpp (by simp only [PyData.depthAll, PyData.depth]; decide +kernel)
    obtain ⟨x3, ex3⟩ : ∃ q, q = x2 ++ [.ref r] := ⟨_, rfl⟩
    have lx3 : x3.length ≤ 9 := by rw [ex3, List.length_append, List.length_singleton]; omega
    rw [← ex3] at N3 ⊢
    generalize upd U3 D (.lst x3) = K3 at N3 ⊢
    clear su atu sw atw sr hr s hu hw
    -- one more: 4
    have hR3 := N3.hR
    have hD3 := N3.hD
    refine ⟨_, rfl, .inl ⟨rfl, _, SqL.of hD3⟩, _, rfl, _, _, rfl, rfl, ⟨by decide, by decide +kernel⟩, _, rfl, _, _, rfl, rfl, _, rfl, p, m3, 2, rfl, N3.hp, by omega, by decide, by decide, fun dt m4 G4 dt0 dt1 hm4 hpt kt => ?_⟩
    have kR := kt _ _ (N3.hp.off hR3 fun _ z => nomatch z) hR3
    have kD := kt _ _ N3.pD.symm hD3
    refine ⟨_, _, rfl, rfl, by show 2 ≤ sizeLine; decide, fun u hu => ⟨by show 1 ≤ sizeLine; decide, fun w hw => ?_⟩⟩
    have su := Same.new (o := .tup [.str "new", .int ((10 : Int) ^ (30 : Int).toNat - z + dt)]) (Same.refl G4) hu
    have atu : upd G4 u (.tup [.str "new", .int ((10 : Int) ^ (30 : Int).toNat - z + dt)]) u = some (.tup [.str "new", .int ((10 : Int) ^ (30 : Int).toNat - z + dt)]) := upd_same
    generalize upd G4 u (.tup [.str "new", .int ((10 : Int) ^ (30 : Int).toNat - z + dt)]) = U1 at su atu hw ⊢
    have sw := Same.new (o := .tup [.ref u]) (Same.refl U1) hw
    have atw : upd U1 w (.tup [.ref u]) w = some (.tup [.ref u]) := upd_same
    generalize upd U1 w (.tup [.ref u]) = U2 at sw atw ⊢
    refine catA ((su.trans sw) _ _ kR) atw (by rw [List.length_singleton]; omega) fun r U3 sr hr => ?_
    have s := (su.trans sw).trans sr
    refine ⟨D, x3, .ref r, rfl, rfl, s _ _ kD, by omega, ?_⟩
    have N4 := N3.add (m := m4) (kt.trans (Keep.of s)) ((hpt).same s) ((sw.trans sr) _ _ atu) hr (.str (by decide +kernel) (.int (by omega) (by omega) .nil)) bkp (by simp only [PyData.bulkAll, PyData.bulk]; decide +kernel) dpp (by simp only [PyData.depthAll, PyData.depth]; decide +kernel)
    obtain ⟨x4, ex4⟩ : ∃ q, q = x3 ++ [.ref r] := ⟨_, rfl⟩
    have lx4 : x4.length ≤ 10 := by rw [ex4, List.length_append, List.length_singleton]; omega
    rw [← ex4] at N4 ⊢
    generalize upd U3 D (.lst x4) = K4 at N4 ⊢
    clear su atu sw atw sr hr s hu hw
    -- one more: 5
    have hR4 := N4.hR
    have hD4 := N4.hD
    refine ⟨_, rfl, .inl ⟨rfl, _, SqL.of hD4⟩, _, rfl, by show 2 ≤ sizeLine; decide, fun u hu => ⟨by show 1 ≤ sizeLine; decide, fun w hw => ?_⟩⟩
    obtain ⟨m5, hm5⟩ : ∃ m, m = m4 := ⟨_, rfl⟩
    have su := Same.new (o := .tup [.str "new", .int 0]) (Same.refl K4) hu
    have atu : upd K4 u (.tup [.str "new", .int 0]) u = some (.tup [.str "new", .int 0]) := upd_same
    generalize upd K4 u (.tup [.str "new", .int 0]) = U1 at su atu hw ⊢
    have sw := Same.new (o := .tup [.ref u]) (Same.refl U1) hw
    have atw : upd U1 w (.tup [.ref u]) w = some (.tup [.ref u]) := upd_same
    generalize upd U1 w (.tup [.ref u]) = U2 at sw atw ⊢
    refine catA ((su.trans sw) _ _ hR4) atw (by rw [List.length_singleton]; omega) fun r U3 sr hr => ?_
    have s := (su.trans sw).trans sr
    refine ⟨D, x4, .ref r, rfl, rfl, s _ _ hD4, by omega, ?_⟩
    have N5 := N4.add (m := m5) (Keep.of s) ((by rw [hm5]; exact (N4.hp).same s)) ((sw.trans sr) _ _ atu) hr (.str (by decide +kernel) (.int (by decide +kernel) (by decide +kernel) .nil)) bkp (by simp only [PyData.bulkAll, PyData.bulk]; decide +kernel) dpp (by simp only [PyData.depthAll, PyData.depth]; decide +kernel)
    obtain ⟨x5, ex5⟩ : ∃ q, q = x4 ++ [.ref r] := ⟨_, rfl⟩
    have lx5 : x5.length ≤ 11 := by rw [ex5, List.length_append, List.length_singleton]; omega
    rw [← ex5] at N5 ⊢
    generalize upd U3 D (.lst x5) = K5 at N5 ⊢
    clear su atu sw atw sr hr s hu hw
    -- one more: 6
    have hR5 := N5.hR
    have hD5 := N5.hD
    refine ⟨_, rfl, .inl ⟨rfl, _, SqL.of hD5⟩, _, rfl, by show 3 ≤ sizeLine; decide, fun u hu => ⟨by show 1 ≤ sizeLine; decide, fun w hw => ?_⟩⟩
    obtain ⟨m6, hm6⟩ : ∃ m, m = m5 := ⟨_, rfl⟩
    have su := Same.new (o := .tup [.str "notes", .int 1, .bl true]) (Same.refl K5) hu
    have atu : upd K5 u (.tup [.str "notes", .int 1, .bl true]) u = some (.tup [.str "notes", .int 1, .bl true]) := upd_same
    generalize upd K5 u (.tup [.str "notes", .int 1, .bl true]) = U1 at su atu hw ⊢
    have sw := Same.new (o := .tup [.ref u]) (Same.refl U1) hw
    have atw : upd U1 w (.tup [.ref u]) w = some (.tup [.ref u]) := upd_same
    generalize upd U1 w (.tup [.ref u]) = U2 at sw atw ⊢
    refine catA ((su.trans sw) _ _ hR5) atw (by rw [List.length_singleton]; omega) fun r U3 sr hr => ?_
    have s := (su.trans sw).trans sr
    refine ⟨D, x5, .ref r, rfl, rfl, s _ _ hD5, by omega, ?_⟩
    have N6 := N5.add (m := m6) (Keep.of s) ((by rw [hm6]; exact (N5.hp).same s)) ((sw.trans sr) _ _ atu) hr (.str (by decide +kernel) (.int (by decide +kernel) (by decide +kernel) (.bl _ .nil))) bkp (by simp only [PyData.bulkAll, PyData.bulk]; decide +kernel) dpp (by simp only [PyData.depthAll, PyData.depth]; decide +kernel)
    obtain ⟨x6, ex6⟩ : ∃ q, q = x5 ++ [.ref r] := ⟨_, rfl⟩
    have lx6 : x6.length ≤ 12 := by rw [ex6, List.length_append, List.length_singleton]; omega
    rw [← ex6] at N6 ⊢
    generalize upd U3 D (.lst x6) = K6 at N6 ⊢
    clear su atu sw atw sr hr s hu hw
    -- ten bent ones
    have g0 := N6.hD
    refine ⟨_, rfl, 10, rfl, by decide, by decide, fun G hG => ?_⟩
    have pG : p ≠ G := N6.hp.ne hG
    have DG : D ≠ G := ne_of_none g0 hG
    have sG := Same.new (o := .lst []) (Same.refl K6) hG
    refine lc_range (n := 10) (fun j H' => ∃ zs m, H' G = some (.lst zs) ∧ zs.length ≤ j ∧ (∀ v ∈ zs, ∃ d, TD (fun a => a = p ∨ a = G) H' v d ∧ d.depth ≤ 12 ∧ d.bulk ≤ 1000) ∧ m ≤ m6 + 9 * j ∧ Pot H' p m ∧ ∀ b o, b ≠ p → b ≠ G → K6 b = some o → H' b = some o) ⟨[], m6, upd_same, Nat.le_refl _, (fun _ h => nomatch h), by omega, N6.hp.new hG, fun b o _ _ e => sG _ _ e⟩ ?_ ?_
    · rintro j H' hj ⟨zs, m, hG', lz, av, hm, hpm, kg⟩
      refine ⟨rfl, ?_⟩
      unfold tYes
      have hR' : H' R = some (.tup tr) := kg _ _ (N6.hp.off N6.hR fun _ z => nomatch z) (ne_of_none N6.hR hG) N6.hR
      have pc' : PcsAt H' tr ps := Paired.imp (fun _ _ ⟨y, e, h⟩ => ⟨y, e, kg _ _ (N6.hp.off h fun _ z => nomatch z) (ne_of_none h hG) h⟩) N6.t
      have td := td_pcs (p := fun a => a = p ∨ a = G) pc' pb
      refine iteT ⟨_, rfl, _, rfl, p, fun a => a = p ∨ a = G, m, .ref R, .tuple (ps.map dPc), rfl, hpm, by omega, .inl rfl, fun a xa z => ?_, .tup hR' td, lv2 ok z30 l7, by rw [PyData.depth]; omega, by rw [PyData.bulk]; omega, fun v' d' n' H2 tv vd vb hn' hp' k' => ?_⟩
      · rcases xa with rfl | rfl
        · exact hpm.ne z rfl
        · rw [hG'] at z; cases z
      have hG2 := k' _ _ pG.symm hG'
      have mv : MoveF (fun a => a = p ∨ a = G) H2 (upd H2 G (.lst (zs ++ [v']))) := fun b o nl _ e => by
        have nb : b ≠ G := fun z => by
          subst z
          rw [hG2] at e
          exact nl _ (Option.some.inj e).symm (.inr rfl)
        rw [upd_ne nb]
        exact e
      refine ⟨zs, hG2, by omega, zs ++ [v'], n', upd_same, by rw [List.length_append, List.length_singleton]; omega, fun v hv => ?_, by omega, hp'.put pG, fun b o nb nG e => by rw [upd_ne nG]; exact k' _ _ nb (kg _ _ nb nG e)⟩
      rcases List.mem_append.mp hv with h | h
      · obtain ⟨d, hd, e1, e2⟩ := av v h
        exact ⟨d, (hd.keep k' hpm (.inl rfl)).move mv, e1, e2⟩
      · obtain rfl := List.mem_singleton.mp h
        exact ⟨d', tv.move mv, by rw [PyData.depth] at vd; omega, by rw [PyData.bulk] at vb; omega⟩
    · rintro H' ⟨zs, m, hG', lz, av, hm, hpm, kg⟩
      have hD' : H' D = some (.lst x6) := kg _ _ N6.pD.symm DG g0
      refine ⟨D, G, x6, zs, rfl, rfl, hD', hG', by omega, fun x hx => ?_⟩
      have sx := Same.new (o := .lst (x6 ++ zs)) (Same.refl H') hx
      refine k x (x6 ++ zs) m _ upd_same ((hpm.ne hx).symm) (fun v hv => ?_) (by omega) (hpm.new hx) (Keep.new (fun b o nb e => ?_) hx)
      · rcases List.mem_append.mp hv with h | h
        · obtain ⟨d, hd⟩ := N6.all v h
          have hd6 := hd.same del_same
          have kp6 : Keep p K6 (fun b => if b = G then none else H' b) := fun b o nb e => by
            have nG : b ≠ G := ne_of_none e hG
            show (if b = G then none else H' b) = some o
            rw [if_neg nG]
            exact kg _ _ nb nG e
          exact ⟨d, ((hd6.keep kp6 N6.hp).same fun b o e => by
            have e : (if b = G then none else H' b) = some o := e
            by_cases c : b = G
            · rw [if_pos c] at e; cases e
            · rw [if_neg c] at e; exact e).same sx⟩
        · obtain ⟨d, hd, e1, e2⟩ := av v h
          exact ⟨d, (Val.td (hd.wide fun a z => .inl z) e1 e2).same sx⟩
      · exact kg _ _ nb (ne_of_none (N6.kp _ _ nb e) hG) (N6.kp _ _ nb e)
end
end TT

set_option maxHeartbeats 4000000
namespace TT
open PySem PySem.Spec PyProof.Rows L2 LamX TL
/-! ### the law's own check -/
def tabs (Z : Zs) : List (Addr × Str) := [(Z.t_l_right, lamN "_law_right")]
theorem tabs_mem (Z : Zs) : (Z.t_l_right, lamN "_law_right") ∈ tabs Z := List.mem_singleton.mpr rfl
theorem tabs_one (Z : Zs) : ∀ p ∈ tabs Z, p.1 = Z.t_l_right → p.2 = lamN "_law_right" := fun p hp _ => by rw [List.mem_singleton.mp hp]
def tI (K : PySem.W.Frag) (Z : Zs) (p : Addr) (E : XK) : TE := tMake Z.cB (sp_M_initD K Z (· = p)) [] E (tCons (tVar 2) tNil)
def sp_l_right (Z : Zs) : Sp := fun vs H Q _ => ∃ (p : Addr) (n : Nat), vs = [.ref p] ∧ Pot H p n ∧ n + 500 < 1000000 ∧ Tabs (tabs Z) H ∧ ∀ (n' : Nat) (H' : Hp), n' ≤ n + 500 → Pot H' p n' → Tabs (tabs Z) H' → KeepN p H H' → Q (.bl true) H'
theorem Val.shown {p : Addr} {H : Hp} {v : V} {d : PyData} (h : Val p H v d) : Shown d := by
  cases h with
  | td t dep bk => exact t.fd.shown (by omega) (by omega)
  | d0 n h => exact shown_menu (by simp [menu])
theorem Val.dp {K : PySem.W.Frag} {p : Addr} {H : Hp} {v : V} {d : PyData} (h : Val p H v d) : DpD K H v d := by
  cases h with
  | td t dep bk => exact .dp t.dp t.fd.h
  | d0 n h => exact .d0 h
theorem Val.no {K : PySem.W.Frag} {p : Addr} {H : Hp} {v : V} {d : PyData} (h : Val p H v d) (n : ¬ IsPcs d) : NoPcs K (· = p) H v := by
  cases h with
  | td t dep bk =>
    have ty := t.ty (K := K)
    cases t with
    | tup hq t => exact .tup hq t (by rw [PyData.depth] at dep; omega) n
    | non => exact .ty ty (kit_tup _)
    | bl b => exact .ty ty (kit_tup _)
    | int _ _ => exact .ty ty (kit_tup _)
    | str _ => exact .ty ty (kit_tup _)
    | lst _ _ _ => exact .ty ty (kit_tup _)
  | d0 m h => exact .ty (.base (.dK h)) (kit_ty (by decide +kernel))
theorem NoPcs.same {K : PySem.W.Frag} {p : Addr} {H H' : Hp} {v : V} {d : PyData} (hv : Val p H v d) (n : ¬ IsPcs d) (s : Same H H') : NoPcs K (· = p) H' v := (hv.same s).no n
theorem len_bulk : ∀ ds : List PyData, ds.length ≤ PyData.bulkAll ds
  | [] => Nat.zero_le _
  | a :: t => by rw [List.length_cons, PyData.bulkAll]; have := len_bulk t; omega
section
variable {P : Program} {w : World} {K : PySem.W.Frag} {mg : Str → Option Value} {base : Heap} {Z : Zs}
theorem ok_l_right (T : Txt K mg Z) (TB : TabB base mg Z.c_l_right Z.t_l_right) : GOk P w K mg base CX0 19 Z.f_l_right Z.d_l_right ["_law_pot_here"] (sp_l_right Z) := by
  refine okGC T.F_l_right sc_l_right (fun vs H Q E h => ?_) (fun A outer s H vs Q E g hr h => ?_)
  · obtain ⟨p, n, rfl, _⟩ := h
    rfl
  · obtain ⟨p, n, rfl, hp, hn, hT, k⟩ := h
    have sl : sizeLine = 16777216 := sizeLine_eq
    refine ⟨_, (pss_cons (ps_set (i := 1) sc_l_right.nd rfl (Or.inl rfl) (pe_call (ok_l_pieces T) (hr.mono (by decide)) rfl T.g_l_pieces T.k_l_pieces T.bn_l_pieces .nil pass0 (pa_cons (pv 0) (pa_cons pe_int pa_nil))))
      (pss_cons (ps_for PassesOwn.never rfl (pi_list (pe_call (ok_l_near T) (hr.mono (by decide)) rfl T.g_l_near T.k_l_near T.bn_l_near .nil pass0 (pa_cons (pv 0) (pa_cons (pv 1) pa_nil)))) (pg_name (i := 2) sc_l_right.nd rfl (Or.inr rfl)) (pss_cons (ps_asg (pe_lam (T := tabs Z) (t := tI K Z p) (ok_l_told T) (by exact g) (hr.mono (by decide)) T.bn_l_told rfl T.g_l_told T.k_l_told pa_nil TB rfl (tabs_mem Z) (tabs_one Z) (lamS_by (sc := defScope s_l_right) (by decide +kernel)) rfl (fun _ _ _ _ _ => rfl) (fun A outer s H E f c' hr' => (pe_make (mkM T) (ok_M_initD (p := (· = p)) T) (hr'.mono (k := 12) (by decide)) rfl T.g_Bk T.bn_M_init .nil (passes_call (takes_of rfl rfl rfl rfl) (fun _ _ _ _ h => h)) (pa_cons (pv 2) pa_nil)))) (pg_tup rfl (pgs_cons (pg_name (i := 3) sc_l_right.nd rfl (Or.inl rfl)) (pgs_cons (pg_name (i := 4) sc_l_right.nd rfl (Or.inl rfl)) pgs_nil))))
      (pss_one (ps_if (pt_val (pe_call (ok_l_are_pieces (p := (· = p)) T) (hr.mono (by decide)) rfl T.g_l_are_pieces T.k_l_are_pieces T.bn_l_are_pieces .nil pass0 (pa_cons (pv 2) pa_nil))) (pss_one (ps_if (PW.pt (pw_or (pt_cmpR op_notN (pv 3) pe_non (nomark _)) (pw_or1 (pt_cmpR op_ne (pe_callB (r := rReprD K) (id := "repr") (call_reprS (by exact g) (by exact hr.units)) (by rfl) T.b_repr (by decide +kernel) (pa_cons (pe_fld (pv 4) rfl) pa_nil)) (pe_callB (r := rReprD K) (id := "repr") (call_reprS (by exact g) (by exact hr.units)) (by rfl) T.b_repr (by decide +kernel) (pa_cons (pv 2) pa_nil)) (nomark _))))) (pss_one (ps_ret pe_bl)) pss_nil)) (pss_one (ps_if (PW.pt (pw_or (pt_not (pt_val (pe_callB (r := rIsM K) (id := "isinstance") call_isM (by rfl) T.b_isinstance (by decide +kernel) (pa_cons (pv 3) (pa_cons (pe_glob (v := .ref (Z.c 0)) rfl T.g_BadPieces rfl) pa_nil))))) (pw_or1 (pt_cmpR op_ne (pe_callB (r := rReprD K) (id := "repr") (call_reprS (by exact g) (by exact hr.units)) (by rfl) T.b_repr (by decide +kernel) (pa_cons (show PE _ _ (tMv K "value" (tVar 3)) from pe_mv (pv 3)) pa_nil)) (pe_callB (r := rReprD K) (id := "repr") (call_reprS (by exact g) (by exact hr.units)) (by rfl) T.b_repr (by decide +kernel) (pa_cons (pv 2) pa_nil)) (nomark _))))) (pss_one (ps_ret pe_bl)) pss_nil))))))
      (pss_one (ps_ret pe_bl)))), ?_⟩
    refine ⟨_, rfl, p, n, 20, rfl, hp, by omega, by decide, by decide, fun ps R tr n1 H1 ok l7 z20 hR hps hn1 hp1 k1 => ?_⟩
    have td := td_pcs (p := (· = p)) hps (PB.all ok (by omega))
    refine ⟨_, rfl, _, rfl, p, n1, R, tr, ps, rfl, hp1, by omega, hR, td, ok, l7, z20, fun x xs n2 H2 hx nxp av hn2 hp2 k2 => ?_⟩
    have hT2 := Tabs.keep (k1.trans k2) hp hT
    have X0 := T.ex 0 (by decide)
    have Te := T.ex 1 (by decide)
    refine ⟨x, rfl, ⟨_, SqL.of hx⟩, for_list (xs := xs) (fun _ σ H' => ∃ v2 v3 v4, σ = [some (.ref p), some (.ref R), v2, v3, v4] ∧ ExtN H2 H' ∧ Tabs (tabs Z) H') ⟨_, _, _, rfl, ExtN.refl _, hT2⟩ (fun i σ H' _ ⟨_, _, _, _, e, _⟩ => SqL.of (e _ _ hx (fun _ z => nomatch z))) ?_ ?_⟩
    · rintro i v σ H3 hi ⟨v2, v3, v4, rfl, eN, hT3⟩
      obtain ⟨d, hv2⟩ := av v (List.mem_of_getElem? hi)
      have hv3 := hv2.extN eN
      refine ⟨hT3, fun Ha c' ea hTa hc => ?_⟩
      have hva := hv3.extN ea
      have fin : ∀ {Hb : Hp}, Same Ha Hb → ExtN H2 Hb ∧ Tabs (tabs Z) Hb := fun {Hb} s => ⟨(eN.trans ea).trans (ExtN.same s), hTa.ext s⟩
      by_cases ip : IsPcs d
      · obtain ⟨qs, rfl, fw, q1, qz⟩ := id ip
        have dd := hva.dp (K := K)
        have ss := hva.shown
        cases hva with
        | td t dep bk =>
        cases t with
        | @tup q ys _ hq t =>
        have dq : PyData.depthAll (qs.map dPc) ≤ 11 := by rw [PyData.depth] at dep; omega
        have lq : qs.length ≤ 1000 := by
          have := len_bulk (qs.map dPc)
          rw [List.length_map] at this
          rw [PyData.bulk] at bk
          omega
        refine ⟨rfl, fun c f Hb => c = .non ∧ ∃ m, f = V.ref m ∧ Same Ha Hb ∧ MelAt Z.cB Hb m q qs, fun c f Hb gw y hy => ?rest1, fun Hb sb => ?look1⟩
        case look1 =>
          refine ⟨sb _ _ hc, _, rfl, fun m dx nm ndx ne => ⟨m, dx, _, rfl, upd_same, .inr ⟨q, ys, qs, rfl, ?_⟩⟩⟩
          have s1 := Same.new (o := .own m) (Same.refl Hb) ndx
          have nm1 : upd Hb dx (.own m) m = none := by rw [upd_ne ne.symm]; exact nm
          have s2 := Same.new (o := .ins Z.cB dx []) s1 nm1
          refine ⟨s2 _ _ (sb _ _ hq), t.same (sb.trans s2), by omega, ip, lq, fun H' mel kp2 => ⟨rfl, rfl, m, rfl, fun b o e => ?_, mel⟩⟩
          have e1 := sb _ _ e
          have nb : b ≠ m := ne_of_none e1 nm
          exact kp2 _ _ nb (by rw [upd_ne nb]; exact s1 _ _ e1)
        case rest1 =>
          obtain ⟨rfl, m, rfl, sb, mel⟩ := gw
          have sy := Same.new (o := .tup [.non, .ref m]) (Same.refl Hb) hy
          have aty : upd Hb y (.tup [.non, .ref m]) y = some (.tup [.non, .ref m]) := upd_same
          have mel := mel.same sy
          generalize upd Hb y (.tup [.non, .ref m]) = Hd at sy aty mel ⊢
          have sad := sb.trans sy
          refine ⟨y, _, rfl, SqT.of aty, rfl, _, _, rfl, _, _, rfl, rfl, ?_⟩
          refine ⟨_, rfl, .inr ⟨q, ys, _, rfl, sad _ _ hq, t.same sad, by omega, fun b hb He se => ⟨b, rfl, ?_⟩⟩⟩
          obtain rfl := hb.mpr ip
          refine iteT ⟨_, rfl, rfl, false, rfl, iteF ?_⟩
          have sae := sad.trans se
          have ve := (Val.td (.tup hq t) dep bk).same sae
          obtain ⟨dx, S, A', tr', mi⟩ := mel.same se
          refine ⟨_, rfl, m, _, dx, _, _, rfl, mi.ins, T.clB, T.nB_pieces, mfs_pieces _ _ _ _ _, _, _, rfl, .one ve.dp, ss.ok, ss.dep, ss.len, ?_⟩
          refine ⟨_, rfl, _, _, rfl, .one ve.dp, ss.ok, ss.dep, ss.len, rfl, false, ?_, iteF ?_⟩
          · rw [decide_eq_true rfl]
            rfl
          exact ⟨_, _, _, rfl, fin sae⟩
      · have ss := hva.shown
        refine ⟨rfl, fun c f Hb => ∃ b, c = V.ref b ∧ f = .non ∧ Same Ha Hb ∧ Met Hb b (Z.c 0) [("value", v)], fun c f Hb gw y hy => ?rest2, fun Hb sb => ?look2⟩
        case look2 =>
          refine ⟨sb _ _ hc, _, rfl, fun m dx nm ndx ne => ⟨m, dx, _, rfl, upd_same, .inl ⟨?_, ?_⟩⟩⟩
          · have s1 := Same.new (o := .own m) (Same.refl Hb) ndx
            have nm1 : upd Hb dx (.own m) m = none := by rw [upd_ne ne.symm]; exact nm
            exact NoPcs.same hva ip (sb.trans (Same.new (o := .ins Z.cB dx []) s1 nm1))
          · have s1 := Same.new (o := .own m) (Same.refl Hb) ndx
            have nm1 : upd Hb dx (.own m) m = none := by rw [upd_ne ne.symm]; exact nm
            have s2 := sb.trans (Same.new (o := .ins Z.cB dx []) s1 nm1)
            exact Out.met (G := fun c Hc => ∃ b, c = V.ref b ∧ V.non = .non ∧ Same Ha Hc ∧ Met Hc b (Z.c 0) [("value", v)]) X0 Te fun b Hc sc mt => ⟨b, rfl, rfl, s2.trans sc, mt⟩
        case rest2 =>
          obtain ⟨b, rfl, rfl, sb, mt⟩ := gw
          have sy := Same.new (o := .tup [.ref b, .non]) (Same.refl Hb) hy
          have aty : upd Hb y (.tup [.ref b, .non]) y = some (.tup [.ref b, .non]) := upd_same
          have mt := mt.same sy
          generalize upd Hb y (.tup [.ref b, .non]) = Hd at sy aty mt ⊢
          have sad := sb.trans sy
          refine ⟨y, _, rfl, SqT.of aty, rfl, _, _, rfl, _, _, rfl, rfl, ?_⟩
          have vd := hva.same sad
          rcases hva with ⟨t, dep, bk⟩ | ⟨nn, hh⟩
          · have tyd := (t.same sad).ty (K := K)
            by_cases it : isTup d = true
            · cases t with
              | @tup q ys ds hq t =>
              refine ⟨_, rfl, .inr ⟨q, ys, _, rfl, sad _ _ hq, t.same sad, by rw [PyData.depth] at dep; omega, fun bb hb He se => ⟨bb, rfl, ?_⟩⟩⟩
              have : bb = false := by
                cases bb with
                | true => exact absurd (hb.mp rfl) ip
                | false => rfl
              subst this
              refine iteF ?_
              have ve := vd.same se
              have mt := mt.same se
              refine ⟨_, rfl, b, Z.c 0, _, .ref (Z.c 0), .ref (Z.c 0), true, true, rfl, mt, X0.ec, X0.selfC, .own _, X0.self, true, rfl, iteF ?_⟩
              refine ⟨_, rfl, b, Z.c 0, _, _, rfl, mt, X0.xf, X0.nv, rfl, _, _, rfl, .one ve.dp, ss.ok, ss.dep, ss.len, ?_⟩
              refine ⟨_, rfl, _, _, rfl, .one ve.dp, ss.ok, ss.dep, ss.len, rfl, false, by rw [decide_eq_true rfl] <;> rfl, iteF ?_⟩
              exact ⟨_, _, _, rfl, fin (sad.trans se)⟩
              | _ => cases it
            · have kt : PySem.W.kitOne K (.type (tyN d)) (.type "tuple") = some false := by rw [kit_tup, Bool.eq_false_iff.mpr it]
              refine ⟨_, rfl, .inl ⟨v, _, rfl, tyd, kt, false, rfl, iteF ?_⟩⟩
              refine ⟨_, rfl, b, Z.c 0, _, .ref (Z.c 0), .ref (Z.c 0), true, true, rfl, mt, X0.ec, X0.selfC, .own _, X0.self, true, rfl, iteF ?_⟩
              refine ⟨_, rfl, b, Z.c 0, _, _, rfl, mt, X0.xf, X0.nv, rfl, _, _, rfl, .one vd.dp, ss.ok, ss.dep, ss.len, ?_⟩
              refine ⟨_, rfl, _, _, rfl, .one vd.dp, ss.ok, ss.dep, ss.len, rfl, false, by rw [decide_eq_true rfl] <;> rfl, iteF ?_⟩
              exact ⟨_, _, _, rfl, fin sad⟩
          · refine ⟨_, rfl, .inl ⟨_, _, rfl, .base (.dK (sad _ _ hh)), kit_ty (by decide +kernel), false, rfl, iteF ?_⟩⟩
            refine ⟨_, rfl, b, Z.c 0, _, .ref (Z.c 0), .ref (Z.c 0), true, true, rfl, mt, X0.ec, X0.selfC, .own _, X0.self, true, rfl, iteF ?_⟩
            refine ⟨_, rfl, b, Z.c 0, _, _, rfl, mt, X0.xf, X0.nv, rfl, _, _, rfl, .one vd.dp, ss.ok, ss.dep, ss.len, ?_⟩
            refine ⟨_, rfl, _, _, rfl, .one vd.dp, ss.ok, ss.dep, ss.len, rfl, false, by rw [decide_eq_true rfl] <;> rfl, iteF ?_⟩
            exact ⟨_, _, _, rfl, fin sad⟩
    · rintro σ H3 ⟨v2, v3, v4, rfl, eN, hT3⟩
      exact k n2 H3 (by omega) (Pot.extN eN hp2) hT3 ((KeepN.of (k1.trans k2)).then (KeepN.ext eN))
end
end TT

namespace TT
open PySem PySem.Spec PyProof.Rows L2 LamX
def sp_law (K : PySem.W.Frag) (Z : Zs) : Sp := fun vs H Q _ => ∃ (a : Addr) (ns : List Int), vs = [.ref a] ∧ SqL K H a (ns.map V.int) ∧ ns.length ≤ 63 ∧ Tabs (tabs Z) H ∧ ∀ H', Q (.bl true) H'
section
variable {P : Program} {w : World} {K : PySem.W.Frag} {mg : Str → Option Value} {base : Heap} {Z : Zs}
theorem ok_law (T : Txt K mg Z) (TB : TabB base mg Z.c_l_right Z.t_l_right) : GOk P w K mg base CX0 20 Z.f_law Z.d_law ["_law_script"] (sp_law K Z) := by
  refine okG T.F_law sc_law (fun vs H Q E h => ?_) (fun cdv A outer s H vs Q E g hr h => ?_)
  · obtain ⟨a, ns, rfl, _⟩ := h
    rfl
  · obtain ⟨a, ns, rfl, hS, hl, hT, k⟩ := h
    refine ⟨_, (pss_one (ps_ret (pe_callB  (cr_all rfl) (by rfl) T.b_all (by decide +kernel) (pa_cons (pe_lc (own := [("_law_pot_here", 1)]) rfl sc_law.nd (pi_list (pe_call (ok_l_pots T) (hr.mono (by decide)) rfl T.g_l_pots T.k_l_pots T.bn_l_pots .nil pass0 (pa_cons (pv 0) (pa_cons pe_int pa_nil)))) (blkOk_by (own := [("_law_pot_here", 1)]) (N := ["_law_script", "_law_pot_here"]) (sc := defScope s_law) (by decide +kernel)) (fun _ _ _ _ _ => (pg_name (i := 1) sc_law.nd rfl (Or.inl rfl))) (fun _ _ _ _ _ => pts_nil) (fun _ _ _ _ _ => (pe_callG (ok_l_right T TB) (by exact g) (hr.mono (by decide)) rfl T.g_l_right T.k_l_right T.bn_l_right .nil pass0 (pa_cons (pv 1) pa_nil)))) pa_nil)))), ?_⟩
    refine ⟨_, rfl, a, ns, rfl, hS, hl, fun x qs H2 nx s2 hx l6 hq nd => ?_⟩
    have sl : sizeLine = 16777216 := sizeLine_eq
    have xq : x ∉ qs := fun h => by
      obtain ⟨o, m, e, _⟩ := (hq x h).2
      rw [hx] at e
      cases qs with
      | nil => cases h
      | cons q t =>
        injection e with e
        injection e with e
        rw [List.map_cons] at e
        injection e with e _
        cases e
    refine ⟨x, rfl, ⟨_, SqL.of hx⟩, fun D hD => ?_⟩
    have xD : x ≠ D := ne_of_none hx hD
    have qD : ∀ q ∈ qs, q ≠ D := fun q h => (hq q h).2.ne hD
    have sD := Same.new (o := .lst []) (Same.refl H2) hD
    refine lc_list (xs := qs.map V.ref) (fun i H' => H' D = some (.lst (List.replicate i (.bl true))) ∧ H' x = some (.lst (qs.map V.ref)) ∧ (∀ j q, i ≤ j → qs[j]? = some q → Pot H' q 0) ∧ Tabs (tabs Z) H') ⟨upd_same, sD _ _ hx, fun j q _ h => (hq q (List.mem_of_getElem? h)).2.same sD, (hT.ext s2).ext sD⟩ (fun i H' _ ⟨_, h, _, _⟩ => SqL.of h) ?_ ?_
    · rintro i y H3 hi ⟨hD3, hx3, hp3, hT3⟩
      refine ⟨rfl, ?_⟩
      unfold tYes
      rw [List.getElem?_map] at hi
      obtain ⟨q, hqi, rfl⟩ := Option.map_eq_some_iff.mp hi
      have qm := List.mem_of_getElem? hqi
      have il := (List.getElem?_eq_some_iff.mp hqi).1
      refine iteT ⟨_, rfl, q, 0, rfl, hp3 i q (Nat.le_refl _) hqi, by decide, hT3, fun n' H4 hn hp4 hT4 k4 => ?_⟩
      have hD4 := k4 _ _ (qD q qm).symm hD3 (fun _ z => nomatch z)
      have hx4 := k4 _ _ (fun z => xq (by rw [z]; exact qm)) hx3 (fun _ z => nomatch z)
      refine ⟨_, hD4, by rw [List.length_replicate]; omega, ?_, ?_, fun j r hj hr' => ?_, Tabs.lst hD4 hT4⟩
      · rw [← List.replicate_succ']
        exact upd_same
      · rw [upd_ne xD]
        exact hx4
      · have rm := List.mem_of_getElem? hr'
        have rq : r ≠ q := fun z => by
          subst z
          obtain ⟨jl, je⟩ := List.getElem?_eq_some_iff.mp hr'
          obtain ⟨il', ie⟩ := List.getElem?_eq_some_iff.mp hqi
          exact List.pairwise_iff_getElem.mp nd i j il' jl (by omega) (by rw [ie, je])
        obtain ⟨o, m, e, z⟩ := hp3 j r (by omega) hr'
        exact Pot.put ⟨o, m, k4 _ _ rq e (fun _ z => nomatch z), z⟩ (qD r rm)
    · rintro H3 ⟨hD3, _⟩
      refine ⟨D, List.replicate (qs.map V.ref).length true, rfl, SqL.of (by rw [List.map_replicate]; exact hD3), ?_⟩
      show Q (.bl ((List.replicate (qs.map V.ref).length true).all id)) H3
      rw [all_rep]
      exact k H3
end
end TT

set_option Elab.async false
set_option linter.all false
set_option maxRecDepth 100000
set_option maxHeartbeats 4000000
/-! A head that writes nothing out: the top by one kernel run (Head0 to Head2), what stands behind it by tests over a part of the heap; laws whose defs make lambdas walk over it. -/
namespace TT
open PySem PySem.Spec PyProof.Rows L2 LamX
/-- a table of code objects, or a code object -/
def isTab (o : Obj) : Bool := match o.cls, o.data with
  | .none, .fields _ => true
  | _, _ => false
def frag (g : Addr → Option Obj) (n : Nat) : PySem.W.Frag := (He.asD g n).filterMap fun a => match g a with
  | some o => if isTab o then none else some (a, o)
  | none => none
theorem frag_mem {g : Addr → Option Obj} {n : Nat} {p : Addr × Obj} (h : p ∈ frag g n) : g p.1 = some p.2 ∧ isTab p.2 = false := by
  obtain ⟨a, _, e⟩ := List.mem_filterMap.mp h
  cases hg : g a with
  | none => rw [hg] at e; cases e
  | some o =>
    rw [hg] at e
    by_cases c : isTab o = true
    · simp only [c, if_true] at e
      cases e
    · have c' : isTab o = false := by simpa using c
      simp only [c'] at e
      cases e
      exact ⟨hg, c'⟩
theorem lookup_mem {α β : Type} [BEq α] [LawfulBEq α] {a : α} {b : β} : ∀ {l : List (α × β)}, l.lookup a = some b → (a, b) ∈ l
  | [], h => by cases h
  | (x, y) :: t, h => by
    rw [List.lookup_cons] at h
    split at h
    · rename_i e
      rw [eq_of_beq e, Option.some.inj h]
      exact List.mem_cons_self ..
    · exact List.mem_cons_of_mem _ (lookup_mem h)
theorem frag_in {h : Heap} {n : Nat} : (frag h.get? n).In h := fun a o e => (frag_mem (lookup_mem e)).1
theorem frag_noTabs {g : Addr → Option Obj} {n : Nat} : PySem.W.noTabs (frag g n) = true := by
  unfold PySem.W.noTabs
  rw [List.all_eq_true]
  intro p hp
  have h := (frag_mem hp).2
  unfold isTab at h
  split at h
  · cases h
  · rename_i no
    split
    · rename_i vs e1 e2
      exact absurd e2 (no _ e1)
    · rfl
/-- the hook: facts by names, and tests -/
def hook (n : Nat) (fa : List He.Fa) (fn : List He.DefD) (my : PySem.W.Frag → Bool) : PySem.W.Hook where
  α := He.AlD × Bool
  obs := fun s => (He.obsD fa fn (frag s.heap.get? n), my (frag s.heap.get? n))
  val := fun _ => (He.valD fn, true)
  says := fun _ h => ∃ K : PySem.W.Frag, K.In h ∧ PySem.W.noTabs K = true ∧ He.SaysD fa fn K ∧ my K = true
  of := fun w s e => ⟨frag s.heap.get? n, frag_in, frag_noTabs, (Prod.mk.inj e).1, (Prod.mk.inj e).2⟩
  keeps := fun w h h' ⟨K, a, b⟩ k => ⟨K, a.keeps k, b⟩
def ob (n : Nat) (fa : List He.Fa) (fn : List He.DefD) (my : PySem.W.Frag → Bool) (s : PySem.W.SharedT) : He.AlD × Bool := (He.obsD fa fn (frag (HandSHeadRun.getT s) n), my (frag (HandSHeadRun.getT s) n))
theorem ob_eq (n : Nat) (fa : List He.Fa) (fn : List He.DefD) (my : PySem.W.Frag → Bool) (s : PySem.W.SharedT) : ob n fa fn my s = (hook n fa fn my).obs s.abs := by
  have e : HandSHeadRun.getT s = s.abs.heap.get? := funext (HandSHeadRun.getT_eq s)
  unfold ob
  rw [e]
  rfl
/-! ### the tests -/
def excAt (K : PySem.W.Frag) (C : Addr) (bm : List Value) : Bool := match K.lookup C with
  | some ⟨.type "type", _, .cls ⟨_, _, mro, _, _, hd, _, _, _, _, del⟩, sl⟩ => match sl.toList with
    | [_, _, _, _, some (.builtin n), _] => decide (mro = .ref C :: bm) && (hd && (!del && decide (n = "ValueError.__new__")))
    | _ => false
  | _ => false
theorem excAt_ok {K : PySem.W.Frag} {C : Addr} {bm : List Value} (h : excAt K C bm = true) : ∃ nm q N bs sn sub ab col dd k0 k1 k2 k3 k5, K.lookup C = some (excClassObj nm q C N bs bm true sn sub ab col dd k0 k1 k2 k3 k5 "ValueError.__new__") := by
  unfold excAt at h
  split at h
  · rename_i dd nm bs mro N q hd sn sub ab col del sl e
    split at h
    · rename_i k0 k1 k2 k3 n k5 es
      rw [Bool.and_eq_true, Bool.and_eq_true, Bool.and_eq_true] at h
      obtain ⟨h1, h2, h3, h4⟩ := h
      have h1 := of_decide_eq_true h1
      have h4 := of_decide_eq_true h4
      have h3 : del = false := by simpa using h3
      have es' : sl = #[k0, k1, k2, k3, some (.builtin n), k5] := Array.toList_inj.mp es
      subst h1 h2 h3 h4 es'
      exact ⟨nm, q, N, bs, sn, sub, ab, col, dd, k0, k1, k2, k3, k5, e⟩
    · cases h
  · cases h
def excB (K : PySem.W.Frag) (cE fI C : Addr) : Bool :=
  excAt K C (chain cE C) && (decide (PySem.W.findIn K (.ref C) "__setattr__" = some (some (.builtin "object.__setattr__"))) && (decide (PySem.W.typeIn K (.ref C) = some (.type "type")) && (PySem.W.keepIn K (.ref C) &&
  (decide (PySem.W.findIn K (.ref C) "__getattribute__" = some (some (.builtin "BaseException.__getattribute__"))) && (decide (PySem.W.findIn K (.ref C) "__getattr__" = some none) && (decide (PySem.W.findIn K (.ref C) "__class__" = some (some (.builtin "object.__class__"))) &&
  (decide (PySem.W.findIn K (.ref C) "__init__" = some (some (.ref fI))) && decide (PySem.W.findIn K (.ref C) "value" = some none))))))))
theorem excB_ok {K : PySem.W.Frag} {cE fI C : Addr} (h : excB K cE fI C = true) : ExcF K cE fI C := by
  unfold excB at h
  simp only [Bool.and_eq_true] at h
  obtain ⟨h1, h2, h3, h4, h5, h6, h7, h8, h9⟩ := h
  obtain ⟨nm, q, N, bs, sn, sub, ab, col, dd, k0, k1, k2, k3, k5, e⟩ := excAt_ok h1
  exact excF_mk e rfl (of_decide_eq_true h2) (of_decide_eq_true h3) h4 (of_decide_eq_true h5) (of_decide_eq_true h6) (of_decide_eq_true h7) (of_decide_eq_true h8) (of_decide_eq_true h9)
/-- what is found by way of a class -/
def valB (x : Option PySem.W.CFound) (v : Value) : Bool := match x with
  | some (.val u) => decide (u = v)
  | _ => false
theorem valB_ok {x : Option PySem.W.CFound} {v : Value} (h : valB x v = true) : x = some (.val v) := by
  unfold valB at h
  split at h
  · rw [of_decide_eq_true h]
  · cases h
theorem all_at {l : List Bool} (h : l.all id = true) (i : Nat) {b : Bool} (e : l[i]? = some b) : b = true := List.all_eq_true.mp h b (List.mem_of_getElem? e)
theorem all_eq {l : List Bool} (h : l.all id = true) (i : Nat) {p : Prop} [Decidable p] (e : l[i]? = some (decide p)) : p := of_decide_eq_true (all_at h i e)
theorem _root_.L2.FunD.fun {K : PySem.W.Frag} {x qual : Str} {st : Stmt} {kws : List (Str × V)} {f : Addr} {fd : FuncData} (F : FunD K x qual (defArgs st) (defBody st) (defScope st) [] kws f fd) : Fun K x qual st f fd := by
  obtain ⟨oc, od, dV, kV, doc, pm, an, cdv, ct, osl, efd, lk, hcd, hd, _⟩ := F.ex
  rcases hd with ⟨_, rfl⟩ | ⟨h, _⟩
  · exact ⟨⟨oc, od, kV, doc, pm, an, cdv, ct, osl, efd, lk, hcd⟩, F.kp⟩
  · exact absurd rfl h
/-- a def that makes lambdas: its code object and its table, by the top -/
theorem _root_.L2.Fun.withTab {p : Program} {h : Heap} {K : PySem.W.Frag} {mg : Str → Option Value} {x : Str} {st : Stmt} {f : Addr} {fd : FuncData} (F : Fun K x x st f fd)
    (tab : ∀ d ∈ recsOf p, ∃ a o fd c P, mg d.name = some (.ref a) ∧ h.get? a = some o ∧ o.data = .func fd ∧ fd.code = .ref c ∧ h.IsCode c P #[] ∧ h.TableAt c P #[]) (X : K.In h) (hx : ((recsOf p).any fun d => d.name == x) = true) (hm : mg x = some (.ref f)) :
    ∃ c P, FunC K x x st f fd c ∧ PySem.W.CodeHd h c P ∧ h.get? P = some tab0 := by
  obtain ⟨oc, od, kV, doc, pm, an, cdv, ct, osl, efd, lk, hcd⟩ := F.ex
  obtain ⟨c, P, ec, hc, hp⟩ := tab_at tab X hx hm lk
  have e : cdv = .ref c := by rw [efd] at ec; exact ec
  subst e
  exact ⟨c, P, ⟨⟨oc, od, kV, doc, pm, an, ct, osl, efd, lk, hcd⟩, F.kp⟩, hc, hp⟩
/-- the walk: K is what the hook says -/
theorem walk_gE {l : PySem.W.OpenLaw} {n k : Nat} {q : Program} {loose : List Str} {XP : (Str → Option Value) → Heap → Prop} {YP : World → Heap → Prop} {d : DefRec} {x : Str}
    (hn : l.most = some n) (hn2 : n ≤ sizeLine) (hdf : d.params.defaults = []) (hr : Room k callerA)
    (F : ∀ (w : World) (mg : Str → Option Value) (fa : Addr) (h : Heap), YP w h → h.Ns mainGlobals mg → mg d.name = some (.ref fa) →
      (∀ d ∈ recsOf q, ∃ a o fd c P, mg d.name = some (.ref a) ∧ h.get? a = some o ∧ o.data = .func fd ∧ fd.code = .ref c ∧ h.IsCode c P #[] ∧ h.TableAt c P #[]) →
      ∃ (K : PySem.W.Frag) (fd : FuncData) (cs : List (Addr × Addr)) (sp : Sp), K.In h ∧ PySem.W.noTabs K = true ∧ (∀ p ∈ cs, PySem.W.CodeHd h p.1 p.2 ∧ h.get? p.2 = some tab0) ∧ (∀ (s : Shared) (u : Value), BindsTo s fd ⟨[u], []⟩ [(x, u)]) ∧
        (∀ (H : Hp) (a : Addr) (ns : List Int), ns.length ≤ n → (∀ p ∈ cs, H p.2 = some (.tbl #[])) → SqL K H a (ns.map V.int) → sp [.ref a] H (fun v _ => v = .bl true) fun _ _ _ => False) ∧
        ∀ base : Heap, K.In base → base.Ns mainGlobals mg → (∀ p ∈ cs, TabB base mg p.1 p.2) → GOk l.prog w K mg base CX0 k fa fd [x] sp) :
    PySem.W.WalkO q loose XP YP l.row.toRowW d [] (fun f vs => PySem.call f vs) :=
  Att.attach_call hn hdf fun w s₀ s₁ mg mb fa o pm cd doc a vs ns G Y ho hd hcd hmg hobj hints hlen hg => by
    obtain ⟨K, fd, cs, sp, hK, noT, ht, hb, hsp, hF⟩ := F w mg fa _ Y G.T.g hmg G.T.tab
    exact run_lawT hK G.T.g G.T.b G.T.builtins G.T.nolimit hg G.T.bmain (fun p hp => (ht p hp).2) (fun p hp => (ht p hp).1) noT hobj hints (Nat.le_trans hlen hn2) hr hF hb fun H hT hS => hsp H a ns hlen hT hS
end TT

set_option Elab.async false
set_option linter.all false
set_option maxRecDepth 100000
set_option maxHeartbeats 8000000
namespace TT
open PySem PySem.Spec PyProof.Rows L2 LamX
theorem kit_self {K : PySem.W.Frag} {a : Addr} : PySem.W.kitOne K (.ref a) (.ref a) = some true := by
  unfold PySem.W.kitOne
  rw [if_pos (beq_iff_eq.mpr rfl)]
theorem kit_not {K : PySem.W.Frag} {T : String} {C : Addr} (h1 : PySem.W.mroIn K C (.type "object") = some true) (h2 : PySem.W.typeIn K (.ref C) = some (.type "type")) (h3 : PySem.W.subIn K (.type T) (.ref C) = some false) : PySem.W.kitOne K (.type T) (.ref C) = some false := by
  have h0 : (PySem.W.clsIn K C).isSome = true := by
    unfold PySem.W.mroIn at h1
    obtain ⟨cd, a, _⟩ := Option.bind_eq_some_iff.mp h1
    rw [a]; rfl
  have hc : PySem.W.kitCls K (.type T) (.ref C) = some false := by
    unfold PySem.W.kitCls
    simp only
    rw [if_pos (by rw [h0, h2]; rfl)]
    exact h3
  unfold PySem.W.kitOne
  have ne : ¬ ((Value.type T == Value.ref C) = true) := fun e => by
    have e2 := beq_iff_eq.mp e
    cases e2
  rw [if_neg ne]
  exact hc
abbrev RW : PySem.W.OpenRow := PySem.W.OpenLaw.row PySem.Challenge.rw_turnedtunes_k39_pieces_refused
abbrev qv : Program := PySem.W.view RW.prog [0, 102, 103]
def hd0 : He.DefD := ⟨("TuneError", some "__init__"), "__init__", "TuneError.__init__", defArgs s_E_init, defBody s_E_init, defScope s_E_init, [], []⟩
def hd1 : He.DefD := ⟨("is_whole", none), "is_whole", "is_whole", defArgs s_is_whole, defBody s_is_whole, defScope s_is_whole, [], []⟩
def hd2 : He.DefD := ⟨("is_from", none), "is_from", "is_from", defArgs s_is_from, defBody s_is_from, defScope s_is_from, [], []⟩
def hd3 : He.DefD := ⟨("is_between", none), "is_between", "is_between", defArgs s_is_between, defBody s_is_between, defScope s_is_between, [], []⟩
def hd4 : He.DefD := ⟨("length_of", none), "length_of", "length_of", defArgs s_length_of, defBody s_length_of, defScope s_length_of, [], []⟩
def hd5 : He.DefD := ⟨("starts_of", none), "starts_of", "starts_of", defArgs s_starts_of, defBody s_starts_of, defScope s_starts_of, [], []⟩
def hd6 : He.DefD := ⟨("new_ahead", none), "new_ahead", "new_ahead", defArgs s_new_ahead, defBody s_new_ahead, defScope s_new_ahead, [], []⟩
def hd7 : He.DefD := ⟨("Melody", some "__init__"), "__init__", "Melody.__init__", defArgs s_M_init, defBody s_M_init, defScope s_M_init, [], []⟩
def hd8 : He.DefD := ⟨("_are_pieces", none), "_are_pieces", "_are_pieces", defArgs s_are_pieces, defBody s_are_pieces, defScope s_are_pieces, [], []⟩
def hd9 : He.DefD := ⟨("_is_piece", none), "_is_piece", "_is_piece", defArgs s_is_piece, defBody s_is_piece, defScope s_is_piece, [], []⟩
def hd10 : He.DefD := ⟨("_is_copy", none), "_is_copy", "_is_copy", defArgs s_is_copy, defBody s_is_copy, defScope s_is_copy, [], []⟩
def hd11 : He.DefD := ⟨("_law_pot", none), "_law_pot", "_law_pot", defArgs s_l_pot, defBody s_l_pot, defScope s_l_pot, [], []⟩
def hd12 : He.DefD := ⟨("_law_take", none), "_law_take", "_law_take", defArgs s_l_take, defBody s_l_take, defScope s_l_take, [], []⟩
def hd13 : He.DefD := ⟨("_law_of", none), "_law_of", "_law_of", defArgs s_l_of, defBody s_l_of, defScope s_l_of, [], []⟩
def hd14 : He.DefD := ⟨("_law_pots", none), "_law_pots", "_law_pots", defArgs s_l_pots, defBody s_l_pots, defScope s_l_pots, [], []⟩
def hd15 : He.DefD := ⟨("_law_told", none), "_law_told", "_law_told", defArgs s_l_told, defBody s_l_told, defScope s_l_told, [], []⟩
def hd16 : He.DefD := ⟨("_law_is_int", none), "_law_is_int", "_law_is_int", defArgs s_l_is_int, defBody s_l_is_int, defScope s_l_is_int, [], []⟩
def hd17 : He.DefD := ⟨("_law_odd", none), "_law_odd", "_law_odd", defArgs s_l_odd, defBody s_l_odd, defScope s_l_odd, [], []⟩
def hd18 : He.DefD := ⟨("_law_amount", none), "_law_amount", "_law_amount", defArgs s_l_amount, defBody s_l_amount, defScope s_l_amount, [], []⟩
def hd19 : He.DefD := ⟨("_law_lead", none), "_law_lead", "_law_lead", defArgs s_l_lead, defBody s_l_lead, defScope s_l_lead, [], []⟩
def hd20 : He.DefD := ⟨("_law_shown", none), "_law_shown", "_law_shown", defArgs s_l_shown, defBody s_l_shown, defScope s_l_shown, [], []⟩
def hd21 : He.DefD := ⟨("_law_piece", none), "_law_piece", "_law_piece", defArgs s_l_piece, defBody s_l_piece, defScope s_l_piece, [], []⟩
def hd22 : He.DefD := ⟨("_law_pieces", none), "_law_pieces", "_law_pieces", defArgs s_l_pieces, defBody s_l_pieces, defScope s_l_pieces, [], []⟩
def hd23 : He.DefD := ⟨("_law_bent", none), "_law_bent", "_law_bent", defArgs s_l_bent, defBody s_l_bent, defScope s_l_bent, [], []⟩
def hd24 : He.DefD := ⟨("_law_is_piece", none), "_law_is_piece", "_law_is_piece", defArgs s_l_is_piece, defBody s_l_is_piece, defScope s_l_is_piece, [], []⟩
def hd25 : He.DefD := ⟨("_law_are_pieces", none), "_law_are_pieces", "_law_are_pieces", defArgs s_l_are_pieces, defBody s_l_are_pieces, defScope s_l_are_pieces, [], []⟩
def hd26 : He.DefD := ⟨("_law_near", none), "_law_near", "_law_near", defArgs s_l_near, defBody s_l_near, defScope s_l_near, [], []⟩
def hd27 : He.DefD := ⟨("_law_right", none), "_law_right", "_law_right", defArgs s_l_right, defBody s_l_right, defScope s_l_right, [], []⟩
def hd28 : He.DefD := ⟨("law", none), "law", "law", defArgs s_law, defBody s_law, defScope s_law, [], []⟩
def hfn : List He.DefD := [hd0, hd1, hd2, hd3, hd4, hd5, hd6, hd7, hd8, hd9, hd10, hd11, hd12, hd13, hd14, hd15, hd16, hd17, hd18, hd19, hd20, hd21, hd22, hd23, hd24, hd25, hd26, hd27, hd28]
def hfa_ : List He.Fa := [.meth "TuneError" "__init__",
  .glo "is_whole",
  .glo "is_from",
  .glo "is_between",
  .glo "length_of",
  .glo "starts_of",
  .glo "new_ahead",
  .meth "Melody" "__init__",
  .glo "_are_pieces",
  .glo "_is_piece",
  .glo "_is_copy",
  .glo "_law_pot",
  .glo "_law_take",
  .glo "_law_of",
  .glo "_law_pots",
  .glo "_law_told",
  .glo "_law_is_int",
  .glo "_law_odd",
  .glo "_law_amount",
  .glo "_law_lead",
  .glo "_law_shown",
  .glo "_law_piece",
  .glo "_law_pieces",
  .glo "_law_bent",
  .glo "_law_is_piece",
  .glo "_law_are_pieces",
  .glo "_law_near",
  .glo "_law_right",
  .glo "law",
  .glo "BadPieces",
  .glo "TuneError",
  .free "isinstance",
  .free "int",
  .free "bool",
  .free "tuple",
  .free "len",
  .free "abs",
  .free "range",
  .free "max",
  .free "min",
  .free "str",
  .free "list",
  .free "repr",
  .free "all",
  .int "GREATEST" 1000000000000000000000000000000,
  .cls "Melody",
  .glo "Melody",
  .noat "Melody" "pieces",
  .noat "Melody" "starts",
  .noat "Melody" "ahead",
  .noat "Melody" "size",
  .noat "Melody" "new",
  .free "ValueError"]
def tests (K : PySem.W.Frag) : List Bool := [PySem.W.makesIn K (He.ga K "Melody"),
  PySem.W.keepIn K (.ref (He.ga K "Melody")),
  decide (PySem.W.findIn K (.ref (He.ga K "Melody")) "__class__" = some (some (.builtin "object.__class__"))),
  decide (PySem.W.mroIn K (He.ga K "Melody") (.type "object") = some true),
  decide (PySem.W.typeIn K (.ref (He.ga K "Melody")) = some (.type "type")),
  decide (PySem.W.specialIn K (.builtin "object.__class__") "__get__" = some (some (.builtin "getset_descriptor.__get__"))),
  decide (PySem.W.takesIn K (.builtin "object.__class__") = some true),
  valB (PySem.W.findCls K (.type "ValueError") (.type "type") "__init__") (.builtin "ValueError.__init__"),
  decide (PySem.W.typeIn K (.ref (He.ma K (He.ga K "TuneError") "__init__")) = some (.type "function")),
  decide (([(He.ga K "BadPieces"), (He.ga K "TuneError")] : List Addr).Nodup),
  excB K (He.ga K "TuneError") (He.ma K (He.ga K "TuneError") "__init__") (He.ga K "BadPieces"),
  excB K (He.ga K "TuneError") (He.ma K (He.ga K "TuneError") "__init__") (He.ga K "TuneError")]
theorem all_mk {l : PySem.W.OpenLaw} {q : Program} {w : World} {K : PySem.W.Frag} {h : Heap} {mg : Str → Option Value} {fa : Addr} (X : K.In h) (G : h.Ns mainGlobals mg) (hfa : mg "law" = some (.ref fa)) (c : He.SaysD hfa_ hfn K) (my : (tests K).all id = true)
    (tab : ∀ d ∈ recsOf q, ∃ a o fd c P, mg d.name = some (.ref a) ∧ h.get? a = some o ∧ o.data = .func fd ∧ fd.code = .ref c ∧ h.IsCode c P #[] ∧ h.TableAt c P #[])
    (hq : q = qv) :
    ∃ (fd : FuncData) (cs : List (Addr × Addr)) (sp : Sp), (∀ p ∈ cs, PySem.W.CodeHd h p.1 p.2 ∧ h.get? p.2 = some tab0) ∧ (∀ (s : Shared) (u : Value), BindsTo s fd ⟨[u], []⟩ [("_law_script", u)]) ∧
        (∀ (H : Hp) (a : Addr) (ns : List Int), ns.length ≤ 63 → (∀ p ∈ cs, H p.2 = some (.tbl #[])) → SqL K H a (ns.map V.int) → sp [.ref a] H (fun v _ => v = .bl true) fun _ _ _ => False) ∧
        ∀ base : Heap, K.In base → base.Ns mainGlobals mg → (∀ p ∈ cs, TabB base mg p.1 p.2) → GOk l.prog w K mg base CX0 20 fa fd ["_law_script"] sp := by
  subst hq
  have e := hfa.symm.trans (He.glo_ok X G (c.fact 28 rfl))
  cases e
  obtain ⟨fd0, FD0⟩ := c.def_ 0 (d := hd0) rfl
  have F0 : Fun K "__init__" "TuneError.__init__" s_E_init (He.ma K (He.ga K "TuneError") "__init__") fd0 := L2.FunD.fun FD0
  obtain ⟨fd1, FD1⟩ := c.def_ 1 (d := hd1) rfl
  have F1 : Fun K "is_whole" "is_whole" s_is_whole (He.ga K "is_whole") fd1 := L2.FunD.fun FD1
  obtain ⟨fd2, FD2⟩ := c.def_ 2 (d := hd2) rfl
  have F2 : Fun K "is_from" "is_from" s_is_from (He.ga K "is_from") fd2 := L2.FunD.fun FD2
  obtain ⟨fd3, FD3⟩ := c.def_ 3 (d := hd3) rfl
  have F3 : Fun K "is_between" "is_between" s_is_between (He.ga K "is_between") fd3 := L2.FunD.fun FD3
  obtain ⟨fd4, FD4⟩ := c.def_ 4 (d := hd4) rfl
  have F4 : Fun K "length_of" "length_of" s_length_of (He.ga K "length_of") fd4 := L2.FunD.fun FD4
  obtain ⟨fd5, FD5⟩ := c.def_ 5 (d := hd5) rfl
  have F5 : Fun K "starts_of" "starts_of" s_starts_of (He.ga K "starts_of") fd5 := L2.FunD.fun FD5
  obtain ⟨fd6, FD6⟩ := c.def_ 6 (d := hd6) rfl
  have F6 : Fun K "new_ahead" "new_ahead" s_new_ahead (He.ga K "new_ahead") fd6 := L2.FunD.fun FD6
  obtain ⟨fd7, FD7⟩ := c.def_ 7 (d := hd7) rfl
  have F7 : Fun K "__init__" "Melody.__init__" s_M_init (He.ma K (He.ga K "Melody") "__init__") fd7 := L2.FunD.fun FD7
  obtain ⟨fd8, FD8⟩ := c.def_ 8 (d := hd8) rfl
  have F8 : Fun K "_are_pieces" "_are_pieces" s_are_pieces (He.ga K "_are_pieces") fd8 := L2.FunD.fun FD8
  obtain ⟨fd9, FD9⟩ := c.def_ 9 (d := hd9) rfl
  have F9 : Fun K "_is_piece" "_is_piece" s_is_piece (He.ga K "_is_piece") fd9 := L2.FunD.fun FD9
  obtain ⟨fd10, FD10⟩ := c.def_ 10 (d := hd10) rfl
  have F10 : Fun K "_is_copy" "_is_copy" s_is_copy (He.ga K "_is_copy") fd10 := L2.FunD.fun FD10
  obtain ⟨fd11, FD11⟩ := c.def_ 11 (d := hd11) rfl
  have F11 : Fun K "_law_pot" "_law_pot" s_l_pot (He.ga K "_law_pot") fd11 := L2.FunD.fun FD11
  obtain ⟨fd12, FD12⟩ := c.def_ 12 (d := hd12) rfl
  have F12 : Fun K "_law_take" "_law_take" s_l_take (He.ga K "_law_take") fd12 := L2.FunD.fun FD12
  obtain ⟨fd13, FD13⟩ := c.def_ 13 (d := hd13) rfl
  have F13 : Fun K "_law_of" "_law_of" s_l_of (He.ga K "_law_of") fd13 := L2.FunD.fun FD13
  obtain ⟨fd14, FD14⟩ := c.def_ 14 (d := hd14) rfl
  have F14 : Fun K "_law_pots" "_law_pots" s_l_pots (He.ga K "_law_pots") fd14 := L2.FunD.fun FD14
  obtain ⟨fd15, FD15⟩ := c.def_ 15 (d := hd15) rfl
  have F15 : Fun K "_law_told" "_law_told" s_l_told (He.ga K "_law_told") fd15 := L2.FunD.fun FD15
  obtain ⟨fd16, FD16⟩ := c.def_ 16 (d := hd16) rfl
  have F16 : Fun K "_law_is_int" "_law_is_int" s_l_is_int (He.ga K "_law_is_int") fd16 := L2.FunD.fun FD16
  obtain ⟨fd17, FD17⟩ := c.def_ 17 (d := hd17) rfl
  have F17 : Fun K "_law_odd" "_law_odd" s_l_odd (He.ga K "_law_odd") fd17 := L2.FunD.fun FD17
  obtain ⟨fd18, FD18⟩ := c.def_ 18 (d := hd18) rfl
  have F18 : Fun K "_law_amount" "_law_amount" s_l_amount (He.ga K "_law_amount") fd18 := L2.FunD.fun FD18
  obtain ⟨fd19, FD19⟩ := c.def_ 19 (d := hd19) rfl
  have F19 : Fun K "_law_lead" "_law_lead" s_l_lead (He.ga K "_law_lead") fd19 := L2.FunD.fun FD19
  obtain ⟨fd20, FD20⟩ := c.def_ 20 (d := hd20) rfl
  have F20 : Fun K "_law_shown" "_law_shown" s_l_shown (He.ga K "_law_shown") fd20 := L2.FunD.fun FD20
  obtain ⟨fd21, FD21⟩ := c.def_ 21 (d := hd21) rfl
  have F21 : Fun K "_law_piece" "_law_piece" s_l_piece (He.ga K "_law_piece") fd21 := L2.FunD.fun FD21
  obtain ⟨fd22, FD22⟩ := c.def_ 22 (d := hd22) rfl
  have F22 : Fun K "_law_pieces" "_law_pieces" s_l_pieces (He.ga K "_law_pieces") fd22 := L2.FunD.fun FD22
  obtain ⟨fd23, FD23⟩ := c.def_ 23 (d := hd23) rfl
  have F23 : Fun K "_law_bent" "_law_bent" s_l_bent (He.ga K "_law_bent") fd23 := L2.FunD.fun FD23
  obtain ⟨fd24, FD24⟩ := c.def_ 24 (d := hd24) rfl
  have F24 : Fun K "_law_is_piece" "_law_is_piece" s_l_is_piece (He.ga K "_law_is_piece") fd24 := L2.FunD.fun FD24
  obtain ⟨fd25, FD25⟩ := c.def_ 25 (d := hd25) rfl
  have F25 : Fun K "_law_are_pieces" "_law_are_pieces" s_l_are_pieces (He.ga K "_law_are_pieces") fd25 := L2.FunD.fun FD25
  obtain ⟨fd26, FD26⟩ := c.def_ 26 (d := hd26) rfl
  have F26 : Fun K "_law_near" "_law_near" s_l_near (He.ga K "_law_near") fd26 := L2.FunD.fun FD26
  obtain ⟨fd27, FD27⟩ := c.def_ 27 (d := hd27) rfl
  have F27 : Fun K "_law_right" "_law_right" s_l_right (He.ga K "_law_right") fd27 := L2.FunD.fun FD27
  obtain ⟨cc27, PT27, FC27, hcd27, htb27⟩ := F27.withTab tab X (by kernel_rfl) (He.glo_ok X G (c.fact 27 rfl))
  obtain ⟨fd28, FD28⟩ := c.def_ 28 (d := hd28) rfl
  have F28 : Fun K "law" "law" s_law (He.ga K "law") fd28 := L2.FunD.fun FD28
  obtain ⟨t_GREATEST, y_GREATEST⟩ := He.int_ok X G (c.fact 44 rfl)
  have m_z_clsB : PySem.W.findIn K (.ref (He.ga K "Melody")) "__class__" = some (some (.builtin "object.__class__")) := (all_eq my 2 rfl)
  have m_z_mroB : PySem.W.mroIn K (He.ga K "Melody") (.type "object") = some true := (all_eq my 3 rfl)
  have m_z_tyB : PySem.W.typeIn K (.ref (He.ga K "Melody")) = some (.type "type") := (all_eq my 4 rfl)
  have m_z_get : PySem.W.specialIn K (.builtin "object.__class__") "__get__" = some (some (.builtin "getset_descriptor.__get__")) := (all_eq my 5 rfl)
  have m_z_tk : PySem.W.takesIn K (.builtin "object.__class__") = some true := (all_eq my 6 rfl)
  have zget : PySem.W.specialIn K (.builtin "object.__class__") "__get__" = some (some (.builtin "getset_descriptor.__get__")) := (all_eq my 5 rfl)
  have ztk : PySem.W.takesIn K (.builtin "object.__class__") = some true := (all_eq my 6 rfl)
  have nd : ([(He.ga K "BadPieces"), (He.ga K "TuneError")] : List Addr).Nodup := (all_eq my 9 rfl)
  have e0 : ExcF K (He.ga K "TuneError") (He.ma K (He.ga K "TuneError") "__init__") (He.ga K "BadPieces") := excB_ok (all_at my 10 rfl)
  have e1 : ExcF K (He.ga K "TuneError") (He.ma K (He.ga K "TuneError") "__init__") (He.ga K "TuneError") := excB_ok (all_at my 11 rfl)
  have cs_all : ∀ i, i < 2 → ExcT K (He.ga K "TuneError") (He.ma K (He.ga K "TuneError") "__init__") (([(He.ga K "BadPieces"), (He.ga K "TuneError")] : List Addr).getD i 0) := fun i hi => match i, hi with
    | 0, _ => e0.all zget ztk
    | 1, _ => e1.all zget ztk
    | i + 2, h => absurd h (by omega)
  have T : Txt K mg { f_E_init := (He.ma K (He.ga K "TuneError") "__init__"), d_E_init := fd0, f_is_whole := (He.ga K "is_whole"), d_is_whole := fd1, f_is_from := (He.ga K "is_from"), d_is_from := fd2, f_is_between := (He.ga K "is_between"), d_is_between := fd3, f_length_of := (He.ga K "length_of"), d_length_of := fd4, f_starts_of := (He.ga K "starts_of"), d_starts_of := fd5, f_new_ahead := (He.ga K "new_ahead"), d_new_ahead := fd6, f_M_init := (He.ma K (He.ga K "Melody") "__init__"), d_M_init := fd7, f_are_pieces := (He.ga K "_are_pieces"), d_are_pieces := fd8, f_is_piece := (He.ga K "_is_piece"), d_is_piece := fd9, f_is_copy := (He.ga K "_is_copy"), d_is_copy := fd10, f_l_pot := (He.ga K "_law_pot"), d_l_pot := fd11, f_l_take := (He.ga K "_law_take"), d_l_take := fd12, f_l_of := (He.ga K "_law_of"), d_l_of := fd13, f_l_pots := (He.ga K "_law_pots"), d_l_pots := fd14, f_l_told := (He.ga K "_law_told"), d_l_told := fd15, f_l_is_int := (He.ga K "_law_is_int"), d_l_is_int := fd16, f_l_odd := (He.ga K "_law_odd"), d_l_odd := fd17, f_l_amount := (He.ga K "_law_amount"), d_l_amount := fd18, f_l_lead := (He.ga K "_law_lead"), d_l_lead := fd19, f_l_shown := (He.ga K "_law_shown"), d_l_shown := fd20, f_l_piece := (He.ga K "_law_piece"), d_l_piece := fd21, f_l_pieces := (He.ga K "_law_pieces"), d_l_pieces := fd22, f_l_bent := (He.ga K "_law_bent"), d_l_bent := fd23, f_l_is_piece := (He.ga K "_law_is_piece"), d_l_is_piece := fd24, f_l_are_pieces := (He.ga K "_law_are_pieces"), d_l_are_pieces := fd25, f_l_near := (He.ga K "_law_near"), d_l_near := fd26, f_l_right := (He.ga K "_law_right"), d_l_right := fd27, c_l_right := cc27, t_l_right := PT27, f_law := (He.ga K "law"), d_law := fd28, t_GREATEST := t_GREATEST, cB := (He.ga K "Melody"), c := fun i => ([(He.ga K "BadPieces"), (He.ga K "TuneError")] : List Addr).getD i 0 } := { F_E_init := F0, bn_E_init := F0.binds (ps := ["self", "value"]) fun _ _ _ _ _ _ us hl => match us, hl with | [_, _], _ => rfl, k_E_init := F0.kp, i_E_init := (He.meth_ok (c.fact 0 rfl)).fn, F_is_whole := F1, bn_is_whole := F1.binds (ps := ["value"]) fun _ _ _ _ _ _ us hl => match us, hl with | [_], _ => rfl, k_is_whole := F1.kp, g_is_whole := He.glo_ok X G (c.fact 1 rfl), F_is_from := F2, bn_is_from := F2.binds (ps := ["value", "least"]) fun _ _ _ _ _ _ us hl => match us, hl with | [_, _], _ => rfl, k_is_from := F2.kp, g_is_from := He.glo_ok X G (c.fact 2 rfl), F_is_between := F3, bn_is_between := F3.binds (ps := ["value", "least", "greatest"]) fun _ _ _ _ _ _ us hl => match us, hl with | [_, _, _], _ => rfl, k_is_between := F3.kp, g_is_between := He.glo_ok X G (c.fact 3 rfl), F_length_of := F4, bn_length_of := F4.binds (ps := ["piece"]) fun _ _ _ _ _ _ us hl => match us, hl with | [_], _ => rfl, k_length_of := F4.kp, g_length_of := He.glo_ok X G (c.fact 4 rfl), F_starts_of := F5, bn_starts_of := F5.binds (ps := ["pieces"]) fun _ _ _ _ _ _ us hl => match us, hl with | [_], _ => rfl, k_starts_of := F5.kp, g_starts_of := He.glo_ok X G (c.fact 5 rfl), F_new_ahead := F6, bn_new_ahead := F6.binds (ps := ["pieces"]) fun _ _ _ _ _ _ us hl => match us, hl with | [_], _ => rfl, k_new_ahead := F6.kp, g_new_ahead := He.glo_ok X G (c.fact 6 rfl), F_M_init := F7, bn_M_init := F7.binds (ps := ["self", "pieces"]) fun _ _ _ _ _ _ us hl => match us, hl with | [_, _], _ => rfl, k_M_init := F7.kp, i_M_init := (He.meth_ok (c.fact 7 rfl)).fn, a_M_init := (He.meth_ok (c.fact 7 rfl)).at_, F_are_pieces := F8, bn_are_pieces := F8.binds (ps := ["value"]) fun _ _ _ _ _ _ us hl => match us, hl with | [_], _ => rfl, k_are_pieces := F8.kp, g_are_pieces := He.glo_ok X G (c.fact 8 rfl), F_is_piece := F9, bn_is_piece := F9.binds (ps := ["value", "here"]) fun _ _ _ _ _ _ us hl => match us, hl with | [_, _], _ => rfl, k_is_piece := F9.kp, g_is_piece := He.glo_ok X G (c.fact 9 rfl), F_is_copy := F10, bn_is_copy := F10.binds (ps := ["piece", "here"]) fun _ _ _ _ _ _ us hl => match us, hl with | [_, _], _ => rfl, k_is_copy := F10.kp, g_is_copy := He.glo_ok X G (c.fact 10 rfl), F_l_pot := F11, bn_l_pot := F11.binds (ps := ["_law_script", "_law_k"]) fun _ _ _ _ _ _ us hl => match us, hl with | [_, _], _ => rfl, k_l_pot := F11.kp, g_l_pot := He.glo_ok X G (c.fact 11 rfl), F_l_take := F12, bn_l_take := F12.binds (ps := ["_law_pot_here", "_law_upto"]) fun _ _ _ _ _ _ us hl => match us, hl with | [_, _], _ => rfl, k_l_take := F12.kp, g_l_take := He.glo_ok X G (c.fact 12 rfl), F_l_of := F13, bn_l_of := F13.binds (ps := ["_law_pot_here", "_law_some"]) fun _ _ _ _ _ _ us hl => match us, hl with | [_, _], _ => rfl, k_l_of := F13.kp, g_l_of := He.glo_ok X G (c.fact 13 rfl), F_l_pots := F14, bn_l_pots := F14.binds (ps := ["_law_script", "_law_most"]) fun _ _ _ _ _ _ us hl => match us, hl with | [_, _], _ => rfl, k_l_pots := F14.kp, g_l_pots := He.glo_ok X G (c.fact 14 rfl), F_l_told := F15, bn_l_told := F15.binds (ps := ["_law_look"]) fun _ _ _ _ _ _ us hl => match us, hl with | [_], _ => rfl, k_l_told := F15.kp, g_l_told := He.glo_ok X G (c.fact 15 rfl), F_l_is_int := F16, bn_l_is_int := F16.binds (ps := ["_law_value", "_law_low", "_law_high"]) fun _ _ _ _ _ _ us hl => match us, hl with | [_, _, _], _ => rfl, k_l_is_int := F16.kp, g_l_is_int := He.glo_ok X G (c.fact 16 rfl), F_l_odd := F17, bn_l_odd := F17.binds (ps := ["_law_pot_here"]) fun _ _ _ _ _ _ us hl => match us, hl with | [_], _ => rfl, k_l_odd := F17.kp, g_l_odd := He.glo_ok X G (c.fact 17 rfl), F_l_amount := F18, bn_l_amount := F18.binds (ps := ["_law_pot_here"]) fun _ _ _ _ _ _ us hl => match us, hl with | [_], _ => rfl, k_l_amount := F18.kp, g_l_amount := He.glo_ok X G (c.fact 18 rfl), F_l_lead := F19, bn_l_lead := F19.binds (ps := ["_law_entry", "_law_is_down", "_law_amount_here"]) fun _ _ _ _ _ _ us hl => match us, hl with | [_, _, _], _ => rfl, k_l_lead := F19.kp, g_l_lead := He.glo_ok X G (c.fact 19 rfl), F_l_shown := F20, bn_l_shown := F20.binds (ps := ["_law_pieces_here"]) fun _ _ _ _ _ _ us hl => match us, hl with | [_], _ => rfl, k_l_shown := F20.kp, g_l_shown := He.glo_ok X G (c.fact 20 rfl), F_l_piece := F21, bn_l_piece := F21.binds (ps := ["_law_pot_here", "_law_here", "_law_room_left"]) fun _ _ _ _ _ _ us hl => match us, hl with | [_, _, _], _ => rfl, k_l_piece := F21.kp, g_l_piece := He.glo_ok X G (c.fact 21 rfl), F_l_pieces := F22, bn_l_pieces := F22.binds (ps := ["_law_pot_here", "_law_size"]) fun _ _ _ _ _ _ us hl => match us, hl with | [_, _], _ => rfl, k_l_pieces := F22.kp, g_l_pieces := He.glo_ok X G (c.fact 22 rfl), F_l_bent := F23, bn_l_bent := F23.binds (ps := ["_law_pot_here", "_law_value"]) fun _ _ _ _ _ _ us hl => match us, hl with | [_, _], _ => rfl, k_l_bent := F23.kp, g_l_bent := He.glo_ok X G (c.fact 23 rfl), F_l_is_piece := F24, bn_l_is_piece := F24.binds (ps := ["_law_piece_here", "_law_here"]) fun _ _ _ _ _ _ us hl => match us, hl with | [_, _], _ => rfl, k_l_is_piece := F24.kp, g_l_is_piece := He.glo_ok X G (c.fact 24 rfl), F_l_are_pieces := F25, bn_l_are_pieces := F25.binds (ps := ["_law_value"]) fun _ _ _ _ _ _ us hl => match us, hl with | [_], _ => rfl, k_l_are_pieces := F25.kp, g_l_are_pieces := He.glo_ok X G (c.fact 25 rfl), F_l_near := F26, bn_l_near := F26.binds (ps := ["_law_pot_here", "_law_pieces_here"]) fun _ _ _ _ _ _ us hl => match us, hl with | [_, _], _ => rfl, k_l_near := F26.kp, g_l_near := He.glo_ok X G (c.fact 26 rfl), F_l_right := FC27, bn_l_right := F27.binds (ps := ["_law_pot_here"]) fun _ _ _ _ _ _ us hl => match us, hl with | [_], _ => rfl, k_l_right := F27.kp, g_l_right := He.glo_ok X G (c.fact 27 rfl), F_law := F28, bn_law := F28.binds (ps := ["_law_script"]) fun _ _ _ _ _ _ us hl => match us, hl with | [_], _ => rfl, k_law := F28.kp, g_law := He.glo_ok X G (c.fact 28 rfl), g_BadPieces := He.glo_ok X G (c.fact 29 rfl), g_TuneError := He.glo_ok X G (c.fact 30 rfl), b_isinstance := He.free_ok X G (c.fact 31 rfl), b_int := He.free_ok X G (c.fact 32 rfl), b_bool := He.free_ok X G (c.fact 33 rfl), b_tuple := He.free_ok X G (c.fact 34 rfl), b_len := He.free_ok X G (c.fact 35 rfl), b_abs := He.free_ok X G (c.fact 36 rfl), b_range := He.free_ok X G (c.fact 37 rfl), b_max := He.free_ok X G (c.fact 38 rfl), b_min := He.free_ok X G (c.fact 39 rfl), b_str := He.free_ok X G (c.fact 40 rfl), b_list := He.free_ok X G (c.fact 41 rfl), b_repr := He.free_ok X G (c.fact 42 rfl), b_all := He.free_ok X G (c.fact 43 rfl), c_GREATEST := y_GREATEST, clB := He.cls_ok (c.fact 45 rfl), g_Bk := He.glo_ok X G (c.fact 46 rfl), mkBc := (all_at my 0 rfl), kB := (all_at my 1 rfl), nB_pieces := He.noat_ok (c.fact 47 rfl), nB_starts := He.noat_ok (c.fact 48 rfl), nB_ahead := He.noat_ok (c.fact 49 rfl), nB_size := He.noat_ok (c.fact 50 rfl), nB_new := He.noat_ok (c.fact 51 rfl), z_clsB := m_z_clsB, z_mroB := m_z_mroB, z_kitB := kit_self, z_tyB := m_z_tyB, z_get := m_z_get, z_tk := m_z_tk, b_ValueError := He.free_ok X G (c.fact 52 rfl), z_ve := valB_ok (all_at my 7 rfl), t_E_init := (all_eq my 8 rfl), ex := fun i hi => cs_all i hi, nd := fun i j hi hj e => nd_at nd (by simpa using hi) (by simpa using hj) e }
  have b : ∀ (s : Shared) (u : Value), BindsTo s fd28 ⟨[u], []⟩ [("_law_script", u)] := fun s u => by
    obtain ⟨oc, od, kV, doc, pm, an, cdv, ct, osl, efd, lk, hcd⟩ := F28.ex
    rw [efd]
    exact .of_eq rfl
  refine ⟨fd28, [(cc27, PT27)], sp_law K { f_E_init := (He.ma K (He.ga K "TuneError") "__init__"), d_E_init := fd0, f_is_whole := (He.ga K "is_whole"), d_is_whole := fd1, f_is_from := (He.ga K "is_from"), d_is_from := fd2, f_is_between := (He.ga K "is_between"), d_is_between := fd3, f_length_of := (He.ga K "length_of"), d_length_of := fd4, f_starts_of := (He.ga K "starts_of"), d_starts_of := fd5, f_new_ahead := (He.ga K "new_ahead"), d_new_ahead := fd6, f_M_init := (He.ma K (He.ga K "Melody") "__init__"), d_M_init := fd7, f_are_pieces := (He.ga K "_are_pieces"), d_are_pieces := fd8, f_is_piece := (He.ga K "_is_piece"), d_is_piece := fd9, f_is_copy := (He.ga K "_is_copy"), d_is_copy := fd10, f_l_pot := (He.ga K "_law_pot"), d_l_pot := fd11, f_l_take := (He.ga K "_law_take"), d_l_take := fd12, f_l_of := (He.ga K "_law_of"), d_l_of := fd13, f_l_pots := (He.ga K "_law_pots"), d_l_pots := fd14, f_l_told := (He.ga K "_law_told"), d_l_told := fd15, f_l_is_int := (He.ga K "_law_is_int"), d_l_is_int := fd16, f_l_odd := (He.ga K "_law_odd"), d_l_odd := fd17, f_l_amount := (He.ga K "_law_amount"), d_l_amount := fd18, f_l_lead := (He.ga K "_law_lead"), d_l_lead := fd19, f_l_shown := (He.ga K "_law_shown"), d_l_shown := fd20, f_l_piece := (He.ga K "_law_piece"), d_l_piece := fd21, f_l_pieces := (He.ga K "_law_pieces"), d_l_pieces := fd22, f_l_bent := (He.ga K "_law_bent"), d_l_bent := fd23, f_l_is_piece := (He.ga K "_law_is_piece"), d_l_is_piece := fd24, f_l_are_pieces := (He.ga K "_law_are_pieces"), d_l_are_pieces := fd25, f_l_near := (He.ga K "_law_near"), d_l_near := fd26, f_l_right := (He.ga K "_law_right"), d_l_right := fd27, c_l_right := cc27, t_l_right := PT27, f_law := (He.ga K "law"), d_law := fd28, t_GREATEST := t_GREATEST, cB := (He.ga K "Melody"), c := fun i => ([(He.ga K "BadPieces"), (He.ga K "TuneError")] : List Addr).getD i 0 }, fun p hp => ?_, b, fun H a ns hl hT hS => ⟨a, ns, rfl, hS, hl, fun p hp => ?_, fun _ => rfl⟩, fun base _ _ hTB => ok_law T (hTB (cc27, PT27) (by simp))⟩
  · simp only [List.mem_cons, List.not_mem_nil, or_false] at hp
    rcases hp with rfl
    · exact ⟨hcd27, htb27⟩
  · simp only [tabs, List.mem_cons, List.not_mem_nil, or_false] at hp
    rcases hp with rfl
    · exact TabS.nil (hT (cc27, PT27) (by simp))
end TT

set_option Elab.async false
set_option linter.all false
set_option maxRecDepth 100000
/-! The top's run in several kernel checks: the states between are written as changes of the state before. -/
noncomputable section
namespace TT.Run
open PySem PySem.W PySem.Calls PyProof.Rows HandSHeadRun

section
variable (st : SharedT → Thread → Option (SharedT × Thread)) (n0 : Nat) (ann : Option Value)
/-- some statements, to their end -/
def segF : Nat → SharedT → Thread → Option (Flow × SharedT × Code × Pos)
  | 0, _, _ => none
  | m + 1, s, t => match endAt 1 t with
    | some f => some (f, s, t.code, t.pos)
    | none => match stepOk n0 ann t with
      | false => none
      | true => match st s t with
        | some (s', t') => frS s' fun s' => segF m s' t'
        | none => none
/-- so many steps of the top -/
def goK : Nat → SharedT → Thread → Option (SharedT × Thread)
  | 0, s, t => some (s, t)
  | m + 1, s, t => match through t with
    | true => none
    | false => match stepOk n0 ann t with
      | false => none
      | true => match st s t with
        | some (s', t') => frS s' fun s' => goK m s' t'
        | none => none
end
section
variable {tb : String → Option Builtin} {p : Program} {w : World} {n0 : Nat} {ann : Option Value}
theorem segF_ok : ∀ {m : Nat} {s s' : SharedT} {t : Thread} {f : Flow} {c : Code} {q : Pos}, segF (stepT (denote tb) p w) n0 ann m s t = some (f, s', c, q) → segRun tb p w n0 ann 1 m s.abs t = some (f, s'.abs, c, q)
  | 0, _, _, _, _, _, _, h => by cases h
  | m + 1, s, s', t, f, c, q, h => by
    unfold segF at h
    unfold segRun
    cases he : endAt 1 t with
    | some x => rw [he] at h; cases h; rfl
    | none =>
      rw [he] at h
      cases hk : stepOk n0 ann t with
      | false => rw [hk] at h; cases h
      | true =>
        rw [hk] at h
        cases hs : stepT (denote tb) p w s t with
        | none => rw [hs] at h; cases h
        | some r =>
          obtain ⟨s2, t2⟩ := r
          rw [hs] at h
          have h2 : (frS s2 fun s' => segF (stepT (denote tb) p w) n0 ann m s' t2) = some (f, s', c, q) := h
          rw [frS_eq] at h2
          rw [stepT_spec hs]
          exact segF_ok h2
theorem goK_ok : ∀ {m : Nat} {s s' : SharedT} {t t' : Thread}, goK (stepT (denote tb) p w) n0 ann m s t = some (s', t') → topGo tb p w n0 ann m s.abs t = some (s'.abs, t')
  | 0, _, _, _, _, h => by cases h; rfl
  | m + 1, s, s', t, t', h => by
    unfold goK at h
    unfold topGo
    cases he : through t with
    | true => rw [he] at h; cases h
    | false =>
      rw [he] at h
      cases hk : stepOk n0 ann t with
      | false => rw [hk] at h; cases h
      | true =>
        rw [hk] at h
        cases hs : stepT (denote tb) p w s t with
        | none => rw [hs] at h; cases h
        | some r =>
          obtain ⟨s2, t2⟩ := r
          rw [hs] at h
          have h2 : (frS s2 fun s' => goK (stepT (denote tb) p w) n0 ann m s' t2) = some (s', t') := h
          rw [frS_eq] at h2
          rw [stepT_spec hs]
          exact goK_ok h2
end
/-- the fence, as a tree -/
def fenceT (p : Program) (s : SharedT) : Option SharedT := match fenceModules? p s.abs with
  | some s0 => (match s0.heap.isNs mainGlobals && s0.gens.size == 0 with
    | true => treeOf s0
    | false => none)
  | none => none
theorem fenceT_ok {p : Program} {s x : SharedT} (h : fenceT p s = some x) : fenceModules? p s.abs = some x.abs ∧ (x.abs.heap.isNs mainGlobals && x.abs.gens.size == 0) = true ∧ x.abs.heap.objs.size = x.n := by
  unfold fenceT at h
  cases e2 : fenceModules? p s.abs with
  | none => rw [e2] at h; cases h
  | some z =>
    rw [e2] at h
    have h1 : (match z.heap.isNs mainGlobals && z.gens.size == 0 with
      | true => treeOf z
      | false => none) = some x := h
    cases e3 : z.heap.isNs mainGlobals && z.gens.size == 0 with
    | false => rw [e3] at h1; cases h1
    | true =>
      rw [e3] at h1
      obtain ⟨ex, en⟩ := treeOf_eq (show treeOf z = some x from h1)
      exact ⟨by rw [ex], by rw [ex]; exact e3, by rw [ex]; exact en⟩
theorem stQ_eq (p : Program) (w : World) : stepT (denote treeTable) p w = stepQ (denQ tabQ) p w := by
  rw [stepQ_eq, denQ_eq, tabQ_eq]
/-- the head by its parts -/
theorem left_parts {p q : Program} {loose : List Str} {Xt : Shared → Bool} {α : Type} {Yf : Shared → α} {Ya : World → α} {N M : Nat} {ann : Option Value} {Si S0 S1 : World → SharedT}
    (i1 : ∀ w, impF (stepQ (denQ tabQ) (opening p) w) N (startT (opening p)) (start (opening p)).2 = some (Si w)) (i2 : ∀ w, fenceT p (Si w) = some (S0 w)) (an : ∀ w, (S0 w).abs.heap.nsMap mainGlobals "__annotations__" = ann)
    (run : ∀ w, topRun treeTable p w (S0 w).n ann M (S0 w).abs (topStub p) = some (S1 w).abs) (le : Nat.ble M N = true)
    (l1 : ∀ w, looksF p (S0 w).abs.heap (S1 w).abs = true) (l2 : ∀ w, seenQ q loose (importedModules p.main.body) Xt (S1 w).abs = openGood q loose) (l3 : ∀ w, Yf (S1 w).abs = Ya w) :
    LeftO p q loose Xt Yf Ya N true := fun w => by
  obtain ⟨a0, b, n⟩ := fenceT_ok (i2 w)
  have o := i1 w
  rw [← stQ_eq] at o
  have a1 := impF_ok o
  rw [startT_eq] at a1
  have a : fencedOpening treeTable p w N = some (S0 w).abs := by
    unfold fencedOpening
    rw [a1]
    exact a0
  have r := topRun_mono (N - M) _ _ _ _ (run w)
  rw [show M + (N - M) = N by have := Nat.le_of_ble_eq_true le; omega, ← n, ← an w] at r
  have l1' : (staticsOk (importedModules p.main.body) (S0 w).abs.heap (S1 w).abs.heap && namesBound p (S1 w).abs.heap && gensDone (S1 w).abs && laidKept (S0 w).abs.heap (S1 w).abs.heap) = true := l1 w
  have t : topFrom treeTable p w N (S0 w).abs = some (S1 w).abs := by
    unfold topFrom
    rw [b]
    show (topRun treeTable p w (S0 w).abs.heap.objs.size ((S0 w).abs.heap.nsMap mainGlobals "__annotations__") N (S0 w).abs (topStub p)).bind _ = _
    rw [r]
    show (match staticsOk (importedModules p.main.body) (S0 w).abs.heap (S1 w).abs.heap && namesBound p (S1 w).abs.heap && gensDone (S1 w).abs && laidKept (S0 w).abs.heap (S1 w).abs.heap with | true => some (S1 w).abs | false => none) = _
    rw [l1']
  unfold openEnds
  rw [a]
  show (topFrom treeTable p w N (S0 w).abs).map _ = _
  rw [t]
  refine congrArg some (Prod.ext ?_ (l3 w))
  show openSeen q loose (importedModules p.main.body) Xt true (S1 w).abs = _
  rw [seenQ_eq]
  exact l2 w
/-- a law, its top's run in parts; the view q holds the imports, if any -/
theorem head_parts {r : OpenRow} {q : Program} {H : Hook} {ob : SharedT → H.α} {M N : Nat} {loose : List PySem.Str} {d : DefRec} {kwd : List (PySem.Str × PySem.Expr)} {ann : Option Value} {Si S0 S1 : World → SharedT} (ho : ∀ s : SharedT, ob s = H.obs s.abs)
    (i1 : ∀ w, impF (stepQ (denQ tabQ) (opening r.prog) w) N (startT (opening r.prog)) (start (opening r.prog)).2 = some (Si w)) (i2 : ∀ w, fenceT r.prog (Si w) = some (S0 w)) (an : ∀ w, (S0 w).abs.heap.nsMap mainGlobals "__annotations__" = ann)
    (run : ∀ w, topRun treeTable r.prog w (S0 w).n ann M (S0 w).abs (topStub r.prog) = some (S1 w).abs) (le : Nat.ble M N = true)
    (l1 : ∀ w, looksF r.prog (S0 w).abs.heap (S1 w).abs = true) (l2 : ∀ w, seenQ q loose (importedModules r.prog.main.body) (fun s => xlAt q [] s && recOk r.toRowW.records s) (S1 w).abs = openGood q loose) (l3 : ∀ w, ob (S1 w) = H.val w)
    (hdef : defOf q r.name = some (d, kwd)) (hp : r.prog.theDef r.name = some (d.params, d.body, d.scope)) (hk : kwWritten? d.params.kwonlyargs d.params.kw_defaults = some kwd)
    (hwr : (!r.writes || r.records.isEmpty) = true) (k1 : r.wellSaid = true) (ok : (chainsOk q && opensWell r.prog && (frees r.toRowW && r.within.isEmpty)) = true) (hb : r.prog.bare) (hw : r.toRowW.promised)
    (call : WalkO q loose (XL q []) H.says r.toRowW d kwd fun f vs => PySem.call f vs) : r.Holds := by
  have left : LeftO r.prog q loose (fun s => xlAt q [] s && recOk r.toRowW.records s) H.obs H.val N true :=
    left_parts i1 i2 an run le l1 l2 (fun w => by rw [← ho]; exact l3 w)
  exact holds_open (r := r) (q := q) (loose := loose) (XP := XL q []) (YP := H.says) (d := d) (kwd := kwd) left H.of H.keeps (fun s z => xl_of s (Bool.and_eq_true_iff.mp z).1) XL.keeps hdef hp hk (fun s z => recFacts_of (Bool.and_eq_true_iff.mp z).2) hwr k1 ok hb hw call
/-! ### the states -/
/-- changes put on -/
def putT : List (Nat × Obj) → BT → BT
  | [], t => t
  | x :: r, t => putT r (t.ins x.1 x.2)
/-! ### a hook over written addresses -/
def fragA (g : Addr → Option Obj) (as : List Addr) : PySem.W.Frag := as.filterMap fun a => match g a with
  | some o => if isTab o then none else some (a, o)
  | none => none
theorem fragA_mem {g : Addr → Option Obj} {as : List Addr} {p : Addr × Obj} (h : p ∈ fragA g as) : g p.1 = some p.2 ∧ isTab p.2 = false := by
  obtain ⟨a, _, e⟩ := List.mem_filterMap.mp h
  cases hg : g a with
  | none => rw [hg] at e; cases e
  | some o =>
    rw [hg] at e
    by_cases c : isTab o = true
    · simp only [c, if_true] at e
      cases e
    · have c' : isTab o = false := by simpa using c
      simp only [c'] at e
      cases e
      exact ⟨hg, c'⟩
theorem fragA_in {h : Heap} {as : List Addr} : (fragA h.get? as).In h := fun a o e => (fragA_mem (TT.lookup_mem e)).1
theorem fragA_noTabs {g : Addr → Option Obj} {as : List Addr} : PySem.W.noTabs (fragA g as) = true := by
  unfold PySem.W.noTabs
  rw [List.all_eq_true]
  intro p hp
  have h := (fragA_mem hp).2
  unfold isTab at h
  split at h
  · cases h
  · rename_i no
    split
    · rename_i vs e1 e2
      exact absurd e2 (no _ e1)
    · rfl
def hookA (as : List Addr) (fa : List He.Fa) (fn : List He.DefD) (my : PySem.W.Frag → Bool) : PySem.W.Hook where
  α := He.AlD × Bool
  obs := fun s => (He.obsD fa fn (fragA s.heap.get? as), my (fragA s.heap.get? as))
  val := fun _ => (He.valD fn, true)
  says := fun _ h => ∃ K : PySem.W.Frag, K.In h ∧ PySem.W.noTabs K = true ∧ He.SaysD fa fn K ∧ my K = true
  of := fun w s e => ⟨fragA s.heap.get? as, fragA_in, fragA_noTabs, (Prod.mk.inj e).1, (Prod.mk.inj e).2⟩
  keeps := fun w h h' ⟨K, a, b⟩ k => ⟨K, a.keeps k, b⟩
def obA (as : List Addr) (fa : List He.Fa) (fn : List He.DefD) (my : PySem.W.Frag → Bool) (s : PySem.W.SharedT) : He.AlD × Bool := (He.obsD fa fn (fragA (HandSHeadRun.getT s) as), my (fragA (HandSHeadRun.getT s) as))
theorem obA_eq (as : List Addr) (fa : List He.Fa) (fn : List He.DefD) (my : PySem.W.Frag → Bool) (s : PySem.W.SharedT) : obA as fa fn my s = (hookA as fa fn my).obs s.abs := by
  have e : HandSHeadRun.getT s = s.abs.heap.get? := funext (HandSHeadRun.getT_eq s)
  unfold obA
  rw [e]
  rfl
/-! ### the chain -/
variable {p : Program} {w : World} {n0 : Nat} {ann : Option Value} {env : Env} {q : Pos} {r : Shared} {N : Nat}
theorem go_p {n : Nat} {s s' : SharedT} {b : List Stmt} {c : Code} {pos p' : Pos} (h : segF (stepQ (denQ tabQ) p w) n0 ann n s (piecesOf b env c pos [topFrame q]) = some (.next, s', c, p')) {rest : List Stmt}
    (k : topRun treeTable p w n0 ann N s'.abs (restOf rest env c p' [topFrame q]) = some r) : topRun treeTable p w n0 ann (n + N) s.abs (restOf (b ++ rest) env c pos [topFrame q]) = some r := by
  rw [← stQ_eq] at h
  exact piece_app (segF_ok h) k
theorem go_b {n : Nat} {s s' : SharedT} {b : List Stmt} {c : Code} {pos p' : Pos} (h : segF (stepQ (denQ tabQ) p w) n0 ann n s (blockOf b env c pos [topFrame q]) = some (.next, s', c, p'))
    (k : topRun treeTable p w n0 ann N s'.abs (restOf b env c p' [topFrame q]) = some r) : topRun treeTable p w n0 ann (n + N) s.abs ⟨denote treeTable (.body b env), c, pos, [topFrame q]⟩ = some r := by
  rw [← stQ_eq] at h
  exact piece_block (segF_ok h) k
theorem go_t {n : Nat} {s s' : SharedT} {t : Thread} {c : Code} {b : List Stmt} {pos : Pos} (h : goK (stepQ (denQ tabQ) p w) n0 ann n s t = some (s', ⟨denQ tabQ (.body b env), c, pos, [topFrame q]⟩))
    (k : topRun treeTable p w n0 ann N s'.abs ⟨denote treeTable (.body b env), c, pos, [topFrame q]⟩ = some r) : topRun treeTable p w n0 ann (n + N) s.abs t = some r := by
  rw [← stQ_eq, ← tabQ_eq, ← denQ_eq] at h
  exact go_top (goK_ok h) k
theorem go_e {n : Nat} {s s' : SharedT} {t : Thread} (h : goF (stepQ (denQ tabQ) p w) n0 ann n s t = some s') : topRun treeTable p w n0 ann n s.abs t = some s'.abs := by
  rw [← stQ_eq] at h
  exact goF_ok h
end TT.Run
end

set_option Elab.async false
set_option linter.all false
set_option maxRecDepth 1000000
set_option maxHeartbeats 0
namespace TT
open PySem PySem.W PySem.Calls PyProof.Rows HandSHeadRun TT.Run L2
-- steps 6410; keep [0, 1, 3, 4, 5, 6, 7, 8, 9, 10, 11, 12, 13, 14, 16, 17, 18, 19, 20, 21, 22, 23, 24, 26, 27, 28, 29, 30, 31, 33, 34, 35, 36, 37, 38, 40, 41, 42, 43, 44, 45, 46, 47, 48, 49, 51, 53, 54, 55, 56, 58, 59, 60, 61, 62, 63, 64, 65, 66, 67, 69, 70, 71, 72, 73, 75, 76, 77, 78, 79, 80, 81, 82, 84, 85, 86, 87, 88, 89, 90, 91, 92, 93, 94, 95, 96, 97, 98, 99, 100, 101, 102, 103]; boot 11; s0 39; end 852; pieces 103; pre 12 block 0 fin 1
-- loose [GREATEST, _CHUNK, source_links, source_pieces, Tie]
noncomputable def hRbt (P : Params) : BT := match HandSHeadRun.putAll (boot_heap P).objs.toList .nil 0 with | some r => r.1 | none => .nil
noncomputable def hRti (P : Params) : BT := putT [(1, (Obj.mk (Value.type "dict") none (Data.dict (List.toArray [(DictEntry.mk (PyData.keyHash P (Str.ofString "builtins")) (Value.str (Str.ofString "builtins") 162) (Value.ref 4)), (DictEntry.mk (PyData.keyHash P (Str.ofString "__main__")) (Value.str (Str.ofString "__main__") 163) (Value.ref 5)), (DictEntry.mk (PyData.keyHash P (Str.ofString "_heapq")) (Value.str (Str.ofString "_heapq") 285) (Value.ref 13))]) 3) (List.toArray []))),
  (2, (Obj.mk Value.none none (Data.dict (List.toArray [(DictEntry.mk (PyData.keyHash P (Str.mk (List.toArray [105, 109, 112, 111, 114, 116, 46, 108, 111, 97, 100, 101, 100, 46, 95, 104, 101, 97, 112, 113]))) (Value.str (Str.mk (List.toArray [105, 109, 112, 111, 114, 116, 46, 108, 111, 97, 100, 101, 100, 46, 95, 104, 101, 97, 112, 113])) 186) (Value.bool Bool.true)), (DictEntry.mk (PyData.keyHash P (Str.mk (List.toArray [99, 108, 97, 115, 115, 46, 95, 102, 114, 111, 122, 101, 110, 95, 105, 109, 112, 111, 114, 116, 108, 105, 98, 95, 101, 120, 116, 101, 114, 110, 97, 108, 46, 95, 76, 111, 97, 100, 101, 114, 66, 97, 115, 105, 99, 115]))) (Value.str (Str.mk (List.toArray [99, 108, 97, 115, 115, 46, 95, 102, 114, 111, 122, 101, 110, 95, 105, 109, 112, 111, 114, 116, 108, 105, 98, 95, 101, 120, 116, 101, 114, 110, 97, 108, 46, 95, 76, 111, 97, 100, 101, 114, 66, 97, 115, 105, 99, 115])) 191) (Value.ref 16)), (DictEntry.mk (PyData.keyHash P (Str.mk (List.toArray [119, 97, 116, 99, 104, 101, 100, 46, 105, 109, 112, 111, 114, 116]))) (Value.str (Str.mk (List.toArray [119, 97, 116, 99, 104, 101, 100, 46, 105, 109, 112, 111, 114, 116])) 207) (Value.ref 20)), (DictEntry.mk (PyData.keyHash P (Str.mk (List.toArray [99, 108, 97, 115, 115, 46, 95, 102, 114, 111, 122, 101, 110, 95, 105, 109, 112, 111, 114, 116, 108, 105, 98, 95, 101, 120, 116, 101, 114, 110, 97, 108, 46, 70, 105, 108, 101, 76, 111, 97, 100, 101, 114]))) (Value.str (Str.mk (List.toArray [99, 108, 97, 115, 115, 46, 95, 102, 114, 111, 122, 101, 110, 95, 105, 109, 112, 111, 114, 116, 108, 105, 98, 95, 101, 120, 116, 101, 114, 110, 97, 108, 46, 70, 105, 108, 101, 76, 111, 97, 100, 101, 114])) 208) (Value.ref 22)), (DictEntry.mk (PyData.keyHash P (Str.mk (List.toArray [99, 108, 97, 115, 115, 46, 95, 102, 114, 111, 122, 101, 110, 95, 105, 109, 112, 111, 114, 116, 108, 105, 98, 95, 101, 120, 116, 101, 114, 110, 97, 108, 46, 69, 120, 116, 101, 110, 115, 105, 111, 110, 70, 105, 108, 101, 76, 111, 97, 100, 101, 114]))) (Value.str (Str.mk (List.toArray [99, 108, 97, 115, 115, 46, 95, 102, 114, 111, 122, 101, 110, 95, 105, 109, 112, 111, 114, 116, 108, 105, 98, 95, 101, 120, 116, 101, 114, 110, 97, 108, 46, 69, 120, 116, 101, 110, 115, 105, 111, 110, 70, 105, 108, 101, 76, 111, 97, 100, 101, 114])) 229) (Value.ref 27)), (DictEntry.mk (PyData.keyHash P (Str.mk (List.toArray [99, 108, 97, 115, 115, 46, 95, 102, 114, 111, 122, 101, 110, 95, 105, 109, 112, 111, 114, 116, 108, 105, 98, 46, 77, 111, 100, 117, 108, 101, 83, 112, 101, 99]))) (Value.str (Str.mk (List.toArray [99, 108, 97, 115, 115, 46, 95, 102, 114, 111, 122, 101, 110, 95, 105, 109, 112, 111, 114, 116, 108, 105, 98, 46, 77, 111, 100, 117, 108, 101, 83, 112, 101, 99])) 257) (Value.ref 33)), (DictEntry.mk (PyData.keyHash P (Str.ofString "sys.modules.booked-epoch")) (Value.str (Str.ofString "sys.modules.booked-epoch") 286) (Value.int (3 : Int) 0)), (DictEntry.mk (PyData.keyHash P (Str.mk (List.toArray [105, 109, 112, 111, 114, 116, 46, 108, 97, 116, 101, 114, 45, 108, 97, 105, 100, 46, 95, 104, 101, 97, 112, 113]))) (Value.str (Str.mk (List.toArray [105, 109, 112, 111, 114, 116, 46, 108, 97, 116, 101, 114, 45, 108, 97, 105, 100, 46, 95, 104, 101, 97, 112, 113])) 304) (Value.bool Bool.true)), (DictEntry.mk (PyData.keyHash P (Str.ofString "watched.library")) (Value.str (Str.ofString "watched.library") 306) (Value.ref 38)), (DictEntry.mk (PyData.keyHash P (Str.ofString "watched.library-objects")) (Value.str (Str.ofString "watched.library-objects") 0) (Value.str (Str.ofString "\x0d") 0))]) 10) (List.toArray []))),
  (3, (Obj.mk (Value.type "dict") none (Data.dict (List.toArray [(DictEntry.mk (PyData.keyHash P (Str.ofString "__name__")) (Value.str (Str.ofString "__name__") 165) (Value.str (Str.ofString "__main__") 164)), (DictEntry.mk (PyData.keyHash P (Str.ofString "__doc__")) (Value.str (Str.ofString "__doc__") 166) Value.none), (DictEntry.mk (PyData.keyHash P (Str.ofString "__package__")) (Value.str (Str.ofString "__package__") 167) Value.none), (DictEntry.mk (PyData.keyHash P (Str.ofString "__loader__")) (Value.str (Str.ofString "__loader__") 168) (Value.builtin "__main__.__loader__#opaque")), (DictEntry.mk (PyData.keyHash P (Str.ofString "__spec__")) (Value.str (Str.ofString "__spec__") 169) Value.none), (DictEntry.mk (PyData.keyHash P (Str.ofString "__annotations__")) (Value.str (Str.ofString "__annotations__") 170) (Value.ref 6)), (DictEntry.mk (PyData.keyHash P (Str.ofString "__builtins__")) (Value.str (Str.ofString "__builtins__") 171) (Value.ref 4)), (DictEntry.mk (PyData.keyHash P (Str.ofString "__file__")) (Value.str (Str.ofString "__file__") 173) (Value.str (Str.ofString "/claim/cut.py") 172)), (DictEntry.mk (PyData.keyHash P (Str.ofString "__cached__")) (Value.str (Str.ofString "__cached__") 174) Value.none), (DictEntry.mk (PyData.keyHash P (Str.ofString "heappop")) (Value.str (Str.ofString "heappop") 312) (Value.builtin "_heapq.heappop")), (DictEntry.mk (PyData.keyHash P (Str.ofString "heappush")) (Value.str (Str.ofString "heappush") 315) (Value.builtin "_heapq.heappush"))]) 11) (List.toArray []))),
  (11, (Obj.mk (Value.type "tuple") none (Data.seq (List.toArray [(Value.str (Str.ofString "heappop") 182), (Value.str (Str.ofString "heappush") 183)]) 0) (List.toArray []))),
  (12, (Obj.mk (Value.type "dict") none (Data.dict (List.toArray [(DictEntry.mk (PyData.keyHash P (Str.ofString "__name__")) (Value.str (Str.ofString "__name__") 288) (Value.str (Str.ofString "_heapq") 287)), (DictEntry.mk (PyData.keyHash P (Str.ofString "__doc__")) (Value.str (Str.ofString "__doc__") 289) (Value.builtin "_heapq.__doc__:str#opaque")), (DictEntry.mk (PyData.keyHash P (Str.ofString "__package__")) (Value.str (Str.ofString "__package__") 291) (Value.str (Str.ofString "") 290)), (DictEntry.mk (PyData.keyHash P (Str.ofString "__loader__")) (Value.str (Str.ofString "__loader__") 292) (Value.ref 29)), (DictEntry.mk (PyData.keyHash P (Str.ofString "__spec__")) (Value.str (Str.ofString "__spec__") 293) (Value.ref 37)), (DictEntry.mk (PyData.keyHash P (Str.ofString "heappush")) (Value.str (Str.ofString "heappush") 294) (Value.builtin "_heapq.heappush")), (DictEntry.mk (PyData.keyHash P (Str.ofString "heappushpop")) (Value.str (Str.ofString "heappushpop") 295) (Value.builtin "_heapq.heappushpop")), (DictEntry.mk (PyData.keyHash P (Str.ofString "heappop")) (Value.str (Str.ofString "heappop") 296) (Value.builtin "_heapq.heappop")), (DictEntry.mk (PyData.keyHash P (Str.ofString "heapreplace")) (Value.str (Str.ofString "heapreplace") 297) (Value.builtin "_heapq.heapreplace")), (DictEntry.mk (PyData.keyHash P (Str.ofString "heapify")) (Value.str (Str.ofString "heapify") 298) (Value.builtin "_heapq.heapify")), (DictEntry.mk (PyData.keyHash P (Str.ofString "_heappop_max")) (Value.str (Str.ofString "_heappop_max") 299) (Value.builtin "_heapq._heappop_max")), (DictEntry.mk (PyData.keyHash P (Str.ofString "_heapify_max")) (Value.str (Str.ofString "_heapify_max") 300) (Value.builtin "_heapq._heapify_max")), (DictEntry.mk (PyData.keyHash P (Str.ofString "_heapreplace_max")) (Value.str (Str.ofString "_heapreplace_max") 301) (Value.builtin "_heapq._heapreplace_max")), (DictEntry.mk (PyData.keyHash P (Str.ofString "__file__")) (Value.str (Str.ofString "__file__") 302) (Value.str (Str.mk (List.toArray [47, 110, 105, 120, 47, 115, 116, 111, 114, 101, 47, 119, 106, 49, 102, 53, 54, 113, 107, 121, 52, 112, 109, 106, 99, 55, 108, 48, 114, 54, 98, 54, 108, 55, 119, 104, 110, 110, 119, 55, 104, 112, 54, 45, 112, 121, 116, 104, 111, 110, 51, 45, 51, 46, 49, 51, 46, 49, 53, 47, 108, 105, 98, 47, 112, 121, 116, 104, 111, 110, 51, 46, 49, 51, 47, 108, 105, 98, 45, 100, 121, 110, 108, 111, 97, 100, 47, 95, 104, 101, 97, 112, 113, 46, 99, 112, 121, 116, 104, 111, 110, 45, 51, 49, 51, 45, 120, 56, 54, 95, 54, 52, 45, 108, 105, 110, 117, 120, 45, 103, 110, 117, 46, 115, 111])) 187)), (DictEntry.mk (PyData.keyHash P (Str.ofString "__about__")) (Value.str (Str.ofString "__about__") 303) (Value.builtin "_heapq.__about__:str#opaque"))]) 15) (List.toArray []))),
  (13, (Obj.mk (Value.type "module") (some 12) Data.plain (List.toArray []))),
  (14, (Obj.mk (Value.type "dict") none (Data.dict (List.toArray [(DictEntry.mk (PyData.keyHash P (Str.ofString "name")) (Value.str (Str.ofString "name") 189) (Value.str (Str.ofString "_heapq") 188)), (DictEntry.mk (PyData.keyHash P (Str.ofString "path")) (Value.str (Str.ofString "path") 190) (Value.str (Str.mk (List.toArray [47, 110, 105, 120, 47, 115, 116, 111, 114, 101, 47, 119, 106, 49, 102, 53, 54, 113, 107, 121, 52, 112, 109, 106, 99, 55, 108, 48, 114, 54, 98, 54, 108, 55, 119, 104, 110, 110, 119, 55, 104, 112, 54, 45, 112, 121, 116, 104, 111, 110, 51, 45, 51, 46, 49, 51, 46, 49, 53, 47, 108, 105, 98, 47, 112, 121, 116, 104, 111, 110, 51, 46, 49, 51, 47, 108, 105, 98, 45, 100, 121, 110, 108, 111, 97, 100, 47, 95, 104, 101, 97, 112, 113, 46, 99, 112, 121, 116, 104, 111, 110, 45, 51, 49, 51, 45, 120, 56, 54, 95, 54, 52, 45, 108, 105, 110, 117, 120, 45, 103, 110, 117, 46, 115, 111])) 187))]) 2) (List.toArray []))),
  (15, (Obj.mk (Value.type "dict") none (Data.dict (List.toArray [(DictEntry.mk (PyData.keyHash P (Str.ofString "__module__")) (Value.str (Str.ofString "__module__") 194) (Value.str (Str.mk (List.toArray [95, 102, 114, 111, 122, 101, 110, 95, 105, 109, 112, 111, 114, 116, 108, 105, 98, 95, 101, 120, 116, 101, 114, 110, 97, 108])) 192)), (DictEntry.mk (PyData.keyHash P (Str.ofString "__firstlineno__")) (Value.str (Str.ofString "__firstlineno__") 195) (Value.int (1001 : Int) 193)), (DictEntry.mk (PyData.keyHash P (Str.ofString "__doc__")) (Value.str (Str.ofString "__doc__") 196) (Value.builtin "_frozen_importlib_external._LoaderBasics.__doc__:str#opaque")), (DictEntry.mk (PyData.keyHash P (Str.ofString "is_package")) (Value.str (Str.ofString "is_package") 197) (Value.builtin "_frozen_importlib_external._LoaderBasics.is_package#opaque")), (DictEntry.mk (PyData.keyHash P (Str.ofString "create_module")) (Value.str (Str.ofString "create_module") 198) (Value.builtin "_frozen_importlib_external._LoaderBasics.create_module#opaque")), (DictEntry.mk (PyData.keyHash P (Str.ofString "exec_module")) (Value.str (Str.ofString "exec_module") 199) (Value.builtin "_frozen_importlib_external._LoaderBasics.exec_module#opaque")), (DictEntry.mk (PyData.keyHash P (Str.ofString "load_module")) (Value.str (Str.ofString "load_module") 200) (Value.builtin "_frozen_importlib_external._LoaderBasics.load_module#opaque")), (DictEntry.mk (PyData.keyHash P (Str.ofString "__static_attributes__")) (Value.str (Str.ofString "__static_attributes__") 201) (Value.ref 17)), (DictEntry.mk (PyData.keyHash P (Str.ofString "__dict__")) (Value.str (Str.ofString "__dict__") 203) (Value.ref 18)), (DictEntry.mk (PyData.keyHash P (Str.ofString "__weakref__")) (Value.str (Str.ofString "__weakref__") 205) (Value.ref 19))]) 10) (List.toArray []))),
  (16, (Obj.mk (Value.type "type") none (Data.cls (ClassData.mk (Str.ofString "_LoaderBasics") [(Value.type "object")] [(Value.ref 16), (Value.type "object")] 15 (Str.ofString "_LoaderBasics") Bool.true [] [(Value.ref 27)] Bool.false none Bool.false)) (List.toArray []))),
  (17, (Obj.mk (Value.type "tuple") none (Data.seq (List.toArray []) 0) (List.toArray []))),
  (18, (Obj.mk (Value.type "getset_descriptor") none (Data.fields (List.toArray [(Value.str (Str.ofString "__dict__") 202), (Value.ref 16), (Value.builtin "function.__dict__"), (Value.builtin "function.__dict__#set")])) (List.toArray []))),
  (19, (Obj.mk (Value.type "getset_descriptor") none (Data.fields (List.toArray [(Value.str (Str.ofString "__weakref__") 204), (Value.ref 16), (Value.builtin "ExceptionGroup.__weakref__"), Value.none])) (List.toArray []))),
  (20, (Obj.mk Value.none none (Data.seq (List.toArray [(Value.int (15 : Int) 0), (Value.str (Str.mk (List.toArray [6, 194, 10, 95, 95, 109, 111, 100, 117, 108, 101, 95, 95, 6, 192, 26, 95, 102, 114, 111, 122, 101, 110, 95, 105, 109, 112, 111, 114, 116, 108, 105, 98, 95, 101, 120, 116, 101, 114, 110, 97, 108, 6, 195, 15, 95, 95, 102, 105, 114, 115, 116, 108, 105, 110, 101, 110, 111, 95, 95, 4, 193, 0, 1001, 6, 196, 7, 95, 95, 100, 111, 99, 95, 95, 9, 59, 95, 102, 114, 111, 122, 101, 110, 95, 105, 109, 112, 111, 114, 116, 108, 105, 98, 95, 101, 120, 116, 101, 114, 110, 97, 108, 46, 95, 76, 111, 97, 100, 101, 114, 66, 97, 115, 105, 99, 115, 46, 95, 95, 100, 111, 99, 95, 95, 58, 115, 116, 114, 35, 111, 112, 97, 113, 117, 101, 6, 197, 10, 105, 115, 95, 112, 97, 99, 107, 97, 103, 101, 9, 58, 95, 102, 114, 111, 122, 101, 110, 95, 105, 109, 112, 111, 114, 116, 108, 105, 98, 95, 101, 120, 116, 101, 114, 110, 97, 108, 46, 95, 76, 111, 97, 100, 101, 114, 66, 97, 115, 105, 99, 115, 46, 105, 115, 95, 112, 97, 99, 107, 97, 103, 101, 35, 111, 112, 97, 113, 117, 101, 6, 198, 13, 99, 114, 101, 97, 116, 101, 95, 109, 111, 100, 117, 108, 101, 9, 61, 95, 102, 114, 111, 122, 101, 110, 95, 105, 109, 112, 111, 114, 116, 108, 105, 98, 95, 101, 120, 116, 101, 114, 110, 97, 108, 46, 95, 76, 111, 97, 100, 101, 114, 66, 97, 115, 105, 99, 115, 46, 99, 114, 101, 97, 116, 101, 95, 109, 111, 100, 117, 108, 101, 35, 111, 112, 97, 113, 117, 101, 6, 199, 11, 101, 120, 101, 99, 95, 109, 111, 100, 117, 108, 101, 9, 59, 95, 102, 114, 111, 122, 101, 110, 95, 105, 109, 112, 111, 114, 116, 108, 105, 98, 95, 101, 120, 116, 101, 114, 110, 97, 108, 46, 95, 76, 111, 97, 100, 101, 114, 66, 97, 115, 105, 99, 115, 46, 101, 120, 101, 99, 95, 109, 111, 100, 117, 108, 101, 35, 111, 112, 97, 113, 117, 101, 6, 200, 11, 108, 111, 97, 100, 95, 109, 111, 100, 117, 108, 101, 9, 59, 95, 102, 114, 111, 122, 101, 110, 95, 105, 109, 112, 111, 114, 116, 108, 105, 98, 95, 101, 120, 116, 101, 114, 110, 97, 108, 46, 95, 76, 111, 97, 100, 101, 114, 66, 97, 115, 105, 99, 115, 46, 108, 111, 97, 100, 95, 109, 111, 100, 117, 108, 101, 35, 111, 112, 97, 113, 117, 101, 6, 201, 21, 95, 95, 115, 116, 97, 116, 105, 99, 95, 97, 116, 116, 114, 105, 98, 117, 116, 101, 115, 95, 95, 4, 0, 0, 17, 6, 203, 8, 95, 95, 100, 105, 99, 116, 95, 95, 4, 0, 0, 18, 6, 205, 11, 95, 95, 119, 101, 97, 107, 114, 101, 102, 95, 95, 4, 0, 0, 19])) 0), (Value.bool Bool.true), (Value.bool Bool.true), (Value.str (Str.ofString "") 206), (Value.int (21 : Int) 0), (Value.str (Str.mk (List.toArray [6, 213, 10, 95, 95, 109, 111, 100, 117, 108, 101, 95, 95, 6, 209, 26, 95, 102, 114, 111, 122, 101, 110, 95, 105, 109, 112, 111, 114, 116, 108, 105, 98, 95, 101, 120, 116, 101, 114, 110, 97, 108, 6, 214, 15, 95, 95, 102, 105, 114, 115, 116, 108, 105, 110, 101, 110, 111, 95, 95, 4, 210, 0, 1176, 6, 215, 7, 95, 95, 100, 111, 99, 95, 95, 9, 56, 95, 102, 114, 111, 122, 101, 110, 95, 105, 109, 112, 111, 114, 116, 108, 105, 98, 95, 101, 120, 116, 101, 114, 110, 97, 108, 46, 70, 105, 108, 101, 76, 111, 97, 100, 101, 114, 46, 95, 95, 100, 111, 99, 95, 95, 58, 115, 116, 114, 35, 111, 112, 97, 113, 117, 101, 6, 216, 8, 95, 95, 105, 110, 105, 116, 95, 95, 9, 53, 95, 102, 114, 111, 122, 101, 110, 95, 105, 109, 112, 111, 114, 116, 108, 105, 98, 95, 101, 120, 116, 101, 114, 110, 97, 108, 46, 70, 105, 108, 101, 76, 111, 97, 100, 101, 114, 46, 95, 95, 105, 110, 105, 116, 95, 95, 35, 111, 112, 97, 113, 117, 101, 6, 217, 6, 95, 95, 101, 113, 95, 95, 9, 51, 95, 102, 114, 111, 122, 101, 110, 95, 105, 109, 112, 111, 114, 116, 108, 105, 98, 95, 101, 120, 116, 101, 114, 110, 97, 108, 46, 70, 105, 108, 101, 76, 111, 97, 100, 101, 114, 46, 95, 95, 101, 113, 95, 95, 35, 111, 112, 97, 113, 117, 101, 6, 218, 8, 95, 95, 104, 97, 115, 104, 95, 95, 9, 53, 95, 102, 114, 111, 122, 101, 110, 95, 105, 109, 112, 111, 114, 116, 108, 105, 98, 95, 101, 120, 116, 101, 114, 110, 97, 108, 46, 70, 105, 108, 101, 76, 111, 97, 100, 101, 114, 46, 95, 95, 104, 97, 115, 104, 95, 95, 35, 111, 112, 97, 113, 117, 101, 6, 219, 11, 108, 111, 97, 100, 95, 109, 111, 100, 117, 108, 101, 9, 56, 95, 102, 114, 111, 122, 101, 110, 95, 105, 109, 112, 111, 114, 116, 108, 105, 98, 95, 101, 120, 116, 101, 114, 110, 97, 108, 46, 70, 105, 108, 101, 76, 111, 97, 100, 101, 114, 46, 108, 111, 97, 100, 95, 109, 111, 100, 117, 108, 101, 35, 111, 112, 97, 113, 117, 101, 6, 220, 12, 103, 101, 116, 95, 102, 105, 108, 101, 110, 97, 109, 101, 9, 57, 95, 102, 114, 111, 122, 101, 110, 95, 105, 109, 112, 111, 114, 116, 108, 105, 98, 95, 101, 120, 116, 101, 114, 110, 97, 108, 46, 70, 105, 108, 101, 76, 111, 97, 100, 101, 114, 46, 103, 101, 116, 95, 102, 105, 108, 101, 110, 97, 109, 101, 35, 111, 112, 97, 113, 117, 101, 6, 221, 8, 103, 101, 116, 95, 100, 97, 116, 97, 9, 53, 95, 102, 114, 111, 122, 101, 110, 95, 105, 109, 112, 111, 114, 116, 108, 105, 98, 95, 101, 120, 116, 101, 114, 110, 97, 108, 46, 70, 105, 108, 101, 76, 111, 97, 100, 101, 114, 46, 103, 101, 116, 95, 100, 97, 116, 97, 35, 111, 112, 97, 113, 117, 101, 6, 222, 19, 103, 101, 116, 95, 114, 101, 115, 111, 117, 114, 99, 101, 95, 114, 101, 97, 100, 101, 114, 9, 64, 95, 102, 114, 111, 122, 101, 110, 95, 105, 109, 112, 111, 114, 116, 108, 105, 98, 95, 101, 120, 116, 101, 114, 110, 97, 108, 46, 70, 105, 108, 101, 76, 111, 97, 100, 101, 114, 46, 103, 101, 116, 95, 114, 101, 115, 111, 117, 114, 99, 101, 95, 114, 101, 97, 100, 101, 114, 35, 111, 112, 97, 113, 117, 101, 6, 223, 21, 95, 95, 115, 116, 97, 116, 105, 99, 95, 97, 116, 116, 114, 105, 98, 117, 116, 101, 115, 95, 95, 4, 0, 0, 23, 6, 225, 8, 95, 95, 100, 105, 99, 116, 95, 95, 4, 0, 0, 24, 6, 227, 11, 95, 95, 119, 101, 97, 107, 114, 101, 102, 95, 95, 4, 0, 0, 25])) 0), (Value.bool Bool.true), (Value.bool Bool.true), (Value.str (Str.ofString "") 228), (Value.int (26 : Int) 0), (Value.str (Str.mk (List.toArray [6, 234, 10, 95, 95, 109, 111, 100, 117, 108, 101, 95, 95, 6, 230, 26, 95, 102, 114, 111, 122, 101, 110, 95, 105, 109, 112, 111, 114, 116, 108, 105, 98, 95, 101, 120, 116, 101, 114, 110, 97, 108, 6, 235, 15, 95, 95, 102, 105, 114, 115, 116, 108, 105, 110, 101, 110, 111, 95, 95, 4, 231, 0, 1296, 6, 236, 7, 95, 95, 100, 111, 99, 95, 95, 9, 65, 95, 102, 114, 111, 122, 101, 110, 95, 105, 109, 112, 111, 114, 116, 108, 105, 98, 95, 101, 120, 116, 101, 114, 110, 97, 108, 46, 69, 120, 116, 101, 110, 115, 105, 111, 110, 70, 105, 108, 101, 76, 111, 97, 100, 101, 114, 46, 95, 95, 100, 111, 99, 95, 95, 58, 115, 116, 114, 35, 111, 112, 97, 113, 117, 101, 6, 237, 8, 95, 95, 105, 110, 105, 116, 95, 95, 9, 62, 95, 102, 114, 111, 122, 101, 110, 95, 105, 109, 112, 111, 114, 116, 108, 105, 98, 95, 101, 120, 116, 101, 114, 110, 97, 108, 46, 69, 120, 116, 101, 110, 115, 105, 111, 110, 70, 105, 108, 101, 76, 111, 97, 100, 101, 114, 46, 95, 95, 105, 110, 105, 116, 95, 95, 35, 111, 112, 97, 113, 117, 101, 6, 238, 6, 95, 95, 101, 113, 95, 95, 9, 60, 95, 102, 114, 111, 122, 101, 110, 95, 105, 109, 112, 111, 114, 116, 108, 105, 98, 95, 101, 120, 116, 101, 114, 110, 97, 108, 46, 69, 120, 116, 101, 110, 115, 105, 111, 110, 70, 105, 108, 101, 76, 111, 97, 100, 101, 114, 46, 95, 95, 101, 113, 95, 95, 35, 111, 112, 97, 113, 117, 101, 6, 239, 8, 95, 95, 104, 97, 115, 104, 95, 95, 9, 62, 95, 102, 114, 111, 122, 101, 110, 95, 105, 109, 112, 111, 114, 116, 108, 105, 98, 95, 101, 120, 116, 101, 114, 110, 97, 108, 46, 69, 120, 116, 101, 110, 115, 105, 111, 110, 70, 105, 108, 101, 76, 111, 97, 100, 101, 114, 46, 95, 95, 104, 97, 115, 104, 95, 95, 35, 111, 112, 97, 113, 117, 101, 6, 240, 13, 99, 114, 101, 97, 116, 101, 95, 109, 111, 100, 117, 108, 101, 9, 67, 95, 102, 114, 111, 122, 101, 110, 95, 105, 109, 112, 111, 114, 116, 108, 105, 98, 95, 101, 120, 116, 101, 114, 110, 97, 108, 46, 69, 120, 116, 101, 110, 115, 105, 111, 110, 70, 105, 108, 101, 76, 111, 97, 100, 101, 114, 46, 99, 114, 101, 97, 116, 101, 95, 109, 111, 100, 117, 108, 101, 35, 111, 112, 97, 113, 117, 101, 6, 241, 11, 101, 120, 101, 99, 95, 109, 111, 100, 117, 108, 101, 9, 65, 95, 102, 114, 111, 122, 101, 110, 95, 105, 109, 112, 111, 114, 116, 108, 105, 98, 95, 101, 120, 116, 101, 114, 110, 97, 108, 46, 69, 120, 116, 101, 110, 115, 105, 111, 110, 70, 105, 108, 101, 76, 111, 97, 100, 101, 114, 46, 101, 120, 101, 99, 95, 109, 111, 100, 117, 108, 101, 35, 111, 112, 97, 113, 117, 101, 6, 242, 10, 105, 115, 95, 112, 97, 99, 107, 97, 103, 101, 9, 64, 95, 102, 114, 111, 122, 101, 110, 95, 105, 109, 112, 111, 114, 116, 108, 105, 98, 95, 101, 120, 116, 101, 114, 110, 97, 108, 46, 69, 120, 116, 101, 110, 115, 105, 111, 110, 70, 105, 108, 101, 76, 111, 97, 100, 101, 114, 46, 105, 115, 95, 112, 97, 99, 107, 97, 103, 101, 35, 111, 112, 97, 113, 117, 101, 6, 243, 8, 103, 101, 116, 95, 99, 111, 100, 101, 9, 62, 95, 102, 114, 111, 122, 101, 110, 95, 105, 109, 112, 111, 114, 116, 108, 105, 98, 95, 101, 120, 116, 101, 114, 110, 97, 108, 46, 69, 120, 116, 101, 110, 115, 105, 111, 110, 70, 105, 108, 101, 76, 111, 97, 100, 101, 114, 46, 103, 101, 116, 95, 99, 111, 100, 101, 35, 111, 112, 97, 113, 117, 101, 6, 244, 10, 103, 101, 116, 95, 115, 111, 117, 114, 99, 101, 9, 64, 95, 102, 114, 111, 122, 101, 110, 95, 105, 109, 112, 111, 114, 116, 108, 105, 98, 95, 101, 120, 116, 101, 114, 110, 97, 108, 46, 69, 120, 116, 101, 110, 115, 105, 111, 110, 70, 105, 108, 101, 76, 111, 97, 100, 101, 114, 46, 103, 101, 116, 95, 115, 111, 117, 114, 99, 101, 35, 111, 112, 97, 113, 117, 101, 6, 245, 12, 103, 101, 116, 95, 102, 105, 108, 101, 110, 97, 109, 101, 9, 66, 95, 102, 114, 111, 122, 101, 110, 95, 105, 109, 112, 111, 114, 116, 108, 105, 98, 95, 101, 120, 116, 101, 114, 110, 97, 108, 46, 69, 120, 116, 101, 110, 115, 105, 111, 110, 70, 105, 108, 101, 76, 111, 97, 100, 101, 114, 46, 103, 101, 116, 95, 102, 105, 108, 101, 110, 97, 109, 101, 35, 111, 112, 97, 113, 117, 101, 6, 246, 21, 95, 95, 115, 116, 97, 116, 105, 99, 95, 97, 116, 116, 114, 105, 98, 117, 116, 101, 115, 95, 95, 4, 0, 0, 28])) 0), (Value.bool Bool.true), (Value.bool Bool.true), (Value.str (Str.ofString "") 247), (Value.int (32 : Int) 0), (Value.str (Str.mk (List.toArray [6, 268, 10, 95, 95, 109, 111, 100, 117, 108, 101, 95, 95, 6, 258, 17, 95, 102, 114, 111, 122, 101, 110, 95, 105, 109, 112, 111, 114, 116, 108, 105, 98, 6, 269, 15, 95, 95, 102, 105, 114, 115, 116, 108, 105, 110, 101, 110, 111, 95, 95, 4, 259, 0, 562, 6, 270, 7, 95, 95, 100, 111, 99, 95, 95, 9, 47, 95, 102, 114, 111, 122, 101, 110, 95, 105, 109, 112, 111, 114, 116, 108, 105, 98, 46, 77, 111, 100, 117, 108, 101, 83, 112, 101, 99, 46, 95, 95, 100, 111, 99, 95, 95, 58, 115, 116, 114, 35, 111, 112, 97, 113, 117, 101, 6, 271, 8, 95, 95, 105, 110, 105, 116, 95, 95, 9, 44, 95, 102, 114, 111, 122, 101, 110, 95, 105, 109, 112, 111, 114, 116, 108, 105, 98, 46, 77, 111, 100, 117, 108, 101, 83, 112, 101, 99, 46, 95, 95, 105, 110, 105, 116, 95, 95, 35, 111, 112, 97, 113, 117, 101, 6, 272, 8, 95, 95, 114, 101, 112, 114, 95, 95, 9, 44, 95, 102, 114, 111, 122, 101, 110, 95, 105, 109, 112, 111, 114, 116, 108, 105, 98, 46, 77, 111, 100, 117, 108, 101, 83, 112, 101, 99, 46, 95, 95, 114, 101, 112, 114, 95, 95, 35, 111, 112, 97, 113, 117, 101, 6, 273, 6, 95, 95, 101, 113, 95, 95, 9, 42, 95, 102, 114, 111, 122, 101, 110, 95, 105, 109, 112, 111, 114, 116, 108, 105, 98, 46, 77, 111, 100, 117, 108, 101, 83, 112, 101, 99, 46, 95, 95, 101, 113, 95, 95, 35, 111, 112, 97, 113, 117, 101, 6, 274, 6, 99, 97, 99, 104, 101, 100, 9, 42, 95, 102, 114, 111, 122, 101, 110, 95, 105, 109, 112, 111, 114, 116, 108, 105, 98, 46, 77, 111, 100, 117, 108, 101, 83, 112, 101, 99, 46, 99, 97, 99, 104, 101, 100, 35, 111, 112, 97, 113, 117, 101, 6, 275, 6, 112, 97, 114, 101, 110, 116, 9, 42, 95, 102, 114, 111, 122, 101, 110, 95, 105, 109, 112, 111, 114, 116, 108, 105, 98, 46, 77, 111, 100, 117, 108, 101, 83, 112, 101, 99, 46, 112, 97, 114, 101, 110, 116, 35, 111, 112, 97, 113, 117, 101, 6, 276, 12, 104, 97, 115, 95, 108, 111, 99, 97, 116, 105, 111, 110, 9, 48, 95, 102, 114, 111, 122, 101, 110, 95, 105, 109, 112, 111, 114, 116, 108, 105, 98, 46, 77, 111, 100, 117, 108, 101, 83, 112, 101, 99, 46, 104, 97, 115, 95, 108, 111, 99, 97, 116, 105, 111, 110, 35, 111, 112, 97, 113, 117, 101, 6, 277, 21, 95, 95, 115, 116, 97, 116, 105, 99, 95, 97, 116, 116, 114, 105, 98, 117, 116, 101, 115, 95, 95, 4, 0, 0, 34, 6, 279, 8, 95, 95, 100, 105, 99, 116, 95, 95, 4, 0, 0, 35, 6, 281, 11, 95, 95, 119, 101, 97, 107, 114, 101, 102, 95, 95, 4, 0, 0, 36, 6, 282, 8, 95, 95, 104, 97, 115, 104, 95, 95, 0])) 0), (Value.bool Bool.true), (Value.bool Bool.true), (Value.str (Str.ofString "") 283)]) 3) (List.toArray []))),
  (21, (Obj.mk (Value.type "dict") none (Data.dict (List.toArray [(DictEntry.mk (PyData.keyHash P (Str.ofString "__module__")) (Value.str (Str.ofString "__module__") 213) (Value.str (Str.mk (List.toArray [95, 102, 114, 111, 122, 101, 110, 95, 105, 109, 112, 111, 114, 116, 108, 105, 98, 95, 101, 120, 116, 101, 114, 110, 97, 108])) 209)), (DictEntry.mk (PyData.keyHash P (Str.ofString "__firstlineno__")) (Value.str (Str.ofString "__firstlineno__") 214) (Value.int (1176 : Int) 210)), (DictEntry.mk (PyData.keyHash P (Str.ofString "__doc__")) (Value.str (Str.ofString "__doc__") 215) (Value.builtin "_frozen_importlib_external.FileLoader.__doc__:str#opaque")), (DictEntry.mk (PyData.keyHash P (Str.ofString "__init__")) (Value.str (Str.ofString "__init__") 216) (Value.builtin "_frozen_importlib_external.FileLoader.__init__#opaque")), (DictEntry.mk (PyData.keyHash P (Str.ofString "__eq__")) (Value.str (Str.ofString "__eq__") 217) (Value.builtin "_frozen_importlib_external.FileLoader.__eq__#opaque")), (DictEntry.mk (PyData.keyHash P (Str.ofString "__hash__")) (Value.str (Str.ofString "__hash__") 218) (Value.builtin "_frozen_importlib_external.FileLoader.__hash__#opaque")), (DictEntry.mk (PyData.keyHash P (Str.ofString "load_module")) (Value.str (Str.ofString "load_module") 219) (Value.builtin "_frozen_importlib_external.FileLoader.load_module#opaque")), (DictEntry.mk (PyData.keyHash P (Str.ofString "get_filename")) (Value.str (Str.ofString "get_filename") 220) (Value.builtin "_frozen_importlib_external.FileLoader.get_filename#opaque")), (DictEntry.mk (PyData.keyHash P (Str.ofString "get_data")) (Value.str (Str.ofString "get_data") 221) (Value.builtin "_frozen_importlib_external.FileLoader.get_data#opaque")), (DictEntry.mk (PyData.keyHash P (Str.ofString "get_resource_reader")) (Value.str (Str.ofString "get_resource_reader") 222) (Value.builtin "_frozen_importlib_external.FileLoader.get_resource_reader#opaque")), (DictEntry.mk (PyData.keyHash P (Str.ofString "__static_attributes__")) (Value.str (Str.ofString "__static_attributes__") 223) (Value.ref 23)), (DictEntry.mk (PyData.keyHash P (Str.ofString "__dict__")) (Value.str (Str.ofString "__dict__") 225) (Value.ref 24)), (DictEntry.mk (PyData.keyHash P (Str.ofString "__weakref__")) (Value.str (Str.ofString "__weakref__") 227) (Value.ref 25))]) 13) (List.toArray []))),
  (22, (Obj.mk (Value.type "type") none (Data.cls (ClassData.mk (Str.ofString "FileLoader") [(Value.type "object")] [(Value.ref 22), (Value.type "object")] 21 (Str.ofString "FileLoader") Bool.true [] [(Value.ref 27)] Bool.false none Bool.false)) (List.toArray []))),
  (23, (Obj.mk (Value.type "tuple") none (Data.seq (List.toArray [(Value.str (Str.ofString "name") 211), (Value.str (Str.ofString "path") 212)]) 0) (List.toArray []))),
  (24, (Obj.mk (Value.type "getset_descriptor") none (Data.fields (List.toArray [(Value.str (Str.ofString "__dict__") 224), (Value.ref 22), (Value.builtin "function.__dict__"), (Value.builtin "function.__dict__#set")])) (List.toArray []))),
  (25, (Obj.mk (Value.type "getset_descriptor") none (Data.fields (List.toArray [(Value.str (Str.ofString "__weakref__") 226), (Value.ref 22), (Value.builtin "ExceptionGroup.__weakref__"), Value.none])) (List.toArray []))),
  (26, (Obj.mk (Value.type "dict") none (Data.dict (List.toArray [(DictEntry.mk (PyData.keyHash P (Str.ofString "__module__")) (Value.str (Str.ofString "__module__") 234) (Value.str (Str.mk (List.toArray [95, 102, 114, 111, 122, 101, 110, 95, 105, 109, 112, 111, 114, 116, 108, 105, 98, 95, 101, 120, 116, 101, 114, 110, 97, 108])) 230)), (DictEntry.mk (PyData.keyHash P (Str.ofString "__firstlineno__")) (Value.str (Str.ofString "__firstlineno__") 235) (Value.int (1296 : Int) 231)), (DictEntry.mk (PyData.keyHash P (Str.ofString "__doc__")) (Value.str (Str.ofString "__doc__") 236) (Value.builtin "_frozen_importlib_external.ExtensionFileLoader.__doc__:str#opaque")), (DictEntry.mk (PyData.keyHash P (Str.ofString "__init__")) (Value.str (Str.ofString "__init__") 237) (Value.builtin "_frozen_importlib_external.ExtensionFileLoader.__init__#opaque")), (DictEntry.mk (PyData.keyHash P (Str.ofString "__eq__")) (Value.str (Str.ofString "__eq__") 238) (Value.builtin "_frozen_importlib_external.ExtensionFileLoader.__eq__#opaque")), (DictEntry.mk (PyData.keyHash P (Str.ofString "__hash__")) (Value.str (Str.ofString "__hash__") 239) (Value.builtin "_frozen_importlib_external.ExtensionFileLoader.__hash__#opaque")), (DictEntry.mk (PyData.keyHash P (Str.ofString "create_module")) (Value.str (Str.ofString "create_module") 240) (Value.builtin "_frozen_importlib_external.ExtensionFileLoader.create_module#opaque")), (DictEntry.mk (PyData.keyHash P (Str.ofString "exec_module")) (Value.str (Str.ofString "exec_module") 241) (Value.builtin "_frozen_importlib_external.ExtensionFileLoader.exec_module#opaque")), (DictEntry.mk (PyData.keyHash P (Str.ofString "is_package")) (Value.str (Str.ofString "is_package") 242) (Value.builtin "_frozen_importlib_external.ExtensionFileLoader.is_package#opaque")), (DictEntry.mk (PyData.keyHash P (Str.ofString "get_code")) (Value.str (Str.ofString "get_code") 243) (Value.builtin "_frozen_importlib_external.ExtensionFileLoader.get_code#opaque")), (DictEntry.mk (PyData.keyHash P (Str.ofString "get_source")) (Value.str (Str.ofString "get_source") 244) (Value.builtin "_frozen_importlib_external.ExtensionFileLoader.get_source#opaque")), (DictEntry.mk (PyData.keyHash P (Str.ofString "get_filename")) (Value.str (Str.ofString "get_filename") 245) (Value.builtin "_frozen_importlib_external.ExtensionFileLoader.get_filename#opaque")), (DictEntry.mk (PyData.keyHash P (Str.ofString "__static_attributes__")) (Value.str (Str.ofString "__static_attributes__") 246) (Value.ref 28))]) 13) (List.toArray []))),
  (27, (Obj.mk (Value.type "type") none (Data.cls (ClassData.mk (Str.ofString "ExtensionFileLoader") [(Value.ref 22), (Value.ref 16)] [(Value.ref 27), (Value.ref 22), (Value.ref 16), (Value.type "object")] 26 (Str.ofString "ExtensionFileLoader") Bool.true [] [] Bool.false none Bool.false)) (List.toArray []))),
  (28, (Obj.mk (Value.type "tuple") none (Data.seq (List.toArray [(Value.str (Str.ofString "name") 232), (Value.str (Str.ofString "path") 233)]) 0) (List.toArray []))),
  (29, (Obj.mk (Value.ref 27) (some 14) Data.plain (List.toArray []))),
  (30, (Obj.mk (Value.type "list") none (Data.seq (List.toArray []) 0) (List.toArray []))),
  (31, (Obj.mk (Value.type "dict") none (Data.dict (List.toArray [(DictEntry.mk (PyData.keyHash P (Str.ofString "name")) (Value.str (Str.ofString "name") 249) (Value.str (Str.ofString "_heapq") 248)), (DictEntry.mk (PyData.keyHash P (Str.ofString "loader")) (Value.str (Str.ofString "loader") 250) (Value.ref 29)), (DictEntry.mk (PyData.keyHash P (Str.ofString "origin")) (Value.str (Str.ofString "origin") 251) (Value.str (Str.mk (List.toArray [47, 110, 105, 120, 47, 115, 116, 111, 114, 101, 47, 119, 106, 49, 102, 53, 54, 113, 107, 121, 52, 112, 109, 106, 99, 55, 108, 48, 114, 54, 98, 54, 108, 55, 119, 104, 110, 110, 119, 55, 104, 112, 54, 45, 112, 121, 116, 104, 111, 110, 51, 45, 51, 46, 49, 51, 46, 49, 53, 47, 108, 105, 98, 47, 112, 121, 116, 104, 111, 110, 51, 46, 49, 51, 47, 108, 105, 98, 45, 100, 121, 110, 108, 111, 97, 100, 47, 95, 104, 101, 97, 112, 113, 46, 99, 112, 121, 116, 104, 111, 110, 45, 51, 49, 51, 45, 120, 56, 54, 95, 54, 52, 45, 108, 105, 110, 117, 120, 45, 103, 110, 117, 46, 115, 111])) 187)), (DictEntry.mk (PyData.keyHash P (Str.ofString "loader_state")) (Value.str (Str.ofString "loader_state") 252) Value.none), (DictEntry.mk (PyData.keyHash P (Str.ofString "submodule_search_locations")) (Value.str (Str.ofString "submodule_search_locations") 253) Value.none), (DictEntry.mk (PyData.keyHash P (Str.ofString "_uninitialized_submodules")) (Value.str (Str.ofString "_uninitialized_submodules") 254) (Value.ref 30)), (DictEntry.mk (PyData.keyHash P (Str.ofString "_set_fileattr")) (Value.str (Str.ofString "_set_fileattr") 255) (Value.bool Bool.true)), (DictEntry.mk (PyData.keyHash P (Str.ofString "_cached")) (Value.str (Str.ofString "_cached") 256) Value.none), (DictEntry.mk (PyData.keyHash P (Str.ofString "_initializing")) (Value.str (Str.ofString "_initializing") 284) (Value.bool Bool.false))]) 9) (List.toArray []))),
  (32, (Obj.mk (Value.type "dict") none (Data.dict (List.toArray [(DictEntry.mk (PyData.keyHash P (Str.ofString "__module__")) (Value.str (Str.ofString "__module__") 268) (Value.str (Str.mk (List.toArray [95, 102, 114, 111, 122, 101, 110, 95, 105, 109, 112, 111, 114, 116, 108, 105, 98])) 258)), (DictEntry.mk (PyData.keyHash P (Str.ofString "__firstlineno__")) (Value.str (Str.ofString "__firstlineno__") 269) (Value.int (562 : Int) 259)), (DictEntry.mk (PyData.keyHash P (Str.ofString "__doc__")) (Value.str (Str.ofString "__doc__") 270) (Value.builtin "_frozen_importlib.ModuleSpec.__doc__:str#opaque")), (DictEntry.mk (PyData.keyHash P (Str.ofString "__init__")) (Value.str (Str.ofString "__init__") 271) (Value.builtin "_frozen_importlib.ModuleSpec.__init__#opaque")), (DictEntry.mk (PyData.keyHash P (Str.ofString "__repr__")) (Value.str (Str.ofString "__repr__") 272) (Value.builtin "_frozen_importlib.ModuleSpec.__repr__#opaque")), (DictEntry.mk (PyData.keyHash P (Str.ofString "__eq__")) (Value.str (Str.ofString "__eq__") 273) (Value.builtin "_frozen_importlib.ModuleSpec.__eq__#opaque")), (DictEntry.mk (PyData.keyHash P (Str.ofString "cached")) (Value.str (Str.ofString "cached") 274) (Value.builtin "_frozen_importlib.ModuleSpec.cached#opaque")), (DictEntry.mk (PyData.keyHash P (Str.ofString "parent")) (Value.str (Str.ofString "parent") 275) (Value.builtin "_frozen_importlib.ModuleSpec.parent#opaque")), (DictEntry.mk (PyData.keyHash P (Str.ofString "has_location")) (Value.str (Str.ofString "has_location") 276) (Value.builtin "_frozen_importlib.ModuleSpec.has_location#opaque")), (DictEntry.mk (PyData.keyHash P (Str.ofString "__static_attributes__")) (Value.str (Str.ofString "__static_attributes__") 277) (Value.ref 34)), (DictEntry.mk (PyData.keyHash P (Str.ofString "__dict__")) (Value.str (Str.ofString "__dict__") 279) (Value.ref 35)), (DictEntry.mk (PyData.keyHash P (Str.ofString "__weakref__")) (Value.str (Str.ofString "__weakref__") 281) (Value.ref 36)), (DictEntry.mk (PyData.keyHash P (Str.ofString "__hash__")) (Value.str (Str.ofString "__hash__") 282) Value.none)]) 13) (List.toArray []))),
  (33, (Obj.mk (Value.type "type") none (Data.cls (ClassData.mk (Str.ofString "ModuleSpec") [(Value.type "object")] [(Value.ref 33), (Value.type "object")] 32 (Str.ofString "ModuleSpec") Bool.true [] [] Bool.false none Bool.false)) (List.toArray []))),
  (34, (Obj.mk (Value.type "tuple") none (Data.seq (List.toArray [(Value.str (Str.ofString "_cached") 260), (Value.str (Str.ofString "_set_fileattr") 261), (Value.str (Str.ofString "_uninitialized_submodules") 262), (Value.str (Str.ofString "loader") 263), (Value.str (Str.ofString "loader_state") 264), (Value.str (Str.ofString "name") 265), (Value.str (Str.ofString "origin") 266), (Value.str (Str.ofString "submodule_search_locations") 267)]) 0) (List.toArray []))),
  (35, (Obj.mk (Value.type "getset_descriptor") none (Data.fields (List.toArray [(Value.str (Str.ofString "__dict__") 278), (Value.ref 33), (Value.builtin "function.__dict__"), (Value.builtin "function.__dict__#set")])) (List.toArray []))),
  (36, (Obj.mk (Value.type "getset_descriptor") none (Data.fields (List.toArray [(Value.str (Str.ofString "__weakref__") 280), (Value.ref 33), (Value.builtin "ExceptionGroup.__weakref__"), Value.none])) (List.toArray []))),
  (37, (Obj.mk (Value.ref 33) (some 31) Data.plain (List.toArray []))),
  (38, (Obj.mk Value.none none (Data.seq (List.toArray [(Value.int (12 : Int) 0), (Value.str (Str.mk (List.toArray [6, 288, 8, 95, 95, 110, 97, 109, 101, 95, 95, 6, 287, 6, 95, 104, 101, 97, 112, 113, 6, 289, 7, 95, 95, 100, 111, 99, 95, 95, 9, 25, 95, 104, 101, 97, 112, 113, 46, 95, 95, 100, 111, 99, 95, 95, 58, 115, 116, 114, 35, 111, 112, 97, 113, 117, 101, 6, 291, 11, 95, 95, 112, 97, 99, 107, 97, 103, 101, 95, 95, 6, 290, 0, 6, 292, 10, 95, 95, 108, 111, 97, 100, 101, 114, 95, 95, 4, 0, 0, 29, 6, 293, 8, 95, 95, 115, 112, 101, 99, 95, 95, 4, 0, 0, 37, 6, 294, 8, 104, 101, 97, 112, 112, 117, 115, 104, 9, 15, 95, 104, 101, 97, 112, 113, 46, 104, 101, 97, 112, 112, 117, 115, 104, 6, 295, 11, 104, 101, 97, 112, 112, 117, 115, 104, 112, 111, 112, 9, 18, 95, 104, 101, 97, 112, 113, 46, 104, 101, 97, 112, 112, 117, 115, 104, 112, 111, 112, 6, 296, 7, 104, 101, 97, 112, 112, 111, 112, 9, 14, 95, 104, 101, 97, 112, 113, 46, 104, 101, 97, 112, 112, 111, 112, 6, 297, 11, 104, 101, 97, 112, 114, 101, 112, 108, 97, 99, 101, 9, 18, 95, 104, 101, 97, 112, 113, 46, 104, 101, 97, 112, 114, 101, 112, 108, 97, 99, 101, 6, 298, 7, 104, 101, 97, 112, 105, 102, 121, 9, 14, 95, 104, 101, 97, 112, 113, 46, 104, 101, 97, 112, 105, 102, 121, 6, 299, 12, 95, 104, 101, 97, 112, 112, 111, 112, 95, 109, 97, 120, 9, 19, 95, 104, 101, 97, 112, 113, 46, 95, 104, 101, 97, 112, 112, 111, 112, 95, 109, 97, 120, 6, 300, 12, 95, 104, 101, 97, 112, 105, 102, 121, 95, 109, 97, 120, 9, 19, 95, 104, 101, 97, 112, 113, 46, 95, 104, 101, 97, 112, 105, 102, 121, 95, 109, 97, 120, 6, 301, 16, 95, 104, 101, 97, 112, 114, 101, 112, 108, 97, 99, 101, 95, 109, 97, 120, 9, 23, 95, 104, 101, 97, 112, 113, 46, 95, 104, 101, 97, 112, 114, 101, 112, 108, 97, 99, 101, 95, 109, 97, 120, 6, 302, 8, 95, 95, 102, 105, 108, 101, 95, 95, 6, 187, 125, 47, 110, 105, 120, 47, 115, 116, 111, 114, 101, 47, 119, 106, 49, 102, 53, 54, 113, 107, 121, 52, 112, 109, 106, 99, 55, 108, 48, 114, 54, 98, 54, 108, 55, 119, 104, 110, 110, 119, 55, 104, 112, 54, 45, 112, 121, 116, 104, 111, 110, 51, 45, 51, 46, 49, 51, 46, 49, 53, 47, 108, 105, 98, 47, 112, 121, 116, 104, 111, 110, 51, 46, 49, 51, 47, 108, 105, 98, 45, 100, 121, 110, 108, 111, 97, 100, 47, 95, 104, 101, 97, 112, 113, 46, 99, 112, 121, 116, 104, 111, 110, 45, 51, 49, 51, 45, 120, 56, 54, 95, 54, 52, 45, 108, 105, 110, 117, 120, 45, 103, 110, 117, 46, 115, 111, 6, 303, 9, 95, 95, 97, 98, 111, 117, 116, 95, 95, 9, 27, 95, 104, 101, 97, 112, 113, 46, 95, 95, 97, 98, 111, 117, 116, 95, 95, 58, 115, 116, 114, 35, 111, 112, 97, 113, 117, 101])) 0), (Value.bool Bool.true), (Value.bool Bool.false), (Value.str (Str.ofString "_heapq") 305)]) 0) (List.toArray [])))] (hRbt P)
noncomputable def hRSi (w : World) : SharedT := ⟨hRti w.params, 39, (Life.mk [] [] [] 0 [] [] Bool.false (List.toArray []) [] 0 Bool.false Bool.false Bool.false (0 : Int) [(2000 : Int), (10 : Int), (10 : Int)] Bool.false 0 Bool.true [] [] 0 Bool.false), (List.toArray []), (Drawn.mk 0 0 0 0), 316, (start (opening Challenge.pw_turnedtunes_k39_pieces_refused)).1.os⟩
noncomputable def hRt0 (P : Params) : BT := putT [(12, (Obj.mk (Value.type "dict") none (Data.dict (List.toArray [(DictEntry.mk (PyData.keyHash P (Str.ofString "__name__")) (Value.str (Str.ofString "__name__") 288) (Value.str (Str.ofString "_heapq") 287)), (DictEntry.mk (PyData.keyHash P (Str.ofString "__doc__")) (Value.str (Str.ofString "__doc__") 289) (Value.builtin (fenceId (Str.ofString "_heapq") (Str.ofString "__doc__")))), (DictEntry.mk (PyData.keyHash P (Str.ofString "__package__")) (Value.str (Str.ofString "__package__") 291) (Value.str (Str.ofString "") 290)), (DictEntry.mk (PyData.keyHash P (Str.ofString "__loader__")) (Value.str (Str.ofString "__loader__") 292) (Value.builtin (fenceId (Str.ofString "_heapq") (Str.ofString "__loader__")))), (DictEntry.mk (PyData.keyHash P (Str.ofString "__spec__")) (Value.str (Str.ofString "__spec__") 293) (Value.builtin (fenceId (Str.ofString "_heapq") (Str.ofString "__spec__")))), (DictEntry.mk (PyData.keyHash P (Str.ofString "heappush")) (Value.str (Str.ofString "heappush") 294) (Value.builtin "_heapq.heappush")), (DictEntry.mk (PyData.keyHash P (Str.ofString "heappushpop")) (Value.str (Str.ofString "heappushpop") 295) (Value.builtin "_heapq.heappushpop")), (DictEntry.mk (PyData.keyHash P (Str.ofString "heappop")) (Value.str (Str.ofString "heappop") 296) (Value.builtin "_heapq.heappop")), (DictEntry.mk (PyData.keyHash P (Str.ofString "heapreplace")) (Value.str (Str.ofString "heapreplace") 297) (Value.builtin "_heapq.heapreplace")), (DictEntry.mk (PyData.keyHash P (Str.ofString "heapify")) (Value.str (Str.ofString "heapify") 298) (Value.builtin "_heapq.heapify")), (DictEntry.mk (PyData.keyHash P (Str.ofString "_heappop_max")) (Value.str (Str.ofString "_heappop_max") 299) (Value.builtin "_heapq._heappop_max")), (DictEntry.mk (PyData.keyHash P (Str.ofString "_heapify_max")) (Value.str (Str.ofString "_heapify_max") 300) (Value.builtin "_heapq._heapify_max")), (DictEntry.mk (PyData.keyHash P (Str.ofString "_heapreplace_max")) (Value.str (Str.ofString "_heapreplace_max") 301) (Value.builtin "_heapq._heapreplace_max")), (DictEntry.mk (PyData.keyHash P (Str.ofString "__file__")) (Value.str (Str.ofString "__file__") 302) (Value.str (Str.mk (List.toArray [47, 110, 105, 120, 47, 115, 116, 111, 114, 101, 47, 119, 106, 49, 102, 53, 54, 113, 107, 121, 52, 112, 109, 106, 99, 55, 108, 48, 114, 54, 98, 54, 108, 55, 119, 104, 110, 110, 119, 55, 104, 112, 54, 45, 112, 121, 116, 104, 111, 110, 51, 45, 51, 46, 49, 51, 46, 49, 53, 47, 108, 105, 98, 47, 112, 121, 116, 104, 111, 110, 51, 46, 49, 51, 47, 108, 105, 98, 45, 100, 121, 110, 108, 111, 97, 100, 47, 95, 104, 101, 97, 112, 113, 46, 99, 112, 121, 116, 104, 111, 110, 45, 51, 49, 51, 45, 120, 56, 54, 95, 54, 52, 45, 108, 105, 110, 117, 120, 45, 103, 110, 117, 46, 115, 111])) 187)), (DictEntry.mk (PyData.keyHash P (Str.ofString "__about__")) (Value.str (Str.ofString "__about__") 303) (Value.builtin (fenceId (Str.ofString "_heapq") (Str.ofString "__about__"))))]) 15) (List.toArray [])))] (hRti P)
noncomputable def hRS0 (w : World) : SharedT := ⟨hRt0 w.params, 39, (Life.mk [] [] [] 0 [] [] Bool.false (List.toArray []) [] 0 Bool.false Bool.false Bool.false (0 : Int) [(2000 : Int), (10 : Int), (10 : Int)] Bool.false 0 Bool.true [] [] 0 Bool.false), (List.toArray []), (Drawn.mk 0 0 0 0), 316, (start (opening Challenge.pw_turnedtunes_k39_pieces_refused)).1.os⟩
theorem hRi1 (w : World) : impF (stepQ (denQ tabQ) (opening Challenge.pw_turnedtunes_k39_pieces_refused) w) 13620 (startT (opening Challenge.pw_turnedtunes_k39_pieces_refused)) (start (opening Challenge.pw_turnedtunes_k39_pieces_refused)).2 = some (hRSi w) := by kernel_rfl
theorem hRi2 (w : World) : fenceT Challenge.pw_turnedtunes_k39_pieces_refused (hRSi w) = some (hRS0 w) := by kernel_rfl
noncomputable def hRt1 (P : Params) : BT := putT [(39, (Obj.mk (Value.type "tuple") none (Data.seq (List.toArray []) 0) (List.toArray []))),
  (40, (Obj.mk Value.none none (Data.fields (List.toArray [])) (List.toArray []))),
  (41, (Obj.mk (Value.type "code") none (Data.fields (List.toArray [(Value.str (Str.ofString "<module>") 317), (Value.str (Str.ofString "<module>") 318), (Value.str (Str.ofString "/claim/cut.py") 319), (Value.int (1 : Int) 0), (Value.int (0 : Int) 0), (Value.int (0 : Int) 0), (Value.int (0 : Int) 0), (Value.int (0 : Int) 0), (Value.ref 39), (Value.bool Bool.false), (Value.int (316 : Int) 0), (Value.ref 40), Value.none, Value.none, Value.none, Value.none, (Value.int (320 : Int) 0), (Value.int (1 : Int) 0), (Value.str (Str.ofString "/claim/cut.py") 321)])) (List.toArray []))),
  (42, (Obj.mk (Value.type "frame") none Data.plain (List.toArray [(some (Value.ref 41)), (some (Value.ref 3)), (some (Value.ref 3)), none, (some (Value.str (Str.ofString "__main__") 164)), none, (some (Value.ref 0))])))] (hRt0 P)
noncomputable def hRS1 (w : World) : SharedT := ⟨hRt1 w.params, 43, (Life.mk [] [] [] 0 [] [] Bool.false (List.toArray []) [] 0 Bool.false Bool.false Bool.false (0 : Int) [(2000 : Int), (10 : Int), (10 : Int)] Bool.false 0 Bool.true [] [] 0 Bool.false), (List.toArray []), (Drawn.mk 0 0 0 0), 322, (start (opening Challenge.pw_turnedtunes_k39_pieces_refused)).1.os⟩
noncomputable def hRt2 (P : Params) : BT := putT [] (hRt1 P)
noncomputable def hRS2 (w : World) : SharedT := ⟨hRt2 w.params, 43, (Life.mk [] [] [] 0 [] [] Bool.false (List.toArray []) [] 0 Bool.false Bool.false Bool.false (0 : Int) [(2000 : Int), (10 : Int), (10 : Int)] Bool.false 0 Bool.true [] [] 0 Bool.false), (List.toArray []), (Drawn.mk 0 0 0 0), 322, (start (opening Challenge.pw_turnedtunes_k39_pieces_refused)).1.os⟩
noncomputable def hRenv : Env := { scope := Challenge.pw_turnedtunes_k39_pieces_refused.main.scope, locals := mainNs, globals := mainNs, cells := [], code := (Value.ref 41), frame := some 42 }
noncomputable def hRcd : Code := .body (behindTheImports Challenge.pw_turnedtunes_k39_pieces_refused) hRenv
theorem hRg0 (w : World) : goK (stepQ (denQ tabQ) Challenge.pw_turnedtunes_k39_pieces_refused w) 39 (some (Value.ref 6)) 12 (hRS0 w) (topStub Challenge.pw_turnedtunes_k39_pieces_refused) = some (hRS1 w, ⟨denQ tabQ (.body (behindTheImports Challenge.pw_turnedtunes_k39_pieces_refused) hRenv), hRcd, (Pos.mk 0 0 0 0), [topFrame (Pos.mk 0 0 0 0)]⟩) := by kernel_rfl
theorem hRg1 (w : World) : segF (stepQ (denQ tabQ) Challenge.pw_turnedtunes_k39_pieces_refused w) 39 (some (Value.ref 6)) 1 (hRS1 w) (blockOf (behindTheImports Challenge.pw_turnedtunes_k39_pieces_refused) hRenv hRcd (Pos.mk 0 0 0 0) [topFrame (Pos.mk 0 0 0 0)]) = some (.next, hRS2 w, hRcd, (Pos.mk 0 0 0 0)) := by kernel_rfl
noncomputable def hRt3 (P : Params) : BT := putT [(3, (Obj.mk (Value.type "dict") none (Data.dict (List.toArray [(DictEntry.mk (PyData.keyHash P (Str.ofString "__name__")) (Value.str (Str.ofString "__name__") 165) (Value.str (Str.ofString "turnedtunes.errors") 329)), (DictEntry.mk (PyData.keyHash P (Str.ofString "__doc__")) (Value.str (Str.ofString "__doc__") 166) Value.none), (DictEntry.mk (PyData.keyHash P (Str.ofString "__package__")) (Value.str (Str.ofString "__package__") 167) Value.none), (DictEntry.mk (PyData.keyHash P (Str.ofString "__loader__")) (Value.str (Str.ofString "__loader__") 168) (Value.builtin "__main__.__loader__#opaque")), (DictEntry.mk (PyData.keyHash P (Str.ofString "__spec__")) (Value.str (Str.ofString "__spec__") 169) Value.none), (DictEntry.mk (PyData.keyHash P (Str.ofString "__annotations__")) (Value.str (Str.ofString "__annotations__") 170) (Value.ref 6)), (DictEntry.mk (PyData.keyHash P (Str.ofString "__builtins__")) (Value.str (Str.ofString "__builtins__") 171) (Value.ref 4)), (DictEntry.mk (PyData.keyHash P (Str.ofString "__file__")) (Value.str (Str.ofString "__file__") 173) (Value.str (Str.ofString "/claim/cut.py") 172)), (DictEntry.mk (PyData.keyHash P (Str.ofString "__cached__")) (Value.str (Str.ofString "__cached__") 174) Value.none), (DictEntry.mk (PyData.keyHash P (Str.ofString "heappop")) (Value.str (Str.ofString "heappop") 312) (Value.builtin "_heapq.heappop")), (DictEntry.mk (PyData.keyHash P (Str.ofString "heappush")) (Value.str (Str.ofString "heappush") 315) (Value.builtin "_heapq.heappush")), (DictEntry.mk (PyData.keyHash P (Str.ofString "_wall")) (Value.str (Str.ofString "_wall") 328) (Value.ref 49)), (DictEntry.mk (PyData.keyHash P (Str.ofString "TuneError")) (Value.str (Str.ofString "TuneError") 357) (Value.ref 66)), (DictEntry.mk (PyData.keyHash P (Str.ofString "BadPlace")) (Value.str (Str.ofString "BadPlace") 373) (Value.ref 79))]) 14) (List.toArray []))),
  (40, (Obj.mk Value.none none (Data.fields (List.toArray [(Value.int (2 : Int) 0), (Value.int (0 : Int) 0), (Value.ref 48), (Value.int (6 : Int) 0), (Value.int (0 : Int) 0), (Value.ref 55), (Value.int (11 : Int) 0), (Value.int (0 : Int) 0), (Value.ref 75)])) (List.toArray []))),
  (43, (Obj.mk (Value.type "tuple") none (Data.seq (List.toArray []) 0) (List.toArray []))),
  (44, (Obj.mk Value.none none (Data.fields (List.toArray [])) (List.toArray []))),
  (45, (Obj.mk (Value.type "tuple") none (Data.seq (List.toArray [(Value.str (Str.ofString "k") 325)]) 0) (List.toArray []))),
  (46, (Obj.mk (Value.type "tuple") none (Data.seq (List.toArray []) 0) (List.toArray []))),
  (47, (Obj.mk Value.none none (Data.func (FuncData.mk (Str.ofString "_wall") (Str.ofString "_wall") (L2.defArgs (top 1)) (FuncBody.stmts (L2.defBody (top 1))) (L2.defScope (top 1)) 0 [] Value.none Value.none Value.none Value.none none Value.none Value.none 0)) (List.toArray []))),
  (48, (Obj.mk (Value.type "code") none (Data.fields (List.toArray [(Value.str (Str.ofString "_wall") 322), (Value.str (Str.ofString "_wall") 323), (Value.str (Str.ofString "/claim/cut.py") 324), (Value.int (2 : Int) 0), (Value.int (1 : Int) 0), (Value.int (0 : Int) 0), (Value.int (0 : Int) 0), (Value.int (3 : Int) 0), (Value.ref 43), (Value.bool Bool.true), (Value.int (316 : Int) 0), (Value.ref 44), Value.none, (Value.ref 45), (Value.ref 46), (Value.ref 47), (Value.int (326 : Int) 0), (Value.int (2 : Int) 0), (Value.str (Str.ofString "/claim/cut.py") 327)])) (List.toArray []))),
  (49, (Obj.mk (Value.type "function") none (Data.func (FuncData.mk (Str.ofString "_wall") (Str.ofString "_wall") (L2.defArgs (top 1)) (FuncBody.stmts (L2.defBody (top 1))) (L2.defScope (top 1)) 3 [] Value.none Value.none Value.none (Value.str (Str.ofString "__main__") 164) none (Value.ref 48) Value.none 0)) (List.toArray []))),
  (50, (Obj.mk (Value.type "tuple") none (Data.seq (List.toArray [(Value.type "ValueError")]) 0) (List.toArray []))),
  (51, (Obj.mk (Value.type "builtin_function_or_method") none (Data.fields (List.toArray [(Value.builtin "type.__prepare__"), (Value.type "type")])) (List.toArray []))),
  (52, (Obj.mk (Value.type "dict") none (Data.dict (List.toArray [(DictEntry.mk (PyData.keyHash P (Str.ofString "__module__")) (Value.str (Str.ofString "__module__") 338) (Value.str (Str.ofString "turnedtunes.errors") 329)), (DictEntry.mk (PyData.keyHash P (Str.ofString "__qualname__")) (Value.str (Str.ofString "__qualname__") 340) (Value.str (Str.ofString "TuneError") 339)), (DictEntry.mk (PyData.keyHash P (Str.ofString "__firstlineno__")) (Value.str (Str.ofString "__firstlineno__") 342) (Value.int (6 : Int) 341)), (DictEntry.mk (PyData.keyHash P (Str.ofString "__init__")) (Value.str (Str.ofString "__init__") 350) (Value.ref 63)), (DictEntry.mk (PyData.keyHash P (Str.ofString "__static_attributes__")) (Value.str (Str.ofString "__static_attributes__") 352) (Value.ref 64))]) 5) (List.toArray []))),
  (53, (Obj.mk (Value.type "tuple") none (Data.seq (List.toArray []) 0) (List.toArray []))),
  (54, (Obj.mk Value.none none (Data.fields (List.toArray [(Value.int (8 : Int) 0), (Value.int (4 : Int) 0), (Value.ref 62)])) (List.toArray []))),
  (55, (Obj.mk (Value.type "code") none (Data.fields (List.toArray [(Value.str (Str.ofString "TuneError") 333), (Value.str (Str.ofString "TuneError") 334), (Value.str (Str.ofString "/claim/cut.py") 335), (Value.int (6 : Int) 0), (Value.int (0 : Int) 0), (Value.int (0 : Int) 0), (Value.int (0 : Int) 0), (Value.int (0 : Int) 0), (Value.ref 53), (Value.bool Bool.false), (Value.int (316 : Int) 0), (Value.ref 54), Value.none, Value.none, Value.none, Value.none, (Value.int (336 : Int) 0), (Value.int (6 : Int) 0), (Value.str (Str.ofString "/claim/cut.py") 337)])) (List.toArray []))),
  (56, (Obj.mk (Value.type "frame") none Data.plain (List.toArray [(some (Value.ref 55)), (some (Value.ref 3)), (some (Value.ref 52)), none, (some (Value.str (Str.ofString "turnedtunes.errors") 329)), none, (some (Value.ref 0))]))),
  (57, (Obj.mk (Value.type "tuple") none (Data.seq (List.toArray []) 0) (List.toArray []))),
  (58, (Obj.mk Value.none none (Data.fields (List.toArray [])) (List.toArray []))),
  (59, (Obj.mk (Value.type "tuple") none (Data.seq (List.toArray [(Value.str (Str.ofString "self") 346), (Value.str (Str.ofString "value") 347)]) 0) (List.toArray []))),
  (60, (Obj.mk (Value.type "tuple") none (Data.seq (List.toArray []) 0) (List.toArray []))),
  (61, (Obj.mk Value.none none (Data.func (FuncData.mk (Str.ofString "__init__") (Str.ofString "TuneError.__init__") (L2.defArgs (inClass (top 3) 0)) (FuncBody.stmts (L2.defBody (inClass (top 3) 0))) (L2.defScope (inClass (top 3) 0)) 0 [] Value.none Value.none Value.none Value.none none Value.none Value.none 0)) (List.toArray []))),
  (62, (Obj.mk (Value.type "code") none (Data.fields (List.toArray [(Value.str (Str.ofString "__init__") 343), (Value.str (Str.ofString "TuneError.__init__") 344), (Value.str (Str.ofString "/claim/cut.py") 345), (Value.int (8 : Int) 0), (Value.int (2 : Int) 0), (Value.int (0 : Int) 0), (Value.int (0 : Int) 0), (Value.int (3 : Int) 0), (Value.ref 57), (Value.bool Bool.true), (Value.int (316 : Int) 0), (Value.ref 58), Value.none, (Value.ref 59), (Value.ref 60), (Value.ref 61), (Value.int (348 : Int) 0), (Value.int (8 : Int) 0), (Value.str (Str.ofString "/claim/cut.py") 349)])) (List.toArray []))),
  (63, (Obj.mk (Value.type "function") none (Data.func (FuncData.mk (Str.ofString "__init__") (Str.ofString "TuneError.__init__") (L2.defArgs (inClass (top 3) 0)) (FuncBody.stmts (L2.defBody (inClass (top 3) 0))) (L2.defScope (inClass (top 3) 0)) 3 [] Value.none Value.none Value.none (Value.str (Str.ofString "turnedtunes.errors") 329) none (Value.ref 62) Value.none 0)) (List.toArray []))),
  (64, (Obj.mk (Value.type "tuple") none (Data.seq (List.toArray [(Value.str (Str.ofString "value") 351)]) 0) (List.toArray []))),
  (65, (Obj.mk (Value.type "dict") none (Data.dict (List.toArray [(DictEntry.mk (PyData.keyHash P (Str.ofString "__module__")) (Value.str (Str.ofString "__module__") 338) (Value.str (Str.ofString "turnedtunes.errors") 329)), (DictEntry.mk (PyData.keyHash P (Str.ofString "__firstlineno__")) (Value.str (Str.ofString "__firstlineno__") 342) (Value.int (6 : Int) 341)), (DictEntry.mk (PyData.keyHash P (Str.ofString "__init__")) (Value.str (Str.ofString "__init__") 350) (Value.ref 63)), (DictEntry.mk (PyData.keyHash P (Str.ofString "__static_attributes__")) (Value.str (Str.ofString "__static_attributes__") 352) (Value.ref 64)), (DictEntry.mk (PyData.keyHash P (Str.ofString "__weakref__")) (Value.str (Str.ofString "__weakref__") 354) (Value.ref 67)), (DictEntry.mk (PyData.keyHash P (Str.ofString "__doc__")) (Value.str (Str.ofString "__doc__") 355) Value.none)]) 3) (List.toArray []))),
  (66, (Obj.mk (Value.type "type") none (Data.cls (ClassData.mk (Str.ofString "TuneError") [(Value.type "ValueError")] [(Value.ref 66), (Value.type "ValueError"), (Value.type "Exception"), (Value.type "BaseException"), (Value.type "object")] 65 (Str.ofString "TuneError") Bool.true [] [(Value.ref 79)] Bool.false none Bool.false)) (List.toArray [(some (Value.ref 50)), none, (some (Value.str (Str.ofString "TuneError") 331)), (some (Value.str (Str.ofString "TuneError") 339)), (some (Value.builtin "ValueError.__new__")), (some (Value.bool Bool.true))]))),
  (67, (Obj.mk (Value.type "getset_descriptor") none (Data.fields (List.toArray [(Value.str (Str.ofString "__weakref__") 353), (Value.ref 66), (Value.builtin "ExceptionGroup.__weakref__"), Value.none])) (List.toArray []))),
  (68, (Obj.mk (Value.type "super") none (Data.fields (List.toArray [(Value.ref 66), (Value.ref 66), (Value.ref 66)])) (List.toArray []))),
  (69, (Obj.mk (Value.type "builtin_function_or_method") none (Data.fields (List.toArray [(Value.builtin "object.__init_subclass__"), (Value.ref 66)])) (List.toArray []))),
  (70, (Obj.mk (Value.type "tuple") none (Data.seq (List.toArray [(Value.ref 66)]) 0) (List.toArray []))),
  (71, (Obj.mk (Value.type "builtin_function_or_method") none (Data.fields (List.toArray [(Value.builtin "type.__prepare__"), (Value.type "type")])) (List.toArray []))),
  (72, (Obj.mk (Value.type "dict") none (Data.dict (List.toArray [(DictEntry.mk (PyData.keyHash P (Str.ofString "__module__")) (Value.str (Str.ofString "__module__") 365) (Value.str (Str.ofString "turnedtunes.errors") 329)), (DictEntry.mk (PyData.keyHash P (Str.ofString "__qualname__")) (Value.str (Str.ofString "__qualname__") 367) (Value.str (Str.ofString "BadPlace") 366)), (DictEntry.mk (PyData.keyHash P (Str.ofString "__firstlineno__")) (Value.str (Str.ofString "__firstlineno__") 369) (Value.int (11 : Int) 368)), (DictEntry.mk (PyData.keyHash P (Str.ofString "__static_attributes__")) (Value.str (Str.ofString "__static_attributes__") 370) (Value.ref 77))]) 4) (List.toArray []))),
  (73, (Obj.mk (Value.type "tuple") none (Data.seq (List.toArray []) 0) (List.toArray []))),
  (74, (Obj.mk Value.none none (Data.fields (List.toArray [])) (List.toArray []))),
  (75, (Obj.mk (Value.type "code") none (Data.fields (List.toArray [(Value.str (Str.ofString "BadPlace") 360), (Value.str (Str.ofString "BadPlace") 361), (Value.str (Str.ofString "/claim/cut.py") 362), (Value.int (11 : Int) 0), (Value.int (0 : Int) 0), (Value.int (0 : Int) 0), (Value.int (0 : Int) 0), (Value.int (0 : Int) 0), (Value.ref 73), (Value.bool Bool.false), (Value.int (316 : Int) 0), (Value.ref 74), Value.none, Value.none, Value.none, Value.none, (Value.int (363 : Int) 0), (Value.int (11 : Int) 0), (Value.str (Str.ofString "/claim/cut.py") 364)])) (List.toArray []))),
  (76, (Obj.mk (Value.type "frame") none Data.plain (List.toArray [(some (Value.ref 75)), (some (Value.ref 3)), (some (Value.ref 72)), none, (some (Value.str (Str.ofString "turnedtunes.errors") 329)), none, (some (Value.ref 0))]))),
  (77, (Obj.mk (Value.type "tuple") none (Data.seq (List.toArray []) 0) (List.toArray []))),
  (78, (Obj.mk (Value.type "dict") none (Data.dict (List.toArray [(DictEntry.mk (PyData.keyHash P (Str.ofString "__module__")) (Value.str (Str.ofString "__module__") 365) (Value.str (Str.ofString "turnedtunes.errors") 329)), (DictEntry.mk (PyData.keyHash P (Str.ofString "__firstlineno__")) (Value.str (Str.ofString "__firstlineno__") 369) (Value.int (11 : Int) 368)), (DictEntry.mk (PyData.keyHash P (Str.ofString "__static_attributes__")) (Value.str (Str.ofString "__static_attributes__") 370) (Value.ref 77)), (DictEntry.mk (PyData.keyHash P (Str.ofString "__doc__")) (Value.str (Str.ofString "__doc__") 371) Value.none)]) 2) (List.toArray []))),
  (79, (Obj.mk (Value.type "type") none (Data.cls (ClassData.mk (Str.ofString "BadPlace") [(Value.ref 66)] [(Value.ref 79), (Value.ref 66), (Value.type "ValueError"), (Value.type "Exception"), (Value.type "BaseException"), (Value.type "object")] 78 (Str.ofString "BadPlace") Bool.true [] [] Bool.false none Bool.false)) (List.toArray [(some (Value.ref 70)), none, (some (Value.str (Str.ofString "BadPlace") 358)), (some (Value.str (Str.ofString "BadPlace") 366)), (some (Value.builtin "ValueError.__new__")), (some (Value.bool Bool.true))]))),
  (80, (Obj.mk (Value.type "super") none (Data.fields (List.toArray [(Value.ref 79), (Value.ref 79), (Value.ref 79)])) (List.toArray []))),
  (81, (Obj.mk (Value.type "builtin_function_or_method") none (Data.fields (List.toArray [(Value.builtin "object.__init_subclass__"), (Value.ref 79)])) (List.toArray [])))] (hRt2 P)
noncomputable def hRS3 (w : World) : SharedT := ⟨hRt3 w.params, 82, (Life.mk [] [] [] 0 [] [] Bool.false (List.toArray []) [] 0 Bool.false Bool.false Bool.false (0 : Int) [(2000 : Int), (10 : Int), (10 : Int)] Bool.false 0 Bool.true [] [] 0 Bool.false), (List.toArray []), (Drawn.mk 0 0 0 0), 374, (start (opening Challenge.pw_turnedtunes_k39_pieces_refused)).1.os⟩
noncomputable def hRb2 : List Stmt := ((behindTheImports Challenge.pw_turnedtunes_k39_pieces_refused).drop 0).take 4
theorem hRg2 (w : World) : segF (stepQ (denQ tabQ) Challenge.pw_turnedtunes_k39_pieces_refused w) 39 (some (Value.ref 6)) 470 (hRS2 w) (piecesOf hRb2 hRenv hRcd (Pos.mk 0 0 0 0) [topFrame (Pos.mk 0 0 0 0)]) = some (.next, hRS3 w, hRcd, (Pos.mk 11 0 12 8)) := by kernel_rfl
noncomputable def hRt4 (P : Params) : BT := putT [(3, (Obj.mk (Value.type "dict") none (Data.dict (List.toArray [(DictEntry.mk (PyData.keyHash P (Str.ofString "__name__")) (Value.str (Str.ofString "__name__") 165) (Value.str (Str.ofString "turnedtunes.errors") 329)), (DictEntry.mk (PyData.keyHash P (Str.ofString "__doc__")) (Value.str (Str.ofString "__doc__") 166) Value.none), (DictEntry.mk (PyData.keyHash P (Str.ofString "__package__")) (Value.str (Str.ofString "__package__") 167) Value.none), (DictEntry.mk (PyData.keyHash P (Str.ofString "__loader__")) (Value.str (Str.ofString "__loader__") 168) (Value.builtin "__main__.__loader__#opaque")), (DictEntry.mk (PyData.keyHash P (Str.ofString "__spec__")) (Value.str (Str.ofString "__spec__") 169) Value.none), (DictEntry.mk (PyData.keyHash P (Str.ofString "__annotations__")) (Value.str (Str.ofString "__annotations__") 170) (Value.ref 6)), (DictEntry.mk (PyData.keyHash P (Str.ofString "__builtins__")) (Value.str (Str.ofString "__builtins__") 171) (Value.ref 4)), (DictEntry.mk (PyData.keyHash P (Str.ofString "__file__")) (Value.str (Str.ofString "__file__") 173) (Value.str (Str.ofString "/claim/cut.py") 172)), (DictEntry.mk (PyData.keyHash P (Str.ofString "__cached__")) (Value.str (Str.ofString "__cached__") 174) Value.none), (DictEntry.mk (PyData.keyHash P (Str.ofString "heappop")) (Value.str (Str.ofString "heappop") 312) (Value.builtin "_heapq.heappop")), (DictEntry.mk (PyData.keyHash P (Str.ofString "heappush")) (Value.str (Str.ofString "heappush") 315) (Value.builtin "_heapq.heappush")), (DictEntry.mk (PyData.keyHash P (Str.ofString "_wall")) (Value.str (Str.ofString "_wall") 328) (Value.ref 49)), (DictEntry.mk (PyData.keyHash P (Str.ofString "TuneError")) (Value.str (Str.ofString "TuneError") 357) (Value.ref 66)), (DictEntry.mk (PyData.keyHash P (Str.ofString "BadPlace")) (Value.str (Str.ofString "BadPlace") 373) (Value.ref 79)), (DictEntry.mk (PyData.keyHash P (Str.ofString "BadLength")) (Value.str (Str.ofString "BadLength") 389) (Value.ref 91)), (DictEntry.mk (PyData.keyHash P (Str.ofString "BadAmount")) (Value.str (Str.ofString "BadAmount") 405) (Value.ref 103))]) 16) (List.toArray []))),
  (40, (Obj.mk Value.none none (Data.fields (List.toArray [(Value.int (2 : Int) 0), (Value.int (0 : Int) 0), (Value.ref 48), (Value.int (6 : Int) 0), (Value.int (0 : Int) 0), (Value.ref 55), (Value.int (11 : Int) 0), (Value.int (0 : Int) 0), (Value.ref 75), (Value.int (13 : Int) 0), (Value.int (0 : Int) 0), (Value.ref 87), (Value.int (15 : Int) 0), (Value.int (0 : Int) 0), (Value.ref 99)])) (List.toArray []))),
  (66, (Obj.mk (Value.type "type") none (Data.cls (ClassData.mk (Str.ofString "TuneError") [(Value.type "ValueError")] [(Value.ref 66), (Value.type "ValueError"), (Value.type "Exception"), (Value.type "BaseException"), (Value.type "object")] 65 (Str.ofString "TuneError") Bool.true [] [(Value.ref 79), (Value.ref 91), (Value.ref 103)] Bool.false none Bool.false)) (List.toArray [(some (Value.ref 50)), none, (some (Value.str (Str.ofString "TuneError") 331)), (some (Value.str (Str.ofString "TuneError") 339)), (some (Value.builtin "ValueError.__new__")), (some (Value.bool Bool.true))]))),
  (82, (Obj.mk (Value.type "tuple") none (Data.seq (List.toArray [(Value.ref 66)]) 0) (List.toArray []))),
  (83, (Obj.mk (Value.type "builtin_function_or_method") none (Data.fields (List.toArray [(Value.builtin "type.__prepare__"), (Value.type "type")])) (List.toArray []))),
  (84, (Obj.mk (Value.type "dict") none (Data.dict (List.toArray [(DictEntry.mk (PyData.keyHash P (Str.ofString "__module__")) (Value.str (Str.ofString "__module__") 381) (Value.str (Str.ofString "turnedtunes.errors") 329)), (DictEntry.mk (PyData.keyHash P (Str.ofString "__qualname__")) (Value.str (Str.ofString "__qualname__") 383) (Value.str (Str.ofString "BadLength") 382)), (DictEntry.mk (PyData.keyHash P (Str.ofString "__firstlineno__")) (Value.str (Str.ofString "__firstlineno__") 385) (Value.int (13 : Int) 384)), (DictEntry.mk (PyData.keyHash P (Str.ofString "__static_attributes__")) (Value.str (Str.ofString "__static_attributes__") 386) (Value.ref 89))]) 4) (List.toArray []))),
  (85, (Obj.mk (Value.type "tuple") none (Data.seq (List.toArray []) 0) (List.toArray []))),
  (86, (Obj.mk Value.none none (Data.fields (List.toArray [])) (List.toArray []))),
  (87, (Obj.mk (Value.type "code") none (Data.fields (List.toArray [(Value.str (Str.ofString "BadLength") 376), (Value.str (Str.ofString "BadLength") 377), (Value.str (Str.ofString "/claim/cut.py") 378), (Value.int (13 : Int) 0), (Value.int (0 : Int) 0), (Value.int (0 : Int) 0), (Value.int (0 : Int) 0), (Value.int (0 : Int) 0), (Value.ref 85), (Value.bool Bool.false), (Value.int (316 : Int) 0), (Value.ref 86), Value.none, Value.none, Value.none, Value.none, (Value.int (379 : Int) 0), (Value.int (13 : Int) 0), (Value.str (Str.ofString "/claim/cut.py") 380)])) (List.toArray []))),
  (88, (Obj.mk (Value.type "frame") none Data.plain (List.toArray [(some (Value.ref 87)), (some (Value.ref 3)), (some (Value.ref 84)), none, (some (Value.str (Str.ofString "turnedtunes.errors") 329)), none, (some (Value.ref 0))]))),
  (89, (Obj.mk (Value.type "tuple") none (Data.seq (List.toArray []) 0) (List.toArray []))),
  (90, (Obj.mk (Value.type "dict") none (Data.dict (List.toArray [(DictEntry.mk (PyData.keyHash P (Str.ofString "__module__")) (Value.str (Str.ofString "__module__") 381) (Value.str (Str.ofString "turnedtunes.errors") 329)), (DictEntry.mk (PyData.keyHash P (Str.ofString "__firstlineno__")) (Value.str (Str.ofString "__firstlineno__") 385) (Value.int (13 : Int) 384)), (DictEntry.mk (PyData.keyHash P (Str.ofString "__static_attributes__")) (Value.str (Str.ofString "__static_attributes__") 386) (Value.ref 89)), (DictEntry.mk (PyData.keyHash P (Str.ofString "__doc__")) (Value.str (Str.ofString "__doc__") 387) Value.none)]) 2) (List.toArray []))),
  (91, (Obj.mk (Value.type "type") none (Data.cls (ClassData.mk (Str.ofString "BadLength") [(Value.ref 66)] [(Value.ref 91), (Value.ref 66), (Value.type "ValueError"), (Value.type "Exception"), (Value.type "BaseException"), (Value.type "object")] 90 (Str.ofString "BadLength") Bool.true [] [] Bool.false none Bool.false)) (List.toArray [(some (Value.ref 82)), none, (some (Value.str (Str.ofString "BadLength") 374)), (some (Value.str (Str.ofString "BadLength") 382)), (some (Value.builtin "ValueError.__new__")), (some (Value.bool Bool.true))]))),
  (92, (Obj.mk (Value.type "super") none (Data.fields (List.toArray [(Value.ref 91), (Value.ref 91), (Value.ref 91)])) (List.toArray []))),
  (93, (Obj.mk (Value.type "builtin_function_or_method") none (Data.fields (List.toArray [(Value.builtin "object.__init_subclass__"), (Value.ref 91)])) (List.toArray []))),
  (94, (Obj.mk (Value.type "tuple") none (Data.seq (List.toArray [(Value.ref 66)]) 0) (List.toArray []))),
  (95, (Obj.mk (Value.type "builtin_function_or_method") none (Data.fields (List.toArray [(Value.builtin "type.__prepare__"), (Value.type "type")])) (List.toArray []))),
  (96, (Obj.mk (Value.type "dict") none (Data.dict (List.toArray [(DictEntry.mk (PyData.keyHash P (Str.ofString "__module__")) (Value.str (Str.ofString "__module__") 397) (Value.str (Str.ofString "turnedtunes.errors") 329)), (DictEntry.mk (PyData.keyHash P (Str.ofString "__qualname__")) (Value.str (Str.ofString "__qualname__") 399) (Value.str (Str.ofString "BadAmount") 398)), (DictEntry.mk (PyData.keyHash P (Str.ofString "__firstlineno__")) (Value.str (Str.ofString "__firstlineno__") 401) (Value.int (15 : Int) 400)), (DictEntry.mk (PyData.keyHash P (Str.ofString "__static_attributes__")) (Value.str (Str.ofString "__static_attributes__") 402) (Value.ref 101))]) 4) (List.toArray []))),
  (97, (Obj.mk (Value.type "tuple") none (Data.seq (List.toArray []) 0) (List.toArray []))),
  (98, (Obj.mk Value.none none (Data.fields (List.toArray [])) (List.toArray []))),
  (99, (Obj.mk (Value.type "code") none (Data.fields (List.toArray [(Value.str (Str.ofString "BadAmount") 392), (Value.str (Str.ofString "BadAmount") 393), (Value.str (Str.ofString "/claim/cut.py") 394), (Value.int (15 : Int) 0), (Value.int (0 : Int) 0), (Value.int (0 : Int) 0), (Value.int (0 : Int) 0), (Value.int (0 : Int) 0), (Value.ref 97), (Value.bool Bool.false), (Value.int (316 : Int) 0), (Value.ref 98), Value.none, Value.none, Value.none, Value.none, (Value.int (395 : Int) 0), (Value.int (15 : Int) 0), (Value.str (Str.ofString "/claim/cut.py") 396)])) (List.toArray []))),
  (100, (Obj.mk (Value.type "frame") none Data.plain (List.toArray [(some (Value.ref 99)), (some (Value.ref 3)), (some (Value.ref 96)), none, (some (Value.str (Str.ofString "turnedtunes.errors") 329)), none, (some (Value.ref 0))]))),
  (101, (Obj.mk (Value.type "tuple") none (Data.seq (List.toArray []) 0) (List.toArray []))),
  (102, (Obj.mk (Value.type "dict") none (Data.dict (List.toArray [(DictEntry.mk (PyData.keyHash P (Str.ofString "__module__")) (Value.str (Str.ofString "__module__") 397) (Value.str (Str.ofString "turnedtunes.errors") 329)), (DictEntry.mk (PyData.keyHash P (Str.ofString "__firstlineno__")) (Value.str (Str.ofString "__firstlineno__") 401) (Value.int (15 : Int) 400)), (DictEntry.mk (PyData.keyHash P (Str.ofString "__static_attributes__")) (Value.str (Str.ofString "__static_attributes__") 402) (Value.ref 101)), (DictEntry.mk (PyData.keyHash P (Str.ofString "__doc__")) (Value.str (Str.ofString "__doc__") 403) Value.none)]) 2) (List.toArray []))),
  (103, (Obj.mk (Value.type "type") none (Data.cls (ClassData.mk (Str.ofString "BadAmount") [(Value.ref 66)] [(Value.ref 103), (Value.ref 66), (Value.type "ValueError"), (Value.type "Exception"), (Value.type "BaseException"), (Value.type "object")] 102 (Str.ofString "BadAmount") Bool.true [] [] Bool.false none Bool.false)) (List.toArray [(some (Value.ref 94)), none, (some (Value.str (Str.ofString "BadAmount") 390)), (some (Value.str (Str.ofString "BadAmount") 398)), (some (Value.builtin "ValueError.__new__")), (some (Value.bool Bool.true))]))),
  (104, (Obj.mk (Value.type "super") none (Data.fields (List.toArray [(Value.ref 103), (Value.ref 103), (Value.ref 103)])) (List.toArray []))),
  (105, (Obj.mk (Value.type "builtin_function_or_method") none (Data.fields (List.toArray [(Value.builtin "object.__init_subclass__"), (Value.ref 103)])) (List.toArray [])))] (hRt3 P)
noncomputable def hRS4 (w : World) : SharedT := ⟨hRt4 w.params, 106, (Life.mk [] [] [] 0 [] [] Bool.false (List.toArray []) [] 0 Bool.false Bool.false Bool.false (0 : Int) [(2000 : Int), (10 : Int), (10 : Int)] Bool.false 0 Bool.true [] [] 0 Bool.false), (List.toArray []), (Drawn.mk 0 0 0 0), 406, (start (opening Challenge.pw_turnedtunes_k39_pieces_refused)).1.os⟩
noncomputable def hRb3 : List Stmt := ((behindTheImports Challenge.pw_turnedtunes_k39_pieces_refused).drop 4).take 2
theorem hRg3 (w : World) : segF (stepQ (denQ tabQ) Challenge.pw_turnedtunes_k39_pieces_refused w) 39 (some (Value.ref 6)) 427 (hRS3 w) (piecesOf hRb3 hRenv hRcd (Pos.mk 11 0 12 8) [topFrame (Pos.mk 0 0 0 0)]) = some (.next, hRS4 w, hRcd, (Pos.mk 15 0 16 8)) := by kernel_rfl
noncomputable def hRt5 (P : Params) : BT := putT [(3, (Obj.mk (Value.type "dict") none (Data.dict (List.toArray [(DictEntry.mk (PyData.keyHash P (Str.ofString "__name__")) (Value.str (Str.ofString "__name__") 165) (Value.str (Str.ofString "turnedtunes.errors") 329)), (DictEntry.mk (PyData.keyHash P (Str.ofString "__doc__")) (Value.str (Str.ofString "__doc__") 166) Value.none), (DictEntry.mk (PyData.keyHash P (Str.ofString "__package__")) (Value.str (Str.ofString "__package__") 167) Value.none), (DictEntry.mk (PyData.keyHash P (Str.ofString "__loader__")) (Value.str (Str.ofString "__loader__") 168) (Value.builtin "__main__.__loader__#opaque")), (DictEntry.mk (PyData.keyHash P (Str.ofString "__spec__")) (Value.str (Str.ofString "__spec__") 169) Value.none), (DictEntry.mk (PyData.keyHash P (Str.ofString "__annotations__")) (Value.str (Str.ofString "__annotations__") 170) (Value.ref 6)), (DictEntry.mk (PyData.keyHash P (Str.ofString "__builtins__")) (Value.str (Str.ofString "__builtins__") 171) (Value.ref 4)), (DictEntry.mk (PyData.keyHash P (Str.ofString "__file__")) (Value.str (Str.ofString "__file__") 173) (Value.str (Str.ofString "/claim/cut.py") 172)), (DictEntry.mk (PyData.keyHash P (Str.ofString "__cached__")) (Value.str (Str.ofString "__cached__") 174) Value.none), (DictEntry.mk (PyData.keyHash P (Str.ofString "heappop")) (Value.str (Str.ofString "heappop") 312) (Value.builtin "_heapq.heappop")), (DictEntry.mk (PyData.keyHash P (Str.ofString "heappush")) (Value.str (Str.ofString "heappush") 315) (Value.builtin "_heapq.heappush")), (DictEntry.mk (PyData.keyHash P (Str.ofString "_wall")) (Value.str (Str.ofString "_wall") 328) (Value.ref 49)), (DictEntry.mk (PyData.keyHash P (Str.ofString "TuneError")) (Value.str (Str.ofString "TuneError") 357) (Value.ref 66)), (DictEntry.mk (PyData.keyHash P (Str.ofString "BadPlace")) (Value.str (Str.ofString "BadPlace") 373) (Value.ref 79)), (DictEntry.mk (PyData.keyHash P (Str.ofString "BadLength")) (Value.str (Str.ofString "BadLength") 389) (Value.ref 91)), (DictEntry.mk (PyData.keyHash P (Str.ofString "BadAmount")) (Value.str (Str.ofString "BadAmount") 405) (Value.ref 103)), (DictEntry.mk (PyData.keyHash P (Str.ofString "BadWay")) (Value.str (Str.ofString "BadWay") 421) (Value.ref 115)), (DictEntry.mk (PyData.keyHash P (Str.ofString "BadText")) (Value.str (Str.ofString "BadText") 437) (Value.ref 127))]) 18) (List.toArray []))),
  (40, (Obj.mk Value.none none (Data.fields (List.toArray [(Value.int (2 : Int) 0), (Value.int (0 : Int) 0), (Value.ref 48), (Value.int (6 : Int) 0), (Value.int (0 : Int) 0), (Value.ref 55), (Value.int (11 : Int) 0), (Value.int (0 : Int) 0), (Value.ref 75), (Value.int (13 : Int) 0), (Value.int (0 : Int) 0), (Value.ref 87), (Value.int (15 : Int) 0), (Value.int (0 : Int) 0), (Value.ref 99), (Value.int (17 : Int) 0), (Value.int (0 : Int) 0), (Value.ref 111), (Value.int (19 : Int) 0), (Value.int (0 : Int) 0), (Value.ref 123)])) (List.toArray []))),
  (66, (Obj.mk (Value.type "type") none (Data.cls (ClassData.mk (Str.ofString "TuneError") [(Value.type "ValueError")] [(Value.ref 66), (Value.type "ValueError"), (Value.type "Exception"), (Value.type "BaseException"), (Value.type "object")] 65 (Str.ofString "TuneError") Bool.true [] [(Value.ref 79), (Value.ref 91), (Value.ref 103), (Value.ref 115), (Value.ref 127)] Bool.false none Bool.false)) (List.toArray [(some (Value.ref 50)), none, (some (Value.str (Str.ofString "TuneError") 331)), (some (Value.str (Str.ofString "TuneError") 339)), (some (Value.builtin "ValueError.__new__")), (some (Value.bool Bool.true))]))),
  (106, (Obj.mk (Value.type "tuple") none (Data.seq (List.toArray [(Value.ref 66)]) 0) (List.toArray []))),
  (107, (Obj.mk (Value.type "builtin_function_or_method") none (Data.fields (List.toArray [(Value.builtin "type.__prepare__"), (Value.type "type")])) (List.toArray []))),
  (108, (Obj.mk (Value.type "dict") none (Data.dict (List.toArray [(DictEntry.mk (PyData.keyHash P (Str.ofString "__module__")) (Value.str (Str.ofString "__module__") 413) (Value.str (Str.ofString "turnedtunes.errors") 329)), (DictEntry.mk (PyData.keyHash P (Str.ofString "__qualname__")) (Value.str (Str.ofString "__qualname__") 415) (Value.str (Str.ofString "BadWay") 414)), (DictEntry.mk (PyData.keyHash P (Str.ofString "__firstlineno__")) (Value.str (Str.ofString "__firstlineno__") 417) (Value.int (17 : Int) 416)), (DictEntry.mk (PyData.keyHash P (Str.ofString "__static_attributes__")) (Value.str (Str.ofString "__static_attributes__") 418) (Value.ref 113))]) 4) (List.toArray []))),
  (109, (Obj.mk (Value.type "tuple") none (Data.seq (List.toArray []) 0) (List.toArray []))),
  (110, (Obj.mk Value.none none (Data.fields (List.toArray [])) (List.toArray []))),
  (111, (Obj.mk (Value.type "code") none (Data.fields (List.toArray [(Value.str (Str.ofString "BadWay") 408), (Value.str (Str.ofString "BadWay") 409), (Value.str (Str.ofString "/claim/cut.py") 410), (Value.int (17 : Int) 0), (Value.int (0 : Int) 0), (Value.int (0 : Int) 0), (Value.int (0 : Int) 0), (Value.int (0 : Int) 0), (Value.ref 109), (Value.bool Bool.false), (Value.int (316 : Int) 0), (Value.ref 110), Value.none, Value.none, Value.none, Value.none, (Value.int (411 : Int) 0), (Value.int (17 : Int) 0), (Value.str (Str.ofString "/claim/cut.py") 412)])) (List.toArray []))),
  (112, (Obj.mk (Value.type "frame") none Data.plain (List.toArray [(some (Value.ref 111)), (some (Value.ref 3)), (some (Value.ref 108)), none, (some (Value.str (Str.ofString "turnedtunes.errors") 329)), none, (some (Value.ref 0))]))),
  (113, (Obj.mk (Value.type "tuple") none (Data.seq (List.toArray []) 0) (List.toArray []))),
  (114, (Obj.mk (Value.type "dict") none (Data.dict (List.toArray [(DictEntry.mk (PyData.keyHash P (Str.ofString "__module__")) (Value.str (Str.ofString "__module__") 413) (Value.str (Str.ofString "turnedtunes.errors") 329)), (DictEntry.mk (PyData.keyHash P (Str.ofString "__firstlineno__")) (Value.str (Str.ofString "__firstlineno__") 417) (Value.int (17 : Int) 416)), (DictEntry.mk (PyData.keyHash P (Str.ofString "__static_attributes__")) (Value.str (Str.ofString "__static_attributes__") 418) (Value.ref 113)), (DictEntry.mk (PyData.keyHash P (Str.ofString "__doc__")) (Value.str (Str.ofString "__doc__") 419) Value.none)]) 2) (List.toArray []))),
  (115, (Obj.mk (Value.type "type") none (Data.cls (ClassData.mk (Str.ofString "BadWay") [(Value.ref 66)] [(Value.ref 115), (Value.ref 66), (Value.type "ValueError"), (Value.type "Exception"), (Value.type "BaseException"), (Value.type "object")] 114 (Str.ofString "BadWay") Bool.true [] [] Bool.false none Bool.false)) (List.toArray [(some (Value.ref 106)), none, (some (Value.str (Str.ofString "BadWay") 406)), (some (Value.str (Str.ofString "BadWay") 414)), (some (Value.builtin "ValueError.__new__")), (some (Value.bool Bool.true))]))),
  (116, (Obj.mk (Value.type "super") none (Data.fields (List.toArray [(Value.ref 115), (Value.ref 115), (Value.ref 115)])) (List.toArray []))),
  (117, (Obj.mk (Value.type "builtin_function_or_method") none (Data.fields (List.toArray [(Value.builtin "object.__init_subclass__"), (Value.ref 115)])) (List.toArray []))),
  (118, (Obj.mk (Value.type "tuple") none (Data.seq (List.toArray [(Value.ref 66)]) 0) (List.toArray []))),
  (119, (Obj.mk (Value.type "builtin_function_or_method") none (Data.fields (List.toArray [(Value.builtin "type.__prepare__"), (Value.type "type")])) (List.toArray []))),
  (120, (Obj.mk (Value.type "dict") none (Data.dict (List.toArray [(DictEntry.mk (PyData.keyHash P (Str.ofString "__module__")) (Value.str (Str.ofString "__module__") 429) (Value.str (Str.ofString "turnedtunes.errors") 329)), (DictEntry.mk (PyData.keyHash P (Str.ofString "__qualname__")) (Value.str (Str.ofString "__qualname__") 431) (Value.str (Str.ofString "BadText") 430)), (DictEntry.mk (PyData.keyHash P (Str.ofString "__firstlineno__")) (Value.str (Str.ofString "__firstlineno__") 433) (Value.int (19 : Int) 432)), (DictEntry.mk (PyData.keyHash P (Str.ofString "__static_attributes__")) (Value.str (Str.ofString "__static_attributes__") 434) (Value.ref 125))]) 4) (List.toArray []))),
  (121, (Obj.mk (Value.type "tuple") none (Data.seq (List.toArray []) 0) (List.toArray []))),
  (122, (Obj.mk Value.none none (Data.fields (List.toArray [])) (List.toArray []))),
  (123, (Obj.mk (Value.type "code") none (Data.fields (List.toArray [(Value.str (Str.ofString "BadText") 424), (Value.str (Str.ofString "BadText") 425), (Value.str (Str.ofString "/claim/cut.py") 426), (Value.int (19 : Int) 0), (Value.int (0 : Int) 0), (Value.int (0 : Int) 0), (Value.int (0 : Int) 0), (Value.int (0 : Int) 0), (Value.ref 121), (Value.bool Bool.false), (Value.int (316 : Int) 0), (Value.ref 122), Value.none, Value.none, Value.none, Value.none, (Value.int (427 : Int) 0), (Value.int (19 : Int) 0), (Value.str (Str.ofString "/claim/cut.py") 428)])) (List.toArray []))),
  (124, (Obj.mk (Value.type "frame") none Data.plain (List.toArray [(some (Value.ref 123)), (some (Value.ref 3)), (some (Value.ref 120)), none, (some (Value.str (Str.ofString "turnedtunes.errors") 329)), none, (some (Value.ref 0))]))),
  (125, (Obj.mk (Value.type "tuple") none (Data.seq (List.toArray []) 0) (List.toArray []))),
  (126, (Obj.mk (Value.type "dict") none (Data.dict (List.toArray [(DictEntry.mk (PyData.keyHash P (Str.ofString "__module__")) (Value.str (Str.ofString "__module__") 429) (Value.str (Str.ofString "turnedtunes.errors") 329)), (DictEntry.mk (PyData.keyHash P (Str.ofString "__firstlineno__")) (Value.str (Str.ofString "__firstlineno__") 433) (Value.int (19 : Int) 432)), (DictEntry.mk (PyData.keyHash P (Str.ofString "__static_attributes__")) (Value.str (Str.ofString "__static_attributes__") 434) (Value.ref 125)), (DictEntry.mk (PyData.keyHash P (Str.ofString "__doc__")) (Value.str (Str.ofString "__doc__") 435) Value.none)]) 2) (List.toArray []))),
  (127, (Obj.mk (Value.type "type") none (Data.cls (ClassData.mk (Str.ofString "BadText") [(Value.ref 66)] [(Value.ref 127), (Value.ref 66), (Value.type "ValueError"), (Value.type "Exception"), (Value.type "BaseException"), (Value.type "object")] 126 (Str.ofString "BadText") Bool.true [] [] Bool.false none Bool.false)) (List.toArray [(some (Value.ref 118)), none, (some (Value.str (Str.ofString "BadText") 422)), (some (Value.str (Str.ofString "BadText") 430)), (some (Value.builtin "ValueError.__new__")), (some (Value.bool Bool.true))]))),
  (128, (Obj.mk (Value.type "super") none (Data.fields (List.toArray [(Value.ref 127), (Value.ref 127), (Value.ref 127)])) (List.toArray []))),
  (129, (Obj.mk (Value.type "builtin_function_or_method") none (Data.fields (List.toArray [(Value.builtin "object.__init_subclass__"), (Value.ref 127)])) (List.toArray [])))] (hRt4 P)
noncomputable def hRS5 (w : World) : SharedT := ⟨hRt5 w.params, 130, (Life.mk [] [] [] 0 [] [] Bool.false (List.toArray []) [] 0 Bool.false Bool.false Bool.false (0 : Int) [(2000 : Int), (10 : Int), (10 : Int)] Bool.false 0 Bool.true [] [] 0 Bool.false), (List.toArray []), (Drawn.mk 0 0 0 0), 438, (start (opening Challenge.pw_turnedtunes_k39_pieces_refused)).1.os⟩
noncomputable def hRb4 : List Stmt := ((behindTheImports Challenge.pw_turnedtunes_k39_pieces_refused).drop 6).take 2
theorem hRg4 (w : World) : segF (stepQ (denQ tabQ) Challenge.pw_turnedtunes_k39_pieces_refused w) 39 (some (Value.ref 6)) 427 (hRS4 w) (piecesOf hRb4 hRenv hRcd (Pos.mk 15 0 16 8) [topFrame (Pos.mk 0 0 0 0)]) = some (.next, hRS5 w, hRcd, (Pos.mk 19 0 20 8)) := by kernel_rfl
noncomputable def hRt6 (P : Params) : BT := putT [(3, (Obj.mk (Value.type "dict") none (Data.dict (List.toArray [(DictEntry.mk (PyData.keyHash P (Str.ofString "__name__")) (Value.str (Str.ofString "__name__") 165) (Value.str (Str.ofString "turnedtunes.errors") 329)), (DictEntry.mk (PyData.keyHash P (Str.ofString "__doc__")) (Value.str (Str.ofString "__doc__") 166) Value.none), (DictEntry.mk (PyData.keyHash P (Str.ofString "__package__")) (Value.str (Str.ofString "__package__") 167) Value.none), (DictEntry.mk (PyData.keyHash P (Str.ofString "__loader__")) (Value.str (Str.ofString "__loader__") 168) (Value.builtin "__main__.__loader__#opaque")), (DictEntry.mk (PyData.keyHash P (Str.ofString "__spec__")) (Value.str (Str.ofString "__spec__") 169) Value.none), (DictEntry.mk (PyData.keyHash P (Str.ofString "__annotations__")) (Value.str (Str.ofString "__annotations__") 170) (Value.ref 6)), (DictEntry.mk (PyData.keyHash P (Str.ofString "__builtins__")) (Value.str (Str.ofString "__builtins__") 171) (Value.ref 4)), (DictEntry.mk (PyData.keyHash P (Str.ofString "__file__")) (Value.str (Str.ofString "__file__") 173) (Value.str (Str.ofString "/claim/cut.py") 172)), (DictEntry.mk (PyData.keyHash P (Str.ofString "__cached__")) (Value.str (Str.ofString "__cached__") 174) Value.none), (DictEntry.mk (PyData.keyHash P (Str.ofString "heappop")) (Value.str (Str.ofString "heappop") 312) (Value.builtin "_heapq.heappop")), (DictEntry.mk (PyData.keyHash P (Str.ofString "heappush")) (Value.str (Str.ofString "heappush") 315) (Value.builtin "_heapq.heappush")), (DictEntry.mk (PyData.keyHash P (Str.ofString "_wall")) (Value.str (Str.ofString "_wall") 328) (Value.ref 49)), (DictEntry.mk (PyData.keyHash P (Str.ofString "TuneError")) (Value.str (Str.ofString "TuneError") 357) (Value.ref 66)), (DictEntry.mk (PyData.keyHash P (Str.ofString "BadPlace")) (Value.str (Str.ofString "BadPlace") 373) (Value.ref 79)), (DictEntry.mk (PyData.keyHash P (Str.ofString "BadLength")) (Value.str (Str.ofString "BadLength") 389) (Value.ref 91)), (DictEntry.mk (PyData.keyHash P (Str.ofString "BadAmount")) (Value.str (Str.ofString "BadAmount") 405) (Value.ref 103)), (DictEntry.mk (PyData.keyHash P (Str.ofString "BadWay")) (Value.str (Str.ofString "BadWay") 421) (Value.ref 115)), (DictEntry.mk (PyData.keyHash P (Str.ofString "BadText")) (Value.str (Str.ofString "BadText") 437) (Value.ref 127)), (DictEntry.mk (PyData.keyHash P (Str.ofString "NoPlace")) (Value.str (Str.ofString "NoPlace") 453) (Value.ref 139)), (DictEntry.mk (PyData.keyHash P (Str.ofString "BadNote")) (Value.str (Str.ofString "BadNote") 469) (Value.ref 151))]) 20) (List.toArray []))),
  (40, (Obj.mk Value.none none (Data.fields (List.toArray [(Value.int (2 : Int) 0), (Value.int (0 : Int) 0), (Value.ref 48), (Value.int (6 : Int) 0), (Value.int (0 : Int) 0), (Value.ref 55), (Value.int (11 : Int) 0), (Value.int (0 : Int) 0), (Value.ref 75), (Value.int (13 : Int) 0), (Value.int (0 : Int) 0), (Value.ref 87), (Value.int (15 : Int) 0), (Value.int (0 : Int) 0), (Value.ref 99), (Value.int (17 : Int) 0), (Value.int (0 : Int) 0), (Value.ref 111), (Value.int (19 : Int) 0), (Value.int (0 : Int) 0), (Value.ref 123), (Value.int (21 : Int) 0), (Value.int (0 : Int) 0), (Value.ref 135), (Value.int (23 : Int) 0), (Value.int (0 : Int) 0), (Value.ref 147)])) (List.toArray []))),
  (66, (Obj.mk (Value.type "type") none (Data.cls (ClassData.mk (Str.ofString "TuneError") [(Value.type "ValueError")] [(Value.ref 66), (Value.type "ValueError"), (Value.type "Exception"), (Value.type "BaseException"), (Value.type "object")] 65 (Str.ofString "TuneError") Bool.true [] [(Value.ref 79), (Value.ref 91), (Value.ref 103), (Value.ref 115), (Value.ref 127), (Value.ref 139), (Value.ref 151)] Bool.false none Bool.false)) (List.toArray [(some (Value.ref 50)), none, (some (Value.str (Str.ofString "TuneError") 331)), (some (Value.str (Str.ofString "TuneError") 339)), (some (Value.builtin "ValueError.__new__")), (some (Value.bool Bool.true))]))),
  (130, (Obj.mk (Value.type "tuple") none (Data.seq (List.toArray [(Value.ref 66)]) 0) (List.toArray []))),
  (131, (Obj.mk (Value.type "builtin_function_or_method") none (Data.fields (List.toArray [(Value.builtin "type.__prepare__"), (Value.type "type")])) (List.toArray []))),
  (132, (Obj.mk (Value.type "dict") none (Data.dict (List.toArray [(DictEntry.mk (PyData.keyHash P (Str.ofString "__module__")) (Value.str (Str.ofString "__module__") 445) (Value.str (Str.ofString "turnedtunes.errors") 329)), (DictEntry.mk (PyData.keyHash P (Str.ofString "__qualname__")) (Value.str (Str.ofString "__qualname__") 447) (Value.str (Str.ofString "NoPlace") 446)), (DictEntry.mk (PyData.keyHash P (Str.ofString "__firstlineno__")) (Value.str (Str.ofString "__firstlineno__") 449) (Value.int (21 : Int) 448)), (DictEntry.mk (PyData.keyHash P (Str.ofString "__static_attributes__")) (Value.str (Str.ofString "__static_attributes__") 450) (Value.ref 137))]) 4) (List.toArray []))),
  (133, (Obj.mk (Value.type "tuple") none (Data.seq (List.toArray []) 0) (List.toArray []))),
  (134, (Obj.mk Value.none none (Data.fields (List.toArray [])) (List.toArray []))),
  (135, (Obj.mk (Value.type "code") none (Data.fields (List.toArray [(Value.str (Str.ofString "NoPlace") 440), (Value.str (Str.ofString "NoPlace") 441), (Value.str (Str.ofString "/claim/cut.py") 442), (Value.int (21 : Int) 0), (Value.int (0 : Int) 0), (Value.int (0 : Int) 0), (Value.int (0 : Int) 0), (Value.int (0 : Int) 0), (Value.ref 133), (Value.bool Bool.false), (Value.int (316 : Int) 0), (Value.ref 134), Value.none, Value.none, Value.none, Value.none, (Value.int (443 : Int) 0), (Value.int (21 : Int) 0), (Value.str (Str.ofString "/claim/cut.py") 444)])) (List.toArray []))),
  (136, (Obj.mk (Value.type "frame") none Data.plain (List.toArray [(some (Value.ref 135)), (some (Value.ref 3)), (some (Value.ref 132)), none, (some (Value.str (Str.ofString "turnedtunes.errors") 329)), none, (some (Value.ref 0))]))),
  (137, (Obj.mk (Value.type "tuple") none (Data.seq (List.toArray []) 0) (List.toArray []))),
  (138, (Obj.mk (Value.type "dict") none (Data.dict (List.toArray [(DictEntry.mk (PyData.keyHash P (Str.ofString "__module__")) (Value.str (Str.ofString "__module__") 445) (Value.str (Str.ofString "turnedtunes.errors") 329)), (DictEntry.mk (PyData.keyHash P (Str.ofString "__firstlineno__")) (Value.str (Str.ofString "__firstlineno__") 449) (Value.int (21 : Int) 448)), (DictEntry.mk (PyData.keyHash P (Str.ofString "__static_attributes__")) (Value.str (Str.ofString "__static_attributes__") 450) (Value.ref 137)), (DictEntry.mk (PyData.keyHash P (Str.ofString "__doc__")) (Value.str (Str.ofString "__doc__") 451) Value.none)]) 2) (List.toArray []))),
  (139, (Obj.mk (Value.type "type") none (Data.cls (ClassData.mk (Str.ofString "NoPlace") [(Value.ref 66)] [(Value.ref 139), (Value.ref 66), (Value.type "ValueError"), (Value.type "Exception"), (Value.type "BaseException"), (Value.type "object")] 138 (Str.ofString "NoPlace") Bool.true [] [] Bool.false none Bool.false)) (List.toArray [(some (Value.ref 130)), none, (some (Value.str (Str.ofString "NoPlace") 438)), (some (Value.str (Str.ofString "NoPlace") 446)), (some (Value.builtin "ValueError.__new__")), (some (Value.bool Bool.true))]))),
  (140, (Obj.mk (Value.type "super") none (Data.fields (List.toArray [(Value.ref 139), (Value.ref 139), (Value.ref 139)])) (List.toArray []))),
  (141, (Obj.mk (Value.type "builtin_function_or_method") none (Data.fields (List.toArray [(Value.builtin "object.__init_subclass__"), (Value.ref 139)])) (List.toArray []))),
  (142, (Obj.mk (Value.type "tuple") none (Data.seq (List.toArray [(Value.ref 66)]) 0) (List.toArray []))),
  (143, (Obj.mk (Value.type "builtin_function_or_method") none (Data.fields (List.toArray [(Value.builtin "type.__prepare__"), (Value.type "type")])) (List.toArray []))),
  (144, (Obj.mk (Value.type "dict") none (Data.dict (List.toArray [(DictEntry.mk (PyData.keyHash P (Str.ofString "__module__")) (Value.str (Str.ofString "__module__") 461) (Value.str (Str.ofString "turnedtunes.errors") 329)), (DictEntry.mk (PyData.keyHash P (Str.ofString "__qualname__")) (Value.str (Str.ofString "__qualname__") 463) (Value.str (Str.ofString "BadNote") 462)), (DictEntry.mk (PyData.keyHash P (Str.ofString "__firstlineno__")) (Value.str (Str.ofString "__firstlineno__") 465) (Value.int (23 : Int) 464)), (DictEntry.mk (PyData.keyHash P (Str.ofString "__static_attributes__")) (Value.str (Str.ofString "__static_attributes__") 466) (Value.ref 149))]) 4) (List.toArray []))),
  (145, (Obj.mk (Value.type "tuple") none (Data.seq (List.toArray []) 0) (List.toArray []))),
  (146, (Obj.mk Value.none none (Data.fields (List.toArray [])) (List.toArray []))),
  (147, (Obj.mk (Value.type "code") none (Data.fields (List.toArray [(Value.str (Str.ofString "BadNote") 456), (Value.str (Str.ofString "BadNote") 457), (Value.str (Str.ofString "/claim/cut.py") 458), (Value.int (23 : Int) 0), (Value.int (0 : Int) 0), (Value.int (0 : Int) 0), (Value.int (0 : Int) 0), (Value.int (0 : Int) 0), (Value.ref 145), (Value.bool Bool.false), (Value.int (316 : Int) 0), (Value.ref 146), Value.none, Value.none, Value.none, Value.none, (Value.int (459 : Int) 0), (Value.int (23 : Int) 0), (Value.str (Str.ofString "/claim/cut.py") 460)])) (List.toArray []))),
  (148, (Obj.mk (Value.type "frame") none Data.plain (List.toArray [(some (Value.ref 147)), (some (Value.ref 3)), (some (Value.ref 144)), none, (some (Value.str (Str.ofString "turnedtunes.errors") 329)), none, (some (Value.ref 0))]))),
  (149, (Obj.mk (Value.type "tuple") none (Data.seq (List.toArray []) 0) (List.toArray []))),
  (150, (Obj.mk (Value.type "dict") none (Data.dict (List.toArray [(DictEntry.mk (PyData.keyHash P (Str.ofString "__module__")) (Value.str (Str.ofString "__module__") 461) (Value.str (Str.ofString "turnedtunes.errors") 329)), (DictEntry.mk (PyData.keyHash P (Str.ofString "__firstlineno__")) (Value.str (Str.ofString "__firstlineno__") 465) (Value.int (23 : Int) 464)), (DictEntry.mk (PyData.keyHash P (Str.ofString "__static_attributes__")) (Value.str (Str.ofString "__static_attributes__") 466) (Value.ref 149)), (DictEntry.mk (PyData.keyHash P (Str.ofString "__doc__")) (Value.str (Str.ofString "__doc__") 467) Value.none)]) 2) (List.toArray []))),
  (151, (Obj.mk (Value.type "type") none (Data.cls (ClassData.mk (Str.ofString "BadNote") [(Value.ref 66)] [(Value.ref 151), (Value.ref 66), (Value.type "ValueError"), (Value.type "Exception"), (Value.type "BaseException"), (Value.type "object")] 150 (Str.ofString "BadNote") Bool.true [] [] Bool.false none Bool.false)) (List.toArray [(some (Value.ref 142)), none, (some (Value.str (Str.ofString "BadNote") 454)), (some (Value.str (Str.ofString "BadNote") 462)), (some (Value.builtin "ValueError.__new__")), (some (Value.bool Bool.true))]))),
  (152, (Obj.mk (Value.type "super") none (Data.fields (List.toArray [(Value.ref 151), (Value.ref 151), (Value.ref 151)])) (List.toArray []))),
  (153, (Obj.mk (Value.type "builtin_function_or_method") none (Data.fields (List.toArray [(Value.builtin "object.__init_subclass__"), (Value.ref 151)])) (List.toArray [])))] (hRt5 P)
noncomputable def hRS6 (w : World) : SharedT := ⟨hRt6 w.params, 154, (Life.mk [] [] [] 0 [] [] Bool.false (List.toArray []) [] 0 Bool.false Bool.false Bool.false (0 : Int) [(2000 : Int), (10 : Int), (10 : Int)] Bool.false 0 Bool.true [] [] 0 Bool.false), (List.toArray []), (Drawn.mk 0 0 0 0), 470, (start (opening Challenge.pw_turnedtunes_k39_pieces_refused)).1.os⟩
noncomputable def hRb5 : List Stmt := ((behindTheImports Challenge.pw_turnedtunes_k39_pieces_refused).drop 8).take 2
theorem hRg5 (w : World) : segF (stepQ (denQ tabQ) Challenge.pw_turnedtunes_k39_pieces_refused w) 39 (some (Value.ref 6)) 427 (hRS5 w) (piecesOf hRb5 hRenv hRcd (Pos.mk 19 0 20 8) [topFrame (Pos.mk 0 0 0 0)]) = some (.next, hRS6 w, hRcd, (Pos.mk 23 0 24 8)) := by kernel_rfl
noncomputable def hRt7 (P : Params) : BT := putT [(3, (Obj.mk (Value.type "dict") none (Data.dict (List.toArray [(DictEntry.mk (PyData.keyHash P (Str.ofString "__name__")) (Value.str (Str.ofString "__name__") 165) (Value.str (Str.ofString "turnedtunes.errors") 329)), (DictEntry.mk (PyData.keyHash P (Str.ofString "__doc__")) (Value.str (Str.ofString "__doc__") 166) Value.none), (DictEntry.mk (PyData.keyHash P (Str.ofString "__package__")) (Value.str (Str.ofString "__package__") 167) Value.none), (DictEntry.mk (PyData.keyHash P (Str.ofString "__loader__")) (Value.str (Str.ofString "__loader__") 168) (Value.builtin "__main__.__loader__#opaque")), (DictEntry.mk (PyData.keyHash P (Str.ofString "__spec__")) (Value.str (Str.ofString "__spec__") 169) Value.none), (DictEntry.mk (PyData.keyHash P (Str.ofString "__annotations__")) (Value.str (Str.ofString "__annotations__") 170) (Value.ref 6)), (DictEntry.mk (PyData.keyHash P (Str.ofString "__builtins__")) (Value.str (Str.ofString "__builtins__") 171) (Value.ref 4)), (DictEntry.mk (PyData.keyHash P (Str.ofString "__file__")) (Value.str (Str.ofString "__file__") 173) (Value.str (Str.ofString "/claim/cut.py") 172)), (DictEntry.mk (PyData.keyHash P (Str.ofString "__cached__")) (Value.str (Str.ofString "__cached__") 174) Value.none), (DictEntry.mk (PyData.keyHash P (Str.ofString "heappop")) (Value.str (Str.ofString "heappop") 312) (Value.builtin "_heapq.heappop")), (DictEntry.mk (PyData.keyHash P (Str.ofString "heappush")) (Value.str (Str.ofString "heappush") 315) (Value.builtin "_heapq.heappush")), (DictEntry.mk (PyData.keyHash P (Str.ofString "_wall")) (Value.str (Str.ofString "_wall") 328) (Value.ref 49)), (DictEntry.mk (PyData.keyHash P (Str.ofString "TuneError")) (Value.str (Str.ofString "TuneError") 357) (Value.ref 66)), (DictEntry.mk (PyData.keyHash P (Str.ofString "BadPlace")) (Value.str (Str.ofString "BadPlace") 373) (Value.ref 79)), (DictEntry.mk (PyData.keyHash P (Str.ofString "BadLength")) (Value.str (Str.ofString "BadLength") 389) (Value.ref 91)), (DictEntry.mk (PyData.keyHash P (Str.ofString "BadAmount")) (Value.str (Str.ofString "BadAmount") 405) (Value.ref 103)), (DictEntry.mk (PyData.keyHash P (Str.ofString "BadWay")) (Value.str (Str.ofString "BadWay") 421) (Value.ref 115)), (DictEntry.mk (PyData.keyHash P (Str.ofString "BadText")) (Value.str (Str.ofString "BadText") 437) (Value.ref 127)), (DictEntry.mk (PyData.keyHash P (Str.ofString "NoPlace")) (Value.str (Str.ofString "NoPlace") 453) (Value.ref 139)), (DictEntry.mk (PyData.keyHash P (Str.ofString "BadNote")) (Value.str (Str.ofString "BadNote") 469) (Value.ref 151)), (DictEntry.mk (PyData.keyHash P (Str.ofString "BadPart")) (Value.str (Str.ofString "BadPart") 485) (Value.ref 163)), (DictEntry.mk (PyData.keyHash P (Str.ofString "NoJoint")) (Value.str (Str.ofString "NoJoint") 501) (Value.ref 175))]) 22) (List.toArray []))),
  (40, (Obj.mk Value.none none (Data.fields (List.toArray [(Value.int (2 : Int) 0), (Value.int (0 : Int) 0), (Value.ref 48), (Value.int (6 : Int) 0), (Value.int (0 : Int) 0), (Value.ref 55), (Value.int (11 : Int) 0), (Value.int (0 : Int) 0), (Value.ref 75), (Value.int (13 : Int) 0), (Value.int (0 : Int) 0), (Value.ref 87), (Value.int (15 : Int) 0), (Value.int (0 : Int) 0), (Value.ref 99), (Value.int (17 : Int) 0), (Value.int (0 : Int) 0), (Value.ref 111), (Value.int (19 : Int) 0), (Value.int (0 : Int) 0), (Value.ref 123), (Value.int (21 : Int) 0), (Value.int (0 : Int) 0), (Value.ref 135), (Value.int (23 : Int) 0), (Value.int (0 : Int) 0), (Value.ref 147), (Value.int (25 : Int) 0), (Value.int (0 : Int) 0), (Value.ref 159), (Value.int (27 : Int) 0), (Value.int (0 : Int) 0), (Value.ref 171)])) (List.toArray []))),
  (66, (Obj.mk (Value.type "type") none (Data.cls (ClassData.mk (Str.ofString "TuneError") [(Value.type "ValueError")] [(Value.ref 66), (Value.type "ValueError"), (Value.type "Exception"), (Value.type "BaseException"), (Value.type "object")] 65 (Str.ofString "TuneError") Bool.true [] [(Value.ref 79), (Value.ref 91), (Value.ref 103), (Value.ref 115), (Value.ref 127), (Value.ref 139), (Value.ref 151), (Value.ref 163), (Value.ref 175)] Bool.false none Bool.false)) (List.toArray [(some (Value.ref 50)), none, (some (Value.str (Str.ofString "TuneError") 331)), (some (Value.str (Str.ofString "TuneError") 339)), (some (Value.builtin "ValueError.__new__")), (some (Value.bool Bool.true))]))),
  (154, (Obj.mk (Value.type "tuple") none (Data.seq (List.toArray [(Value.ref 66)]) 0) (List.toArray []))),
  (155, (Obj.mk (Value.type "builtin_function_or_method") none (Data.fields (List.toArray [(Value.builtin "type.__prepare__"), (Value.type "type")])) (List.toArray []))),
  (156, (Obj.mk (Value.type "dict") none (Data.dict (List.toArray [(DictEntry.mk (PyData.keyHash P (Str.ofString "__module__")) (Value.str (Str.ofString "__module__") 477) (Value.str (Str.ofString "turnedtunes.errors") 329)), (DictEntry.mk (PyData.keyHash P (Str.ofString "__qualname__")) (Value.str (Str.ofString "__qualname__") 479) (Value.str (Str.ofString "BadPart") 478)), (DictEntry.mk (PyData.keyHash P (Str.ofString "__firstlineno__")) (Value.str (Str.ofString "__firstlineno__") 481) (Value.int (25 : Int) 480)), (DictEntry.mk (PyData.keyHash P (Str.ofString "__static_attributes__")) (Value.str (Str.ofString "__static_attributes__") 482) (Value.ref 161))]) 4) (List.toArray []))),
  (157, (Obj.mk (Value.type "tuple") none (Data.seq (List.toArray []) 0) (List.toArray []))),
  (158, (Obj.mk Value.none none (Data.fields (List.toArray [])) (List.toArray []))),
  (159, (Obj.mk (Value.type "code") none (Data.fields (List.toArray [(Value.str (Str.ofString "BadPart") 472), (Value.str (Str.ofString "BadPart") 473), (Value.str (Str.ofString "/claim/cut.py") 474), (Value.int (25 : Int) 0), (Value.int (0 : Int) 0), (Value.int (0 : Int) 0), (Value.int (0 : Int) 0), (Value.int (0 : Int) 0), (Value.ref 157), (Value.bool Bool.false), (Value.int (316 : Int) 0), (Value.ref 158), Value.none, Value.none, Value.none, Value.none, (Value.int (475 : Int) 0), (Value.int (25 : Int) 0), (Value.str (Str.ofString "/claim/cut.py") 476)])) (List.toArray []))),
  (160, (Obj.mk (Value.type "frame") none Data.plain (List.toArray [(some (Value.ref 159)), (some (Value.ref 3)), (some (Value.ref 156)), none, (some (Value.str (Str.ofString "turnedtunes.errors") 329)), none, (some (Value.ref 0))]))),
  (161, (Obj.mk (Value.type "tuple") none (Data.seq (List.toArray []) 0) (List.toArray []))),
  (162, (Obj.mk (Value.type "dict") none (Data.dict (List.toArray [(DictEntry.mk (PyData.keyHash P (Str.ofString "__module__")) (Value.str (Str.ofString "__module__") 477) (Value.str (Str.ofString "turnedtunes.errors") 329)), (DictEntry.mk (PyData.keyHash P (Str.ofString "__firstlineno__")) (Value.str (Str.ofString "__firstlineno__") 481) (Value.int (25 : Int) 480)), (DictEntry.mk (PyData.keyHash P (Str.ofString "__static_attributes__")) (Value.str (Str.ofString "__static_attributes__") 482) (Value.ref 161)), (DictEntry.mk (PyData.keyHash P (Str.ofString "__doc__")) (Value.str (Str.ofString "__doc__") 483) Value.none)]) 2) (List.toArray []))),
  (163, (Obj.mk (Value.type "type") none (Data.cls (ClassData.mk (Str.ofString "BadPart") [(Value.ref 66)] [(Value.ref 163), (Value.ref 66), (Value.type "ValueError"), (Value.type "Exception"), (Value.type "BaseException"), (Value.type "object")] 162 (Str.ofString "BadPart") Bool.true [] [] Bool.false none Bool.false)) (List.toArray [(some (Value.ref 154)), none, (some (Value.str (Str.ofString "BadPart") 470)), (some (Value.str (Str.ofString "BadPart") 478)), (some (Value.builtin "ValueError.__new__")), (some (Value.bool Bool.true))]))),
  (164, (Obj.mk (Value.type "super") none (Data.fields (List.toArray [(Value.ref 163), (Value.ref 163), (Value.ref 163)])) (List.toArray []))),
  (165, (Obj.mk (Value.type "builtin_function_or_method") none (Data.fields (List.toArray [(Value.builtin "object.__init_subclass__"), (Value.ref 163)])) (List.toArray []))),
  (166, (Obj.mk (Value.type "tuple") none (Data.seq (List.toArray [(Value.ref 66)]) 0) (List.toArray []))),
  (167, (Obj.mk (Value.type "builtin_function_or_method") none (Data.fields (List.toArray [(Value.builtin "type.__prepare__"), (Value.type "type")])) (List.toArray []))),
  (168, (Obj.mk (Value.type "dict") none (Data.dict (List.toArray [(DictEntry.mk (PyData.keyHash P (Str.ofString "__module__")) (Value.str (Str.ofString "__module__") 493) (Value.str (Str.ofString "turnedtunes.errors") 329)), (DictEntry.mk (PyData.keyHash P (Str.ofString "__qualname__")) (Value.str (Str.ofString "__qualname__") 495) (Value.str (Str.ofString "NoJoint") 494)), (DictEntry.mk (PyData.keyHash P (Str.ofString "__firstlineno__")) (Value.str (Str.ofString "__firstlineno__") 497) (Value.int (27 : Int) 496)), (DictEntry.mk (PyData.keyHash P (Str.ofString "__static_attributes__")) (Value.str (Str.ofString "__static_attributes__") 498) (Value.ref 173))]) 4) (List.toArray []))),
  (169, (Obj.mk (Value.type "tuple") none (Data.seq (List.toArray []) 0) (List.toArray []))),
  (170, (Obj.mk Value.none none (Data.fields (List.toArray [])) (List.toArray []))),
  (171, (Obj.mk (Value.type "code") none (Data.fields (List.toArray [(Value.str (Str.ofString "NoJoint") 488), (Value.str (Str.ofString "NoJoint") 489), (Value.str (Str.ofString "/claim/cut.py") 490), (Value.int (27 : Int) 0), (Value.int (0 : Int) 0), (Value.int (0 : Int) 0), (Value.int (0 : Int) 0), (Value.int (0 : Int) 0), (Value.ref 169), (Value.bool Bool.false), (Value.int (316 : Int) 0), (Value.ref 170), Value.none, Value.none, Value.none, Value.none, (Value.int (491 : Int) 0), (Value.int (27 : Int) 0), (Value.str (Str.ofString "/claim/cut.py") 492)])) (List.toArray []))),
  (172, (Obj.mk (Value.type "frame") none Data.plain (List.toArray [(some (Value.ref 171)), (some (Value.ref 3)), (some (Value.ref 168)), none, (some (Value.str (Str.ofString "turnedtunes.errors") 329)), none, (some (Value.ref 0))]))),
  (173, (Obj.mk (Value.type "tuple") none (Data.seq (List.toArray []) 0) (List.toArray []))),
  (174, (Obj.mk (Value.type "dict") none (Data.dict (List.toArray [(DictEntry.mk (PyData.keyHash P (Str.ofString "__module__")) (Value.str (Str.ofString "__module__") 493) (Value.str (Str.ofString "turnedtunes.errors") 329)), (DictEntry.mk (PyData.keyHash P (Str.ofString "__firstlineno__")) (Value.str (Str.ofString "__firstlineno__") 497) (Value.int (27 : Int) 496)), (DictEntry.mk (PyData.keyHash P (Str.ofString "__static_attributes__")) (Value.str (Str.ofString "__static_attributes__") 498) (Value.ref 173)), (DictEntry.mk (PyData.keyHash P (Str.ofString "__doc__")) (Value.str (Str.ofString "__doc__") 499) Value.none)]) 2) (List.toArray []))),
  (175, (Obj.mk (Value.type "type") none (Data.cls (ClassData.mk (Str.ofString "NoJoint") [(Value.ref 66)] [(Value.ref 175), (Value.ref 66), (Value.type "ValueError"), (Value.type "Exception"), (Value.type "BaseException"), (Value.type "object")] 174 (Str.ofString "NoJoint") Bool.true [] [] Bool.false none Bool.false)) (List.toArray [(some (Value.ref 166)), none, (some (Value.str (Str.ofString "NoJoint") 486)), (some (Value.str (Str.ofString "NoJoint") 494)), (some (Value.builtin "ValueError.__new__")), (some (Value.bool Bool.true))]))),
  (176, (Obj.mk (Value.type "super") none (Data.fields (List.toArray [(Value.ref 175), (Value.ref 175), (Value.ref 175)])) (List.toArray []))),
  (177, (Obj.mk (Value.type "builtin_function_or_method") none (Data.fields (List.toArray [(Value.builtin "object.__init_subclass__"), (Value.ref 175)])) (List.toArray [])))] (hRt6 P)
noncomputable def hRS7 (w : World) : SharedT := ⟨hRt7 w.params, 178, (Life.mk [] [] [] 0 [] [] Bool.false (List.toArray []) [] 0 Bool.false Bool.false Bool.false (0 : Int) [(2000 : Int), (10 : Int), (10 : Int)] Bool.false 0 Bool.true [] [] 0 Bool.false), (List.toArray []), (Drawn.mk 0 0 0 0), 502, (start (opening Challenge.pw_turnedtunes_k39_pieces_refused)).1.os⟩
noncomputable def hRb6 : List Stmt := ((behindTheImports Challenge.pw_turnedtunes_k39_pieces_refused).drop 10).take 2
theorem hRg6 (w : World) : segF (stepQ (denQ tabQ) Challenge.pw_turnedtunes_k39_pieces_refused w) 39 (some (Value.ref 6)) 427 (hRS6 w) (piecesOf hRb6 hRenv hRcd (Pos.mk 23 0 24 8) [topFrame (Pos.mk 0 0 0 0)]) = some (.next, hRS7 w, hRcd, (Pos.mk 27 0 28 8)) := by kernel_rfl
noncomputable def hRt8 (P : Params) : BT := putT [(3, (Obj.mk (Value.type "dict") none (Data.dict (List.toArray [(DictEntry.mk (PyData.keyHash P (Str.ofString "__name__")) (Value.str (Str.ofString "__name__") 165) (Value.str (Str.ofString "turnedtunes.integers") 534)), (DictEntry.mk (PyData.keyHash P (Str.ofString "__doc__")) (Value.str (Str.ofString "__doc__") 166) Value.none), (DictEntry.mk (PyData.keyHash P (Str.ofString "__package__")) (Value.str (Str.ofString "__package__") 167) Value.none), (DictEntry.mk (PyData.keyHash P (Str.ofString "__loader__")) (Value.str (Str.ofString "__loader__") 168) (Value.builtin "__main__.__loader__#opaque")), (DictEntry.mk (PyData.keyHash P (Str.ofString "__spec__")) (Value.str (Str.ofString "__spec__") 169) Value.none), (DictEntry.mk (PyData.keyHash P (Str.ofString "__annotations__")) (Value.str (Str.ofString "__annotations__") 170) (Value.ref 6)), (DictEntry.mk (PyData.keyHash P (Str.ofString "__builtins__")) (Value.str (Str.ofString "__builtins__") 171) (Value.ref 4)), (DictEntry.mk (PyData.keyHash P (Str.ofString "__file__")) (Value.str (Str.ofString "__file__") 173) (Value.str (Str.ofString "/claim/cut.py") 172)), (DictEntry.mk (PyData.keyHash P (Str.ofString "__cached__")) (Value.str (Str.ofString "__cached__") 174) Value.none), (DictEntry.mk (PyData.keyHash P (Str.ofString "heappop")) (Value.str (Str.ofString "heappop") 312) (Value.builtin "_heapq.heappop")), (DictEntry.mk (PyData.keyHash P (Str.ofString "heappush")) (Value.str (Str.ofString "heappush") 315) (Value.builtin "_heapq.heappush")), (DictEntry.mk (PyData.keyHash P (Str.ofString "_wall")) (Value.str (Str.ofString "_wall") 328) (Value.ref 49)), (DictEntry.mk (PyData.keyHash P (Str.ofString "TuneError")) (Value.str (Str.ofString "TuneError") 357) (Value.ref 66)), (DictEntry.mk (PyData.keyHash P (Str.ofString "BadPlace")) (Value.str (Str.ofString "BadPlace") 373) (Value.ref 79)), (DictEntry.mk (PyData.keyHash P (Str.ofString "BadLength")) (Value.str (Str.ofString "BadLength") 389) (Value.ref 91)), (DictEntry.mk (PyData.keyHash P (Str.ofString "BadAmount")) (Value.str (Str.ofString "BadAmount") 405) (Value.ref 103)), (DictEntry.mk (PyData.keyHash P (Str.ofString "BadWay")) (Value.str (Str.ofString "BadWay") 421) (Value.ref 115)), (DictEntry.mk (PyData.keyHash P (Str.ofString "BadText")) (Value.str (Str.ofString "BadText") 437) (Value.ref 127)), (DictEntry.mk (PyData.keyHash P (Str.ofString "NoPlace")) (Value.str (Str.ofString "NoPlace") 453) (Value.ref 139)), (DictEntry.mk (PyData.keyHash P (Str.ofString "BadNote")) (Value.str (Str.ofString "BadNote") 469) (Value.ref 151)), (DictEntry.mk (PyData.keyHash P (Str.ofString "BadPart")) (Value.str (Str.ofString "BadPart") 485) (Value.ref 163)), (DictEntry.mk (PyData.keyHash P (Str.ofString "NoJoint")) (Value.str (Str.ofString "NoJoint") 501) (Value.ref 175)), (DictEntry.mk (PyData.keyHash P (Str.ofString "BadNumber")) (Value.str (Str.ofString "BadNumber") 517) (Value.ref 187)), (DictEntry.mk (PyData.keyHash P (Str.ofString "BadPieces")) (Value.str (Str.ofString "BadPieces") 533) (Value.ref 199)), (DictEntry.mk (PyData.keyHash P (Str.ofString "GREATEST")) (Value.str (Str.ofString "GREATEST") 539) (Value.int (1000000000000000000000000000000 : Int) 538)), (DictEntry.mk (PyData.keyHash P (Str.ofString "_DIGITS")) (Value.str (Str.ofString "_DIGITS") 541) (Value.int (64 : Int) 540)), (DictEntry.mk (PyData.keyHash P (Str.ofString "_CHUNK")) (Value.str (Str.ofString "_CHUNK") 545) (Value.int (10000000000000000000000000000000000000000000000000000000000000000 : Int) 544))]) 27) (List.toArray []))),
  (40, (Obj.mk Value.none none (Data.fields (List.toArray [(Value.int (2 : Int) 0), (Value.int (0 : Int) 0), (Value.ref 48), (Value.int (6 : Int) 0), (Value.int (0 : Int) 0), (Value.ref 55), (Value.int (11 : Int) 0), (Value.int (0 : Int) 0), (Value.ref 75), (Value.int (13 : Int) 0), (Value.int (0 : Int) 0), (Value.ref 87), (Value.int (15 : Int) 0), (Value.int (0 : Int) 0), (Value.ref 99), (Value.int (17 : Int) 0), (Value.int (0 : Int) 0), (Value.ref 111), (Value.int (19 : Int) 0), (Value.int (0 : Int) 0), (Value.ref 123), (Value.int (21 : Int) 0), (Value.int (0 : Int) 0), (Value.ref 135), (Value.int (23 : Int) 0), (Value.int (0 : Int) 0), (Value.ref 147), (Value.int (25 : Int) 0), (Value.int (0 : Int) 0), (Value.ref 159), (Value.int (27 : Int) 0), (Value.int (0 : Int) 0), (Value.ref 171), (Value.int (29 : Int) 0), (Value.int (0 : Int) 0), (Value.ref 183), (Value.int (31 : Int) 0), (Value.int (0 : Int) 0), (Value.ref 195)])) (List.toArray []))),
  (66, (Obj.mk (Value.type "type") none (Data.cls (ClassData.mk (Str.ofString "TuneError") [(Value.type "ValueError")] [(Value.ref 66), (Value.type "ValueError"), (Value.type "Exception"), (Value.type "BaseException"), (Value.type "object")] 65 (Str.ofString "TuneError") Bool.true [] [(Value.ref 79), (Value.ref 91), (Value.ref 103), (Value.ref 115), (Value.ref 127), (Value.ref 139), (Value.ref 151), (Value.ref 163), (Value.ref 175), (Value.ref 187), (Value.ref 199)] Bool.false none Bool.false)) (List.toArray [(some (Value.ref 50)), none, (some (Value.str (Str.ofString "TuneError") 331)), (some (Value.str (Str.ofString "TuneError") 339)), (some (Value.builtin "ValueError.__new__")), (some (Value.bool Bool.true))]))),
  (178, (Obj.mk (Value.type "tuple") none (Data.seq (List.toArray [(Value.ref 66)]) 0) (List.toArray []))),
  (179, (Obj.mk (Value.type "builtin_function_or_method") none (Data.fields (List.toArray [(Value.builtin "type.__prepare__"), (Value.type "type")])) (List.toArray []))),
  (180, (Obj.mk (Value.type "dict") none (Data.dict (List.toArray [(DictEntry.mk (PyData.keyHash P (Str.ofString "__module__")) (Value.str (Str.ofString "__module__") 509) (Value.str (Str.ofString "turnedtunes.errors") 329)), (DictEntry.mk (PyData.keyHash P (Str.ofString "__qualname__")) (Value.str (Str.ofString "__qualname__") 511) (Value.str (Str.ofString "BadNumber") 510)), (DictEntry.mk (PyData.keyHash P (Str.ofString "__firstlineno__")) (Value.str (Str.ofString "__firstlineno__") 513) (Value.int (29 : Int) 512)), (DictEntry.mk (PyData.keyHash P (Str.ofString "__static_attributes__")) (Value.str (Str.ofString "__static_attributes__") 514) (Value.ref 185))]) 4) (List.toArray []))),
  (181, (Obj.mk (Value.type "tuple") none (Data.seq (List.toArray []) 0) (List.toArray []))),
  (182, (Obj.mk Value.none none (Data.fields (List.toArray [])) (List.toArray []))),
  (183, (Obj.mk (Value.type "code") none (Data.fields (List.toArray [(Value.str (Str.ofString "BadNumber") 504), (Value.str (Str.ofString "BadNumber") 505), (Value.str (Str.ofString "/claim/cut.py") 506), (Value.int (29 : Int) 0), (Value.int (0 : Int) 0), (Value.int (0 : Int) 0), (Value.int (0 : Int) 0), (Value.int (0 : Int) 0), (Value.ref 181), (Value.bool Bool.false), (Value.int (316 : Int) 0), (Value.ref 182), Value.none, Value.none, Value.none, Value.none, (Value.int (507 : Int) 0), (Value.int (29 : Int) 0), (Value.str (Str.ofString "/claim/cut.py") 508)])) (List.toArray []))),
  (184, (Obj.mk (Value.type "frame") none Data.plain (List.toArray [(some (Value.ref 183)), (some (Value.ref 3)), (some (Value.ref 180)), none, (some (Value.str (Str.ofString "turnedtunes.errors") 329)), none, (some (Value.ref 0))]))),
  (185, (Obj.mk (Value.type "tuple") none (Data.seq (List.toArray []) 0) (List.toArray []))),
  (186, (Obj.mk (Value.type "dict") none (Data.dict (List.toArray [(DictEntry.mk (PyData.keyHash P (Str.ofString "__module__")) (Value.str (Str.ofString "__module__") 509) (Value.str (Str.ofString "turnedtunes.errors") 329)), (DictEntry.mk (PyData.keyHash P (Str.ofString "__firstlineno__")) (Value.str (Str.ofString "__firstlineno__") 513) (Value.int (29 : Int) 512)), (DictEntry.mk (PyData.keyHash P (Str.ofString "__static_attributes__")) (Value.str (Str.ofString "__static_attributes__") 514) (Value.ref 185)), (DictEntry.mk (PyData.keyHash P (Str.ofString "__doc__")) (Value.str (Str.ofString "__doc__") 515) Value.none)]) 2) (List.toArray []))),
  (187, (Obj.mk (Value.type "type") none (Data.cls (ClassData.mk (Str.ofString "BadNumber") [(Value.ref 66)] [(Value.ref 187), (Value.ref 66), (Value.type "ValueError"), (Value.type "Exception"), (Value.type "BaseException"), (Value.type "object")] 186 (Str.ofString "BadNumber") Bool.true [] [] Bool.false none Bool.false)) (List.toArray [(some (Value.ref 178)), none, (some (Value.str (Str.ofString "BadNumber") 502)), (some (Value.str (Str.ofString "BadNumber") 510)), (some (Value.builtin "ValueError.__new__")), (some (Value.bool Bool.true))]))),
  (188, (Obj.mk (Value.type "super") none (Data.fields (List.toArray [(Value.ref 187), (Value.ref 187), (Value.ref 187)])) (List.toArray []))),
  (189, (Obj.mk (Value.type "builtin_function_or_method") none (Data.fields (List.toArray [(Value.builtin "object.__init_subclass__"), (Value.ref 187)])) (List.toArray []))),
  (190, (Obj.mk (Value.type "tuple") none (Data.seq (List.toArray [(Value.ref 66)]) 0) (List.toArray []))),
  (191, (Obj.mk (Value.type "builtin_function_or_method") none (Data.fields (List.toArray [(Value.builtin "type.__prepare__"), (Value.type "type")])) (List.toArray []))),
  (192, (Obj.mk (Value.type "dict") none (Data.dict (List.toArray [(DictEntry.mk (PyData.keyHash P (Str.ofString "__module__")) (Value.str (Str.ofString "__module__") 525) (Value.str (Str.ofString "turnedtunes.errors") 329)), (DictEntry.mk (PyData.keyHash P (Str.ofString "__qualname__")) (Value.str (Str.ofString "__qualname__") 527) (Value.str (Str.ofString "BadPieces") 526)), (DictEntry.mk (PyData.keyHash P (Str.ofString "__firstlineno__")) (Value.str (Str.ofString "__firstlineno__") 529) (Value.int (31 : Int) 528)), (DictEntry.mk (PyData.keyHash P (Str.ofString "__static_attributes__")) (Value.str (Str.ofString "__static_attributes__") 530) (Value.ref 197))]) 4) (List.toArray []))),
  (193, (Obj.mk (Value.type "tuple") none (Data.seq (List.toArray []) 0) (List.toArray []))),
  (194, (Obj.mk Value.none none (Data.fields (List.toArray [])) (List.toArray []))),
  (195, (Obj.mk (Value.type "code") none (Data.fields (List.toArray [(Value.str (Str.ofString "BadPieces") 520), (Value.str (Str.ofString "BadPieces") 521), (Value.str (Str.ofString "/claim/cut.py") 522), (Value.int (31 : Int) 0), (Value.int (0 : Int) 0), (Value.int (0 : Int) 0), (Value.int (0 : Int) 0), (Value.int (0 : Int) 0), (Value.ref 193), (Value.bool Bool.false), (Value.int (316 : Int) 0), (Value.ref 194), Value.none, Value.none, Value.none, Value.none, (Value.int (523 : Int) 0), (Value.int (31 : Int) 0), (Value.str (Str.ofString "/claim/cut.py") 524)])) (List.toArray []))),
  (196, (Obj.mk (Value.type "frame") none Data.plain (List.toArray [(some (Value.ref 195)), (some (Value.ref 3)), (some (Value.ref 192)), none, (some (Value.str (Str.ofString "turnedtunes.errors") 329)), none, (some (Value.ref 0))]))),
  (197, (Obj.mk (Value.type "tuple") none (Data.seq (List.toArray []) 0) (List.toArray []))),
  (198, (Obj.mk (Value.type "dict") none (Data.dict (List.toArray [(DictEntry.mk (PyData.keyHash P (Str.ofString "__module__")) (Value.str (Str.ofString "__module__") 525) (Value.str (Str.ofString "turnedtunes.errors") 329)), (DictEntry.mk (PyData.keyHash P (Str.ofString "__firstlineno__")) (Value.str (Str.ofString "__firstlineno__") 529) (Value.int (31 : Int) 528)), (DictEntry.mk (PyData.keyHash P (Str.ofString "__static_attributes__")) (Value.str (Str.ofString "__static_attributes__") 530) (Value.ref 197)), (DictEntry.mk (PyData.keyHash P (Str.ofString "__doc__")) (Value.str (Str.ofString "__doc__") 531) Value.none)]) 2) (List.toArray []))),
  (199, (Obj.mk (Value.type "type") none (Data.cls (ClassData.mk (Str.ofString "BadPieces") [(Value.ref 66)] [(Value.ref 199), (Value.ref 66), (Value.type "ValueError"), (Value.type "Exception"), (Value.type "BaseException"), (Value.type "object")] 198 (Str.ofString "BadPieces") Bool.true [] [] Bool.false none Bool.false)) (List.toArray [(some (Value.ref 190)), none, (some (Value.str (Str.ofString "BadPieces") 518)), (some (Value.str (Str.ofString "BadPieces") 526)), (some (Value.builtin "ValueError.__new__")), (some (Value.bool Bool.true))]))),
  (200, (Obj.mk (Value.type "super") none (Data.fields (List.toArray [(Value.ref 199), (Value.ref 199), (Value.ref 199)])) (List.toArray []))),
  (201, (Obj.mk (Value.type "builtin_function_or_method") none (Data.fields (List.toArray [(Value.builtin "object.__init_subclass__"), (Value.ref 199)])) (List.toArray [])))] (hRt7 P)
noncomputable def hRS8 (w : World) : SharedT := ⟨hRt8 w.params, 202, (Life.mk [] [] [] 0 [] [] Bool.false (List.toArray []) [] 0 Bool.false Bool.false Bool.false (0 : Int) [(2000 : Int), (10 : Int), (10 : Int)] Bool.false 0 Bool.true [] [] 0 Bool.false), (List.toArray []), (Drawn.mk 0 0 0 0), 546, (start (opening Challenge.pw_turnedtunes_k39_pieces_refused)).1.os⟩
noncomputable def hRb7 : List Stmt := ((behindTheImports Challenge.pw_turnedtunes_k39_pieces_refused).drop 12).take 6
theorem hRg7 (w : World) : segF (stepQ (denQ tabQ) Challenge.pw_turnedtunes_k39_pieces_refused w) 39 (some (Value.ref 6)) 475 (hRS7 w) (piecesOf hRb7 hRenv hRcd (Pos.mk 27 0 28 8) [topFrame (Pos.mk 0 0 0 0)]) = some (.next, hRS8 w, hRcd, (Pos.mk 36 0 36 6)) := by kernel_rfl
noncomputable def hRt9 (P : Params) : BT := putT [(3, (Obj.mk (Value.type "dict") none (Data.dict (List.toArray [(DictEntry.mk (PyData.keyHash P (Str.ofString "__name__")) (Value.str (Str.ofString "__name__") 165) (Value.str (Str.ofString "turnedtunes.steps") 646)), (DictEntry.mk (PyData.keyHash P (Str.ofString "__doc__")) (Value.str (Str.ofString "__doc__") 166) Value.none), (DictEntry.mk (PyData.keyHash P (Str.ofString "__package__")) (Value.str (Str.ofString "__package__") 167) Value.none), (DictEntry.mk (PyData.keyHash P (Str.ofString "__loader__")) (Value.str (Str.ofString "__loader__") 168) (Value.builtin "__main__.__loader__#opaque")), (DictEntry.mk (PyData.keyHash P (Str.ofString "__spec__")) (Value.str (Str.ofString "__spec__") 169) Value.none), (DictEntry.mk (PyData.keyHash P (Str.ofString "__annotations__")) (Value.str (Str.ofString "__annotations__") 170) (Value.ref 6)), (DictEntry.mk (PyData.keyHash P (Str.ofString "__builtins__")) (Value.str (Str.ofString "__builtins__") 171) (Value.ref 4)), (DictEntry.mk (PyData.keyHash P (Str.ofString "__file__")) (Value.str (Str.ofString "__file__") 173) (Value.str (Str.ofString "/claim/cut.py") 172)), (DictEntry.mk (PyData.keyHash P (Str.ofString "__cached__")) (Value.str (Str.ofString "__cached__") 174) Value.none), (DictEntry.mk (PyData.keyHash P (Str.ofString "heappop")) (Value.str (Str.ofString "heappop") 312) (Value.builtin "_heapq.heappop")), (DictEntry.mk (PyData.keyHash P (Str.ofString "heappush")) (Value.str (Str.ofString "heappush") 315) (Value.builtin "_heapq.heappush")), (DictEntry.mk (PyData.keyHash P (Str.ofString "_wall")) (Value.str (Str.ofString "_wall") 328) (Value.ref 49)), (DictEntry.mk (PyData.keyHash P (Str.ofString "TuneError")) (Value.str (Str.ofString "TuneError") 357) (Value.ref 66)), (DictEntry.mk (PyData.keyHash P (Str.ofString "BadPlace")) (Value.str (Str.ofString "BadPlace") 373) (Value.ref 79)), (DictEntry.mk (PyData.keyHash P (Str.ofString "BadLength")) (Value.str (Str.ofString "BadLength") 389) (Value.ref 91)), (DictEntry.mk (PyData.keyHash P (Str.ofString "BadAmount")) (Value.str (Str.ofString "BadAmount") 405) (Value.ref 103)), (DictEntry.mk (PyData.keyHash P (Str.ofString "BadWay")) (Value.str (Str.ofString "BadWay") 421) (Value.ref 115)), (DictEntry.mk (PyData.keyHash P (Str.ofString "BadText")) (Value.str (Str.ofString "BadText") 437) (Value.ref 127)), (DictEntry.mk (PyData.keyHash P (Str.ofString "NoPlace")) (Value.str (Str.ofString "NoPlace") 453) (Value.ref 139)), (DictEntry.mk (PyData.keyHash P (Str.ofString "BadNote")) (Value.str (Str.ofString "BadNote") 469) (Value.ref 151)), (DictEntry.mk (PyData.keyHash P (Str.ofString "BadPart")) (Value.str (Str.ofString "BadPart") 485) (Value.ref 163)), (DictEntry.mk (PyData.keyHash P (Str.ofString "NoJoint")) (Value.str (Str.ofString "NoJoint") 501) (Value.ref 175)), (DictEntry.mk (PyData.keyHash P (Str.ofString "BadNumber")) (Value.str (Str.ofString "BadNumber") 517) (Value.ref 187)), (DictEntry.mk (PyData.keyHash P (Str.ofString "BadPieces")) (Value.str (Str.ofString "BadPieces") 533) (Value.ref 199)), (DictEntry.mk (PyData.keyHash P (Str.ofString "GREATEST")) (Value.str (Str.ofString "GREATEST") 539) (Value.int (1000000000000000000000000000000 : Int) 538)), (DictEntry.mk (PyData.keyHash P (Str.ofString "_DIGITS")) (Value.str (Str.ofString "_DIGITS") 541) (Value.int (64 : Int) 540)), (DictEntry.mk (PyData.keyHash P (Str.ofString "_CHUNK")) (Value.str (Str.ofString "_CHUNK") 545) (Value.int (10000000000000000000000000000000000000000000000000000000000000000 : Int) 544)), (DictEntry.mk (PyData.keyHash P (Str.ofString "is_whole")) (Value.str (Str.ofString "is_whole") 552) (Value.ref 208)), (DictEntry.mk (PyData.keyHash P (Str.ofString "is_from")) (Value.str (Str.ofString "is_from") 560) (Value.ref 215)), (DictEntry.mk (PyData.keyHash P (Str.ofString "is_between")) (Value.str (Str.ofString "is_between") 569) (Value.ref 222)), (DictEntry.mk (PyData.keyHash P (Str.ofString "written")) (Value.str (Str.ofString "written") 578) (Value.ref 229)), (DictEntry.mk (PyData.keyHash P (Str.ofString "number_in")) (Value.str (Str.ofString "number_in") 587) (Value.ref 236)), (DictEntry.mk (PyData.keyHash P (Str.ofString "_number_of")) (Value.str (Str.ofString "_number_of") 597) (Value.ref 243)), (DictEntry.mk (PyData.keyHash P (Str.ofString "STILL")) (Value.str (Str.ofString "STILL") 601) (Value.ref 244)), (DictEntry.mk (PyData.keyHash P (Str.ofString "led_by")) (Value.str (Str.ofString "led_by") 611) (Value.ref 251)), (DictEntry.mk (PyData.keyHash P (Str.ofString "led_on")) (Value.str (Str.ofString "led_on") 619) (Value.ref 258)), (DictEntry.mk (PyData.keyHash P (Str.ofString "led_back")) (Value.str (Str.ofString "led_back") 628) (Value.ref 265)), (DictEntry.mk (PyData.keyHash P (Str.ofString "led_often")) (Value.str (Str.ofString "led_often") 638) (Value.ref 272)), (DictEntry.mk (PyData.keyHash P (Str.ofString "word_of")) (Value.str (Str.ofString "word_of") 645) (Value.ref 279))]) 39) (List.toArray []))),
  (40, (Obj.mk Value.none none (Data.fields (List.toArray [(Value.int (2 : Int) 0), (Value.int (0 : Int) 0), (Value.ref 48), (Value.int (6 : Int) 0), (Value.int (0 : Int) 0), (Value.ref 55), (Value.int (11 : Int) 0), (Value.int (0 : Int) 0), (Value.ref 75), (Value.int (13 : Int) 0), (Value.int (0 : Int) 0), (Value.ref 87), (Value.int (15 : Int) 0), (Value.int (0 : Int) 0), (Value.ref 99), (Value.int (17 : Int) 0), (Value.int (0 : Int) 0), (Value.ref 111), (Value.int (19 : Int) 0), (Value.int (0 : Int) 0), (Value.ref 123), (Value.int (21 : Int) 0), (Value.int (0 : Int) 0), (Value.ref 135), (Value.int (23 : Int) 0), (Value.int (0 : Int) 0), (Value.ref 147), (Value.int (25 : Int) 0), (Value.int (0 : Int) 0), (Value.ref 159), (Value.int (27 : Int) 0), (Value.int (0 : Int) 0), (Value.ref 171), (Value.int (29 : Int) 0), (Value.int (0 : Int) 0), (Value.ref 183), (Value.int (31 : Int) 0), (Value.int (0 : Int) 0), (Value.ref 195), (Value.int (37 : Int) 0), (Value.int (0 : Int) 0), (Value.ref 207), (Value.int (39 : Int) 0), (Value.int (0 : Int) 0), (Value.ref 214), (Value.int (41 : Int) 0), (Value.int (0 : Int) 0), (Value.ref 221), (Value.int (43 : Int) 0), (Value.int (0 : Int) 0), (Value.ref 228), (Value.int (53 : Int) 0), (Value.int (0 : Int) 0), (Value.ref 235), (Value.int (61 : Int) 0), (Value.int (0 : Int) 0), (Value.ref 242), (Value.int (69 : Int) 0), (Value.int (0 : Int) 0), (Value.ref 250), (Value.int (72 : Int) 0), (Value.int (0 : Int) 0), (Value.ref 257), (Value.int (74 : Int) 0), (Value.int (0 : Int) 0), (Value.ref 264), (Value.int (77 : Int) 0), (Value.int (0 : Int) 0), (Value.ref 271), (Value.int (82 : Int) 0), (Value.int (0 : Int) 0), (Value.ref 278)])) (List.toArray []))),
  (202, (Obj.mk (Value.type "tuple") none (Data.seq (List.toArray []) 0) (List.toArray []))),
  (203, (Obj.mk Value.none none (Data.fields (List.toArray [])) (List.toArray []))),
  (204, (Obj.mk (Value.type "tuple") none (Data.seq (List.toArray [(Value.str (Str.ofString "value") 549)]) 0) (List.toArray []))),
  (205, (Obj.mk (Value.type "tuple") none (Data.seq (List.toArray []) 0) (List.toArray []))),
  (206, (Obj.mk Value.none none (Data.func (FuncData.mk (Str.ofString "is_whole") (Str.ofString "is_whole") (L2.defArgs (top 19)) (FuncBody.stmts (L2.defBody (top 19))) (L2.defScope (top 19)) 0 [] Value.none Value.none Value.none Value.none none Value.none Value.none 0)) (List.toArray []))),
  (207, (Obj.mk (Value.type "code") none (Data.fields (List.toArray [(Value.str (Str.ofString "is_whole") 546), (Value.str (Str.ofString "is_whole") 547), (Value.str (Str.ofString "/claim/cut.py") 548), (Value.int (37 : Int) 0), (Value.int (1 : Int) 0), (Value.int (0 : Int) 0), (Value.int (0 : Int) 0), (Value.int (3 : Int) 0), (Value.ref 202), (Value.bool Bool.true), (Value.int (316 : Int) 0), (Value.ref 203), Value.none, (Value.ref 204), (Value.ref 205), (Value.ref 206), (Value.int (550 : Int) 0), (Value.int (37 : Int) 0), (Value.str (Str.ofString "/claim/cut.py") 551)])) (List.toArray []))),
  (208, (Obj.mk (Value.type "function") none (Data.func (FuncData.mk (Str.ofString "is_whole") (Str.ofString "is_whole") (L2.defArgs (top 19)) (FuncBody.stmts (L2.defBody (top 19))) (L2.defScope (top 19)) 3 [] Value.none Value.none Value.none (Value.str (Str.ofString "turnedtunes.integers") 534) none (Value.ref 207) Value.none 0)) (List.toArray []))),
  (209, (Obj.mk (Value.type "tuple") none (Data.seq (List.toArray []) 0) (List.toArray []))),
  (210, (Obj.mk Value.none none (Data.fields (List.toArray [])) (List.toArray []))),
  (211, (Obj.mk (Value.type "tuple") none (Data.seq (List.toArray [(Value.str (Str.ofString "value") 556), (Value.str (Str.ofString "least") 557)]) 0) (List.toArray []))),
  (212, (Obj.mk (Value.type "tuple") none (Data.seq (List.toArray []) 0) (List.toArray []))),
  (213, (Obj.mk Value.none none (Data.func (FuncData.mk (Str.ofString "is_from") (Str.ofString "is_from") (L2.defArgs (top 20)) (FuncBody.stmts (L2.defBody (top 20))) (L2.defScope (top 20)) 0 [] Value.none Value.none Value.none Value.none none Value.none Value.none 0)) (List.toArray []))),
  (214, (Obj.mk (Value.type "code") none (Data.fields (List.toArray [(Value.str (Str.ofString "is_from") 553), (Value.str (Str.ofString "is_from") 554), (Value.str (Str.ofString "/claim/cut.py") 555), (Value.int (39 : Int) 0), (Value.int (2 : Int) 0), (Value.int (0 : Int) 0), (Value.int (0 : Int) 0), (Value.int (3 : Int) 0), (Value.ref 209), (Value.bool Bool.true), (Value.int (316 : Int) 0), (Value.ref 210), Value.none, (Value.ref 211), (Value.ref 212), (Value.ref 213), (Value.int (558 : Int) 0), (Value.int (39 : Int) 0), (Value.str (Str.ofString "/claim/cut.py") 559)])) (List.toArray []))),
  (215, (Obj.mk (Value.type "function") none (Data.func (FuncData.mk (Str.ofString "is_from") (Str.ofString "is_from") (L2.defArgs (top 20)) (FuncBody.stmts (L2.defBody (top 20))) (L2.defScope (top 20)) 3 [] Value.none Value.none Value.none (Value.str (Str.ofString "turnedtunes.integers") 534) none (Value.ref 214) Value.none 0)) (List.toArray []))),
  (216, (Obj.mk (Value.type "tuple") none (Data.seq (List.toArray []) 0) (List.toArray []))),
  (217, (Obj.mk Value.none none (Data.fields (List.toArray [])) (List.toArray []))),
  (218, (Obj.mk (Value.type "tuple") none (Data.seq (List.toArray [(Value.str (Str.ofString "value") 564), (Value.str (Str.ofString "least") 565), (Value.str (Str.ofString "greatest") 566)]) 0) (List.toArray []))),
  (219, (Obj.mk (Value.type "tuple") none (Data.seq (List.toArray []) 0) (List.toArray []))),
  (220, (Obj.mk Value.none none (Data.func (FuncData.mk (Str.ofString "is_between") (Str.ofString "is_between") (L2.defArgs (top 21)) (FuncBody.stmts (L2.defBody (top 21))) (L2.defScope (top 21)) 0 [] Value.none Value.none Value.none Value.none none Value.none Value.none 0)) (List.toArray []))),
  (221, (Obj.mk (Value.type "code") none (Data.fields (List.toArray [(Value.str (Str.ofString "is_between") 561), (Value.str (Str.ofString "is_between") 562), (Value.str (Str.ofString "/claim/cut.py") 563), (Value.int (41 : Int) 0), (Value.int (3 : Int) 0), (Value.int (0 : Int) 0), (Value.int (0 : Int) 0), (Value.int (3 : Int) 0), (Value.ref 216), (Value.bool Bool.true), (Value.int (316 : Int) 0), (Value.ref 217), Value.none, (Value.ref 218), (Value.ref 219), (Value.ref 220), (Value.int (567 : Int) 0), (Value.int (41 : Int) 0), (Value.str (Str.ofString "/claim/cut.py") 568)])) (List.toArray []))),
  (222, (Obj.mk (Value.type "function") none (Data.func (FuncData.mk (Str.ofString "is_between") (Str.ofString "is_between") (L2.defArgs (top 21)) (FuncBody.stmts (L2.defBody (top 21))) (L2.defScope (top 21)) 3 [] Value.none Value.none Value.none (Value.str (Str.ofString "turnedtunes.integers") 534) none (Value.ref 221) Value.none 0)) (List.toArray []))),
  (223, (Obj.mk (Value.type "tuple") none (Data.seq (List.toArray []) 0) (List.toArray []))),
  (224, (Obj.mk Value.none none (Data.fields (List.toArray [])) (List.toArray []))),
  (225, (Obj.mk (Value.type "tuple") none (Data.seq (List.toArray [(Value.str (Str.ofString "number") 573), (Value.str (Str.ofString "rest") 574), (Value.str (Str.ofString "chunks") 575)]) 0) (List.toArray []))),
  (226, (Obj.mk (Value.type "tuple") none (Data.seq (List.toArray []) 0) (List.toArray []))),
  (227, (Obj.mk Value.none none (Data.func (FuncData.mk (Str.ofString "written") (Str.ofString "written") (L2.defArgs (top 22)) (FuncBody.stmts (L2.defBody (top 22))) (L2.defScope (top 22)) 0 [] Value.none Value.none Value.none Value.none none Value.none Value.none 0)) (List.toArray []))),
  (228, (Obj.mk (Value.type "code") none (Data.fields (List.toArray [(Value.str (Str.ofString "written") 570), (Value.str (Str.ofString "written") 571), (Value.str (Str.ofString "/claim/cut.py") 572), (Value.int (43 : Int) 0), (Value.int (1 : Int) 0), (Value.int (0 : Int) 0), (Value.int (0 : Int) 0), (Value.int (3 : Int) 0), (Value.ref 223), (Value.bool Bool.true), (Value.int (316 : Int) 0), (Value.ref 224), Value.none, (Value.ref 225), (Value.ref 226), (Value.ref 227), (Value.int (576 : Int) 0), (Value.int (43 : Int) 0), (Value.str (Str.ofString "/claim/cut.py") 577)])) (List.toArray []))),
  (229, (Obj.mk (Value.type "function") none (Data.func (FuncData.mk (Str.ofString "written") (Str.ofString "written") (L2.defArgs (top 22)) (FuncBody.stmts (L2.defBody (top 22))) (L2.defScope (top 22)) 3 [] Value.none Value.none Value.none (Value.str (Str.ofString "turnedtunes.integers") 534) none (Value.ref 228) Value.none 0)) (List.toArray []))),
  (230, (Obj.mk (Value.type "tuple") none (Data.seq (List.toArray []) 0) (List.toArray []))),
  (231, (Obj.mk Value.none none (Data.fields (List.toArray [])) (List.toArray []))),
  (232, (Obj.mk (Value.type "tuple") none (Data.seq (List.toArray [(Value.str (Str.ofString "word") 582), (Value.str (Str.ofString "digits") 583), (Value.str (Str.ofString "number") 584)]) 0) (List.toArray []))),
  (233, (Obj.mk (Value.type "tuple") none (Data.seq (List.toArray []) 0) (List.toArray []))),
  (234, (Obj.mk Value.none none (Data.func (FuncData.mk (Str.ofString "number_in") (Str.ofString "number_in") (L2.defArgs (top 23)) (FuncBody.stmts (L2.defBody (top 23))) (L2.defScope (top 23)) 0 [] Value.none Value.none Value.none Value.none none Value.none Value.none 0)) (List.toArray []))),
  (235, (Obj.mk (Value.type "code") none (Data.fields (List.toArray [(Value.str (Str.ofString "number_in") 579), (Value.str (Str.ofString "number_in") 580), (Value.str (Str.ofString "/claim/cut.py") 581), (Value.int (53 : Int) 0), (Value.int (1 : Int) 0), (Value.int (0 : Int) 0), (Value.int (0 : Int) 0), (Value.int (3 : Int) 0), (Value.ref 230), (Value.bool Bool.true), (Value.int (316 : Int) 0), (Value.ref 231), Value.none, (Value.ref 232), (Value.ref 233), (Value.ref 234), (Value.int (585 : Int) 0), (Value.int (53 : Int) 0), (Value.str (Str.ofString "/claim/cut.py") 586)])) (List.toArray []))),
  (236, (Obj.mk (Value.type "function") none (Data.func (FuncData.mk (Str.ofString "number_in") (Str.ofString "number_in") (L2.defArgs (top 23)) (FuncBody.stmts (L2.defBody (top 23))) (L2.defScope (top 23)) 3 [] Value.none Value.none Value.none (Value.str (Str.ofString "turnedtunes.integers") 534) none (Value.ref 235) Value.none 0)) (List.toArray []))),
  (237, (Obj.mk (Value.type "tuple") none (Data.seq (List.toArray []) 0) (List.toArray []))),
  (238, (Obj.mk Value.none none (Data.fields (List.toArray [])) (List.toArray []))),
  (239, (Obj.mk (Value.type "tuple") none (Data.seq (List.toArray [(Value.str (Str.ofString "digits") 591), (Value.str (Str.ofString "head") 592), (Value.str (Str.ofString "number") 593), (Value.str (Str.ofString "at") 594)]) 0) (List.toArray []))),
  (240, (Obj.mk (Value.type "tuple") none (Data.seq (List.toArray []) 0) (List.toArray []))),
  (241, (Obj.mk Value.none none (Data.func (FuncData.mk (Str.ofString "_number_of") (Str.ofString "_number_of") (L2.defArgs (top 24)) (FuncBody.stmts (L2.defBody (top 24))) (L2.defScope (top 24)) 0 [] Value.none Value.none Value.none Value.none none Value.none Value.none 0)) (List.toArray []))),
  (242, (Obj.mk (Value.type "code") none (Data.fields (List.toArray [(Value.str (Str.ofString "_number_of") 588), (Value.str (Str.ofString "_number_of") 589), (Value.str (Str.ofString "/claim/cut.py") 590), (Value.int (61 : Int) 0), (Value.int (1 : Int) 0), (Value.int (0 : Int) 0), (Value.int (0 : Int) 0), (Value.int (3 : Int) 0), (Value.ref 237), (Value.bool Bool.true), (Value.int (316 : Int) 0), (Value.ref 238), Value.none, (Value.ref 239), (Value.ref 240), (Value.ref 241), (Value.int (595 : Int) 0), (Value.int (61 : Int) 0), (Value.str (Str.ofString "/claim/cut.py") 596)])) (List.toArray []))),
  (243, (Obj.mk (Value.type "function") none (Data.func (FuncData.mk (Str.ofString "_number_of") (Str.ofString "_number_of") (L2.defArgs (top 24)) (FuncBody.stmts (L2.defBody (top 24))) (L2.defScope (top 24)) 3 [] Value.none Value.none Value.none (Value.str (Str.ofString "turnedtunes.integers") 534) none (Value.ref 242) Value.none 0)) (List.toArray []))),
  (244, (Obj.mk (Value.type "tuple") none (Data.seq (List.toArray [(Value.int (0 : Int) 600), (Value.bool Bool.false)]) 0) (List.toArray []))),
  (245, (Obj.mk (Value.type "tuple") none (Data.seq (List.toArray []) 0) (List.toArray []))),
  (246, (Obj.mk Value.none none (Data.fields (List.toArray [])) (List.toArray []))),
  (247, (Obj.mk (Value.type "tuple") none (Data.seq (List.toArray [(Value.str (Str.ofString "lead") 605), (Value.str (Str.ofString "note") 606), (Value.str (Str.ofString "amount") 607), (Value.str (Str.ofString "down") 608)]) 0) (List.toArray []))),
  (248, (Obj.mk (Value.type "tuple") none (Data.seq (List.toArray []) 0) (List.toArray []))),
  (249, (Obj.mk Value.none none (Data.func (FuncData.mk (Str.ofString "led_by") (Str.ofString "led_by") (L2.defArgs (top 27)) (FuncBody.stmts (L2.defBody (top 27))) (L2.defScope (top 27)) 0 [] Value.none Value.none Value.none Value.none none Value.none Value.none 0)) (List.toArray []))),
  (250, (Obj.mk (Value.type "code") none (Data.fields (List.toArray [(Value.str (Str.ofString "led_by") 602), (Value.str (Str.ofString "led_by") 603), (Value.str (Str.ofString "/claim/cut.py") 604), (Value.int (69 : Int) 0), (Value.int (2 : Int) 0), (Value.int (0 : Int) 0), (Value.int (0 : Int) 0), (Value.int (3 : Int) 0), (Value.ref 245), (Value.bool Bool.true), (Value.int (316 : Int) 0), (Value.ref 246), Value.none, (Value.ref 247), (Value.ref 248), (Value.ref 249), (Value.int (609 : Int) 0), (Value.int (69 : Int) 0), (Value.str (Str.ofString "/claim/cut.py") 610)])) (List.toArray []))),
  (251, (Obj.mk (Value.type "function") none (Data.func (FuncData.mk (Str.ofString "led_by") (Str.ofString "led_by") (L2.defArgs (top 27)) (FuncBody.stmts (L2.defBody (top 27))) (L2.defScope (top 27)) 3 [] Value.none Value.none Value.none (Value.str (Str.ofString "turnedtunes.leads") 598) none (Value.ref 250) Value.none 0)) (List.toArray []))),
  (252, (Obj.mk (Value.type "tuple") none (Data.seq (List.toArray []) 0) (List.toArray []))),
  (253, (Obj.mk Value.none none (Data.fields (List.toArray [])) (List.toArray []))),
  (254, (Obj.mk (Value.type "tuple") none (Data.seq (List.toArray [(Value.str (Str.ofString "lead") 615), (Value.str (Str.ofString "other") 616)]) 0) (List.toArray []))),
  (255, (Obj.mk (Value.type "tuple") none (Data.seq (List.toArray []) 0) (List.toArray []))),
  (256, (Obj.mk Value.none none (Data.func (FuncData.mk (Str.ofString "led_on") (Str.ofString "led_on") (L2.defArgs (top 28)) (FuncBody.stmts (L2.defBody (top 28))) (L2.defScope (top 28)) 0 [] Value.none Value.none Value.none Value.none none Value.none Value.none 0)) (List.toArray []))),
  (257, (Obj.mk (Value.type "code") none (Data.fields (List.toArray [(Value.str (Str.ofString "led_on") 612), (Value.str (Str.ofString "led_on") 613), (Value.str (Str.ofString "/claim/cut.py") 614), (Value.int (72 : Int) 0), (Value.int (2 : Int) 0), (Value.int (0 : Int) 0), (Value.int (0 : Int) 0), (Value.int (3 : Int) 0), (Value.ref 252), (Value.bool Bool.true), (Value.int (316 : Int) 0), (Value.ref 253), Value.none, (Value.ref 254), (Value.ref 255), (Value.ref 256), (Value.int (617 : Int) 0), (Value.int (72 : Int) 0), (Value.str (Str.ofString "/claim/cut.py") 618)])) (List.toArray []))),
  (258, (Obj.mk (Value.type "function") none (Data.func (FuncData.mk (Str.ofString "led_on") (Str.ofString "led_on") (L2.defArgs (top 28)) (FuncBody.stmts (L2.defBody (top 28))) (L2.defScope (top 28)) 3 [] Value.none Value.none Value.none (Value.str (Str.ofString "turnedtunes.leads") 598) none (Value.ref 257) Value.none 0)) (List.toArray []))),
  (259, (Obj.mk (Value.type "tuple") none (Data.seq (List.toArray []) 0) (List.toArray []))),
  (260, (Obj.mk Value.none none (Data.fields (List.toArray [])) (List.toArray []))),
  (261, (Obj.mk (Value.type "tuple") none (Data.seq (List.toArray [(Value.str (Str.ofString "lead") 623), (Value.str (Str.ofString "amount") 624), (Value.str (Str.ofString "down") 625)]) 0) (List.toArray []))),
  (262, (Obj.mk (Value.type "tuple") none (Data.seq (List.toArray []) 0) (List.toArray []))),
  (263, (Obj.mk Value.none none (Data.func (FuncData.mk (Str.ofString "led_back") (Str.ofString "led_back") (L2.defArgs (top 29)) (FuncBody.stmts (L2.defBody (top 29))) (L2.defScope (top 29)) 0 [] Value.none Value.none Value.none Value.none none Value.none Value.none 0)) (List.toArray []))),
  (264, (Obj.mk (Value.type "code") none (Data.fields (List.toArray [(Value.str (Str.ofString "led_back") 620), (Value.str (Str.ofString "led_back") 621), (Value.str (Str.ofString "/claim/cut.py") 622), (Value.int (74 : Int) 0), (Value.int (1 : Int) 0), (Value.int (0 : Int) 0), (Value.int (0 : Int) 0), (Value.int (3 : Int) 0), (Value.ref 259), (Value.bool Bool.true), (Value.int (316 : Int) 0), (Value.ref 260), Value.none, (Value.ref 261), (Value.ref 262), (Value.ref 263), (Value.int (626 : Int) 0), (Value.int (74 : Int) 0), (Value.str (Str.ofString "/claim/cut.py") 627)])) (List.toArray []))),
  (265, (Obj.mk (Value.type "function") none (Data.func (FuncData.mk (Str.ofString "led_back") (Str.ofString "led_back") (L2.defArgs (top 29)) (FuncBody.stmts (L2.defBody (top 29))) (L2.defScope (top 29)) 3 [] Value.none Value.none Value.none (Value.str (Str.ofString "turnedtunes.leads") 598) none (Value.ref 264) Value.none 0)) (List.toArray []))),
  (266, (Obj.mk (Value.type "tuple") none (Data.seq (List.toArray []) 0) (List.toArray []))),
  (267, (Obj.mk Value.none none (Data.fields (List.toArray [])) (List.toArray []))),
  (268, (Obj.mk (Value.type "tuple") none (Data.seq (List.toArray [(Value.str (Str.ofString "lead") 632), (Value.str (Str.ofString "many") 633), (Value.str (Str.ofString "amount") 634), (Value.str (Str.ofString "down") 635)]) 0) (List.toArray []))),
  (269, (Obj.mk (Value.type "tuple") none (Data.seq (List.toArray []) 0) (List.toArray []))),
  (270, (Obj.mk Value.none none (Data.func (FuncData.mk (Str.ofString "led_often") (Str.ofString "led_often") (L2.defArgs (top 30)) (FuncBody.stmts (L2.defBody (top 30))) (L2.defScope (top 30)) 0 [] Value.none Value.none Value.none Value.none none Value.none Value.none 0)) (List.toArray []))),
  (271, (Obj.mk (Value.type "code") none (Data.fields (List.toArray [(Value.str (Str.ofString "led_often") 629), (Value.str (Str.ofString "led_often") 630), (Value.str (Str.ofString "/claim/cut.py") 631), (Value.int (77 : Int) 0), (Value.int (2 : Int) 0), (Value.int (0 : Int) 0), (Value.int (0 : Int) 0), (Value.int (3 : Int) 0), (Value.ref 266), (Value.bool Bool.true), (Value.int (316 : Int) 0), (Value.ref 267), Value.none, (Value.ref 268), (Value.ref 269), (Value.ref 270), (Value.int (636 : Int) 0), (Value.int (77 : Int) 0), (Value.str (Str.ofString "/claim/cut.py") 637)])) (List.toArray []))),
  (272, (Obj.mk (Value.type "function") none (Data.func (FuncData.mk (Str.ofString "led_often") (Str.ofString "led_often") (L2.defArgs (top 30)) (FuncBody.stmts (L2.defBody (top 30))) (L2.defScope (top 30)) 3 [] Value.none Value.none Value.none (Value.str (Str.ofString "turnedtunes.leads") 598) none (Value.ref 271) Value.none 0)) (List.toArray []))),
  (273, (Obj.mk (Value.type "tuple") none (Data.seq (List.toArray []) 0) (List.toArray []))),
  (274, (Obj.mk Value.none none (Data.fields (List.toArray [])) (List.toArray []))),
  (275, (Obj.mk (Value.type "tuple") none (Data.seq (List.toArray [(Value.str (Str.ofString "lead") 642)]) 0) (List.toArray []))),
  (276, (Obj.mk (Value.type "tuple") none (Data.seq (List.toArray []) 0) (List.toArray []))),
  (277, (Obj.mk Value.none none (Data.func (FuncData.mk (Str.ofString "word_of") (Str.ofString "word_of") (L2.defArgs (top 31)) (FuncBody.stmts (L2.defBody (top 31))) (L2.defScope (top 31)) 0 [] Value.none Value.none Value.none Value.none none Value.none Value.none 0)) (List.toArray []))),
  (278, (Obj.mk (Value.type "code") none (Data.fields (List.toArray [(Value.str (Str.ofString "word_of") 639), (Value.str (Str.ofString "word_of") 640), (Value.str (Str.ofString "/claim/cut.py") 641), (Value.int (82 : Int) 0), (Value.int (1 : Int) 0), (Value.int (0 : Int) 0), (Value.int (0 : Int) 0), (Value.int (3 : Int) 0), (Value.ref 273), (Value.bool Bool.true), (Value.int (316 : Int) 0), (Value.ref 274), Value.none, (Value.ref 275), (Value.ref 276), (Value.ref 277), (Value.int (643 : Int) 0), (Value.int (82 : Int) 0), (Value.str (Str.ofString "/claim/cut.py") 644)])) (List.toArray []))),
  (279, (Obj.mk (Value.type "function") none (Data.func (FuncData.mk (Str.ofString "word_of") (Str.ofString "word_of") (L2.defArgs (top 31)) (FuncBody.stmts (L2.defBody (top 31))) (L2.defScope (top 31)) 3 [] Value.none Value.none Value.none (Value.str (Str.ofString "turnedtunes.leads") 598) none (Value.ref 278) Value.none 0)) (List.toArray [])))] (hRt8 P)
noncomputable def hRS9 (w : World) : SharedT := ⟨hRt9 w.params, 280, (Life.mk [] [] [] 0 [] [] Bool.false (List.toArray []) [] 0 Bool.false Bool.false Bool.false (0 : Int) [(2000 : Int), (10 : Int), (10 : Int)] Bool.false 0 Bool.true [] [] 0 Bool.false), (List.toArray []), (Drawn.mk 0 0 0 0), 648, (start (opening Challenge.pw_turnedtunes_k39_pieces_refused)).1.os⟩
noncomputable def hRb8 : List Stmt := ((behindTheImports Challenge.pw_turnedtunes_k39_pieces_refused).drop 18).take 14
theorem hRg8 (w : World) : segF (stepQ (denQ tabQ) Challenge.pw_turnedtunes_k39_pieces_refused w) 39 (some (Value.ref 6)) 368 (hRS8 w) (piecesOf hRb8 hRenv hRcd (Pos.mk 36 0 36 6) [topFrame (Pos.mk 0 0 0 0)]) = some (.next, hRS9 w, hRcd, (Pos.mk 84 0 84 8)) := by kernel_rfl
noncomputable def hRt10 (P : Params) : BT := putT [(3, (Obj.mk (Value.type "dict") none (Data.dict (List.toArray [(DictEntry.mk (PyData.keyHash P (Str.ofString "__name__")) (Value.str (Str.ofString "__name__") 165) (Value.str (Str.ofString "turnedtunes.links") 716)), (DictEntry.mk (PyData.keyHash P (Str.ofString "__doc__")) (Value.str (Str.ofString "__doc__") 166) Value.none), (DictEntry.mk (PyData.keyHash P (Str.ofString "__package__")) (Value.str (Str.ofString "__package__") 167) Value.none), (DictEntry.mk (PyData.keyHash P (Str.ofString "__loader__")) (Value.str (Str.ofString "__loader__") 168) (Value.builtin "__main__.__loader__#opaque")), (DictEntry.mk (PyData.keyHash P (Str.ofString "__spec__")) (Value.str (Str.ofString "__spec__") 169) Value.none), (DictEntry.mk (PyData.keyHash P (Str.ofString "__annotations__")) (Value.str (Str.ofString "__annotations__") 170) (Value.ref 6)), (DictEntry.mk (PyData.keyHash P (Str.ofString "__builtins__")) (Value.str (Str.ofString "__builtins__") 171) (Value.ref 4)), (DictEntry.mk (PyData.keyHash P (Str.ofString "__file__")) (Value.str (Str.ofString "__file__") 173) (Value.str (Str.ofString "/claim/cut.py") 172)), (DictEntry.mk (PyData.keyHash P (Str.ofString "__cached__")) (Value.str (Str.ofString "__cached__") 174) Value.none), (DictEntry.mk (PyData.keyHash P (Str.ofString "heappop")) (Value.str (Str.ofString "heappop") 312) (Value.builtin "_heapq.heappop")), (DictEntry.mk (PyData.keyHash P (Str.ofString "heappush")) (Value.str (Str.ofString "heappush") 315) (Value.builtin "_heapq.heappush")), (DictEntry.mk (PyData.keyHash P (Str.ofString "_wall")) (Value.str (Str.ofString "_wall") 328) (Value.ref 49)), (DictEntry.mk (PyData.keyHash P (Str.ofString "TuneError")) (Value.str (Str.ofString "TuneError") 357) (Value.ref 66)), (DictEntry.mk (PyData.keyHash P (Str.ofString "BadPlace")) (Value.str (Str.ofString "BadPlace") 373) (Value.ref 79)), (DictEntry.mk (PyData.keyHash P (Str.ofString "BadLength")) (Value.str (Str.ofString "BadLength") 389) (Value.ref 91)), (DictEntry.mk (PyData.keyHash P (Str.ofString "BadAmount")) (Value.str (Str.ofString "BadAmount") 405) (Value.ref 103)), (DictEntry.mk (PyData.keyHash P (Str.ofString "BadWay")) (Value.str (Str.ofString "BadWay") 421) (Value.ref 115)), (DictEntry.mk (PyData.keyHash P (Str.ofString "BadText")) (Value.str (Str.ofString "BadText") 437) (Value.ref 127)), (DictEntry.mk (PyData.keyHash P (Str.ofString "NoPlace")) (Value.str (Str.ofString "NoPlace") 453) (Value.ref 139)), (DictEntry.mk (PyData.keyHash P (Str.ofString "BadNote")) (Value.str (Str.ofString "BadNote") 469) (Value.ref 151)), (DictEntry.mk (PyData.keyHash P (Str.ofString "BadPart")) (Value.str (Str.ofString "BadPart") 485) (Value.ref 163)), (DictEntry.mk (PyData.keyHash P (Str.ofString "NoJoint")) (Value.str (Str.ofString "NoJoint") 501) (Value.ref 175)), (DictEntry.mk (PyData.keyHash P (Str.ofString "BadNumber")) (Value.str (Str.ofString "BadNumber") 517) (Value.ref 187)), (DictEntry.mk (PyData.keyHash P (Str.ofString "BadPieces")) (Value.str (Str.ofString "BadPieces") 533) (Value.ref 199)), (DictEntry.mk (PyData.keyHash P (Str.ofString "GREATEST")) (Value.str (Str.ofString "GREATEST") 539) (Value.int (1000000000000000000000000000000 : Int) 538)), (DictEntry.mk (PyData.keyHash P (Str.ofString "_DIGITS")) (Value.str (Str.ofString "_DIGITS") 541) (Value.int (64 : Int) 540)), (DictEntry.mk (PyData.keyHash P (Str.ofString "_CHUNK")) (Value.str (Str.ofString "_CHUNK") 545) (Value.int (10000000000000000000000000000000000000000000000000000000000000000 : Int) 544)), (DictEntry.mk (PyData.keyHash P (Str.ofString "is_whole")) (Value.str (Str.ofString "is_whole") 552) (Value.ref 208)), (DictEntry.mk (PyData.keyHash P (Str.ofString "is_from")) (Value.str (Str.ofString "is_from") 560) (Value.ref 215)), (DictEntry.mk (PyData.keyHash P (Str.ofString "is_between")) (Value.str (Str.ofString "is_between") 569) (Value.ref 222)), (DictEntry.mk (PyData.keyHash P (Str.ofString "written")) (Value.str (Str.ofString "written") 578) (Value.ref 229)), (DictEntry.mk (PyData.keyHash P (Str.ofString "number_in")) (Value.str (Str.ofString "number_in") 587) (Value.ref 236)), (DictEntry.mk (PyData.keyHash P (Str.ofString "_number_of")) (Value.str (Str.ofString "_number_of") 597) (Value.ref 243)), (DictEntry.mk (PyData.keyHash P (Str.ofString "STILL")) (Value.str (Str.ofString "STILL") 601) (Value.ref 244)), (DictEntry.mk (PyData.keyHash P (Str.ofString "led_by")) (Value.str (Str.ofString "led_by") 611) (Value.ref 251)), (DictEntry.mk (PyData.keyHash P (Str.ofString "led_on")) (Value.str (Str.ofString "led_on") 619) (Value.ref 258)), (DictEntry.mk (PyData.keyHash P (Str.ofString "led_back")) (Value.str (Str.ofString "led_back") 628) (Value.ref 265)), (DictEntry.mk (PyData.keyHash P (Str.ofString "led_often")) (Value.str (Str.ofString "led_often") 638) (Value.ref 272)), (DictEntry.mk (PyData.keyHash P (Str.ofString "word_of")) (Value.str (Str.ofString "word_of") 645) (Value.ref 279)), (DictEntry.mk (PyData.keyHash P (Str.ofString "Step")) (Value.str (Str.ofString "Step") 677) (Value.ref 294)), (DictEntry.mk (PyData.keyHash P (Str.ofString "step_given")) (Value.str (Str.ofString "step_given") 683) (Value.ref 305)), (DictEntry.mk (PyData.keyHash P (Str.ofString "step_back")) (Value.str (Str.ofString "step_back") 690) (Value.ref 312)), (DictEntry.mk (PyData.keyHash P (Str.ofString "step_joined")) (Value.str (Str.ofString "step_joined") 698) (Value.ref 319)), (DictEntry.mk (PyData.keyHash P (Str.ofString "step_times")) (Value.str (Str.ofString "step_times") 706) (Value.ref 326)), (DictEntry.mk (PyData.keyHash P (Str.ofString "step_part")) (Value.str (Str.ofString "step_part") 715) (Value.ref 333))]) 45) (List.toArray []))),
  (40, (Obj.mk Value.none none (Data.fields (List.toArray [(Value.int (2 : Int) 0), (Value.int (0 : Int) 0), (Value.ref 48), (Value.int (6 : Int) 0), (Value.int (0 : Int) 0), (Value.ref 55), (Value.int (11 : Int) 0), (Value.int (0 : Int) 0), (Value.ref 75), (Value.int (13 : Int) 0), (Value.int (0 : Int) 0), (Value.ref 87), (Value.int (15 : Int) 0), (Value.int (0 : Int) 0), (Value.ref 99), (Value.int (17 : Int) 0), (Value.int (0 : Int) 0), (Value.ref 111), (Value.int (19 : Int) 0), (Value.int (0 : Int) 0), (Value.ref 123), (Value.int (21 : Int) 0), (Value.int (0 : Int) 0), (Value.ref 135), (Value.int (23 : Int) 0), (Value.int (0 : Int) 0), (Value.ref 147), (Value.int (25 : Int) 0), (Value.int (0 : Int) 0), (Value.ref 159), (Value.int (27 : Int) 0), (Value.int (0 : Int) 0), (Value.ref 171), (Value.int (29 : Int) 0), (Value.int (0 : Int) 0), (Value.ref 183), (Value.int (31 : Int) 0), (Value.int (0 : Int) 0), (Value.ref 195), (Value.int (37 : Int) 0), (Value.int (0 : Int) 0), (Value.ref 207), (Value.int (39 : Int) 0), (Value.int (0 : Int) 0), (Value.ref 214), (Value.int (41 : Int) 0), (Value.int (0 : Int) 0), (Value.ref 221), (Value.int (43 : Int) 0), (Value.int (0 : Int) 0), (Value.ref 228), (Value.int (53 : Int) 0), (Value.int (0 : Int) 0), (Value.ref 235), (Value.int (61 : Int) 0), (Value.int (0 : Int) 0), (Value.ref 242), (Value.int (69 : Int) 0), (Value.int (0 : Int) 0), (Value.ref 250), (Value.int (72 : Int) 0), (Value.int (0 : Int) 0), (Value.ref 257), (Value.int (74 : Int) 0), (Value.int (0 : Int) 0), (Value.ref 264), (Value.int (77 : Int) 0), (Value.int (0 : Int) 0), (Value.ref 271), (Value.int (82 : Int) 0), (Value.int (0 : Int) 0), (Value.ref 278), (Value.int (85 : Int) 0), (Value.int (0 : Int) 0), (Value.ref 285), (Value.int (92 : Int) 0), (Value.int (0 : Int) 0), (Value.ref 304), (Value.int (94 : Int) 0), (Value.int (0 : Int) 0), (Value.ref 311), (Value.int (96 : Int) 0), (Value.int (0 : Int) 0), (Value.ref 318), (Value.int (98 : Int) 0), (Value.int (0 : Int) 0), (Value.ref 325), (Value.int (100 : Int) 0), (Value.int (0 : Int) 0), (Value.ref 332)])) (List.toArray []))),
  (280, (Obj.mk (Value.type "tuple") none (Data.seq (List.toArray []) 0) (List.toArray []))),
  (281, (Obj.mk (Value.type "builtin_function_or_method") none (Data.fields (List.toArray [(Value.builtin "type.__prepare__"), (Value.type "type")])) (List.toArray []))),
  (282, (Obj.mk (Value.type "dict") none (Data.dict (List.toArray [(DictEntry.mk (PyData.keyHash P (Str.ofString "__module__")) (Value.str (Str.ofString "__module__") 655) (Value.str (Str.ofString "turnedtunes.steps") 646)), (DictEntry.mk (PyData.keyHash P (Str.ofString "__qualname__")) (Value.str (Str.ofString "__qualname__") 657) (Value.str (Str.ofString "Step") 656)), (DictEntry.mk (PyData.keyHash P (Str.ofString "__firstlineno__")) (Value.str (Str.ofString "__firstlineno__") 659) (Value.int (85 : Int) 658)), (DictEntry.mk (PyData.keyHash P (Str.ofString "__init__")) (Value.str (Str.ofString "__init__") 665) (Value.ref 291)), (DictEntry.mk (PyData.keyHash P (Str.ofString "__static_attributes__")) (Value.str (Str.ofString "__static_attributes__") 670) (Value.ref 292))]) 5) (List.toArray []))),
  (283, (Obj.mk (Value.type "tuple") none (Data.seq (List.toArray []) 0) (List.toArray []))),
  (284, (Obj.mk Value.none none (Data.fields (List.toArray [(Value.int (87 : Int) 0), (Value.int (4 : Int) 0), (Value.ref 290)])) (List.toArray []))),
  (285, (Obj.mk (Value.type "code") none (Data.fields (List.toArray [(Value.str (Str.ofString "Step") 650), (Value.str (Str.ofString "Step") 651), (Value.str (Str.ofString "/claim/cut.py") 652), (Value.int (85 : Int) 0), (Value.int (0 : Int) 0), (Value.int (0 : Int) 0), (Value.int (0 : Int) 0), (Value.int (0 : Int) 0), (Value.ref 283), (Value.bool Bool.false), (Value.int (316 : Int) 0), (Value.ref 284), Value.none, Value.none, Value.none, Value.none, (Value.int (653 : Int) 0), (Value.int (85 : Int) 0), (Value.str (Str.ofString "/claim/cut.py") 654)])) (List.toArray []))),
  (286, (Obj.mk (Value.type "frame") none Data.plain (List.toArray [(some (Value.ref 285)), (some (Value.ref 3)), (some (Value.ref 282)), none, (some (Value.str (Str.ofString "turnedtunes.steps") 646)), none, (some (Value.ref 0))]))),
  (287, (Obj.mk (Value.type "tuple") none (Data.seq (List.toArray []) 0) (List.toArray []))),
  (288, (Obj.mk Value.none none (Data.fields (List.toArray [])) (List.toArray []))),
  (289, (Obj.mk Value.none none (Data.func (FuncData.mk (Str.ofString "__init__") (Str.ofString "Step.__init__") (L2.defArgs (inClass (top 33) 0)) (FuncBody.stmts (L2.defBody (inClass (top 33) 0))) (L2.defScope (inClass (top 33) 0)) 0 [] Value.none Value.none Value.none Value.none none Value.none Value.none 0)) (List.toArray []))),
  (290, (Obj.mk (Value.type "code") none (Data.fields (List.toArray [(Value.str (Str.ofString "__init__") 660), (Value.str (Str.ofString "Step.__init__") 661), (Value.str (Str.ofString "/claim/cut.py") 662), (Value.int (87 : Int) 0), (Value.int (4 : Int) 0), (Value.int (0 : Int) 0), (Value.int (0 : Int) 0), (Value.int (3 : Int) 0), (Value.ref 287), (Value.bool Bool.true), (Value.int (316 : Int) 0), (Value.ref 288), Value.none, Value.none, Value.none, (Value.ref 289), (Value.int (663 : Int) 0), (Value.int (87 : Int) 0), (Value.str (Str.ofString "/claim/cut.py") 664)])) (List.toArray []))),
  (291, (Obj.mk (Value.type "function") none (Data.func (FuncData.mk (Str.ofString "__init__") (Str.ofString "Step.__init__") (L2.defArgs (inClass (top 33) 0)) (FuncBody.stmts (L2.defBody (inClass (top 33) 0))) (L2.defScope (inClass (top 33) 0)) 3 [] Value.none Value.none Value.none (Value.str (Str.ofString "turnedtunes.steps") 646) none (Value.ref 290) Value.none 0)) (List.toArray []))),
  (292, (Obj.mk (Value.type "tuple") none (Data.seq (List.toArray [(Value.str (Str.ofString "depth") 666), (Value.str (Str.ofString "numbers") 667), (Value.str (Str.ofString "sources") 668), (Value.str (Str.ofString "word") 669)]) 0) (List.toArray []))),
  (293, (Obj.mk (Value.type "dict") none (Data.dict (List.toArray [(DictEntry.mk (PyData.keyHash P (Str.ofString "__module__")) (Value.str (Str.ofString "__module__") 655) (Value.str (Str.ofString "turnedtunes.steps") 646)), (DictEntry.mk (PyData.keyHash P (Str.ofString "__firstlineno__")) (Value.str (Str.ofString "__firstlineno__") 659) (Value.int (85 : Int) 658)), (DictEntry.mk (PyData.keyHash P (Str.ofString "__init__")) (Value.str (Str.ofString "__init__") 665) (Value.ref 291)), (DictEntry.mk (PyData.keyHash P (Str.ofString "__static_attributes__")) (Value.str (Str.ofString "__static_attributes__") 670) (Value.ref 292)), (DictEntry.mk (PyData.keyHash P (Str.ofString "__dict__")) (Value.str (Str.ofString "__dict__") 672) (Value.ref 295)), (DictEntry.mk (PyData.keyHash P (Str.ofString "__weakref__")) (Value.str (Str.ofString "__weakref__") 674) (Value.ref 296)), (DictEntry.mk (PyData.keyHash P (Str.ofString "__doc__")) (Value.str (Str.ofString "__doc__") 675) Value.none)]) 4) (List.toArray []))),
  (294, (Obj.mk (Value.type "type") none (Data.cls (ClassData.mk (Str.ofString "Step") [(Value.type "object")] [(Value.ref 294), (Value.type "object")] 293 (Str.ofString "Step") Bool.true [] [] Bool.false none Bool.false)) (List.toArray [none, none, (some (Value.str (Str.ofString "Step") 648)), (some (Value.str (Str.ofString "Step") 656)), (some (Value.builtin "object.__new__")), (some (Value.bool Bool.true))]))),
  (295, (Obj.mk (Value.type "getset_descriptor") none (Data.fields (List.toArray [(Value.str (Str.ofString "__dict__") 671), (Value.ref 294), (Value.builtin "function.__dict__"), (Value.builtin "function.__dict__#set")])) (List.toArray []))),
  (296, (Obj.mk (Value.type "getset_descriptor") none (Data.fields (List.toArray [(Value.str (Str.ofString "__weakref__") 673), (Value.ref 294), (Value.builtin "ExceptionGroup.__weakref__"), Value.none])) (List.toArray []))),
  (297, (Obj.mk (Value.type "super") none (Data.fields (List.toArray [(Value.ref 294), (Value.ref 294), (Value.ref 294)])) (List.toArray []))),
  (298, (Obj.mk (Value.type "builtin_function_or_method") none (Data.fields (List.toArray [(Value.builtin "object.__init_subclass__"), (Value.ref 294)])) (List.toArray []))),
  (299, (Obj.mk (Value.type "tuple") none (Data.seq (List.toArray []) 0) (List.toArray []))),
  (300, (Obj.mk Value.none none (Data.fields (List.toArray [])) (List.toArray []))),
  (301, (Obj.mk (Value.type "tuple") none (Data.seq (List.toArray []) 0) (List.toArray []))),
  (302, (Obj.mk (Value.type "tuple") none (Data.seq (List.toArray []) 0) (List.toArray []))),
  (303, (Obj.mk Value.none none (Data.func (FuncData.mk (Str.ofString "step_given") (Str.ofString "step_given") (L2.defArgs (top 34)) (FuncBody.stmts (L2.defBody (top 34))) (L2.defScope (top 34)) 0 [] Value.none Value.none Value.none Value.none none Value.none Value.none 0)) (List.toArray []))),
  (304, (Obj.mk (Value.type "code") none (Data.fields (List.toArray [(Value.str (Str.ofString "step_given") 678), (Value.str (Str.ofString "step_given") 679), (Value.str (Str.ofString "/claim/cut.py") 680), (Value.int (92 : Int) 0), (Value.int (0 : Int) 0), (Value.int (0 : Int) 0), (Value.int (0 : Int) 0), (Value.int (3 : Int) 0), (Value.ref 299), (Value.bool Bool.true), (Value.int (316 : Int) 0), (Value.ref 300), Value.none, (Value.ref 301), (Value.ref 302), (Value.ref 303), (Value.int (681 : Int) 0), (Value.int (92 : Int) 0), (Value.str (Str.ofString "/claim/cut.py") 682)])) (List.toArray []))),
  (305, (Obj.mk (Value.type "function") none (Data.func (FuncData.mk (Str.ofString "step_given") (Str.ofString "step_given") (L2.defArgs (top 34)) (FuncBody.stmts (L2.defBody (top 34))) (L2.defScope (top 34)) 3 [] Value.none Value.none Value.none (Value.str (Str.ofString "turnedtunes.steps") 646) none (Value.ref 304) Value.none 0)) (List.toArray []))),
  (306, (Obj.mk (Value.type "tuple") none (Data.seq (List.toArray []) 0) (List.toArray []))),
  (307, (Obj.mk Value.none none (Data.fields (List.toArray [])) (List.toArray []))),
  (308, (Obj.mk (Value.type "tuple") none (Data.seq (List.toArray [(Value.str (Str.ofString "step") 687)]) 0) (List.toArray []))),
  (309, (Obj.mk (Value.type "tuple") none (Data.seq (List.toArray []) 0) (List.toArray []))),
  (310, (Obj.mk Value.none none (Data.func (FuncData.mk (Str.ofString "step_back") (Str.ofString "step_back") (L2.defArgs (top 35)) (FuncBody.stmts (L2.defBody (top 35))) (L2.defScope (top 35)) 0 [] Value.none Value.none Value.none Value.none none Value.none Value.none 0)) (List.toArray []))),
  (311, (Obj.mk (Value.type "code") none (Data.fields (List.toArray [(Value.str (Str.ofString "step_back") 684), (Value.str (Str.ofString "step_back") 685), (Value.str (Str.ofString "/claim/cut.py") 686), (Value.int (94 : Int) 0), (Value.int (1 : Int) 0), (Value.int (0 : Int) 0), (Value.int (0 : Int) 0), (Value.int (3 : Int) 0), (Value.ref 306), (Value.bool Bool.true), (Value.int (316 : Int) 0), (Value.ref 307), Value.none, (Value.ref 308), (Value.ref 309), (Value.ref 310), (Value.int (688 : Int) 0), (Value.int (94 : Int) 0), (Value.str (Str.ofString "/claim/cut.py") 689)])) (List.toArray []))),
  (312, (Obj.mk (Value.type "function") none (Data.func (FuncData.mk (Str.ofString "step_back") (Str.ofString "step_back") (L2.defArgs (top 35)) (FuncBody.stmts (L2.defBody (top 35))) (L2.defScope (top 35)) 3 [] Value.none Value.none Value.none (Value.str (Str.ofString "turnedtunes.steps") 646) none (Value.ref 311) Value.none 0)) (List.toArray []))),
  (313, (Obj.mk (Value.type "tuple") none (Data.seq (List.toArray []) 0) (List.toArray []))),
  (314, (Obj.mk Value.none none (Data.fields (List.toArray [])) (List.toArray []))),
  (315, (Obj.mk (Value.type "tuple") none (Data.seq (List.toArray [(Value.str (Str.ofString "one") 694), (Value.str (Str.ofString "other") 695)]) 0) (List.toArray []))),
  (316, (Obj.mk (Value.type "tuple") none (Data.seq (List.toArray []) 0) (List.toArray []))),
  (317, (Obj.mk Value.none none (Data.func (FuncData.mk (Str.ofString "step_joined") (Str.ofString "step_joined") (L2.defArgs (top 36)) (FuncBody.stmts (L2.defBody (top 36))) (L2.defScope (top 36)) 0 [] Value.none Value.none Value.none Value.none none Value.none Value.none 0)) (List.toArray []))),
  (318, (Obj.mk (Value.type "code") none (Data.fields (List.toArray [(Value.str (Str.ofString "step_joined") 691), (Value.str (Str.ofString "step_joined") 692), (Value.str (Str.ofString "/claim/cut.py") 693), (Value.int (96 : Int) 0), (Value.int (2 : Int) 0), (Value.int (0 : Int) 0), (Value.int (0 : Int) 0), (Value.int (3 : Int) 0), (Value.ref 313), (Value.bool Bool.true), (Value.int (316 : Int) 0), (Value.ref 314), Value.none, (Value.ref 315), (Value.ref 316), (Value.ref 317), (Value.int (696 : Int) 0), (Value.int (96 : Int) 0), (Value.str (Str.ofString "/claim/cut.py") 697)])) (List.toArray []))),
  (319, (Obj.mk (Value.type "function") none (Data.func (FuncData.mk (Str.ofString "step_joined") (Str.ofString "step_joined") (L2.defArgs (top 36)) (FuncBody.stmts (L2.defBody (top 36))) (L2.defScope (top 36)) 3 [] Value.none Value.none Value.none (Value.str (Str.ofString "turnedtunes.steps") 646) none (Value.ref 318) Value.none 0)) (List.toArray []))),
  (320, (Obj.mk (Value.type "tuple") none (Data.seq (List.toArray []) 0) (List.toArray []))),
  (321, (Obj.mk Value.none none (Data.fields (List.toArray [])) (List.toArray []))),
  (322, (Obj.mk (Value.type "tuple") none (Data.seq (List.toArray [(Value.str (Str.ofString "step") 702), (Value.str (Str.ofString "many") 703)]) 0) (List.toArray []))),
  (323, (Obj.mk (Value.type "tuple") none (Data.seq (List.toArray []) 0) (List.toArray []))),
  (324, (Obj.mk Value.none none (Data.func (FuncData.mk (Str.ofString "step_times") (Str.ofString "step_times") (L2.defArgs (top 37)) (FuncBody.stmts (L2.defBody (top 37))) (L2.defScope (top 37)) 0 [] Value.none Value.none Value.none Value.none none Value.none Value.none 0)) (List.toArray []))),
  (325, (Obj.mk (Value.type "code") none (Data.fields (List.toArray [(Value.str (Str.ofString "step_times") 699), (Value.str (Str.ofString "step_times") 700), (Value.str (Str.ofString "/claim/cut.py") 701), (Value.int (98 : Int) 0), (Value.int (2 : Int) 0), (Value.int (0 : Int) 0), (Value.int (0 : Int) 0), (Value.int (3 : Int) 0), (Value.ref 320), (Value.bool Bool.true), (Value.int (316 : Int) 0), (Value.ref 321), Value.none, (Value.ref 322), (Value.ref 323), (Value.ref 324), (Value.int (704 : Int) 0), (Value.int (98 : Int) 0), (Value.str (Str.ofString "/claim/cut.py") 705)])) (List.toArray []))),
  (326, (Obj.mk (Value.type "function") none (Data.func (FuncData.mk (Str.ofString "step_times") (Str.ofString "step_times") (L2.defArgs (top 37)) (FuncBody.stmts (L2.defBody (top 37))) (L2.defScope (top 37)) 3 [] Value.none Value.none Value.none (Value.str (Str.ofString "turnedtunes.steps") 646) none (Value.ref 325) Value.none 0)) (List.toArray []))),
  (327, (Obj.mk (Value.type "tuple") none (Data.seq (List.toArray []) 0) (List.toArray []))),
  (328, (Obj.mk Value.none none (Data.fields (List.toArray [])) (List.toArray []))),
  (329, (Obj.mk (Value.type "tuple") none (Data.seq (List.toArray [(Value.str (Str.ofString "step") 710), (Value.str (Str.ofString "start") 711), (Value.str (Str.ofString "length") 712)]) 0) (List.toArray []))),
  (330, (Obj.mk (Value.type "tuple") none (Data.seq (List.toArray []) 0) (List.toArray []))),
  (331, (Obj.mk Value.none none (Data.func (FuncData.mk (Str.ofString "step_part") (Str.ofString "step_part") (L2.defArgs (top 38)) (FuncBody.stmts (L2.defBody (top 38))) (L2.defScope (top 38)) 0 [] Value.none Value.none Value.none Value.none none Value.none Value.none 0)) (List.toArray []))),
  (332, (Obj.mk (Value.type "code") none (Data.fields (List.toArray [(Value.str (Str.ofString "step_part") 707), (Value.str (Str.ofString "step_part") 708), (Value.str (Str.ofString "/claim/cut.py") 709), (Value.int (100 : Int) 0), (Value.int (3 : Int) 0), (Value.int (0 : Int) 0), (Value.int (0 : Int) 0), (Value.int (3 : Int) 0), (Value.ref 327), (Value.bool Bool.true), (Value.int (316 : Int) 0), (Value.ref 328), Value.none, (Value.ref 329), (Value.ref 330), (Value.ref 331), (Value.int (713 : Int) 0), (Value.int (100 : Int) 0), (Value.str (Str.ofString "/claim/cut.py") 714)])) (List.toArray []))),
  (333, (Obj.mk (Value.type "function") none (Data.func (FuncData.mk (Str.ofString "step_part") (Str.ofString "step_part") (L2.defArgs (top 38)) (FuncBody.stmts (L2.defBody (top 38))) (L2.defScope (top 38)) 3 [] Value.none Value.none Value.none (Value.str (Str.ofString "turnedtunes.steps") 646) none (Value.ref 332) Value.none 0)) (List.toArray [])))] (hRt9 P)
noncomputable def hRS10 (w : World) : SharedT := ⟨hRt10 w.params, 334, (Life.mk [] [] [] 0 [] [] Bool.false (List.toArray []) [] 0 Bool.false Bool.false Bool.false (0 : Int) [(2000 : Int), (10 : Int), (10 : Int)] Bool.false 0 Bool.true [] [] 0 Bool.false), (List.toArray []), (Drawn.mk 0 0 0 0), 718, (start (opening Challenge.pw_turnedtunes_k39_pieces_refused)).1.os⟩
noncomputable def hRb9 : List Stmt := ((behindTheImports Challenge.pw_turnedtunes_k39_pieces_refused).drop 32).take 7
theorem hRg9 (w : World) : segF (stepQ (denQ tabQ) Challenge.pw_turnedtunes_k39_pieces_refused w) 39 (some (Value.ref 6)) 379 (hRS9 w) (piecesOf hRb9 hRenv hRcd (Pos.mk 84 0 84 8) [topFrame (Pos.mk 0 0 0 0)]) = some (.next, hRS10 w, hRcd, (Pos.mk 102 0 102 8)) := by kernel_rfl
noncomputable def hRt11 (P : Params) : BT := putT [(3, (Obj.mk (Value.type "dict") none (Data.dict (List.toArray [(DictEntry.mk (PyData.keyHash P (Str.ofString "__name__")) (Value.str (Str.ofString "__name__") 165) (Value.str (Str.ofString "turnedtunes.links") 716)), (DictEntry.mk (PyData.keyHash P (Str.ofString "__doc__")) (Value.str (Str.ofString "__doc__") 166) Value.none), (DictEntry.mk (PyData.keyHash P (Str.ofString "__package__")) (Value.str (Str.ofString "__package__") 167) Value.none), (DictEntry.mk (PyData.keyHash P (Str.ofString "__loader__")) (Value.str (Str.ofString "__loader__") 168) (Value.builtin "__main__.__loader__#opaque")), (DictEntry.mk (PyData.keyHash P (Str.ofString "__spec__")) (Value.str (Str.ofString "__spec__") 169) Value.none), (DictEntry.mk (PyData.keyHash P (Str.ofString "__annotations__")) (Value.str (Str.ofString "__annotations__") 170) (Value.ref 6)), (DictEntry.mk (PyData.keyHash P (Str.ofString "__builtins__")) (Value.str (Str.ofString "__builtins__") 171) (Value.ref 4)), (DictEntry.mk (PyData.keyHash P (Str.ofString "__file__")) (Value.str (Str.ofString "__file__") 173) (Value.str (Str.ofString "/claim/cut.py") 172)), (DictEntry.mk (PyData.keyHash P (Str.ofString "__cached__")) (Value.str (Str.ofString "__cached__") 174) Value.none), (DictEntry.mk (PyData.keyHash P (Str.ofString "heappop")) (Value.str (Str.ofString "heappop") 312) (Value.builtin "_heapq.heappop")), (DictEntry.mk (PyData.keyHash P (Str.ofString "heappush")) (Value.str (Str.ofString "heappush") 315) (Value.builtin "_heapq.heappush")), (DictEntry.mk (PyData.keyHash P (Str.ofString "_wall")) (Value.str (Str.ofString "_wall") 328) (Value.ref 49)), (DictEntry.mk (PyData.keyHash P (Str.ofString "TuneError")) (Value.str (Str.ofString "TuneError") 357) (Value.ref 66)), (DictEntry.mk (PyData.keyHash P (Str.ofString "BadPlace")) (Value.str (Str.ofString "BadPlace") 373) (Value.ref 79)), (DictEntry.mk (PyData.keyHash P (Str.ofString "BadLength")) (Value.str (Str.ofString "BadLength") 389) (Value.ref 91)), (DictEntry.mk (PyData.keyHash P (Str.ofString "BadAmount")) (Value.str (Str.ofString "BadAmount") 405) (Value.ref 103)), (DictEntry.mk (PyData.keyHash P (Str.ofString "BadWay")) (Value.str (Str.ofString "BadWay") 421) (Value.ref 115)), (DictEntry.mk (PyData.keyHash P (Str.ofString "BadText")) (Value.str (Str.ofString "BadText") 437) (Value.ref 127)), (DictEntry.mk (PyData.keyHash P (Str.ofString "NoPlace")) (Value.str (Str.ofString "NoPlace") 453) (Value.ref 139)), (DictEntry.mk (PyData.keyHash P (Str.ofString "BadNote")) (Value.str (Str.ofString "BadNote") 469) (Value.ref 151)), (DictEntry.mk (PyData.keyHash P (Str.ofString "BadPart")) (Value.str (Str.ofString "BadPart") 485) (Value.ref 163)), (DictEntry.mk (PyData.keyHash P (Str.ofString "NoJoint")) (Value.str (Str.ofString "NoJoint") 501) (Value.ref 175)), (DictEntry.mk (PyData.keyHash P (Str.ofString "BadNumber")) (Value.str (Str.ofString "BadNumber") 517) (Value.ref 187)), (DictEntry.mk (PyData.keyHash P (Str.ofString "BadPieces")) (Value.str (Str.ofString "BadPieces") 533) (Value.ref 199)), (DictEntry.mk (PyData.keyHash P (Str.ofString "GREATEST")) (Value.str (Str.ofString "GREATEST") 539) (Value.int (1000000000000000000000000000000 : Int) 538)), (DictEntry.mk (PyData.keyHash P (Str.ofString "_DIGITS")) (Value.str (Str.ofString "_DIGITS") 541) (Value.int (64 : Int) 540)), (DictEntry.mk (PyData.keyHash P (Str.ofString "_CHUNK")) (Value.str (Str.ofString "_CHUNK") 545) (Value.int (10000000000000000000000000000000000000000000000000000000000000000 : Int) 544)), (DictEntry.mk (PyData.keyHash P (Str.ofString "is_whole")) (Value.str (Str.ofString "is_whole") 552) (Value.ref 208)), (DictEntry.mk (PyData.keyHash P (Str.ofString "is_from")) (Value.str (Str.ofString "is_from") 560) (Value.ref 215)), (DictEntry.mk (PyData.keyHash P (Str.ofString "is_between")) (Value.str (Str.ofString "is_between") 569) (Value.ref 222)), (DictEntry.mk (PyData.keyHash P (Str.ofString "written")) (Value.str (Str.ofString "written") 578) (Value.ref 229)), (DictEntry.mk (PyData.keyHash P (Str.ofString "number_in")) (Value.str (Str.ofString "number_in") 587) (Value.ref 236)), (DictEntry.mk (PyData.keyHash P (Str.ofString "_number_of")) (Value.str (Str.ofString "_number_of") 597) (Value.ref 243)), (DictEntry.mk (PyData.keyHash P (Str.ofString "STILL")) (Value.str (Str.ofString "STILL") 601) (Value.ref 244)), (DictEntry.mk (PyData.keyHash P (Str.ofString "led_by")) (Value.str (Str.ofString "led_by") 611) (Value.ref 251)), (DictEntry.mk (PyData.keyHash P (Str.ofString "led_on")) (Value.str (Str.ofString "led_on") 619) (Value.ref 258)), (DictEntry.mk (PyData.keyHash P (Str.ofString "led_back")) (Value.str (Str.ofString "led_back") 628) (Value.ref 265)), (DictEntry.mk (PyData.keyHash P (Str.ofString "led_often")) (Value.str (Str.ofString "led_often") 638) (Value.ref 272)), (DictEntry.mk (PyData.keyHash P (Str.ofString "word_of")) (Value.str (Str.ofString "word_of") 645) (Value.ref 279)), (DictEntry.mk (PyData.keyHash P (Str.ofString "Step")) (Value.str (Str.ofString "Step") 677) (Value.ref 294)), (DictEntry.mk (PyData.keyHash P (Str.ofString "step_given")) (Value.str (Str.ofString "step_given") 683) (Value.ref 305)), (DictEntry.mk (PyData.keyHash P (Str.ofString "step_back")) (Value.str (Str.ofString "step_back") 690) (Value.ref 312)), (DictEntry.mk (PyData.keyHash P (Str.ofString "step_joined")) (Value.str (Str.ofString "step_joined") 698) (Value.ref 319)), (DictEntry.mk (PyData.keyHash P (Str.ofString "step_times")) (Value.str (Str.ofString "step_times") 706) (Value.ref 326)), (DictEntry.mk (PyData.keyHash P (Str.ofString "step_part")) (Value.str (Str.ofString "step_part") 715) (Value.ref 333)), (DictEntry.mk (PyData.keyHash P (Str.ofString "Link")) (Value.str (Str.ofString "Link") 757) (Value.ref 350)), (DictEntry.mk (PyData.keyHash P (Str.ofString "is_telling")) (Value.str (Str.ofString "is_telling") 764) (Value.ref 361)), (DictEntry.mk (PyData.keyHash P (Str.ofString "part_of_link")) (Value.str (Str.ofString "part_of_link") 775) (Value.ref 368)), (DictEntry.mk (PyData.keyHash P (Str.ofString "settled")) (Value.str (Str.ofString "settled") 782) (Value.ref 375)), (DictEntry.mk (PyData.keyHash P (Str.ofString "_turned")) (Value.str (Str.ofString "_turned") 789) (Value.ref 382)), (DictEntry.mk (PyData.keyHash P (Str.ofString "_settled_straight")) (Value.str (Str.ofString "_settled_straight") 798) (Value.ref 389)), (DictEntry.mk (PyData.keyHash P (Str.ofString "_settled_backward")) (Value.str (Str.ofString "_settled_backward") 810) (Value.ref 396)), (DictEntry.mk (PyData.keyHash P (Str.ofString "shortened")) (Value.str (Str.ofString "shortened") 819) (Value.ref 403)), (DictEntry.mk (PyData.keyHash P (Str.ofString "pulled")) (Value.str (Str.ofString "pulled") 829) (Value.ref 410))]) 54) (List.toArray []))),
  (40, (Obj.mk Value.none none (Data.fields (List.toArray [(Value.int (2 : Int) 0), (Value.int (0 : Int) 0), (Value.ref 48), (Value.int (6 : Int) 0), (Value.int (0 : Int) 0), (Value.ref 55), (Value.int (11 : Int) 0), (Value.int (0 : Int) 0), (Value.ref 75), (Value.int (13 : Int) 0), (Value.int (0 : Int) 0), (Value.ref 87), (Value.int (15 : Int) 0), (Value.int (0 : Int) 0), (Value.ref 99), (Value.int (17 : Int) 0), (Value.int (0 : Int) 0), (Value.ref 111), (Value.int (19 : Int) 0), (Value.int (0 : Int) 0), (Value.ref 123), (Value.int (21 : Int) 0), (Value.int (0 : Int) 0), (Value.ref 135), (Value.int (23 : Int) 0), (Value.int (0 : Int) 0), (Value.ref 147), (Value.int (25 : Int) 0), (Value.int (0 : Int) 0), (Value.ref 159), (Value.int (27 : Int) 0), (Value.int (0 : Int) 0), (Value.ref 171), (Value.int (29 : Int) 0), (Value.int (0 : Int) 0), (Value.ref 183), (Value.int (31 : Int) 0), (Value.int (0 : Int) 0), (Value.ref 195), (Value.int (37 : Int) 0), (Value.int (0 : Int) 0), (Value.ref 207), (Value.int (39 : Int) 0), (Value.int (0 : Int) 0), (Value.ref 214), (Value.int (41 : Int) 0), (Value.int (0 : Int) 0), (Value.ref 221), (Value.int (43 : Int) 0), (Value.int (0 : Int) 0), (Value.ref 228), (Value.int (53 : Int) 0), (Value.int (0 : Int) 0), (Value.ref 235), (Value.int (61 : Int) 0), (Value.int (0 : Int) 0), (Value.ref 242), (Value.int (69 : Int) 0), (Value.int (0 : Int) 0), (Value.ref 250), (Value.int (72 : Int) 0), (Value.int (0 : Int) 0), (Value.ref 257), (Value.int (74 : Int) 0), (Value.int (0 : Int) 0), (Value.ref 264), (Value.int (77 : Int) 0), (Value.int (0 : Int) 0), (Value.ref 271), (Value.int (82 : Int) 0), (Value.int (0 : Int) 0), (Value.ref 278), (Value.int (85 : Int) 0), (Value.int (0 : Int) 0), (Value.ref 285), (Value.int (92 : Int) 0), (Value.int (0 : Int) 0), (Value.ref 304), (Value.int (94 : Int) 0), (Value.int (0 : Int) 0), (Value.ref 311), (Value.int (96 : Int) 0), (Value.int (0 : Int) 0), (Value.ref 318), (Value.int (98 : Int) 0), (Value.int (0 : Int) 0), (Value.ref 325), (Value.int (100 : Int) 0), (Value.int (0 : Int) 0), (Value.ref 332), (Value.int (103 : Int) 0), (Value.int (0 : Int) 0), (Value.ref 339), (Value.int (113 : Int) 0), (Value.int (0 : Int) 0), (Value.ref 360), (Value.int (115 : Int) 0), (Value.int (0 : Int) 0), (Value.ref 367), (Value.int (119 : Int) 0), (Value.int (0 : Int) 0), (Value.ref 374), (Value.int (125 : Int) 0), (Value.int (0 : Int) 0), (Value.ref 381), (Value.int (127 : Int) 0), (Value.int (0 : Int) 0), (Value.ref 388), (Value.int (132 : Int) 0), (Value.int (0 : Int) 0), (Value.ref 395), (Value.int (142 : Int) 0), (Value.int (0 : Int) 0), (Value.ref 402), (Value.int (145 : Int) 0), (Value.int (0 : Int) 0), (Value.ref 409)])) (List.toArray []))),
  (334, (Obj.mk (Value.type "tuple") none (Data.seq (List.toArray []) 0) (List.toArray []))),
  (335, (Obj.mk (Value.type "builtin_function_or_method") none (Data.fields (List.toArray [(Value.builtin "type.__prepare__"), (Value.type "type")])) (List.toArray []))),
  (336, (Obj.mk (Value.type "dict") none (Data.dict (List.toArray [(DictEntry.mk (PyData.keyHash P (Str.ofString "__module__")) (Value.str (Str.ofString "__module__") 725) (Value.str (Str.ofString "turnedtunes.links") 716)), (DictEntry.mk (PyData.keyHash P (Str.ofString "__qualname__")) (Value.str (Str.ofString "__qualname__") 727) (Value.str (Str.ofString "Link") 726)), (DictEntry.mk (PyData.keyHash P (Str.ofString "__firstlineno__")) (Value.str (Str.ofString "__firstlineno__") 729) (Value.int (103 : Int) 728)), (DictEntry.mk (PyData.keyHash P (Str.ofString "__init__")) (Value.str (Str.ofString "__init__") 742) (Value.ref 347)), (DictEntry.mk (PyData.keyHash P (Str.ofString "__static_attributes__")) (Value.str (Str.ofString "__static_attributes__") 750) (Value.ref 348))]) 5) (List.toArray []))),
  (337, (Obj.mk (Value.type "tuple") none (Data.seq (List.toArray []) 0) (List.toArray []))),
  (338, (Obj.mk Value.none none (Data.fields (List.toArray [(Value.int (105 : Int) 0), (Value.int (4 : Int) 0), (Value.ref 346)])) (List.toArray []))),
  (339, (Obj.mk (Value.type "code") none (Data.fields (List.toArray [(Value.str (Str.ofString "Link") 720), (Value.str (Str.ofString "Link") 721), (Value.str (Str.ofString "/claim/cut.py") 722), (Value.int (103 : Int) 0), (Value.int (0 : Int) 0), (Value.int (0 : Int) 0), (Value.int (0 : Int) 0), (Value.int (0 : Int) 0), (Value.ref 337), (Value.bool Bool.false), (Value.int (316 : Int) 0), (Value.ref 338), Value.none, Value.none, Value.none, Value.none, (Value.int (723 : Int) 0), (Value.int (103 : Int) 0), (Value.str (Str.ofString "/claim/cut.py") 724)])) (List.toArray []))),
  (340, (Obj.mk (Value.type "frame") none Data.plain (List.toArray [(some (Value.ref 339)), (some (Value.ref 3)), (some (Value.ref 336)), none, (some (Value.str (Str.ofString "turnedtunes.links") 716)), none, (some (Value.ref 0))]))),
  (341, (Obj.mk (Value.type "tuple") none (Data.seq (List.toArray []) 0) (List.toArray []))),
  (342, (Obj.mk Value.none none (Data.fields (List.toArray [])) (List.toArray []))),
  (343, (Obj.mk (Value.type "tuple") none (Data.seq (List.toArray [(Value.str (Str.ofString "self") 733), (Value.str (Str.ofString "first") 734), (Value.str (Str.ofString "second") 735), (Value.str (Str.ofString "length") 736), (Value.str (Str.ofString "lead") 737), (Value.str (Str.ofString "backward") 738), (Value.str (Str.ofString "step") 739)]) 0) (List.toArray []))),
  (344, (Obj.mk (Value.type "tuple") none (Data.seq (List.toArray []) 0) (List.toArray []))),
  (345, (Obj.mk Value.none none (Data.func (FuncData.mk (Str.ofString "__init__") (Str.ofString "Link.__init__") (L2.defArgs (inClass (top 40) 0)) (FuncBody.stmts (L2.defBody (inClass (top 40) 0))) (L2.defScope (inClass (top 40) 0)) 0 [] Value.none Value.none Value.none Value.none none Value.none Value.none 0)) (List.toArray []))),
  (346, (Obj.mk (Value.type "code") none (Data.fields (List.toArray [(Value.str (Str.ofString "__init__") 730), (Value.str (Str.ofString "Link.__init__") 731), (Value.str (Str.ofString "/claim/cut.py") 732), (Value.int (105 : Int) 0), (Value.int (7 : Int) 0), (Value.int (0 : Int) 0), (Value.int (0 : Int) 0), (Value.int (3 : Int) 0), (Value.ref 341), (Value.bool Bool.true), (Value.int (316 : Int) 0), (Value.ref 342), Value.none, (Value.ref 343), (Value.ref 344), (Value.ref 345), (Value.int (740 : Int) 0), (Value.int (105 : Int) 0), (Value.str (Str.ofString "/claim/cut.py") 741)])) (List.toArray []))),
  (347, (Obj.mk (Value.type "function") none (Data.func (FuncData.mk (Str.ofString "__init__") (Str.ofString "Link.__init__") (L2.defArgs (inClass (top 40) 0)) (FuncBody.stmts (L2.defBody (inClass (top 40) 0))) (L2.defScope (inClass (top 40) 0)) 3 [] Value.none Value.none Value.none (Value.str (Str.ofString "turnedtunes.links") 716) none (Value.ref 346) Value.none 0)) (List.toArray []))),
  (348, (Obj.mk (Value.type "tuple") none (Data.seq (List.toArray [(Value.str (Str.ofString "backward") 743), (Value.str (Str.ofString "end") 744), (Value.str (Str.ofString "first") 745), (Value.str (Str.ofString "lead") 746), (Value.str (Str.ofString "length") 747), (Value.str (Str.ofString "second") 748), (Value.str (Str.ofString "step") 749)]) 0) (List.toArray []))),
  (349, (Obj.mk (Value.type "dict") none (Data.dict (List.toArray [(DictEntry.mk (PyData.keyHash P (Str.ofString "__module__")) (Value.str (Str.ofString "__module__") 725) (Value.str (Str.ofString "turnedtunes.links") 716)), (DictEntry.mk (PyData.keyHash P (Str.ofString "__firstlineno__")) (Value.str (Str.ofString "__firstlineno__") 729) (Value.int (103 : Int) 728)), (DictEntry.mk (PyData.keyHash P (Str.ofString "__init__")) (Value.str (Str.ofString "__init__") 742) (Value.ref 347)), (DictEntry.mk (PyData.keyHash P (Str.ofString "__static_attributes__")) (Value.str (Str.ofString "__static_attributes__") 750) (Value.ref 348)), (DictEntry.mk (PyData.keyHash P (Str.ofString "__dict__")) (Value.str (Str.ofString "__dict__") 752) (Value.ref 351)), (DictEntry.mk (PyData.keyHash P (Str.ofString "__weakref__")) (Value.str (Str.ofString "__weakref__") 754) (Value.ref 352)), (DictEntry.mk (PyData.keyHash P (Str.ofString "__doc__")) (Value.str (Str.ofString "__doc__") 755) Value.none)]) 4) (List.toArray []))),
  (350, (Obj.mk (Value.type "type") none (Data.cls (ClassData.mk (Str.ofString "Link") [(Value.type "object")] [(Value.ref 350), (Value.type "object")] 349 (Str.ofString "Link") Bool.true [] [] Bool.false none Bool.false)) (List.toArray [none, none, (some (Value.str (Str.ofString "Link") 718)), (some (Value.str (Str.ofString "Link") 726)), (some (Value.builtin "object.__new__")), (some (Value.bool Bool.true))]))),
  (351, (Obj.mk (Value.type "getset_descriptor") none (Data.fields (List.toArray [(Value.str (Str.ofString "__dict__") 751), (Value.ref 350), (Value.builtin "function.__dict__"), (Value.builtin "function.__dict__#set")])) (List.toArray []))),
  (352, (Obj.mk (Value.type "getset_descriptor") none (Data.fields (List.toArray [(Value.str (Str.ofString "__weakref__") 753), (Value.ref 350), (Value.builtin "ExceptionGroup.__weakref__"), Value.none])) (List.toArray []))),
  (353, (Obj.mk (Value.type "super") none (Data.fields (List.toArray [(Value.ref 350), (Value.ref 350), (Value.ref 350)])) (List.toArray []))),
  (354, (Obj.mk (Value.type "builtin_function_or_method") none (Data.fields (List.toArray [(Value.builtin "object.__init_subclass__"), (Value.ref 350)])) (List.toArray []))),
  (355, (Obj.mk (Value.type "tuple") none (Data.seq (List.toArray []) 0) (List.toArray []))),
  (356, (Obj.mk Value.none none (Data.fields (List.toArray [])) (List.toArray []))),
  (357, (Obj.mk (Value.type "tuple") none (Data.seq (List.toArray [(Value.str (Str.ofString "link") 761)]) 0) (List.toArray []))),
  (358, (Obj.mk (Value.type "tuple") none (Data.seq (List.toArray []) 0) (List.toArray []))),
  (359, (Obj.mk Value.none none (Data.func (FuncData.mk (Str.ofString "is_telling") (Str.ofString "is_telling") (L2.defArgs (top 41)) (FuncBody.stmts (L2.defBody (top 41))) (L2.defScope (top 41)) 0 [] Value.none Value.none Value.none Value.none none Value.none Value.none 0)) (List.toArray []))),
  (360, (Obj.mk (Value.type "code") none (Data.fields (List.toArray [(Value.str (Str.ofString "is_telling") 758), (Value.str (Str.ofString "is_telling") 759), (Value.str (Str.ofString "/claim/cut.py") 760), (Value.int (113 : Int) 0), (Value.int (1 : Int) 0), (Value.int (0 : Int) 0), (Value.int (0 : Int) 0), (Value.int (3 : Int) 0), (Value.ref 355), (Value.bool Bool.true), (Value.int (316 : Int) 0), (Value.ref 356), Value.none, (Value.ref 357), (Value.ref 358), (Value.ref 359), (Value.int (762 : Int) 0), (Value.int (113 : Int) 0), (Value.str (Str.ofString "/claim/cut.py") 763)])) (List.toArray []))),
  (361, (Obj.mk (Value.type "function") none (Data.func (FuncData.mk (Str.ofString "is_telling") (Str.ofString "is_telling") (L2.defArgs (top 41)) (FuncBody.stmts (L2.defBody (top 41))) (L2.defScope (top 41)) 3 [] Value.none Value.none Value.none (Value.str (Str.ofString "turnedtunes.links") 716) none (Value.ref 360) Value.none 0)) (List.toArray []))),
  (362, (Obj.mk (Value.type "tuple") none (Data.seq (List.toArray []) 0) (List.toArray []))),
  (363, (Obj.mk Value.none none (Data.fields (List.toArray [])) (List.toArray []))),
  (364, (Obj.mk (Value.type "tuple") none (Data.seq (List.toArray [(Value.str (Str.ofString "link") 768), (Value.str (Str.ofString "start") 769), (Value.str (Str.ofString "length") 770), (Value.str (Str.ofString "first") 771), (Value.str (Str.ofString "second") 772)]) 0) (List.toArray []))),
  (365, (Obj.mk (Value.type "tuple") none (Data.seq (List.toArray []) 0) (List.toArray []))),
  (366, (Obj.mk Value.none none (Data.func (FuncData.mk (Str.ofString "part_of_link") (Str.ofString "part_of_link") (L2.defArgs (top 42)) (FuncBody.stmts (L2.defBody (top 42))) (L2.defScope (top 42)) 0 [] Value.none Value.none Value.none Value.none none Value.none Value.none 0)) (List.toArray []))),
  (367, (Obj.mk (Value.type "code") none (Data.fields (List.toArray [(Value.str (Str.ofString "part_of_link") 765), (Value.str (Str.ofString "part_of_link") 766), (Value.str (Str.ofString "/claim/cut.py") 767), (Value.int (115 : Int) 0), (Value.int (3 : Int) 0), (Value.int (0 : Int) 0), (Value.int (0 : Int) 0), (Value.int (3 : Int) 0), (Value.ref 362), (Value.bool Bool.true), (Value.int (316 : Int) 0), (Value.ref 363), Value.none, (Value.ref 364), (Value.ref 365), (Value.ref 366), (Value.int (773 : Int) 0), (Value.int (115 : Int) 0), (Value.str (Str.ofString "/claim/cut.py") 774)])) (List.toArray []))),
  (368, (Obj.mk (Value.type "function") none (Data.func (FuncData.mk (Str.ofString "part_of_link") (Str.ofString "part_of_link") (L2.defArgs (top 42)) (FuncBody.stmts (L2.defBody (top 42))) (L2.defScope (top 42)) 3 [] Value.none Value.none Value.none (Value.str (Str.ofString "turnedtunes.links") 716) none (Value.ref 367) Value.none 0)) (List.toArray []))),
  (369, (Obj.mk (Value.type "tuple") none (Data.seq (List.toArray []) 0) (List.toArray []))),
  (370, (Obj.mk Value.none none (Data.fields (List.toArray [])) (List.toArray []))),
  (371, (Obj.mk (Value.type "tuple") none (Data.seq (List.toArray [(Value.str (Str.ofString "link") 779)]) 0) (List.toArray []))),
  (372, (Obj.mk (Value.type "tuple") none (Data.seq (List.toArray []) 0) (List.toArray []))),
  (373, (Obj.mk Value.none none (Data.func (FuncData.mk (Str.ofString "settled") (Str.ofString "settled") (L2.defArgs (top 43)) (FuncBody.stmts (L2.defBody (top 43))) (L2.defScope (top 43)) 0 [] Value.none Value.none Value.none Value.none none Value.none Value.none 0)) (List.toArray []))),
  (374, (Obj.mk (Value.type "code") none (Data.fields (List.toArray [(Value.str (Str.ofString "settled") 776), (Value.str (Str.ofString "settled") 777), (Value.str (Str.ofString "/claim/cut.py") 778), (Value.int (119 : Int) 0), (Value.int (1 : Int) 0), (Value.int (0 : Int) 0), (Value.int (0 : Int) 0), (Value.int (3 : Int) 0), (Value.ref 369), (Value.bool Bool.true), (Value.int (316 : Int) 0), (Value.ref 370), Value.none, (Value.ref 371), (Value.ref 372), (Value.ref 373), (Value.int (780 : Int) 0), (Value.int (119 : Int) 0), (Value.str (Str.ofString "/claim/cut.py") 781)])) (List.toArray []))),
  (375, (Obj.mk (Value.type "function") none (Data.func (FuncData.mk (Str.ofString "settled") (Str.ofString "settled") (L2.defArgs (top 43)) (FuncBody.stmts (L2.defBody (top 43))) (L2.defScope (top 43)) 3 [] Value.none Value.none Value.none (Value.str (Str.ofString "turnedtunes.links") 716) none (Value.ref 374) Value.none 0)) (List.toArray []))),
  (376, (Obj.mk (Value.type "tuple") none (Data.seq (List.toArray []) 0) (List.toArray []))),
  (377, (Obj.mk Value.none none (Data.fields (List.toArray [])) (List.toArray []))),
  (378, (Obj.mk (Value.type "tuple") none (Data.seq (List.toArray [(Value.str (Str.ofString "link") 786)]) 0) (List.toArray []))),
  (379, (Obj.mk (Value.type "tuple") none (Data.seq (List.toArray []) 0) (List.toArray []))),
  (380, (Obj.mk Value.none none (Data.func (FuncData.mk (Str.ofString "_turned") (Str.ofString "_turned") (L2.defArgs (top 44)) (FuncBody.stmts (L2.defBody (top 44))) (L2.defScope (top 44)) 0 [] Value.none Value.none Value.none Value.none none Value.none Value.none 0)) (List.toArray []))),
  (381, (Obj.mk (Value.type "code") none (Data.fields (List.toArray [(Value.str (Str.ofString "_turned") 783), (Value.str (Str.ofString "_turned") 784), (Value.str (Str.ofString "/claim/cut.py") 785), (Value.int (125 : Int) 0), (Value.int (1 : Int) 0), (Value.int (0 : Int) 0), (Value.int (0 : Int) 0), (Value.int (3 : Int) 0), (Value.ref 376), (Value.bool Bool.true), (Value.int (316 : Int) 0), (Value.ref 377), Value.none, (Value.ref 378), (Value.ref 379), (Value.ref 380), (Value.int (787 : Int) 0), (Value.int (125 : Int) 0), (Value.str (Str.ofString "/claim/cut.py") 788)])) (List.toArray []))),
  (382, (Obj.mk (Value.type "function") none (Data.func (FuncData.mk (Str.ofString "_turned") (Str.ofString "_turned") (L2.defArgs (top 44)) (FuncBody.stmts (L2.defBody (top 44))) (L2.defScope (top 44)) 3 [] Value.none Value.none Value.none (Value.str (Str.ofString "turnedtunes.links") 716) none (Value.ref 381) Value.none 0)) (List.toArray []))),
  (383, (Obj.mk (Value.type "tuple") none (Data.seq (List.toArray []) 0) (List.toArray []))),
  (384, (Obj.mk Value.none none (Data.fields (List.toArray [])) (List.toArray []))),
  (385, (Obj.mk (Value.type "tuple") none (Data.seq (List.toArray [(Value.str (Str.ofString "link") 793), (Value.str (Str.ofString "amount") 794), (Value.str (Str.ofString "down") 795)]) 0) (List.toArray []))),
  (386, (Obj.mk (Value.type "tuple") none (Data.seq (List.toArray []) 0) (List.toArray []))),
  (387, (Obj.mk Value.none none (Data.func (FuncData.mk (Str.ofString "_settled_straight") (Str.ofString "_settled_straight") (L2.defArgs (top 45)) (FuncBody.stmts (L2.defBody (top 45))) (L2.defScope (top 45)) 0 [] Value.none Value.none Value.none Value.none none Value.none Value.none 0)) (List.toArray []))),
  (388, (Obj.mk (Value.type "code") none (Data.fields (List.toArray [(Value.str (Str.ofString "_settled_straight") 790), (Value.str (Str.ofString "_settled_straight") 791), (Value.str (Str.ofString "/claim/cut.py") 792), (Value.int (127 : Int) 0), (Value.int (1 : Int) 0), (Value.int (0 : Int) 0), (Value.int (0 : Int) 0), (Value.int (3 : Int) 0), (Value.ref 383), (Value.bool Bool.true), (Value.int (316 : Int) 0), (Value.ref 384), Value.none, (Value.ref 385), (Value.ref 386), (Value.ref 387), (Value.int (796 : Int) 0), (Value.int (127 : Int) 0), (Value.str (Str.ofString "/claim/cut.py") 797)])) (List.toArray []))),
  (389, (Obj.mk (Value.type "function") none (Data.func (FuncData.mk (Str.ofString "_settled_straight") (Str.ofString "_settled_straight") (L2.defArgs (top 45)) (FuncBody.stmts (L2.defBody (top 45))) (L2.defScope (top 45)) 3 [] Value.none Value.none Value.none (Value.str (Str.ofString "turnedtunes.links") 716) none (Value.ref 388) Value.none 0)) (List.toArray []))),
  (390, (Obj.mk (Value.type "tuple") none (Data.seq (List.toArray []) 0) (List.toArray []))),
  (391, (Obj.mk Value.none none (Data.fields (List.toArray [])) (List.toArray []))),
  (392, (Obj.mk (Value.type "tuple") none (Data.seq (List.toArray [(Value.str (Str.ofString "link") 802), (Value.str (Str.ofString "amount") 803), (Value.str (Str.ofString "down") 804), (Value.str (Str.ofString "total") 805), (Value.str (Str.ofString "half") 806), (Value.str (Str.ofString "middle") 807)]) 0) (List.toArray []))),
  (393, (Obj.mk (Value.type "tuple") none (Data.seq (List.toArray []) 0) (List.toArray []))),
  (394, (Obj.mk Value.none none (Data.func (FuncData.mk (Str.ofString "_settled_backward") (Str.ofString "_settled_backward") (L2.defArgs (top 46)) (FuncBody.stmts (L2.defBody (top 46))) (L2.defScope (top 46)) 0 [] Value.none Value.none Value.none Value.none none Value.none Value.none 0)) (List.toArray []))),
  (395, (Obj.mk (Value.type "code") none (Data.fields (List.toArray [(Value.str (Str.ofString "_settled_backward") 799), (Value.str (Str.ofString "_settled_backward") 800), (Value.str (Str.ofString "/claim/cut.py") 801), (Value.int (132 : Int) 0), (Value.int (1 : Int) 0), (Value.int (0 : Int) 0), (Value.int (0 : Int) 0), (Value.int (3 : Int) 0), (Value.ref 390), (Value.bool Bool.true), (Value.int (316 : Int) 0), (Value.ref 391), Value.none, (Value.ref 392), (Value.ref 393), (Value.ref 394), (Value.int (808 : Int) 0), (Value.int (132 : Int) 0), (Value.str (Str.ofString "/claim/cut.py") 809)])) (List.toArray []))),
  (396, (Obj.mk (Value.type "function") none (Data.func (FuncData.mk (Str.ofString "_settled_backward") (Str.ofString "_settled_backward") (L2.defArgs (top 46)) (FuncBody.stmts (L2.defBody (top 46))) (L2.defScope (top 46)) 3 [] Value.none Value.none Value.none (Value.str (Str.ofString "turnedtunes.links") 716) none (Value.ref 395) Value.none 0)) (List.toArray []))),
  (397, (Obj.mk (Value.type "tuple") none (Data.seq (List.toArray []) 0) (List.toArray []))),
  (398, (Obj.mk Value.none none (Data.fields (List.toArray [])) (List.toArray []))),
  (399, (Obj.mk (Value.type "tuple") none (Data.seq (List.toArray [(Value.str (Str.ofString "link") 814), (Value.str (Str.ofString "end") 815), (Value.str (Str.ofString "many") 816)]) 0) (List.toArray []))),
  (400, (Obj.mk (Value.type "tuple") none (Data.seq (List.toArray []) 0) (List.toArray []))),
  (401, (Obj.mk Value.none none (Data.func (FuncData.mk (Str.ofString "shortened") (Str.ofString "shortened") (L2.defArgs (top 47)) (FuncBody.stmts (L2.defBody (top 47))) (L2.defScope (top 47)) 0 [] Value.none Value.none Value.none Value.none none Value.none Value.none 0)) (List.toArray []))),
  (402, (Obj.mk (Value.type "code") none (Data.fields (List.toArray [(Value.str (Str.ofString "shortened") 811), (Value.str (Str.ofString "shortened") 812), (Value.str (Str.ofString "/claim/cut.py") 813), (Value.int (142 : Int) 0), (Value.int (2 : Int) 0), (Value.int (0 : Int) 0), (Value.int (0 : Int) 0), (Value.int (3 : Int) 0), (Value.ref 397), (Value.bool Bool.true), (Value.int (316 : Int) 0), (Value.ref 398), Value.none, (Value.ref 399), (Value.ref 400), (Value.ref 401), (Value.int (817 : Int) 0), (Value.int (142 : Int) 0), (Value.str (Str.ofString "/claim/cut.py") 818)])) (List.toArray []))),
  (403, (Obj.mk (Value.type "function") none (Data.func (FuncData.mk (Str.ofString "shortened") (Str.ofString "shortened") (L2.defArgs (top 47)) (FuncBody.stmts (L2.defBody (top 47))) (L2.defScope (top 47)) 3 [] Value.none Value.none Value.none (Value.str (Str.ofString "turnedtunes.links") 716) none (Value.ref 402) Value.none 0)) (List.toArray []))),
  (404, (Obj.mk (Value.type "tuple") none (Data.seq (List.toArray []) 0) (List.toArray []))),
  (405, (Obj.mk Value.none none (Data.fields (List.toArray [])) (List.toArray []))),
  (406, (Obj.mk (Value.type "tuple") none (Data.seq (List.toArray [(Value.str (Str.ofString "link") 823), (Value.str (Str.ofString "over") 824), (Value.str (Str.ofString "lead") 825), (Value.str (Str.ofString "step") 826)]) 0) (List.toArray []))),
  (407, (Obj.mk (Value.type "tuple") none (Data.seq (List.toArray []) 0) (List.toArray []))),
  (408, (Obj.mk Value.none none (Data.func (FuncData.mk (Str.ofString "pulled") (Str.ofString "pulled") (L2.defArgs (top 48)) (FuncBody.stmts (L2.defBody (top 48))) (L2.defScope (top 48)) 0 [] Value.none Value.none Value.none Value.none none Value.none Value.none 0)) (List.toArray []))),
  (409, (Obj.mk (Value.type "code") none (Data.fields (List.toArray [(Value.str (Str.ofString "pulled") 820), (Value.str (Str.ofString "pulled") 821), (Value.str (Str.ofString "/claim/cut.py") 822), (Value.int (145 : Int) 0), (Value.int (2 : Int) 0), (Value.int (0 : Int) 0), (Value.int (0 : Int) 0), (Value.int (3 : Int) 0), (Value.ref 404), (Value.bool Bool.true), (Value.int (316 : Int) 0), (Value.ref 405), Value.none, (Value.ref 406), (Value.ref 407), (Value.ref 408), (Value.int (827 : Int) 0), (Value.int (145 : Int) 0), (Value.str (Str.ofString "/claim/cut.py") 828)])) (List.toArray []))),
  (410, (Obj.mk (Value.type "function") none (Data.func (FuncData.mk (Str.ofString "pulled") (Str.ofString "pulled") (L2.defArgs (top 48)) (FuncBody.stmts (L2.defBody (top 48))) (L2.defScope (top 48)) 3 [] Value.none Value.none Value.none (Value.str (Str.ofString "turnedtunes.links") 716) none (Value.ref 409) Value.none 0)) (List.toArray [])))] (hRt10 P)
noncomputable def hRS11 (w : World) : SharedT := ⟨hRt11 w.params, 411, (Life.mk [] [] [] 0 [] [] Bool.false (List.toArray []) [] 0 Bool.false Bool.false Bool.false (0 : Int) [(2000 : Int), (10 : Int), (10 : Int)] Bool.false 0 Bool.true [] [] 0 Bool.false), (List.toArray []), (Drawn.mk 0 0 0 0), 830, (start (opening Challenge.pw_turnedtunes_k39_pieces_refused)).1.os⟩
noncomputable def hRb10 : List Stmt := ((behindTheImports Challenge.pw_turnedtunes_k39_pieces_refused).drop 39).take 9
theorem hRg10 (w : World) : segF (stepQ (denQ tabQ) Challenge.pw_turnedtunes_k39_pieces_refused w) 39 (some (Value.ref 6)) 482 (hRS10 w) (piecesOf hRb10 hRenv hRcd (Pos.mk 102 0 102 8) [topFrame (Pos.mk 0 0 0 0)]) = some (.next, hRS11 w, hRcd, (Pos.mk 145 0 153 71)) := by kernel_rfl
noncomputable def hRt12 (P : Params) : BT := putT [(3, (Obj.mk (Value.type "dict") none (Data.dict (List.toArray [(DictEntry.mk (PyData.keyHash P (Str.ofString "__name__")) (Value.str (Str.ofString "__name__") 165) (Value.str (Str.ofString "turnedtunes.pieces") 900)), (DictEntry.mk (PyData.keyHash P (Str.ofString "__doc__")) (Value.str (Str.ofString "__doc__") 166) Value.none), (DictEntry.mk (PyData.keyHash P (Str.ofString "__package__")) (Value.str (Str.ofString "__package__") 167) Value.none), (DictEntry.mk (PyData.keyHash P (Str.ofString "__loader__")) (Value.str (Str.ofString "__loader__") 168) (Value.builtin "__main__.__loader__#opaque")), (DictEntry.mk (PyData.keyHash P (Str.ofString "__spec__")) (Value.str (Str.ofString "__spec__") 169) Value.none), (DictEntry.mk (PyData.keyHash P (Str.ofString "__annotations__")) (Value.str (Str.ofString "__annotations__") 170) (Value.ref 6)), (DictEntry.mk (PyData.keyHash P (Str.ofString "__builtins__")) (Value.str (Str.ofString "__builtins__") 171) (Value.ref 4)), (DictEntry.mk (PyData.keyHash P (Str.ofString "__file__")) (Value.str (Str.ofString "__file__") 173) (Value.str (Str.ofString "/claim/cut.py") 172)), (DictEntry.mk (PyData.keyHash P (Str.ofString "__cached__")) (Value.str (Str.ofString "__cached__") 174) Value.none), (DictEntry.mk (PyData.keyHash P (Str.ofString "heappop")) (Value.str (Str.ofString "heappop") 312) (Value.builtin "_heapq.heappop")), (DictEntry.mk (PyData.keyHash P (Str.ofString "heappush")) (Value.str (Str.ofString "heappush") 315) (Value.builtin "_heapq.heappush")), (DictEntry.mk (PyData.keyHash P (Str.ofString "_wall")) (Value.str (Str.ofString "_wall") 328) (Value.ref 49)), (DictEntry.mk (PyData.keyHash P (Str.ofString "TuneError")) (Value.str (Str.ofString "TuneError") 357) (Value.ref 66)), (DictEntry.mk (PyData.keyHash P (Str.ofString "BadPlace")) (Value.str (Str.ofString "BadPlace") 373) (Value.ref 79)), (DictEntry.mk (PyData.keyHash P (Str.ofString "BadLength")) (Value.str (Str.ofString "BadLength") 389) (Value.ref 91)), (DictEntry.mk (PyData.keyHash P (Str.ofString "BadAmount")) (Value.str (Str.ofString "BadAmount") 405) (Value.ref 103)), (DictEntry.mk (PyData.keyHash P (Str.ofString "BadWay")) (Value.str (Str.ofString "BadWay") 421) (Value.ref 115)), (DictEntry.mk (PyData.keyHash P (Str.ofString "BadText")) (Value.str (Str.ofString "BadText") 437) (Value.ref 127)), (DictEntry.mk (PyData.keyHash P (Str.ofString "NoPlace")) (Value.str (Str.ofString "NoPlace") 453) (Value.ref 139)), (DictEntry.mk (PyData.keyHash P (Str.ofString "BadNote")) (Value.str (Str.ofString "BadNote") 469) (Value.ref 151)), (DictEntry.mk (PyData.keyHash P (Str.ofString "BadPart")) (Value.str (Str.ofString "BadPart") 485) (Value.ref 163)), (DictEntry.mk (PyData.keyHash P (Str.ofString "NoJoint")) (Value.str (Str.ofString "NoJoint") 501) (Value.ref 175)), (DictEntry.mk (PyData.keyHash P (Str.ofString "BadNumber")) (Value.str (Str.ofString "BadNumber") 517) (Value.ref 187)), (DictEntry.mk (PyData.keyHash P (Str.ofString "BadPieces")) (Value.str (Str.ofString "BadPieces") 533) (Value.ref 199)), (DictEntry.mk (PyData.keyHash P (Str.ofString "GREATEST")) (Value.str (Str.ofString "GREATEST") 539) (Value.int (1000000000000000000000000000000 : Int) 538)), (DictEntry.mk (PyData.keyHash P (Str.ofString "_DIGITS")) (Value.str (Str.ofString "_DIGITS") 541) (Value.int (64 : Int) 540)), (DictEntry.mk (PyData.keyHash P (Str.ofString "_CHUNK")) (Value.str (Str.ofString "_CHUNK") 545) (Value.int (10000000000000000000000000000000000000000000000000000000000000000 : Int) 544)), (DictEntry.mk (PyData.keyHash P (Str.ofString "is_whole")) (Value.str (Str.ofString "is_whole") 552) (Value.ref 208)), (DictEntry.mk (PyData.keyHash P (Str.ofString "is_from")) (Value.str (Str.ofString "is_from") 560) (Value.ref 215)), (DictEntry.mk (PyData.keyHash P (Str.ofString "is_between")) (Value.str (Str.ofString "is_between") 569) (Value.ref 222)), (DictEntry.mk (PyData.keyHash P (Str.ofString "written")) (Value.str (Str.ofString "written") 578) (Value.ref 229)), (DictEntry.mk (PyData.keyHash P (Str.ofString "number_in")) (Value.str (Str.ofString "number_in") 587) (Value.ref 236)), (DictEntry.mk (PyData.keyHash P (Str.ofString "_number_of")) (Value.str (Str.ofString "_number_of") 597) (Value.ref 243)), (DictEntry.mk (PyData.keyHash P (Str.ofString "STILL")) (Value.str (Str.ofString "STILL") 601) (Value.ref 244)), (DictEntry.mk (PyData.keyHash P (Str.ofString "led_by")) (Value.str (Str.ofString "led_by") 611) (Value.ref 251)), (DictEntry.mk (PyData.keyHash P (Str.ofString "led_on")) (Value.str (Str.ofString "led_on") 619) (Value.ref 258)), (DictEntry.mk (PyData.keyHash P (Str.ofString "led_back")) (Value.str (Str.ofString "led_back") 628) (Value.ref 265)), (DictEntry.mk (PyData.keyHash P (Str.ofString "led_often")) (Value.str (Str.ofString "led_often") 638) (Value.ref 272)), (DictEntry.mk (PyData.keyHash P (Str.ofString "word_of")) (Value.str (Str.ofString "word_of") 645) (Value.ref 279)), (DictEntry.mk (PyData.keyHash P (Str.ofString "Step")) (Value.str (Str.ofString "Step") 677) (Value.ref 294)), (DictEntry.mk (PyData.keyHash P (Str.ofString "step_given")) (Value.str (Str.ofString "step_given") 683) (Value.ref 305)), (DictEntry.mk (PyData.keyHash P (Str.ofString "step_back")) (Value.str (Str.ofString "step_back") 690) (Value.ref 312)), (DictEntry.mk (PyData.keyHash P (Str.ofString "step_joined")) (Value.str (Str.ofString "step_joined") 698) (Value.ref 319)), (DictEntry.mk (PyData.keyHash P (Str.ofString "step_times")) (Value.str (Str.ofString "step_times") 706) (Value.ref 326)), (DictEntry.mk (PyData.keyHash P (Str.ofString "step_part")) (Value.str (Str.ofString "step_part") 715) (Value.ref 333)), (DictEntry.mk (PyData.keyHash P (Str.ofString "Link")) (Value.str (Str.ofString "Link") 757) (Value.ref 350)), (DictEntry.mk (PyData.keyHash P (Str.ofString "is_telling")) (Value.str (Str.ofString "is_telling") 764) (Value.ref 361)), (DictEntry.mk (PyData.keyHash P (Str.ofString "part_of_link")) (Value.str (Str.ofString "part_of_link") 775) (Value.ref 368)), (DictEntry.mk (PyData.keyHash P (Str.ofString "settled")) (Value.str (Str.ofString "settled") 782) (Value.ref 375)), (DictEntry.mk (PyData.keyHash P (Str.ofString "_turned")) (Value.str (Str.ofString "_turned") 789) (Value.ref 382)), (DictEntry.mk (PyData.keyHash P (Str.ofString "_settled_straight")) (Value.str (Str.ofString "_settled_straight") 798) (Value.ref 389)), (DictEntry.mk (PyData.keyHash P (Str.ofString "_settled_backward")) (Value.str (Str.ofString "_settled_backward") 810) (Value.ref 396)), (DictEntry.mk (PyData.keyHash P (Str.ofString "shortened")) (Value.str (Str.ofString "shortened") 819) (Value.ref 403)), (DictEntry.mk (PyData.keyHash P (Str.ofString "pulled")) (Value.str (Str.ofString "pulled") 829) (Value.ref 410)), (DictEntry.mk (PyData.keyHash P (Str.ofString "_pulled_away")) (Value.str (Str.ofString "_pulled_away") 843) (Value.ref 417)), (DictEntry.mk (PyData.keyHash P (Str.ofString "_source")) (Value.str (Str.ofString "_source") 853) (Value.ref 499)), (DictEntry.mk (PyData.keyHash P (Str.ofString "source_links")) (Value.str (Str.ofString "source_links") 854) (Value.ref 424)), (DictEntry.mk (PyData.keyHash P (Str.ofString "cuts_of")) (Value.str (Str.ofString "cuts_of") 876) (Value.ref 431)), (DictEntry.mk (PyData.keyHash P (Str.ofString "_greatest_end")) (Value.str (Str.ofString "_greatest_end") 883) (Value.ref 438)), (DictEntry.mk (PyData.keyHash P (Str.ofString "free_in")) (Value.str (Str.ofString "free_in") 889) (Value.ref 443)), (DictEntry.mk (PyData.keyHash P (Str.ofString "free_by")) (Value.str (Str.ofString "free_by") 899) (Value.ref 450)), (DictEntry.mk (PyData.keyHash P (Str.ofString "length_of")) (Value.str (Str.ofString "length_of") 908) (Value.ref 457)), (DictEntry.mk (PyData.keyHash P (Str.ofString "starts_of")) (Value.str (Str.ofString "starts_of") 917) (Value.ref 464)), (DictEntry.mk (PyData.keyHash P (Str.ofString "new_ahead")) (Value.str (Str.ofString "new_ahead") 926) (Value.ref 471)), (DictEntry.mk (PyData.keyHash P (Str.ofString "new_stretches")) (Value.str (Str.ofString "new_stretches") 938) (Value.ref 478)), (DictEntry.mk (PyData.keyHash P (Str.ofString "index_at")) (Value.str (Str.ofString "index_at") 949) (Value.ref 485)), (DictEntry.mk (PyData.keyHash P (Str.ofString "read")) (Value.str (Str.ofString "read") 962) (Value.ref 492)), (DictEntry.mk (PyData.keyHash P (Str.ofString "source_pieces")) (Value.str (Str.ofString "source_pieces") 974) (Value.ref 499)), (DictEntry.mk (PyData.keyHash P (Str.ofString "links_of_pieces")) (Value.str (Str.ofString "links_of_pieces") 985) (Value.ref 506))]) 69) (List.toArray []))),
  (40, (Obj.mk Value.none none (Data.fields (List.toArray [(Value.int (2 : Int) 0), (Value.int (0 : Int) 0), (Value.ref 48), (Value.int (6 : Int) 0), (Value.int (0 : Int) 0), (Value.ref 55), (Value.int (11 : Int) 0), (Value.int (0 : Int) 0), (Value.ref 75), (Value.int (13 : Int) 0), (Value.int (0 : Int) 0), (Value.ref 87), (Value.int (15 : Int) 0), (Value.int (0 : Int) 0), (Value.ref 99), (Value.int (17 : Int) 0), (Value.int (0 : Int) 0), (Value.ref 111), (Value.int (19 : Int) 0), (Value.int (0 : Int) 0), (Value.ref 123), (Value.int (21 : Int) 0), (Value.int (0 : Int) 0), (Value.ref 135), (Value.int (23 : Int) 0), (Value.int (0 : Int) 0), (Value.ref 147), (Value.int (25 : Int) 0), (Value.int (0 : Int) 0), (Value.ref 159), (Value.int (27 : Int) 0), (Value.int (0 : Int) 0), (Value.ref 171), (Value.int (29 : Int) 0), (Value.int (0 : Int) 0), (Value.ref 183), (Value.int (31 : Int) 0), (Value.int (0 : Int) 0), (Value.ref 195), (Value.int (37 : Int) 0), (Value.int (0 : Int) 0), (Value.ref 207), (Value.int (39 : Int) 0), (Value.int (0 : Int) 0), (Value.ref 214), (Value.int (41 : Int) 0), (Value.int (0 : Int) 0), (Value.ref 221), (Value.int (43 : Int) 0), (Value.int (0 : Int) 0), (Value.ref 228), (Value.int (53 : Int) 0), (Value.int (0 : Int) 0), (Value.ref 235), (Value.int (61 : Int) 0), (Value.int (0 : Int) 0), (Value.ref 242), (Value.int (69 : Int) 0), (Value.int (0 : Int) 0), (Value.ref 250), (Value.int (72 : Int) 0), (Value.int (0 : Int) 0), (Value.ref 257), (Value.int (74 : Int) 0), (Value.int (0 : Int) 0), (Value.ref 264), (Value.int (77 : Int) 0), (Value.int (0 : Int) 0), (Value.ref 271), (Value.int (82 : Int) 0), (Value.int (0 : Int) 0), (Value.ref 278), (Value.int (85 : Int) 0), (Value.int (0 : Int) 0), (Value.ref 285), (Value.int (92 : Int) 0), (Value.int (0 : Int) 0), (Value.ref 304), (Value.int (94 : Int) 0), (Value.int (0 : Int) 0), (Value.ref 311), (Value.int (96 : Int) 0), (Value.int (0 : Int) 0), (Value.ref 318), (Value.int (98 : Int) 0), (Value.int (0 : Int) 0), (Value.ref 325), (Value.int (100 : Int) 0), (Value.int (0 : Int) 0), (Value.ref 332), (Value.int (103 : Int) 0), (Value.int (0 : Int) 0), (Value.ref 339), (Value.int (113 : Int) 0), (Value.int (0 : Int) 0), (Value.ref 360), (Value.int (115 : Int) 0), (Value.int (0 : Int) 0), (Value.ref 367), (Value.int (119 : Int) 0), (Value.int (0 : Int) 0), (Value.ref 374), (Value.int (125 : Int) 0), (Value.int (0 : Int) 0), (Value.ref 381), (Value.int (127 : Int) 0), (Value.int (0 : Int) 0), (Value.ref 388), (Value.int (132 : Int) 0), (Value.int (0 : Int) 0), (Value.ref 395), (Value.int (142 : Int) 0), (Value.int (0 : Int) 0), (Value.ref 402), (Value.int (145 : Int) 0), (Value.int (0 : Int) 0), (Value.ref 409), (Value.int (154 : Int) 0), (Value.int (0 : Int) 0), (Value.ref 416), (Value.int (163 : Int) 0), (Value.int (0 : Int) 0), (Value.ref 423), (Value.int (171 : Int) 0), (Value.int (0 : Int) 0), (Value.ref 430), (Value.int (203 : Int) 0), (Value.int (0 : Int) 0), (Value.ref 437), (Value.int (205 : Int) 0), (Value.int (0 : Int) 0), (Value.ref 442), (Value.int (207 : Int) 0), (Value.int (0 : Int) 0), (Value.ref 449), (Value.int (211 : Int) 0), (Value.int (0 : Int) 0), (Value.ref 456), (Value.int (213 : Int) 0), (Value.int (0 : Int) 0), (Value.ref 463), (Value.int (218 : Int) 0), (Value.int (0 : Int) 0), (Value.ref 470), (Value.int (223 : Int) 0), (Value.int (0 : Int) 0), (Value.ref 477), (Value.int (234 : Int) 0), (Value.int (0 : Int) 0), (Value.ref 484), (Value.int (243 : Int) 0), (Value.int (0 : Int) 0), (Value.ref 491), (Value.int (254 : Int) 0), (Value.int (0 : Int) 0), (Value.ref 498), (Value.int (261 : Int) 0), (Value.int (0 : Int) 0), (Value.ref 505)])) (List.toArray []))),
  (411, (Obj.mk (Value.type "tuple") none (Data.seq (List.toArray []) 0) (List.toArray []))),
  (412, (Obj.mk Value.none none (Data.fields (List.toArray [])) (List.toArray []))),
  (413, (Obj.mk (Value.type "tuple") none (Data.seq (List.toArray [(Value.str (Str.ofString "link") 833), (Value.str (Str.ofString "over") 834), (Value.str (Str.ofString "second") 835), (Value.str (Str.ofString "many") 836), (Value.str (Str.ofString "lead") 837), (Value.str (Str.ofString "step") 838), (Value.str (Str.ofString "new_lead") 839), (Value.str (Str.ofString "new_step") 840)]) 0) (List.toArray []))),
  (414, (Obj.mk (Value.type "tuple") none (Data.seq (List.toArray []) 0) (List.toArray []))),
  (415, (Obj.mk Value.none none (Data.func (FuncData.mk (Str.ofString "_pulled_away") (Str.ofString "_pulled_away") (L2.defArgs (top 49)) (FuncBody.stmts (L2.defBody (top 49))) (L2.defScope (top 49)) 0 [] Value.none Value.none Value.none Value.none none Value.none Value.none 0)) (List.toArray []))),
  (416, (Obj.mk (Value.type "code") none (Data.fields (List.toArray [(Value.str (Str.ofString "_pulled_away") 830), (Value.str (Str.ofString "_pulled_away") 831), (Value.str (Str.ofString "/claim/cut.py") 832), (Value.int (154 : Int) 0), (Value.int (2 : Int) 0), (Value.int (0 : Int) 0), (Value.int (0 : Int) 0), (Value.int (3 : Int) 0), (Value.ref 411), (Value.bool Bool.true), (Value.int (316 : Int) 0), (Value.ref 412), Value.none, (Value.ref 413), (Value.ref 414), (Value.ref 415), (Value.int (841 : Int) 0), (Value.int (154 : Int) 0), (Value.str (Str.ofString "/claim/cut.py") 842)])) (List.toArray []))),
  (417, (Obj.mk (Value.type "function") none (Data.func (FuncData.mk (Str.ofString "_pulled_away") (Str.ofString "_pulled_away") (L2.defArgs (top 49)) (FuncBody.stmts (L2.defBody (top 49))) (L2.defScope (top 49)) 3 [] Value.none Value.none Value.none (Value.str (Str.ofString "turnedtunes.links") 716) none (Value.ref 416) Value.none 0)) (List.toArray []))),
  (418, (Obj.mk (Value.type "tuple") none (Data.seq (List.toArray []) 0) (List.toArray []))),
  (419, (Obj.mk Value.none none (Data.fields (List.toArray [])) (List.toArray []))),
  (420, (Obj.mk (Value.type "tuple") none (Data.seq (List.toArray [(Value.str (Str.ofString "link") 847), (Value.str (Str.ofString "over") 848), (Value.str (Str.ofString "shift") 849), (Value.str (Str.ofString "many") 850)]) 0) (List.toArray []))),
  (421, (Obj.mk (Value.type "tuple") none (Data.seq (List.toArray []) 0) (List.toArray []))),
  (422, (Obj.mk Value.none none (Data.func (FuncData.mk (Str.ofString "_source") (Str.ofString "_source") (L2.defArgs (top 50)) (FuncBody.stmts (L2.defBody (top 50))) (L2.defScope (top 50)) 0 [] Value.none Value.none Value.none Value.none none Value.none Value.none 0)) (List.toArray []))),
  (423, (Obj.mk (Value.type "code") none (Data.fields (List.toArray [(Value.str (Str.ofString "_source") 844), (Value.str (Str.ofString "_source") 845), (Value.str (Str.ofString "/claim/cut.py") 846), (Value.int (163 : Int) 0), (Value.int (2 : Int) 0), (Value.int (0 : Int) 0), (Value.int (0 : Int) 0), (Value.int (3 : Int) 0), (Value.ref 418), (Value.bool Bool.true), (Value.int (316 : Int) 0), (Value.ref 419), Value.none, (Value.ref 420), (Value.ref 421), (Value.ref 422), (Value.int (851 : Int) 0), (Value.int (163 : Int) 0), (Value.str (Str.ofString "/claim/cut.py") 852)])) (List.toArray []))),
  (424, (Obj.mk (Value.type "function") none (Data.func (FuncData.mk (Str.ofString "_source") (Str.ofString "_source") (L2.defArgs (top 50)) (FuncBody.stmts (L2.defBody (top 50))) (L2.defScope (top 50)) 3 [] Value.none Value.none Value.none (Value.str (Str.ofString "turnedtunes.links") 716) none (Value.ref 423) Value.none 0)) (List.toArray []))),
  (425, (Obj.mk (Value.type "tuple") none (Data.seq (List.toArray []) 0) (List.toArray []))),
  (426, (Obj.mk Value.none none (Data.fields (List.toArray [])) (List.toArray []))),
  (427, (Obj.mk (Value.type "tuple") none (Data.seq (List.toArray [(Value.str (Str.ofString "size") 860), (Value.str (Str.ofString "links") 861), (Value.str (Str.ofString "queue") 862), (Value.str (Str.ofString "known") 863), (Value.str (Str.ofString "cuts") 864), (Value.str (Str.ofString "end") 865), (Value.str (Str.ofString "coming") 866), (Value.str (Str.ofString "link") 867), (Value.str (Str.ofString "found") 868), (Value.str (Str.ofString "clash") 869), (Value.str (Str.ofString "one") 870), (Value.str (Str.ofString "start") 871), (Value.str (Str.ofString "entry") 872), (Value.str (Str.ofString "over") 873)]) 0) (List.toArray []))),
  (428, (Obj.mk (Value.type "tuple") none (Data.seq (List.toArray []) 0) (List.toArray []))),
  (429, (Obj.mk Value.none none (Data.func (FuncData.mk (Str.ofString "cuts_of") (Str.ofString "cuts_of") (L2.defArgs (top 53)) (FuncBody.stmts (L2.defBody (top 53))) (L2.defScope (top 53)) 0 [] Value.none Value.none Value.none Value.none none Value.none Value.none 0)) (List.toArray []))),
  (430, (Obj.mk (Value.type "code") none (Data.fields (List.toArray [(Value.str (Str.ofString "cuts_of") 857), (Value.str (Str.ofString "cuts_of") 858), (Value.str (Str.ofString "/claim/cut.py") 859), (Value.int (171 : Int) 0), (Value.int (2 : Int) 0), (Value.int (0 : Int) 0), (Value.int (0 : Int) 0), (Value.int (3 : Int) 0), (Value.ref 425), (Value.bool Bool.true), (Value.int (316 : Int) 0), (Value.ref 426), Value.none, (Value.ref 427), (Value.ref 428), (Value.ref 429), (Value.int (874 : Int) 0), (Value.int (171 : Int) 0), (Value.str (Str.ofString "/claim/cut.py") 875)])) (List.toArray []))),
  (431, (Obj.mk (Value.type "function") none (Data.func (FuncData.mk (Str.ofString "cuts_of") (Str.ofString "cuts_of") (L2.defArgs (top 53)) (FuncBody.stmts (L2.defBody (top 53))) (L2.defScope (top 53)) 3 [] Value.none Value.none Value.none (Value.str (Str.ofString "turnedtunes.solving") 855) none (Value.ref 430) Value.none 0)) (List.toArray []))),
  (432, (Obj.mk (Value.type "tuple") none (Data.seq (List.toArray []) 0) (List.toArray []))),
  (433, (Obj.mk Value.none none (Data.fields (List.toArray [])) (List.toArray []))),
  (434, (Obj.mk (Value.type "tuple") none (Data.seq (List.toArray [(Value.str (Str.ofString "queue") 880)]) 0) (List.toArray []))),
  (435, (Obj.mk (Value.type "tuple") none (Data.seq (List.toArray []) 0) (List.toArray []))),
  (436, (Obj.mk Value.none none (Data.func (FuncData.mk (Str.ofString "_greatest_end") (Str.ofString "_greatest_end") (L2.defArgs (top 54)) (FuncBody.stmts (L2.defBody (top 54))) (L2.defScope (top 54)) 0 [] Value.none Value.none Value.none Value.none none Value.none Value.none 0)) (List.toArray []))),
  (437, (Obj.mk (Value.type "code") none (Data.fields (List.toArray [(Value.str (Str.ofString "_greatest_end") 877), (Value.str (Str.ofString "_greatest_end") 878), (Value.str (Str.ofString "/claim/cut.py") 879), (Value.int (203 : Int) 0), (Value.int (1 : Int) 0), (Value.int (0 : Int) 0), (Value.int (0 : Int) 0), (Value.int (3 : Int) 0), (Value.ref 432), (Value.bool Bool.true), (Value.int (316 : Int) 0), (Value.ref 433), Value.none, (Value.ref 434), (Value.ref 435), (Value.ref 436), (Value.int (881 : Int) 0), (Value.int (203 : Int) 0), (Value.str (Str.ofString "/claim/cut.py") 882)])) (List.toArray []))),
  (438, (Obj.mk (Value.type "function") none (Data.func (FuncData.mk (Str.ofString "_greatest_end") (Str.ofString "_greatest_end") (L2.defArgs (top 54)) (FuncBody.stmts (L2.defBody (top 54))) (L2.defScope (top 54)) 3 [] Value.none Value.none Value.none (Value.str (Str.ofString "turnedtunes.solving") 855) none (Value.ref 437) Value.none 0)) (List.toArray []))),
  (439, (Obj.mk (Value.type "tuple") none (Data.seq (List.toArray []) 0) (List.toArray []))),
  (440, (Obj.mk Value.none none (Data.fields (List.toArray [])) (List.toArray []))),
  (441, (Obj.mk Value.none none (Data.func (FuncData.mk (Str.ofString "free_in") (Str.ofString "free_in") (L2.defArgs (top 55)) (FuncBody.stmts (L2.defBody (top 55))) (L2.defScope (top 55)) 0 [] Value.none Value.none Value.none Value.none none Value.none Value.none 0)) (List.toArray []))),
  (442, (Obj.mk (Value.type "code") none (Data.fields (List.toArray [(Value.str (Str.ofString "free_in") 884), (Value.str (Str.ofString "free_in") 885), (Value.str (Str.ofString "/claim/cut.py") 886), (Value.int (205 : Int) 0), (Value.int (1 : Int) 0), (Value.int (0 : Int) 0), (Value.int (0 : Int) 0), (Value.int (3 : Int) 0), (Value.ref 439), (Value.bool Bool.true), (Value.int (316 : Int) 0), (Value.ref 440), Value.none, Value.none, Value.none, (Value.ref 441), (Value.int (887 : Int) 0), (Value.int (205 : Int) 0), (Value.str (Str.ofString "/claim/cut.py") 888)])) (List.toArray []))),
  (443, (Obj.mk (Value.type "function") none (Data.func (FuncData.mk (Str.ofString "free_in") (Str.ofString "free_in") (L2.defArgs (top 55)) (FuncBody.stmts (L2.defBody (top 55))) (L2.defScope (top 55)) 3 [] Value.none Value.none Value.none (Value.str (Str.ofString "turnedtunes.solving") 855) none (Value.ref 442) Value.none 0)) (List.toArray []))),
  (444, (Obj.mk (Value.type "tuple") none (Data.seq (List.toArray []) 0) (List.toArray []))),
  (445, (Obj.mk Value.none none (Data.fields (List.toArray [])) (List.toArray []))),
  (446, (Obj.mk (Value.type "tuple") none (Data.seq (List.toArray [(Value.str (Str.ofString "size") 893), (Value.str (Str.ofString "links") 894), (Value.str (Str.ofString "cuts") 895), (Value.str (Str.ofString "clash") 896)]) 0) (List.toArray []))),
  (447, (Obj.mk (Value.type "tuple") none (Data.seq (List.toArray []) 0) (List.toArray []))),
  (448, (Obj.mk Value.none none (Data.func (FuncData.mk (Str.ofString "free_by") (Str.ofString "free_by") (L2.defArgs (top 56)) (FuncBody.stmts (L2.defBody (top 56))) (L2.defScope (top 56)) 0 [] Value.none Value.none Value.none Value.none none Value.none Value.none 0)) (List.toArray []))),
  (449, (Obj.mk (Value.type "code") none (Data.fields (List.toArray [(Value.str (Str.ofString "free_by") 890), (Value.str (Str.ofString "free_by") 891), (Value.str (Str.ofString "/claim/cut.py") 892), (Value.int (207 : Int) 0), (Value.int (2 : Int) 0), (Value.int (0 : Int) 0), (Value.int (0 : Int) 0), (Value.int (3 : Int) 0), (Value.ref 444), (Value.bool Bool.true), (Value.int (316 : Int) 0), (Value.ref 445), Value.none, (Value.ref 446), (Value.ref 447), (Value.ref 448), (Value.int (897 : Int) 0), (Value.int (207 : Int) 0), (Value.str (Str.ofString "/claim/cut.py") 898)])) (List.toArray []))),
  (450, (Obj.mk (Value.type "function") none (Data.func (FuncData.mk (Str.ofString "free_by") (Str.ofString "free_by") (L2.defArgs (top 56)) (FuncBody.stmts (L2.defBody (top 56))) (L2.defScope (top 56)) 3 [] Value.none Value.none Value.none (Value.str (Str.ofString "turnedtunes.solving") 855) none (Value.ref 449) Value.none 0)) (List.toArray []))),
  (451, (Obj.mk (Value.type "tuple") none (Data.seq (List.toArray []) 0) (List.toArray []))),
  (452, (Obj.mk Value.none none (Data.fields (List.toArray [])) (List.toArray []))),
  (453, (Obj.mk (Value.type "tuple") none (Data.seq (List.toArray [(Value.str (Str.ofString "piece") 905)]) 0) (List.toArray []))),
  (454, (Obj.mk (Value.type "tuple") none (Data.seq (List.toArray []) 0) (List.toArray []))),
  (455, (Obj.mk Value.none none (Data.func (FuncData.mk (Str.ofString "length_of") (Str.ofString "length_of") (L2.defArgs (top 58)) (FuncBody.stmts (L2.defBody (top 58))) (L2.defScope (top 58)) 0 [] Value.none Value.none Value.none Value.none none Value.none Value.none 0)) (List.toArray []))),
  (456, (Obj.mk (Value.type "code") none (Data.fields (List.toArray [(Value.str (Str.ofString "length_of") 902), (Value.str (Str.ofString "length_of") 903), (Value.str (Str.ofString "/claim/cut.py") 904), (Value.int (211 : Int) 0), (Value.int (1 : Int) 0), (Value.int (0 : Int) 0), (Value.int (0 : Int) 0), (Value.int (3 : Int) 0), (Value.ref 451), (Value.bool Bool.true), (Value.int (316 : Int) 0), (Value.ref 452), Value.none, (Value.ref 453), (Value.ref 454), (Value.ref 455), (Value.int (906 : Int) 0), (Value.int (211 : Int) 0), (Value.str (Str.ofString "/claim/cut.py") 907)])) (List.toArray []))),
  (457, (Obj.mk (Value.type "function") none (Data.func (FuncData.mk (Str.ofString "length_of") (Str.ofString "length_of") (L2.defArgs (top 58)) (FuncBody.stmts (L2.defBody (top 58))) (L2.defScope (top 58)) 3 [] Value.none Value.none Value.none (Value.str (Str.ofString "turnedtunes.pieces") 900) none (Value.ref 456) Value.none 0)) (List.toArray []))),
  (458, (Obj.mk (Value.type "tuple") none (Data.seq (List.toArray []) 0) (List.toArray []))),
  (459, (Obj.mk Value.none none (Data.fields (List.toArray [])) (List.toArray []))),
  (460, (Obj.mk (Value.type "tuple") none (Data.seq (List.toArray [(Value.str (Str.ofString "pieces") 912), (Value.str (Str.ofString "starts") 913), (Value.str (Str.ofString "piece") 914)]) 0) (List.toArray []))),
  (461, (Obj.mk (Value.type "tuple") none (Data.seq (List.toArray []) 0) (List.toArray []))),
  (462, (Obj.mk Value.none none (Data.func (FuncData.mk (Str.ofString "starts_of") (Str.ofString "starts_of") (L2.defArgs (top 59)) (FuncBody.stmts (L2.defBody (top 59))) (L2.defScope (top 59)) 0 [] Value.none Value.none Value.none Value.none none Value.none Value.none 0)) (List.toArray []))),
  (463, (Obj.mk (Value.type "code") none (Data.fields (List.toArray [(Value.str (Str.ofString "starts_of") 909), (Value.str (Str.ofString "starts_of") 910), (Value.str (Str.ofString "/claim/cut.py") 911), (Value.int (213 : Int) 0), (Value.int (1 : Int) 0), (Value.int (0 : Int) 0), (Value.int (0 : Int) 0), (Value.int (3 : Int) 0), (Value.ref 458), (Value.bool Bool.true), (Value.int (316 : Int) 0), (Value.ref 459), Value.none, (Value.ref 460), (Value.ref 461), (Value.ref 462), (Value.int (915 : Int) 0), (Value.int (213 : Int) 0), (Value.str (Str.ofString "/claim/cut.py") 916)])) (List.toArray []))),
  (464, (Obj.mk (Value.type "function") none (Data.func (FuncData.mk (Str.ofString "starts_of") (Str.ofString "starts_of") (L2.defArgs (top 59)) (FuncBody.stmts (L2.defBody (top 59))) (L2.defScope (top 59)) 3 [] Value.none Value.none Value.none (Value.str (Str.ofString "turnedtunes.pieces") 900) none (Value.ref 463) Value.none 0)) (List.toArray []))),
  (465, (Obj.mk (Value.type "tuple") none (Data.seq (List.toArray []) 0) (List.toArray []))),
  (466, (Obj.mk Value.none none (Data.fields (List.toArray [])) (List.toArray []))),
  (467, (Obj.mk (Value.type "tuple") none (Data.seq (List.toArray [(Value.str (Str.ofString "pieces") 921), (Value.str (Str.ofString "many") 922), (Value.str (Str.ofString "piece") 923)]) 0) (List.toArray []))),
  (468, (Obj.mk (Value.type "tuple") none (Data.seq (List.toArray []) 0) (List.toArray []))),
  (469, (Obj.mk Value.none none (Data.func (FuncData.mk (Str.ofString "new_ahead") (Str.ofString "new_ahead") (L2.defArgs (top 60)) (FuncBody.stmts (L2.defBody (top 60))) (L2.defScope (top 60)) 0 [] Value.none Value.none Value.none Value.none none Value.none Value.none 0)) (List.toArray []))),
  (470, (Obj.mk (Value.type "code") none (Data.fields (List.toArray [(Value.str (Str.ofString "new_ahead") 918), (Value.str (Str.ofString "new_ahead") 919), (Value.str (Str.ofString "/claim/cut.py") 920), (Value.int (218 : Int) 0), (Value.int (1 : Int) 0), (Value.int (0 : Int) 0), (Value.int (0 : Int) 0), (Value.int (3 : Int) 0), (Value.ref 465), (Value.bool Bool.true), (Value.int (316 : Int) 0), (Value.ref 466), Value.none, (Value.ref 467), (Value.ref 468), (Value.ref 469), (Value.int (924 : Int) 0), (Value.int (218 : Int) 0), (Value.str (Str.ofString "/claim/cut.py") 925)])) (List.toArray []))),
  (471, (Obj.mk (Value.type "function") none (Data.func (FuncData.mk (Str.ofString "new_ahead") (Str.ofString "new_ahead") (L2.defArgs (top 60)) (FuncBody.stmts (L2.defBody (top 60))) (L2.defScope (top 60)) 3 [] Value.none Value.none Value.none (Value.str (Str.ofString "turnedtunes.pieces") 900) none (Value.ref 470) Value.none 0)) (List.toArray []))),
  (472, (Obj.mk (Value.type "tuple") none (Data.seq (List.toArray []) 0) (List.toArray []))),
  (473, (Obj.mk Value.none none (Data.fields (List.toArray [])) (List.toArray []))),
  (474, (Obj.mk (Value.type "tuple") none (Data.seq (List.toArray [(Value.str (Str.ofString "pieces") 930), (Value.str (Str.ofString "found") 931), (Value.str (Str.ofString "start") 932), (Value.str (Str.ofString "piece") 933), (Value.str (Str.ofString "first") 934), (Value.str (Str.ofString "length") 935)]) 0) (List.toArray []))),
  (475, (Obj.mk (Value.type "tuple") none (Data.seq (List.toArray []) 0) (List.toArray []))),
  (476, (Obj.mk Value.none none (Data.func (FuncData.mk (Str.ofString "new_stretches") (Str.ofString "new_stretches") (L2.defArgs (top 61)) (FuncBody.stmts (L2.defBody (top 61))) (L2.defScope (top 61)) 0 [] Value.none Value.none Value.none Value.none none Value.none Value.none 0)) (List.toArray []))),
  (477, (Obj.mk (Value.type "code") none (Data.fields (List.toArray [(Value.str (Str.ofString "new_stretches") 927), (Value.str (Str.ofString "new_stretches") 928), (Value.str (Str.ofString "/claim/cut.py") 929), (Value.int (223 : Int) 0), (Value.int (1 : Int) 0), (Value.int (0 : Int) 0), (Value.int (0 : Int) 0), (Value.int (3 : Int) 0), (Value.ref 472), (Value.bool Bool.true), (Value.int (316 : Int) 0), (Value.ref 473), Value.none, (Value.ref 474), (Value.ref 475), (Value.ref 476), (Value.int (936 : Int) 0), (Value.int (223 : Int) 0), (Value.str (Str.ofString "/claim/cut.py") 937)])) (List.toArray []))),
  (478, (Obj.mk (Value.type "function") none (Data.func (FuncData.mk (Str.ofString "new_stretches") (Str.ofString "new_stretches") (L2.defArgs (top 61)) (FuncBody.stmts (L2.defBody (top 61))) (L2.defScope (top 61)) 3 [] Value.none Value.none Value.none (Value.str (Str.ofString "turnedtunes.pieces") 900) none (Value.ref 477) Value.none 0)) (List.toArray []))),
  (479, (Obj.mk (Value.type "tuple") none (Data.seq (List.toArray []) 0) (List.toArray []))),
  (480, (Obj.mk Value.none none (Data.fields (List.toArray [])) (List.toArray []))),
  (481, (Obj.mk (Value.type "tuple") none (Data.seq (List.toArray [(Value.str (Str.ofString "starts") 942), (Value.str (Str.ofString "place") 943), (Value.str (Str.ofString "low") 944), (Value.str (Str.ofString "high") 945), (Value.str (Str.ofString "middle") 946)]) 0) (List.toArray []))),
  (482, (Obj.mk (Value.type "tuple") none (Data.seq (List.toArray []) 0) (List.toArray []))),
  (483, (Obj.mk Value.none none (Data.func (FuncData.mk (Str.ofString "index_at") (Str.ofString "index_at") (L2.defArgs (top 62)) (FuncBody.stmts (L2.defBody (top 62))) (L2.defScope (top 62)) 0 [] Value.none Value.none Value.none Value.none none Value.none Value.none 0)) (List.toArray []))),
  (484, (Obj.mk (Value.type "code") none (Data.fields (List.toArray [(Value.str (Str.ofString "index_at") 939), (Value.str (Str.ofString "index_at") 940), (Value.str (Str.ofString "/claim/cut.py") 941), (Value.int (234 : Int) 0), (Value.int (2 : Int) 0), (Value.int (0 : Int) 0), (Value.int (0 : Int) 0), (Value.int (3 : Int) 0), (Value.ref 479), (Value.bool Bool.true), (Value.int (316 : Int) 0), (Value.ref 480), Value.none, (Value.ref 481), (Value.ref 482), (Value.ref 483), (Value.int (947 : Int) 0), (Value.int (234 : Int) 0), (Value.str (Str.ofString "/claim/cut.py") 948)])) (List.toArray []))),
  (485, (Obj.mk (Value.type "function") none (Data.func (FuncData.mk (Str.ofString "index_at") (Str.ofString "index_at") (L2.defArgs (top 62)) (FuncBody.stmts (L2.defBody (top 62))) (L2.defScope (top 62)) 3 [] Value.none Value.none Value.none (Value.str (Str.ofString "turnedtunes.pieces") 900) none (Value.ref 484) Value.none 0)) (List.toArray []))),
  (486, (Obj.mk (Value.type "tuple") none (Data.seq (List.toArray []) 0) (List.toArray []))),
  (487, (Obj.mk Value.none none (Data.fields (List.toArray [])) (List.toArray []))),
  (488, (Obj.mk (Value.type "tuple") none (Data.seq (List.toArray [(Value.str (Str.ofString "pieces") 953), (Value.str (Str.ofString "starts") 954), (Value.str (Str.ofString "place") 955), (Value.str (Str.ofString "lead") 956), (Value.str (Str.ofString "at") 957), (Value.str (Str.ofString "piece") 958), (Value.str (Str.ofString "many") 959)]) 0) (List.toArray []))),
  (489, (Obj.mk (Value.type "tuple") none (Data.seq (List.toArray []) 0) (List.toArray []))),
  (490, (Obj.mk Value.none none (Data.func (FuncData.mk (Str.ofString "read") (Str.ofString "read") (L2.defArgs (top 63)) (FuncBody.stmts (L2.defBody (top 63))) (L2.defScope (top 63)) 0 [] Value.none Value.none Value.none Value.none none Value.none Value.none 0)) (List.toArray []))),
  (491, (Obj.mk (Value.type "code") none (Data.fields (List.toArray [(Value.str (Str.ofString "read") 950), (Value.str (Str.ofString "read") 951), (Value.str (Str.ofString "/claim/cut.py") 952), (Value.int (243 : Int) 0), (Value.int (3 : Int) 0), (Value.int (0 : Int) 0), (Value.int (0 : Int) 0), (Value.int (3 : Int) 0), (Value.ref 486), (Value.bool Bool.true), (Value.int (316 : Int) 0), (Value.ref 487), Value.none, (Value.ref 488), (Value.ref 489), (Value.ref 490), (Value.int (960 : Int) 0), (Value.int (243 : Int) 0), (Value.str (Str.ofString "/claim/cut.py") 961)])) (List.toArray []))),
  (492, (Obj.mk (Value.type "function") none (Data.func (FuncData.mk (Str.ofString "read") (Str.ofString "read") (L2.defArgs (top 63)) (FuncBody.stmts (L2.defBody (top 63))) (L2.defScope (top 63)) 3 [] Value.none Value.none Value.none (Value.str (Str.ofString "turnedtunes.pieces") 900) none (Value.ref 491) Value.none 0)) (List.toArray []))),
  (493, (Obj.mk (Value.type "tuple") none (Data.seq (List.toArray []) 0) (List.toArray []))),
  (494, (Obj.mk Value.none none (Data.fields (List.toArray [])) (List.toArray []))),
  (495, (Obj.mk (Value.type "tuple") none (Data.seq (List.toArray [(Value.str (Str.ofString "piece") 966), (Value.str (Str.ofString "here") 967), (Value.str (Str.ofString "place") 968), (Value.str (Str.ofString "shift") 969), (Value.str (Str.ofString "many") 970)]) 0) (List.toArray []))),
  (496, (Obj.mk (Value.type "tuple") none (Data.seq (List.toArray []) 0) (List.toArray []))),
  (497, (Obj.mk Value.none none (Data.func (FuncData.mk (Str.ofString "_source") (Str.ofString "_source") (L2.defArgs (top 64)) (FuncBody.stmts (L2.defBody (top 64))) (L2.defScope (top 64)) 0 [] Value.none Value.none Value.none Value.none none Value.none Value.none 0)) (List.toArray []))),
  (498, (Obj.mk (Value.type "code") none (Data.fields (List.toArray [(Value.str (Str.ofString "_source") 963), (Value.str (Str.ofString "_source") 964), (Value.str (Str.ofString "/claim/cut.py") 965), (Value.int (254 : Int) 0), (Value.int (3 : Int) 0), (Value.int (0 : Int) 0), (Value.int (0 : Int) 0), (Value.int (3 : Int) 0), (Value.ref 493), (Value.bool Bool.true), (Value.int (316 : Int) 0), (Value.ref 494), Value.none, (Value.ref 495), (Value.ref 496), (Value.ref 497), (Value.int (971 : Int) 0), (Value.int (254 : Int) 0), (Value.str (Str.ofString "/claim/cut.py") 972)])) (List.toArray []))),
  (499, (Obj.mk (Value.type "function") none (Data.func (FuncData.mk (Str.ofString "_source") (Str.ofString "_source") (L2.defArgs (top 64)) (FuncBody.stmts (L2.defBody (top 64))) (L2.defScope (top 64)) 3 [] Value.none Value.none Value.none (Value.str (Str.ofString "turnedtunes.pieces") 900) none (Value.ref 498) Value.none 0)) (List.toArray []))),
  (500, (Obj.mk (Value.type "tuple") none (Data.seq (List.toArray []) 0) (List.toArray []))),
  (501, (Obj.mk Value.none none (Data.fields (List.toArray [])) (List.toArray []))),
  (502, (Obj.mk (Value.type "tuple") none (Data.seq (List.toArray [(Value.str (Str.ofString "pieces") 978), (Value.str (Str.ofString "given") 979), (Value.str (Str.ofString "links") 980), (Value.str (Str.ofString "here") 981), (Value.str (Str.ofString "piece") 982)]) 0) (List.toArray []))),
  (503, (Obj.mk (Value.type "tuple") none (Data.seq (List.toArray []) 0) (List.toArray []))),
  (504, (Obj.mk Value.none none (Data.func (FuncData.mk (Str.ofString "links_of_pieces") (Str.ofString "links_of_pieces") (L2.defArgs (top 66)) (FuncBody.stmts (L2.defBody (top 66))) (L2.defScope (top 66)) 0 [] Value.none Value.none Value.none Value.none none Value.none Value.none 0)) (List.toArray []))),
  (505, (Obj.mk (Value.type "code") none (Data.fields (List.toArray [(Value.str (Str.ofString "links_of_pieces") 975), (Value.str (Str.ofString "links_of_pieces") 976), (Value.str (Str.ofString "/claim/cut.py") 977), (Value.int (261 : Int) 0), (Value.int (1 : Int) 0), (Value.int (0 : Int) 0), (Value.int (0 : Int) 0), (Value.int (3 : Int) 0), (Value.ref 500), (Value.bool Bool.true), (Value.int (316 : Int) 0), (Value.ref 501), Value.none, (Value.ref 502), (Value.ref 503), (Value.ref 504), (Value.int (983 : Int) 0), (Value.int (261 : Int) 0), (Value.str (Str.ofString "/claim/cut.py") 984)])) (List.toArray []))),
  (506, (Obj.mk (Value.type "function") none (Data.func (FuncData.mk (Str.ofString "links_of_pieces") (Str.ofString "links_of_pieces") (L2.defArgs (top 66)) (FuncBody.stmts (L2.defBody (top 66))) (L2.defScope (top 66)) 3 [] Value.none Value.none Value.none (Value.str (Str.ofString "turnedtunes.pieces") 900) none (Value.ref 505) Value.none 0)) (List.toArray [])))] (hRt11 P)
noncomputable def hRS12 (w : World) : SharedT := ⟨hRt12 w.params, 507, (Life.mk [] [] [] 0 [] [] Bool.false (List.toArray []) [] 0 Bool.false Bool.false Bool.false (0 : Int) [(2000 : Int), (10 : Int), (10 : Int)] Bool.false 0 Bool.true [] [] 0 Bool.false), (List.toArray []), (Drawn.mk 0 0 0 0), 986, (start (opening Challenge.pw_turnedtunes_k39_pieces_refused)).1.os⟩
noncomputable def hRb11 : List Stmt := ((behindTheImports Challenge.pw_turnedtunes_k39_pieces_refused).drop 48).take 18
theorem hRg11 (w : World) : segF (stepQ (denQ tabQ) Challenge.pw_turnedtunes_k39_pieces_refused w) 39 (some (Value.ref 6)) 495 (hRS11 w) (piecesOf hRb11 hRenv hRcd (Pos.mk 145 0 153 71) [topFrame (Pos.mk 0 0 0 0)]) = some (.next, hRS12 w, hRcd, (Pos.mk 261 0 269 16)) := by kernel_rfl
noncomputable def hRt13 (P : Params) : BT := putT [(3, (Obj.mk (Value.type "dict") none (Data.dict (List.toArray [(DictEntry.mk (PyData.keyHash P (Str.ofString "__name__")) (Value.str (Str.ofString "__name__") 165) (Value.str (Str.ofString "turnedtunes.melodies") 994)), (DictEntry.mk (PyData.keyHash P (Str.ofString "__doc__")) (Value.str (Str.ofString "__doc__") 166) Value.none), (DictEntry.mk (PyData.keyHash P (Str.ofString "__package__")) (Value.str (Str.ofString "__package__") 167) Value.none), (DictEntry.mk (PyData.keyHash P (Str.ofString "__loader__")) (Value.str (Str.ofString "__loader__") 168) (Value.builtin "__main__.__loader__#opaque")), (DictEntry.mk (PyData.keyHash P (Str.ofString "__spec__")) (Value.str (Str.ofString "__spec__") 169) Value.none), (DictEntry.mk (PyData.keyHash P (Str.ofString "__annotations__")) (Value.str (Str.ofString "__annotations__") 170) (Value.ref 6)), (DictEntry.mk (PyData.keyHash P (Str.ofString "__builtins__")) (Value.str (Str.ofString "__builtins__") 171) (Value.ref 4)), (DictEntry.mk (PyData.keyHash P (Str.ofString "__file__")) (Value.str (Str.ofString "__file__") 173) (Value.str (Str.ofString "/claim/cut.py") 172)), (DictEntry.mk (PyData.keyHash P (Str.ofString "__cached__")) (Value.str (Str.ofString "__cached__") 174) Value.none), (DictEntry.mk (PyData.keyHash P (Str.ofString "heappop")) (Value.str (Str.ofString "heappop") 312) (Value.builtin "_heapq.heappop")), (DictEntry.mk (PyData.keyHash P (Str.ofString "heappush")) (Value.str (Str.ofString "heappush") 315) (Value.builtin "_heapq.heappush")), (DictEntry.mk (PyData.keyHash P (Str.ofString "_wall")) (Value.str (Str.ofString "_wall") 328) (Value.ref 49)), (DictEntry.mk (PyData.keyHash P (Str.ofString "TuneError")) (Value.str (Str.ofString "TuneError") 357) (Value.ref 66)), (DictEntry.mk (PyData.keyHash P (Str.ofString "BadPlace")) (Value.str (Str.ofString "BadPlace") 373) (Value.ref 79)), (DictEntry.mk (PyData.keyHash P (Str.ofString "BadLength")) (Value.str (Str.ofString "BadLength") 389) (Value.ref 91)), (DictEntry.mk (PyData.keyHash P (Str.ofString "BadAmount")) (Value.str (Str.ofString "BadAmount") 405) (Value.ref 103)), (DictEntry.mk (PyData.keyHash P (Str.ofString "BadWay")) (Value.str (Str.ofString "BadWay") 421) (Value.ref 115)), (DictEntry.mk (PyData.keyHash P (Str.ofString "BadText")) (Value.str (Str.ofString "BadText") 437) (Value.ref 127)), (DictEntry.mk (PyData.keyHash P (Str.ofString "NoPlace")) (Value.str (Str.ofString "NoPlace") 453) (Value.ref 139)), (DictEntry.mk (PyData.keyHash P (Str.ofString "BadNote")) (Value.str (Str.ofString "BadNote") 469) (Value.ref 151)), (DictEntry.mk (PyData.keyHash P (Str.ofString "BadPart")) (Value.str (Str.ofString "BadPart") 485) (Value.ref 163)), (DictEntry.mk (PyData.keyHash P (Str.ofString "NoJoint")) (Value.str (Str.ofString "NoJoint") 501) (Value.ref 175)), (DictEntry.mk (PyData.keyHash P (Str.ofString "BadNumber")) (Value.str (Str.ofString "BadNumber") 517) (Value.ref 187)), (DictEntry.mk (PyData.keyHash P (Str.ofString "BadPieces")) (Value.str (Str.ofString "BadPieces") 533) (Value.ref 199)), (DictEntry.mk (PyData.keyHash P (Str.ofString "GREATEST")) (Value.str (Str.ofString "GREATEST") 539) (Value.int (1000000000000000000000000000000 : Int) 538)), (DictEntry.mk (PyData.keyHash P (Str.ofString "_DIGITS")) (Value.str (Str.ofString "_DIGITS") 541) (Value.int (64 : Int) 540)), (DictEntry.mk (PyData.keyHash P (Str.ofString "_CHUNK")) (Value.str (Str.ofString "_CHUNK") 545) (Value.int (10000000000000000000000000000000000000000000000000000000000000000 : Int) 544)), (DictEntry.mk (PyData.keyHash P (Str.ofString "is_whole")) (Value.str (Str.ofString "is_whole") 552) (Value.ref 208)), (DictEntry.mk (PyData.keyHash P (Str.ofString "is_from")) (Value.str (Str.ofString "is_from") 560) (Value.ref 215)), (DictEntry.mk (PyData.keyHash P (Str.ofString "is_between")) (Value.str (Str.ofString "is_between") 569) (Value.ref 222)), (DictEntry.mk (PyData.keyHash P (Str.ofString "written")) (Value.str (Str.ofString "written") 578) (Value.ref 229)), (DictEntry.mk (PyData.keyHash P (Str.ofString "number_in")) (Value.str (Str.ofString "number_in") 587) (Value.ref 236)), (DictEntry.mk (PyData.keyHash P (Str.ofString "_number_of")) (Value.str (Str.ofString "_number_of") 597) (Value.ref 243)), (DictEntry.mk (PyData.keyHash P (Str.ofString "STILL")) (Value.str (Str.ofString "STILL") 601) (Value.ref 244)), (DictEntry.mk (PyData.keyHash P (Str.ofString "led_by")) (Value.str (Str.ofString "led_by") 611) (Value.ref 251)), (DictEntry.mk (PyData.keyHash P (Str.ofString "led_on")) (Value.str (Str.ofString "led_on") 619) (Value.ref 258)), (DictEntry.mk (PyData.keyHash P (Str.ofString "led_back")) (Value.str (Str.ofString "led_back") 628) (Value.ref 265)), (DictEntry.mk (PyData.keyHash P (Str.ofString "led_often")) (Value.str (Str.ofString "led_often") 638) (Value.ref 272)), (DictEntry.mk (PyData.keyHash P (Str.ofString "word_of")) (Value.str (Str.ofString "word_of") 645) (Value.ref 279)), (DictEntry.mk (PyData.keyHash P (Str.ofString "Step")) (Value.str (Str.ofString "Step") 677) (Value.ref 294)), (DictEntry.mk (PyData.keyHash P (Str.ofString "step_given")) (Value.str (Str.ofString "step_given") 683) (Value.ref 305)), (DictEntry.mk (PyData.keyHash P (Str.ofString "step_back")) (Value.str (Str.ofString "step_back") 690) (Value.ref 312)), (DictEntry.mk (PyData.keyHash P (Str.ofString "step_joined")) (Value.str (Str.ofString "step_joined") 698) (Value.ref 319)), (DictEntry.mk (PyData.keyHash P (Str.ofString "step_times")) (Value.str (Str.ofString "step_times") 706) (Value.ref 326)), (DictEntry.mk (PyData.keyHash P (Str.ofString "step_part")) (Value.str (Str.ofString "step_part") 715) (Value.ref 333)), (DictEntry.mk (PyData.keyHash P (Str.ofString "Link")) (Value.str (Str.ofString "Link") 757) (Value.ref 350)), (DictEntry.mk (PyData.keyHash P (Str.ofString "is_telling")) (Value.str (Str.ofString "is_telling") 764) (Value.ref 361)), (DictEntry.mk (PyData.keyHash P (Str.ofString "part_of_link")) (Value.str (Str.ofString "part_of_link") 775) (Value.ref 368)), (DictEntry.mk (PyData.keyHash P (Str.ofString "settled")) (Value.str (Str.ofString "settled") 782) (Value.ref 375)), (DictEntry.mk (PyData.keyHash P (Str.ofString "_turned")) (Value.str (Str.ofString "_turned") 789) (Value.ref 382)), (DictEntry.mk (PyData.keyHash P (Str.ofString "_settled_straight")) (Value.str (Str.ofString "_settled_straight") 798) (Value.ref 389)), (DictEntry.mk (PyData.keyHash P (Str.ofString "_settled_backward")) (Value.str (Str.ofString "_settled_backward") 810) (Value.ref 396)), (DictEntry.mk (PyData.keyHash P (Str.ofString "shortened")) (Value.str (Str.ofString "shortened") 819) (Value.ref 403)), (DictEntry.mk (PyData.keyHash P (Str.ofString "pulled")) (Value.str (Str.ofString "pulled") 829) (Value.ref 410)), (DictEntry.mk (PyData.keyHash P (Str.ofString "_pulled_away")) (Value.str (Str.ofString "_pulled_away") 843) (Value.ref 417)), (DictEntry.mk (PyData.keyHash P (Str.ofString "_source")) (Value.str (Str.ofString "_source") 853) (Value.ref 499)), (DictEntry.mk (PyData.keyHash P (Str.ofString "source_links")) (Value.str (Str.ofString "source_links") 854) (Value.ref 424)), (DictEntry.mk (PyData.keyHash P (Str.ofString "cuts_of")) (Value.str (Str.ofString "cuts_of") 876) (Value.ref 431)), (DictEntry.mk (PyData.keyHash P (Str.ofString "_greatest_end")) (Value.str (Str.ofString "_greatest_end") 883) (Value.ref 438)), (DictEntry.mk (PyData.keyHash P (Str.ofString "free_in")) (Value.str (Str.ofString "free_in") 889) (Value.ref 443)), (DictEntry.mk (PyData.keyHash P (Str.ofString "free_by")) (Value.str (Str.ofString "free_by") 899) (Value.ref 450)), (DictEntry.mk (PyData.keyHash P (Str.ofString "length_of")) (Value.str (Str.ofString "length_of") 908) (Value.ref 457)), (DictEntry.mk (PyData.keyHash P (Str.ofString "starts_of")) (Value.str (Str.ofString "starts_of") 917) (Value.ref 464)), (DictEntry.mk (PyData.keyHash P (Str.ofString "new_ahead")) (Value.str (Str.ofString "new_ahead") 926) (Value.ref 471)), (DictEntry.mk (PyData.keyHash P (Str.ofString "new_stretches")) (Value.str (Str.ofString "new_stretches") 938) (Value.ref 478)), (DictEntry.mk (PyData.keyHash P (Str.ofString "index_at")) (Value.str (Str.ofString "index_at") 949) (Value.ref 485)), (DictEntry.mk (PyData.keyHash P (Str.ofString "read")) (Value.str (Str.ofString "read") 962) (Value.ref 492)), (DictEntry.mk (PyData.keyHash P (Str.ofString "source_pieces")) (Value.str (Str.ofString "source_pieces") 974) (Value.ref 499)), (DictEntry.mk (PyData.keyHash P (Str.ofString "links_of_pieces")) (Value.str (Str.ofString "links_of_pieces") 985) (Value.ref 506)), (DictEntry.mk (PyData.keyHash P (Str.ofString "holds")) (Value.str (Str.ofString "holds") 993) (Value.ref 513)), (DictEntry.mk (PyData.keyHash P (Str.ofString "Melody")) (Value.str (Str.ofString "Melody") 1067) (Value.ref 558)), (DictEntry.mk (PyData.keyHash P (Str.ofString "_same_places")) (Value.str (Str.ofString "_same_places") 1075) (Value.ref 569)), (DictEntry.mk (PyData.keyHash P (Str.ofString "_are_pieces")) (Value.str (Str.ofString "_are_pieces") 1084) (Value.ref 576)), (DictEntry.mk (PyData.keyHash P (Str.ofString "_is_piece")) (Value.str (Str.ofString "_is_piece") 1092) (Value.ref 583))]) 74) (List.toArray []))),
  (40, (Obj.mk Value.none none (Data.fields (List.toArray [(Value.int (2 : Int) 0), (Value.int (0 : Int) 0), (Value.ref 48), (Value.int (6 : Int) 0), (Value.int (0 : Int) 0), (Value.ref 55), (Value.int (11 : Int) 0), (Value.int (0 : Int) 0), (Value.ref 75), (Value.int (13 : Int) 0), (Value.int (0 : Int) 0), (Value.ref 87), (Value.int (15 : Int) 0), (Value.int (0 : Int) 0), (Value.ref 99), (Value.int (17 : Int) 0), (Value.int (0 : Int) 0), (Value.ref 111), (Value.int (19 : Int) 0), (Value.int (0 : Int) 0), (Value.ref 123), (Value.int (21 : Int) 0), (Value.int (0 : Int) 0), (Value.ref 135), (Value.int (23 : Int) 0), (Value.int (0 : Int) 0), (Value.ref 147), (Value.int (25 : Int) 0), (Value.int (0 : Int) 0), (Value.ref 159), (Value.int (27 : Int) 0), (Value.int (0 : Int) 0), (Value.ref 171), (Value.int (29 : Int) 0), (Value.int (0 : Int) 0), (Value.ref 183), (Value.int (31 : Int) 0), (Value.int (0 : Int) 0), (Value.ref 195), (Value.int (37 : Int) 0), (Value.int (0 : Int) 0), (Value.ref 207), (Value.int (39 : Int) 0), (Value.int (0 : Int) 0), (Value.ref 214), (Value.int (41 : Int) 0), (Value.int (0 : Int) 0), (Value.ref 221), (Value.int (43 : Int) 0), (Value.int (0 : Int) 0), (Value.ref 228), (Value.int (53 : Int) 0), (Value.int (0 : Int) 0), (Value.ref 235), (Value.int (61 : Int) 0), (Value.int (0 : Int) 0), (Value.ref 242), (Value.int (69 : Int) 0), (Value.int (0 : Int) 0), (Value.ref 250), (Value.int (72 : Int) 0), (Value.int (0 : Int) 0), (Value.ref 257), (Value.int (74 : Int) 0), (Value.int (0 : Int) 0), (Value.ref 264), (Value.int (77 : Int) 0), (Value.int (0 : Int) 0), (Value.ref 271), (Value.int (82 : Int) 0), (Value.int (0 : Int) 0), (Value.ref 278), (Value.int (85 : Int) 0), (Value.int (0 : Int) 0), (Value.ref 285), (Value.int (92 : Int) 0), (Value.int (0 : Int) 0), (Value.ref 304), (Value.int (94 : Int) 0), (Value.int (0 : Int) 0), (Value.ref 311), (Value.int (96 : Int) 0), (Value.int (0 : Int) 0), (Value.ref 318), (Value.int (98 : Int) 0), (Value.int (0 : Int) 0), (Value.ref 325), (Value.int (100 : Int) 0), (Value.int (0 : Int) 0), (Value.ref 332), (Value.int (103 : Int) 0), (Value.int (0 : Int) 0), (Value.ref 339), (Value.int (113 : Int) 0), (Value.int (0 : Int) 0), (Value.ref 360), (Value.int (115 : Int) 0), (Value.int (0 : Int) 0), (Value.ref 367), (Value.int (119 : Int) 0), (Value.int (0 : Int) 0), (Value.ref 374), (Value.int (125 : Int) 0), (Value.int (0 : Int) 0), (Value.ref 381), (Value.int (127 : Int) 0), (Value.int (0 : Int) 0), (Value.ref 388), (Value.int (132 : Int) 0), (Value.int (0 : Int) 0), (Value.ref 395), (Value.int (142 : Int) 0), (Value.int (0 : Int) 0), (Value.ref 402), (Value.int (145 : Int) 0), (Value.int (0 : Int) 0), (Value.ref 409), (Value.int (154 : Int) 0), (Value.int (0 : Int) 0), (Value.ref 416), (Value.int (163 : Int) 0), (Value.int (0 : Int) 0), (Value.ref 423), (Value.int (171 : Int) 0), (Value.int (0 : Int) 0), (Value.ref 430), (Value.int (203 : Int) 0), (Value.int (0 : Int) 0), (Value.ref 437), (Value.int (205 : Int) 0), (Value.int (0 : Int) 0), (Value.ref 442), (Value.int (207 : Int) 0), (Value.int (0 : Int) 0), (Value.ref 449), (Value.int (211 : Int) 0), (Value.int (0 : Int) 0), (Value.ref 456), (Value.int (213 : Int) 0), (Value.int (0 : Int) 0), (Value.ref 463), (Value.int (218 : Int) 0), (Value.int (0 : Int) 0), (Value.ref 470), (Value.int (223 : Int) 0), (Value.int (0 : Int) 0), (Value.ref 477), (Value.int (234 : Int) 0), (Value.int (0 : Int) 0), (Value.ref 484), (Value.int (243 : Int) 0), (Value.int (0 : Int) 0), (Value.ref 491), (Value.int (254 : Int) 0), (Value.int (0 : Int) 0), (Value.ref 498), (Value.int (261 : Int) 0), (Value.int (0 : Int) 0), (Value.ref 505), (Value.int (270 : Int) 0), (Value.int (0 : Int) 0), (Value.ref 512), (Value.int (273 : Int) 0), (Value.int (0 : Int) 0), (Value.ref 519), (Value.int (302 : Int) 0), (Value.int (0 : Int) 0), (Value.ref 568), (Value.int (304 : Int) 0), (Value.int (0 : Int) 0), (Value.ref 575), (Value.int (313 : Int) 0), (Value.int (0 : Int) 0), (Value.ref 582)])) (List.toArray []))),
  (507, (Obj.mk (Value.type "tuple") none (Data.seq (List.toArray []) 0) (List.toArray []))),
  (508, (Obj.mk Value.none none (Data.fields (List.toArray [])) (List.toArray []))),
  (509, (Obj.mk (Value.type "tuple") none (Data.seq (List.toArray [(Value.str (Str.ofString "pieces") 989), (Value.str (Str.ofString "links") 990)]) 0) (List.toArray []))),
  (510, (Obj.mk (Value.type "tuple") none (Data.seq (List.toArray []) 0) (List.toArray []))),
  (511, (Obj.mk Value.none none (Data.func (FuncData.mk (Str.ofString "holds") (Str.ofString "holds") (L2.defArgs (top 67)) (FuncBody.stmts (L2.defBody (top 67))) (L2.defScope (top 67)) 0 [] Value.none Value.none Value.none Value.none none Value.none Value.none 0)) (List.toArray []))),
  (512, (Obj.mk (Value.type "code") none (Data.fields (List.toArray [(Value.str (Str.ofString "holds") 986), (Value.str (Str.ofString "holds") 987), (Value.str (Str.ofString "/claim/cut.py") 988), (Value.int (270 : Int) 0), (Value.int (2 : Int) 0), (Value.int (0 : Int) 0), (Value.int (0 : Int) 0), (Value.int (3 : Int) 0), (Value.ref 507), (Value.bool Bool.true), (Value.int (316 : Int) 0), (Value.ref 508), Value.none, (Value.ref 509), (Value.ref 510), (Value.ref 511), (Value.int (991 : Int) 0), (Value.int (270 : Int) 0), (Value.str (Str.ofString "/claim/cut.py") 992)])) (List.toArray []))),
  (513, (Obj.mk (Value.type "function") none (Data.func (FuncData.mk (Str.ofString "holds") (Str.ofString "holds") (L2.defArgs (top 67)) (FuncBody.stmts (L2.defBody (top 67))) (L2.defScope (top 67)) 3 [] Value.none Value.none Value.none (Value.str (Str.ofString "turnedtunes.pieces") 900) none (Value.ref 512) Value.none 0)) (List.toArray []))),
  (514, (Obj.mk (Value.type "tuple") none (Data.seq (List.toArray []) 0) (List.toArray []))),
  (515, (Obj.mk (Value.type "builtin_function_or_method") none (Data.fields (List.toArray [(Value.builtin "type.__prepare__"), (Value.type "type")])) (List.toArray []))),
  (516, (Obj.mk (Value.type "dict") none (Data.dict (List.toArray [(DictEntry.mk (PyData.keyHash P (Str.ofString "__module__")) (Value.str (Str.ofString "__module__") 1003) (Value.str (Str.ofString "turnedtunes.melodies") 994)), (DictEntry.mk (PyData.keyHash P (Str.ofString "__qualname__")) (Value.str (Str.ofString "__qualname__") 1005) (Value.str (Str.ofString "Melody") 1004)), (DictEntry.mk (PyData.keyHash P (Str.ofString "__firstlineno__")) (Value.str (Str.ofString "__firstlineno__") 1007) (Value.int (273 : Int) 1006)), (DictEntry.mk (PyData.keyHash P (Str.ofString "__init__")) (Value.str (Str.ofString "__init__") 1015) (Value.ref 527)), (DictEntry.mk (PyData.keyHash P (Str.ofString "__getitem__")) (Value.str (Str.ofString "__getitem__") 1028) (Value.ref 534)), (DictEntry.mk (PyData.keyHash P (Str.ofString "__iter__")) (Value.str (Str.ofString "__iter__") 1035) (Value.ref 541)), (DictEntry.mk (PyData.keyHash P (Str.ofString "played")) (Value.str (Str.ofString "played") 1045) (Value.ref 548)), (DictEntry.mk (PyData.keyHash P (Str.ofString "__eq__")) (Value.str (Str.ofString "__eq__") 1053) (Value.ref 555)), (DictEntry.mk (PyData.keyHash P (Str.ofString "__static_attributes__")) (Value.str (Str.ofString "__static_attributes__") 1059) (Value.ref 556))]) 9) (List.toArray []))),
  (517, (Obj.mk (Value.type "tuple") none (Data.seq (List.toArray []) 0) (List.toArray []))),
  (518, (Obj.mk Value.none none (Data.fields (List.toArray [(Value.int (275 : Int) 0), (Value.int (4 : Int) 0), (Value.ref 526), (Value.int (284 : Int) 0), (Value.int (4 : Int) 0), (Value.ref 533), (Value.int (294 : Int) 0), (Value.int (4 : Int) 0), (Value.ref 540), (Value.int (297 : Int) 0), (Value.int (4 : Int) 0), (Value.ref 547), (Value.int (300 : Int) 0), (Value.int (4 : Int) 0), (Value.ref 554)])) (List.toArray []))),
  (519, (Obj.mk (Value.type "code") none (Data.fields (List.toArray [(Value.str (Str.ofString "Melody") 998), (Value.str (Str.ofString "Melody") 999), (Value.str (Str.ofString "/claim/cut.py") 1000), (Value.int (273 : Int) 0), (Value.int (0 : Int) 0), (Value.int (0 : Int) 0), (Value.int (0 : Int) 0), (Value.int (0 : Int) 0), (Value.ref 517), (Value.bool Bool.false), (Value.int (316 : Int) 0), (Value.ref 518), Value.none, Value.none, Value.none, Value.none, (Value.int (1001 : Int) 0), (Value.int (273 : Int) 0), (Value.str (Str.ofString "/claim/cut.py") 1002)])) (List.toArray []))),
  (520, (Obj.mk (Value.type "frame") none Data.plain (List.toArray [(some (Value.ref 519)), (some (Value.ref 3)), (some (Value.ref 516)), none, (some (Value.str (Str.ofString "turnedtunes.melodies") 994)), none, (some (Value.ref 0))]))),
  (521, (Obj.mk (Value.type "tuple") none (Data.seq (List.toArray []) 0) (List.toArray []))),
  (522, (Obj.mk Value.none none (Data.fields (List.toArray [])) (List.toArray []))),
  (523, (Obj.mk (Value.type "tuple") none (Data.seq (List.toArray [(Value.str (Str.ofString "self") 1011), (Value.str (Str.ofString "pieces") 1012)]) 0) (List.toArray []))),
  (524, (Obj.mk (Value.type "tuple") none (Data.seq (List.toArray []) 0) (List.toArray []))),
  (525, (Obj.mk Value.none none (Data.func (FuncData.mk (Str.ofString "__init__") (Str.ofString "Melody.__init__") (L2.defArgs (inClass (top 69) 0)) (FuncBody.stmts (L2.defBody (inClass (top 69) 0))) (L2.defScope (inClass (top 69) 0)) 0 [] Value.none Value.none Value.none Value.none none Value.none Value.none 0)) (List.toArray []))),
  (526, (Obj.mk (Value.type "code") none (Data.fields (List.toArray [(Value.str (Str.ofString "__init__") 1008), (Value.str (Str.ofString "Melody.__init__") 1009), (Value.str (Str.ofString "/claim/cut.py") 1010), (Value.int (275 : Int) 0), (Value.int (2 : Int) 0), (Value.int (0 : Int) 0), (Value.int (0 : Int) 0), (Value.int (3 : Int) 0), (Value.ref 521), (Value.bool Bool.true), (Value.int (316 : Int) 0), (Value.ref 522), Value.none, (Value.ref 523), (Value.ref 524), (Value.ref 525), (Value.int (1013 : Int) 0), (Value.int (275 : Int) 0), (Value.str (Str.ofString "/claim/cut.py") 1014)])) (List.toArray []))),
  (527, (Obj.mk (Value.type "function") none (Data.func (FuncData.mk (Str.ofString "__init__") (Str.ofString "Melody.__init__") (L2.defArgs (inClass (top 69) 0)) (FuncBody.stmts (L2.defBody (inClass (top 69) 0))) (L2.defScope (inClass (top 69) 0)) 3 [] Value.none Value.none Value.none (Value.str (Str.ofString "turnedtunes.melodies") 994) none (Value.ref 526) Value.none 0)) (List.toArray []))),
  (528, (Obj.mk (Value.type "tuple") none (Data.seq (List.toArray []) 0) (List.toArray []))),
  (529, (Obj.mk Value.none none (Data.fields (List.toArray [])) (List.toArray []))),
  (530, (Obj.mk (Value.type "tuple") none (Data.seq (List.toArray [(Value.str (Str.ofString "self") 1019), (Value.str (Str.ofString "at") 1020), (Value.str (Str.ofString "found") 1021), (Value.str (Str.ofString "word") 1022), (Value.str (Str.ofString "place") 1023), (Value.str (Str.ofString "amount") 1024), (Value.str (Str.ofString "piece") 1025)]) 0) (List.toArray []))),
  (531, (Obj.mk (Value.type "tuple") none (Data.seq (List.toArray []) 0) (List.toArray []))),
  (532, (Obj.mk Value.none none (Data.func (FuncData.mk (Str.ofString "__getitem__") (Str.ofString "Melody.__getitem__") (L2.defArgs (inClass (top 69) 1)) (FuncBody.stmts (L2.defBody (inClass (top 69) 1))) (L2.defScope (inClass (top 69) 1)) 0 [] Value.none Value.none Value.none Value.none none Value.none Value.none 0)) (List.toArray []))),
  (533, (Obj.mk (Value.type "code") none (Data.fields (List.toArray [(Value.str (Str.ofString "__getitem__") 1016), (Value.str (Str.ofString "Melody.__getitem__") 1017), (Value.str (Str.ofString "/claim/cut.py") 1018), (Value.int (284 : Int) 0), (Value.int (2 : Int) 0), (Value.int (0 : Int) 0), (Value.int (0 : Int) 0), (Value.int (3 : Int) 0), (Value.ref 528), (Value.bool Bool.true), (Value.int (316 : Int) 0), (Value.ref 529), Value.none, (Value.ref 530), (Value.ref 531), (Value.ref 532), (Value.int (1026 : Int) 0), (Value.int (284 : Int) 0), (Value.str (Str.ofString "/claim/cut.py") 1027)])) (List.toArray []))),
  (534, (Obj.mk (Value.type "function") none (Data.func (FuncData.mk (Str.ofString "__getitem__") (Str.ofString "Melody.__getitem__") (L2.defArgs (inClass (top 69) 1)) (FuncBody.stmts (L2.defBody (inClass (top 69) 1))) (L2.defScope (inClass (top 69) 1)) 3 [] Value.none Value.none Value.none (Value.str (Str.ofString "turnedtunes.melodies") 994) none (Value.ref 533) Value.none 0)) (List.toArray []))),
  (535, (Obj.mk (Value.type "tuple") none (Data.seq (List.toArray []) 0) (List.toArray []))),
  (536, (Obj.mk Value.none none (Data.fields (List.toArray [])) (List.toArray []))),
  (537, (Obj.mk (Value.type "tuple") none (Data.seq (List.toArray [(Value.str (Str.ofString "self") 1032)]) 0) (List.toArray []))),
  (538, (Obj.mk (Value.type "tuple") none (Data.seq (List.toArray []) 0) (List.toArray []))),
  (539, (Obj.mk Value.none none (Data.func (FuncData.mk (Str.ofString "__iter__") (Str.ofString "Melody.__iter__") (L2.defArgs (inClass (top 69) 2)) (FuncBody.stmts (L2.defBody (inClass (top 69) 2))) (L2.defScope (inClass (top 69) 2)) 0 [] Value.none Value.none Value.none Value.none none Value.none Value.none 0)) (List.toArray []))),
  (540, (Obj.mk (Value.type "code") none (Data.fields (List.toArray [(Value.str (Str.ofString "__iter__") 1029), (Value.str (Str.ofString "Melody.__iter__") 1030), (Value.str (Str.ofString "/claim/cut.py") 1031), (Value.int (294 : Int) 0), (Value.int (1 : Int) 0), (Value.int (0 : Int) 0), (Value.int (0 : Int) 0), (Value.int (3 : Int) 0), (Value.ref 535), (Value.bool Bool.true), (Value.int (316 : Int) 0), (Value.ref 536), Value.none, (Value.ref 537), (Value.ref 538), (Value.ref 539), (Value.int (1033 : Int) 0), (Value.int (294 : Int) 0), (Value.str (Str.ofString "/claim/cut.py") 1034)])) (List.toArray []))),
  (541, (Obj.mk (Value.type "function") none (Data.func (FuncData.mk (Str.ofString "__iter__") (Str.ofString "Melody.__iter__") (L2.defArgs (inClass (top 69) 2)) (FuncBody.stmts (L2.defBody (inClass (top 69) 2))) (L2.defScope (inClass (top 69) 2)) 3 [] Value.none Value.none Value.none (Value.str (Str.ofString "turnedtunes.melodies") 994) none (Value.ref 540) Value.none 0)) (List.toArray []))),
  (542, (Obj.mk (Value.type "tuple") none (Data.seq (List.toArray []) 0) (List.toArray []))),
  (543, (Obj.mk Value.none none (Data.fields (List.toArray [])) (List.toArray []))),
  (544, (Obj.mk (Value.type "tuple") none (Data.seq (List.toArray [(Value.str (Str.ofString "self") 1039), (Value.str (Str.ofString "look") 1040), (Value.str (Str.ofString "first") 1041), (Value.str (Str.ofString "length") 1042)]) 0) (List.toArray []))),
  (545, (Obj.mk (Value.type "tuple") none (Data.seq (List.toArray []) 0) (List.toArray []))),
  (546, (Obj.mk Value.none none (Data.func (FuncData.mk (Str.ofString "played") (Str.ofString "Melody.played") (L2.defArgs (inClass (top 69) 3)) (FuncBody.stmts (L2.defBody (inClass (top 69) 3))) (L2.defScope (inClass (top 69) 3)) 0 [] Value.none Value.none Value.none Value.none none Value.none Value.none 0)) (List.toArray []))),
  (547, (Obj.mk (Value.type "code") none (Data.fields (List.toArray [(Value.str (Str.ofString "played") 1036), (Value.str (Str.ofString "Melody.played") 1037), (Value.str (Str.ofString "/claim/cut.py") 1038), (Value.int (297 : Int) 0), (Value.int (4 : Int) 0), (Value.int (0 : Int) 0), (Value.int (0 : Int) 0), (Value.int (3 : Int) 0), (Value.ref 542), (Value.bool Bool.true), (Value.int (316 : Int) 0), (Value.ref 543), Value.none, (Value.ref 544), (Value.ref 545), (Value.ref 546), (Value.int (1043 : Int) 0), (Value.int (297 : Int) 0), (Value.str (Str.ofString "/claim/cut.py") 1044)])) (List.toArray []))),
  (548, (Obj.mk (Value.type "function") none (Data.func (FuncData.mk (Str.ofString "played") (Str.ofString "Melody.played") (L2.defArgs (inClass (top 69) 3)) (FuncBody.stmts (L2.defBody (inClass (top 69) 3))) (L2.defScope (inClass (top 69) 3)) 3 [] Value.none Value.none Value.none (Value.str (Str.ofString "turnedtunes.melodies") 994) none (Value.ref 547) Value.none 0)) (List.toArray []))),
  (549, (Obj.mk (Value.type "tuple") none (Data.seq (List.toArray []) 0) (List.toArray []))),
  (550, (Obj.mk Value.none none (Data.fields (List.toArray [])) (List.toArray []))),
  (551, (Obj.mk (Value.type "tuple") none (Data.seq (List.toArray [(Value.str (Str.ofString "self") 1049), (Value.str (Str.ofString "other") 1050)]) 0) (List.toArray []))),
  (552, (Obj.mk (Value.type "tuple") none (Data.seq (List.toArray []) 0) (List.toArray []))),
  (553, (Obj.mk Value.none none (Data.func (FuncData.mk (Str.ofString "__eq__") (Str.ofString "Melody.__eq__") (L2.defArgs (inClass (top 69) 4)) (FuncBody.stmts (L2.defBody (inClass (top 69) 4))) (L2.defScope (inClass (top 69) 4)) 0 [] Value.none Value.none Value.none Value.none none Value.none Value.none 0)) (List.toArray []))),
  (554, (Obj.mk (Value.type "code") none (Data.fields (List.toArray [(Value.str (Str.ofString "__eq__") 1046), (Value.str (Str.ofString "Melody.__eq__") 1047), (Value.str (Str.ofString "/claim/cut.py") 1048), (Value.int (300 : Int) 0), (Value.int (2 : Int) 0), (Value.int (0 : Int) 0), (Value.int (0 : Int) 0), (Value.int (3 : Int) 0), (Value.ref 549), (Value.bool Bool.true), (Value.int (316 : Int) 0), (Value.ref 550), Value.none, (Value.ref 551), (Value.ref 552), (Value.ref 553), (Value.int (1051 : Int) 0), (Value.int (300 : Int) 0), (Value.str (Str.ofString "/claim/cut.py") 1052)])) (List.toArray []))),
  (555, (Obj.mk (Value.type "function") none (Data.func (FuncData.mk (Str.ofString "__eq__") (Str.ofString "Melody.__eq__") (L2.defArgs (inClass (top 69) 4)) (FuncBody.stmts (L2.defBody (inClass (top 69) 4))) (L2.defScope (inClass (top 69) 4)) 3 [] Value.none Value.none Value.none (Value.str (Str.ofString "turnedtunes.melodies") 994) none (Value.ref 554) Value.none 0)) (List.toArray []))),
  (556, (Obj.mk (Value.type "tuple") none (Data.seq (List.toArray [(Value.str (Str.ofString "ahead") 1054), (Value.str (Str.ofString "new") 1055), (Value.str (Str.ofString "pieces") 1056), (Value.str (Str.ofString "size") 1057), (Value.str (Str.ofString "starts") 1058)]) 0) (List.toArray []))),
  (557, (Obj.mk (Value.type "dict") none (Data.dict (List.toArray [(DictEntry.mk (PyData.keyHash P (Str.ofString "__module__")) (Value.str (Str.ofString "__module__") 1003) (Value.str (Str.ofString "turnedtunes.melodies") 994)), (DictEntry.mk (PyData.keyHash P (Str.ofString "__firstlineno__")) (Value.str (Str.ofString "__firstlineno__") 1007) (Value.int (273 : Int) 1006)), (DictEntry.mk (PyData.keyHash P (Str.ofString "__init__")) (Value.str (Str.ofString "__init__") 1015) (Value.ref 527)), (DictEntry.mk (PyData.keyHash P (Str.ofString "__getitem__")) (Value.str (Str.ofString "__getitem__") 1028) (Value.ref 534)), (DictEntry.mk (PyData.keyHash P (Str.ofString "__iter__")) (Value.str (Str.ofString "__iter__") 1035) (Value.ref 541)), (DictEntry.mk (PyData.keyHash P (Str.ofString "played")) (Value.str (Str.ofString "played") 1045) (Value.ref 548)), (DictEntry.mk (PyData.keyHash P (Str.ofString "__eq__")) (Value.str (Str.ofString "__eq__") 1053) (Value.ref 555)), (DictEntry.mk (PyData.keyHash P (Str.ofString "__static_attributes__")) (Value.str (Str.ofString "__static_attributes__") 1059) (Value.ref 556)), (DictEntry.mk (PyData.keyHash P (Str.ofString "__dict__")) (Value.str (Str.ofString "__dict__") 1061) (Value.ref 559)), (DictEntry.mk (PyData.keyHash P (Str.ofString "__weakref__")) (Value.str (Str.ofString "__weakref__") 1063) (Value.ref 560)), (DictEntry.mk (PyData.keyHash P (Str.ofString "__doc__")) (Value.str (Str.ofString "__doc__") 1064) Value.none), (DictEntry.mk (PyData.keyHash P (Str.ofString "__hash__")) (Value.str (Str.ofString "__hash__") 1065) Value.none)]) 5) (List.toArray []))),
  (558, (Obj.mk (Value.type "type") none (Data.cls (ClassData.mk (Str.ofString "Melody") [(Value.type "object")] [(Value.ref 558), (Value.type "object")] 557 (Str.ofString "Melody") Bool.true [] [] Bool.false none Bool.false)) (List.toArray [none, none, (some (Value.str (Str.ofString "Melody") 996)), (some (Value.str (Str.ofString "Melody") 1004)), (some (Value.builtin "object.__new__")), (some (Value.bool Bool.true))]))),
  (559, (Obj.mk (Value.type "getset_descriptor") none (Data.fields (List.toArray [(Value.str (Str.ofString "__dict__") 1060), (Value.ref 558), (Value.builtin "function.__dict__"), (Value.builtin "function.__dict__#set")])) (List.toArray []))),
  (560, (Obj.mk (Value.type "getset_descriptor") none (Data.fields (List.toArray [(Value.str (Str.ofString "__weakref__") 1062), (Value.ref 558), (Value.builtin "ExceptionGroup.__weakref__"), Value.none])) (List.toArray []))),
  (561, (Obj.mk (Value.type "super") none (Data.fields (List.toArray [(Value.ref 558), (Value.ref 558), (Value.ref 558)])) (List.toArray []))),
  (562, (Obj.mk (Value.type "builtin_function_or_method") none (Data.fields (List.toArray [(Value.builtin "object.__init_subclass__"), (Value.ref 558)])) (List.toArray []))),
  (563, (Obj.mk (Value.type "tuple") none (Data.seq (List.toArray []) 0) (List.toArray []))),
  (564, (Obj.mk Value.none none (Data.fields (List.toArray [])) (List.toArray []))),
  (565, (Obj.mk (Value.type "tuple") none (Data.seq (List.toArray [(Value.str (Str.ofString "one") 1071), (Value.str (Str.ofString "other") 1072)]) 0) (List.toArray []))),
  (566, (Obj.mk (Value.type "tuple") none (Data.seq (List.toArray []) 0) (List.toArray []))),
  (567, (Obj.mk Value.none none (Data.func (FuncData.mk (Str.ofString "_same_places") (Str.ofString "_same_places") (L2.defArgs (top 70)) (FuncBody.stmts (L2.defBody (top 70))) (L2.defScope (top 70)) 0 [] Value.none Value.none Value.none Value.none none Value.none Value.none 0)) (List.toArray []))),
  (568, (Obj.mk (Value.type "code") none (Data.fields (List.toArray [(Value.str (Str.ofString "_same_places") 1068), (Value.str (Str.ofString "_same_places") 1069), (Value.str (Str.ofString "/claim/cut.py") 1070), (Value.int (302 : Int) 0), (Value.int (2 : Int) 0), (Value.int (0 : Int) 0), (Value.int (0 : Int) 0), (Value.int (3 : Int) 0), (Value.ref 563), (Value.bool Bool.true), (Value.int (316 : Int) 0), (Value.ref 564), Value.none, (Value.ref 565), (Value.ref 566), (Value.ref 567), (Value.int (1073 : Int) 0), (Value.int (302 : Int) 0), (Value.str (Str.ofString "/claim/cut.py") 1074)])) (List.toArray []))),
  (569, (Obj.mk (Value.type "function") none (Data.func (FuncData.mk (Str.ofString "_same_places") (Str.ofString "_same_places") (L2.defArgs (top 70)) (FuncBody.stmts (L2.defBody (top 70))) (L2.defScope (top 70)) 3 [] Value.none Value.none Value.none (Value.str (Str.ofString "turnedtunes.melodies") 994) none (Value.ref 568) Value.none 0)) (List.toArray []))),
  (570, (Obj.mk (Value.type "tuple") none (Data.seq (List.toArray []) 0) (List.toArray []))),
  (571, (Obj.mk Value.none none (Data.fields (List.toArray [])) (List.toArray []))),
  (572, (Obj.mk (Value.type "tuple") none (Data.seq (List.toArray [(Value.str (Str.ofString "value") 1079), (Value.str (Str.ofString "here") 1080), (Value.str (Str.ofString "piece") 1081)]) 0) (List.toArray []))),
  (573, (Obj.mk (Value.type "tuple") none (Data.seq (List.toArray []) 0) (List.toArray []))),
  (574, (Obj.mk Value.none none (Data.func (FuncData.mk (Str.ofString "_are_pieces") (Str.ofString "_are_pieces") (L2.defArgs (top 71)) (FuncBody.stmts (L2.defBody (top 71))) (L2.defScope (top 71)) 0 [] Value.none Value.none Value.none Value.none none Value.none Value.none 0)) (List.toArray []))),
  (575, (Obj.mk (Value.type "code") none (Data.fields (List.toArray [(Value.str (Str.ofString "_are_pieces") 1076), (Value.str (Str.ofString "_are_pieces") 1077), (Value.str (Str.ofString "/claim/cut.py") 1078), (Value.int (304 : Int) 0), (Value.int (1 : Int) 0), (Value.int (0 : Int) 0), (Value.int (0 : Int) 0), (Value.int (3 : Int) 0), (Value.ref 570), (Value.bool Bool.true), (Value.int (316 : Int) 0), (Value.ref 571), Value.none, (Value.ref 572), (Value.ref 573), (Value.ref 574), (Value.int (1082 : Int) 0), (Value.int (304 : Int) 0), (Value.str (Str.ofString "/claim/cut.py") 1083)])) (List.toArray []))),
  (576, (Obj.mk (Value.type "function") none (Data.func (FuncData.mk (Str.ofString "_are_pieces") (Str.ofString "_are_pieces") (L2.defArgs (top 71)) (FuncBody.stmts (L2.defBody (top 71))) (L2.defScope (top 71)) 3 [] Value.none Value.none Value.none (Value.str (Str.ofString "turnedtunes.melodies") 994) none (Value.ref 575) Value.none 0)) (List.toArray []))),
  (577, (Obj.mk (Value.type "tuple") none (Data.seq (List.toArray []) 0) (List.toArray []))),
  (578, (Obj.mk Value.none none (Data.fields (List.toArray [])) (List.toArray []))),
  (579, (Obj.mk (Value.type "tuple") none (Data.seq (List.toArray [(Value.str (Str.ofString "value") 1088), (Value.str (Str.ofString "here") 1089)]) 0) (List.toArray []))),
  (580, (Obj.mk (Value.type "tuple") none (Data.seq (List.toArray []) 0) (List.toArray []))),
  (581, (Obj.mk Value.none none (Data.func (FuncData.mk (Str.ofString "_is_piece") (Str.ofString "_is_piece") (L2.defArgs (top 72)) (FuncBody.stmts (L2.defBody (top 72))) (L2.defScope (top 72)) 0 [] Value.none Value.none Value.none Value.none none Value.none Value.none 0)) (List.toArray []))),
  (582, (Obj.mk (Value.type "code") none (Data.fields (List.toArray [(Value.str (Str.ofString "_is_piece") 1085), (Value.str (Str.ofString "_is_piece") 1086), (Value.str (Str.ofString "/claim/cut.py") 1087), (Value.int (313 : Int) 0), (Value.int (2 : Int) 0), (Value.int (0 : Int) 0), (Value.int (0 : Int) 0), (Value.int (3 : Int) 0), (Value.ref 577), (Value.bool Bool.true), (Value.int (316 : Int) 0), (Value.ref 578), Value.none, (Value.ref 579), (Value.ref 580), (Value.ref 581), (Value.int (1090 : Int) 0), (Value.int (313 : Int) 0), (Value.str (Str.ofString "/claim/cut.py") 1091)])) (List.toArray []))),
  (583, (Obj.mk (Value.type "function") none (Data.func (FuncData.mk (Str.ofString "_is_piece") (Str.ofString "_is_piece") (L2.defArgs (top 72)) (FuncBody.stmts (L2.defBody (top 72))) (L2.defScope (top 72)) 3 [] Value.none Value.none Value.none (Value.str (Str.ofString "turnedtunes.melodies") 994) none (Value.ref 582) Value.none 0)) (List.toArray [])))] (hRt12 P)
noncomputable def hRS13 (w : World) : SharedT := ⟨hRt13 w.params, 584, (Life.mk [] [] [] 0 [] [] Bool.false (List.toArray []) [] 0 Bool.false Bool.false Bool.false (0 : Int) [(2000 : Int), (10 : Int), (10 : Int)] Bool.false 0 Bool.true [] [] 0 Bool.false), (List.toArray []), (Drawn.mk 0 0 0 0), 1093, (start (opening Challenge.pw_turnedtunes_k39_pieces_refused)).1.os⟩
noncomputable def hRb12 : List Stmt := ((behindTheImports Challenge.pw_turnedtunes_k39_pieces_refused).drop 66).take 6
theorem hRg12 (w : World) : segF (stepQ (denQ tabQ) Challenge.pw_turnedtunes_k39_pieces_refused w) 39 (some (Value.ref 6)) 497 (hRS12 w) (piecesOf hRb12 hRenv hRcd (Pos.mk 261 0 269 16) [topFrame (Pos.mk 0 0 0 0)]) = some (.next, hRS13 w, hRcd, (Pos.mk 313 0 320 75)) := by kernel_rfl
noncomputable def hRt14 (P : Params) : BT := putT [(3, (Obj.mk (Value.type "dict") none (Data.dict (List.toArray [(DictEntry.mk (PyData.keyHash P (Str.ofString "__name__")) (Value.str (Str.ofString "__name__") 165) (Value.str (Str.ofString "turnedtunes.ties") 1107)), (DictEntry.mk (PyData.keyHash P (Str.ofString "__doc__")) (Value.str (Str.ofString "__doc__") 166) Value.none), (DictEntry.mk (PyData.keyHash P (Str.ofString "__package__")) (Value.str (Str.ofString "__package__") 167) Value.none), (DictEntry.mk (PyData.keyHash P (Str.ofString "__loader__")) (Value.str (Str.ofString "__loader__") 168) (Value.builtin "__main__.__loader__#opaque")), (DictEntry.mk (PyData.keyHash P (Str.ofString "__spec__")) (Value.str (Str.ofString "__spec__") 169) Value.none), (DictEntry.mk (PyData.keyHash P (Str.ofString "__annotations__")) (Value.str (Str.ofString "__annotations__") 170) (Value.ref 6)), (DictEntry.mk (PyData.keyHash P (Str.ofString "__builtins__")) (Value.str (Str.ofString "__builtins__") 171) (Value.ref 4)), (DictEntry.mk (PyData.keyHash P (Str.ofString "__file__")) (Value.str (Str.ofString "__file__") 173) (Value.str (Str.ofString "/claim/cut.py") 172)), (DictEntry.mk (PyData.keyHash P (Str.ofString "__cached__")) (Value.str (Str.ofString "__cached__") 174) Value.none), (DictEntry.mk (PyData.keyHash P (Str.ofString "heappop")) (Value.str (Str.ofString "heappop") 312) (Value.builtin "_heapq.heappop")), (DictEntry.mk (PyData.keyHash P (Str.ofString "heappush")) (Value.str (Str.ofString "heappush") 315) (Value.builtin "_heapq.heappush")), (DictEntry.mk (PyData.keyHash P (Str.ofString "_wall")) (Value.str (Str.ofString "_wall") 328) (Value.ref 49)), (DictEntry.mk (PyData.keyHash P (Str.ofString "TuneError")) (Value.str (Str.ofString "TuneError") 357) (Value.ref 66)), (DictEntry.mk (PyData.keyHash P (Str.ofString "BadPlace")) (Value.str (Str.ofString "BadPlace") 373) (Value.ref 79)), (DictEntry.mk (PyData.keyHash P (Str.ofString "BadLength")) (Value.str (Str.ofString "BadLength") 389) (Value.ref 91)), (DictEntry.mk (PyData.keyHash P (Str.ofString "BadAmount")) (Value.str (Str.ofString "BadAmount") 405) (Value.ref 103)), (DictEntry.mk (PyData.keyHash P (Str.ofString "BadWay")) (Value.str (Str.ofString "BadWay") 421) (Value.ref 115)), (DictEntry.mk (PyData.keyHash P (Str.ofString "BadText")) (Value.str (Str.ofString "BadText") 437) (Value.ref 127)), (DictEntry.mk (PyData.keyHash P (Str.ofString "NoPlace")) (Value.str (Str.ofString "NoPlace") 453) (Value.ref 139)), (DictEntry.mk (PyData.keyHash P (Str.ofString "BadNote")) (Value.str (Str.ofString "BadNote") 469) (Value.ref 151)), (DictEntry.mk (PyData.keyHash P (Str.ofString "BadPart")) (Value.str (Str.ofString "BadPart") 485) (Value.ref 163)), (DictEntry.mk (PyData.keyHash P (Str.ofString "NoJoint")) (Value.str (Str.ofString "NoJoint") 501) (Value.ref 175)), (DictEntry.mk (PyData.keyHash P (Str.ofString "BadNumber")) (Value.str (Str.ofString "BadNumber") 517) (Value.ref 187)), (DictEntry.mk (PyData.keyHash P (Str.ofString "BadPieces")) (Value.str (Str.ofString "BadPieces") 533) (Value.ref 199)), (DictEntry.mk (PyData.keyHash P (Str.ofString "GREATEST")) (Value.str (Str.ofString "GREATEST") 539) (Value.int (1000000000000000000000000000000 : Int) 538)), (DictEntry.mk (PyData.keyHash P (Str.ofString "_DIGITS")) (Value.str (Str.ofString "_DIGITS") 541) (Value.int (64 : Int) 540)), (DictEntry.mk (PyData.keyHash P (Str.ofString "_CHUNK")) (Value.str (Str.ofString "_CHUNK") 545) (Value.int (10000000000000000000000000000000000000000000000000000000000000000 : Int) 544)), (DictEntry.mk (PyData.keyHash P (Str.ofString "is_whole")) (Value.str (Str.ofString "is_whole") 552) (Value.ref 208)), (DictEntry.mk (PyData.keyHash P (Str.ofString "is_from")) (Value.str (Str.ofString "is_from") 560) (Value.ref 215)), (DictEntry.mk (PyData.keyHash P (Str.ofString "is_between")) (Value.str (Str.ofString "is_between") 569) (Value.ref 222)), (DictEntry.mk (PyData.keyHash P (Str.ofString "written")) (Value.str (Str.ofString "written") 578) (Value.ref 229)), (DictEntry.mk (PyData.keyHash P (Str.ofString "number_in")) (Value.str (Str.ofString "number_in") 587) (Value.ref 236)), (DictEntry.mk (PyData.keyHash P (Str.ofString "_number_of")) (Value.str (Str.ofString "_number_of") 597) (Value.ref 243)), (DictEntry.mk (PyData.keyHash P (Str.ofString "STILL")) (Value.str (Str.ofString "STILL") 601) (Value.ref 244)), (DictEntry.mk (PyData.keyHash P (Str.ofString "led_by")) (Value.str (Str.ofString "led_by") 611) (Value.ref 251)), (DictEntry.mk (PyData.keyHash P (Str.ofString "led_on")) (Value.str (Str.ofString "led_on") 619) (Value.ref 258)), (DictEntry.mk (PyData.keyHash P (Str.ofString "led_back")) (Value.str (Str.ofString "led_back") 628) (Value.ref 265)), (DictEntry.mk (PyData.keyHash P (Str.ofString "led_often")) (Value.str (Str.ofString "led_often") 638) (Value.ref 272)), (DictEntry.mk (PyData.keyHash P (Str.ofString "word_of")) (Value.str (Str.ofString "word_of") 645) (Value.ref 279)), (DictEntry.mk (PyData.keyHash P (Str.ofString "Step")) (Value.str (Str.ofString "Step") 677) (Value.ref 294)), (DictEntry.mk (PyData.keyHash P (Str.ofString "step_given")) (Value.str (Str.ofString "step_given") 683) (Value.ref 305)), (DictEntry.mk (PyData.keyHash P (Str.ofString "step_back")) (Value.str (Str.ofString "step_back") 690) (Value.ref 312)), (DictEntry.mk (PyData.keyHash P (Str.ofString "step_joined")) (Value.str (Str.ofString "step_joined") 698) (Value.ref 319)), (DictEntry.mk (PyData.keyHash P (Str.ofString "step_times")) (Value.str (Str.ofString "step_times") 706) (Value.ref 326)), (DictEntry.mk (PyData.keyHash P (Str.ofString "step_part")) (Value.str (Str.ofString "step_part") 715) (Value.ref 333)), (DictEntry.mk (PyData.keyHash P (Str.ofString "Link")) (Value.str (Str.ofString "Link") 757) (Value.ref 350)), (DictEntry.mk (PyData.keyHash P (Str.ofString "is_telling")) (Value.str (Str.ofString "is_telling") 764) (Value.ref 361)), (DictEntry.mk (PyData.keyHash P (Str.ofString "part_of_link")) (Value.str (Str.ofString "part_of_link") 775) (Value.ref 368)), (DictEntry.mk (PyData.keyHash P (Str.ofString "settled")) (Value.str (Str.ofString "settled") 782) (Value.ref 375)), (DictEntry.mk (PyData.keyHash P (Str.ofString "_turned")) (Value.str (Str.ofString "_turned") 789) (Value.ref 382)), (DictEntry.mk (PyData.keyHash P (Str.ofString "_settled_straight")) (Value.str (Str.ofString "_settled_straight") 798) (Value.ref 389)), (DictEntry.mk (PyData.keyHash P (Str.ofString "_settled_backward")) (Value.str (Str.ofString "_settled_backward") 810) (Value.ref 396)), (DictEntry.mk (PyData.keyHash P (Str.ofString "shortened")) (Value.str (Str.ofString "shortened") 819) (Value.ref 403)), (DictEntry.mk (PyData.keyHash P (Str.ofString "pulled")) (Value.str (Str.ofString "pulled") 829) (Value.ref 410)), (DictEntry.mk (PyData.keyHash P (Str.ofString "_pulled_away")) (Value.str (Str.ofString "_pulled_away") 843) (Value.ref 417)), (DictEntry.mk (PyData.keyHash P (Str.ofString "_source")) (Value.str (Str.ofString "_source") 853) (Value.ref 499)), (DictEntry.mk (PyData.keyHash P (Str.ofString "source_links")) (Value.str (Str.ofString "source_links") 854) (Value.ref 424)), (DictEntry.mk (PyData.keyHash P (Str.ofString "cuts_of")) (Value.str (Str.ofString "cuts_of") 876) (Value.ref 431)), (DictEntry.mk (PyData.keyHash P (Str.ofString "_greatest_end")) (Value.str (Str.ofString "_greatest_end") 883) (Value.ref 438)), (DictEntry.mk (PyData.keyHash P (Str.ofString "free_in")) (Value.str (Str.ofString "free_in") 889) (Value.ref 443)), (DictEntry.mk (PyData.keyHash P (Str.ofString "free_by")) (Value.str (Str.ofString "free_by") 899) (Value.ref 450)), (DictEntry.mk (PyData.keyHash P (Str.ofString "length_of")) (Value.str (Str.ofString "length_of") 908) (Value.ref 457)), (DictEntry.mk (PyData.keyHash P (Str.ofString "starts_of")) (Value.str (Str.ofString "starts_of") 917) (Value.ref 464)), (DictEntry.mk (PyData.keyHash P (Str.ofString "new_ahead")) (Value.str (Str.ofString "new_ahead") 926) (Value.ref 471)), (DictEntry.mk (PyData.keyHash P (Str.ofString "new_stretches")) (Value.str (Str.ofString "new_stretches") 938) (Value.ref 478)), (DictEntry.mk (PyData.keyHash P (Str.ofString "index_at")) (Value.str (Str.ofString "index_at") 949) (Value.ref 485)), (DictEntry.mk (PyData.keyHash P (Str.ofString "read")) (Value.str (Str.ofString "read") 962) (Value.ref 492)), (DictEntry.mk (PyData.keyHash P (Str.ofString "source_pieces")) (Value.str (Str.ofString "source_pieces") 974) (Value.ref 499)), (DictEntry.mk (PyData.keyHash P (Str.ofString "links_of_pieces")) (Value.str (Str.ofString "links_of_pieces") 985) (Value.ref 506)), (DictEntry.mk (PyData.keyHash P (Str.ofString "holds")) (Value.str (Str.ofString "holds") 993) (Value.ref 513)), (DictEntry.mk (PyData.keyHash P (Str.ofString "Melody")) (Value.str (Str.ofString "Melody") 1067) (Value.ref 558)), (DictEntry.mk (PyData.keyHash P (Str.ofString "_same_places")) (Value.str (Str.ofString "_same_places") 1075) (Value.ref 569)), (DictEntry.mk (PyData.keyHash P (Str.ofString "_are_pieces")) (Value.str (Str.ofString "_are_pieces") 1084) (Value.ref 576)), (DictEntry.mk (PyData.keyHash P (Str.ofString "_is_piece")) (Value.str (Str.ofString "_is_piece") 1092) (Value.ref 583)), (DictEntry.mk (PyData.keyHash P (Str.ofString "_is_copy")) (Value.str (Str.ofString "_is_copy") 1106) (Value.ref 590))]) 75) (List.toArray []))),
  (40, (Obj.mk Value.none none (Data.fields (List.toArray [(Value.int (2 : Int) 0), (Value.int (0 : Int) 0), (Value.ref 48), (Value.int (6 : Int) 0), (Value.int (0 : Int) 0), (Value.ref 55), (Value.int (11 : Int) 0), (Value.int (0 : Int) 0), (Value.ref 75), (Value.int (13 : Int) 0), (Value.int (0 : Int) 0), (Value.ref 87), (Value.int (15 : Int) 0), (Value.int (0 : Int) 0), (Value.ref 99), (Value.int (17 : Int) 0), (Value.int (0 : Int) 0), (Value.ref 111), (Value.int (19 : Int) 0), (Value.int (0 : Int) 0), (Value.ref 123), (Value.int (21 : Int) 0), (Value.int (0 : Int) 0), (Value.ref 135), (Value.int (23 : Int) 0), (Value.int (0 : Int) 0), (Value.ref 147), (Value.int (25 : Int) 0), (Value.int (0 : Int) 0), (Value.ref 159), (Value.int (27 : Int) 0), (Value.int (0 : Int) 0), (Value.ref 171), (Value.int (29 : Int) 0), (Value.int (0 : Int) 0), (Value.ref 183), (Value.int (31 : Int) 0), (Value.int (0 : Int) 0), (Value.ref 195), (Value.int (37 : Int) 0), (Value.int (0 : Int) 0), (Value.ref 207), (Value.int (39 : Int) 0), (Value.int (0 : Int) 0), (Value.ref 214), (Value.int (41 : Int) 0), (Value.int (0 : Int) 0), (Value.ref 221), (Value.int (43 : Int) 0), (Value.int (0 : Int) 0), (Value.ref 228), (Value.int (53 : Int) 0), (Value.int (0 : Int) 0), (Value.ref 235), (Value.int (61 : Int) 0), (Value.int (0 : Int) 0), (Value.ref 242), (Value.int (69 : Int) 0), (Value.int (0 : Int) 0), (Value.ref 250), (Value.int (72 : Int) 0), (Value.int (0 : Int) 0), (Value.ref 257), (Value.int (74 : Int) 0), (Value.int (0 : Int) 0), (Value.ref 264), (Value.int (77 : Int) 0), (Value.int (0 : Int) 0), (Value.ref 271), (Value.int (82 : Int) 0), (Value.int (0 : Int) 0), (Value.ref 278), (Value.int (85 : Int) 0), (Value.int (0 : Int) 0), (Value.ref 285), (Value.int (92 : Int) 0), (Value.int (0 : Int) 0), (Value.ref 304), (Value.int (94 : Int) 0), (Value.int (0 : Int) 0), (Value.ref 311), (Value.int (96 : Int) 0), (Value.int (0 : Int) 0), (Value.ref 318), (Value.int (98 : Int) 0), (Value.int (0 : Int) 0), (Value.ref 325), (Value.int (100 : Int) 0), (Value.int (0 : Int) 0), (Value.ref 332), (Value.int (103 : Int) 0), (Value.int (0 : Int) 0), (Value.ref 339), (Value.int (113 : Int) 0), (Value.int (0 : Int) 0), (Value.ref 360), (Value.int (115 : Int) 0), (Value.int (0 : Int) 0), (Value.ref 367), (Value.int (119 : Int) 0), (Value.int (0 : Int) 0), (Value.ref 374), (Value.int (125 : Int) 0), (Value.int (0 : Int) 0), (Value.ref 381), (Value.int (127 : Int) 0), (Value.int (0 : Int) 0), (Value.ref 388), (Value.int (132 : Int) 0), (Value.int (0 : Int) 0), (Value.ref 395), (Value.int (142 : Int) 0), (Value.int (0 : Int) 0), (Value.ref 402), (Value.int (145 : Int) 0), (Value.int (0 : Int) 0), (Value.ref 409), (Value.int (154 : Int) 0), (Value.int (0 : Int) 0), (Value.ref 416), (Value.int (163 : Int) 0), (Value.int (0 : Int) 0), (Value.ref 423), (Value.int (171 : Int) 0), (Value.int (0 : Int) 0), (Value.ref 430), (Value.int (203 : Int) 0), (Value.int (0 : Int) 0), (Value.ref 437), (Value.int (205 : Int) 0), (Value.int (0 : Int) 0), (Value.ref 442), (Value.int (207 : Int) 0), (Value.int (0 : Int) 0), (Value.ref 449), (Value.int (211 : Int) 0), (Value.int (0 : Int) 0), (Value.ref 456), (Value.int (213 : Int) 0), (Value.int (0 : Int) 0), (Value.ref 463), (Value.int (218 : Int) 0), (Value.int (0 : Int) 0), (Value.ref 470), (Value.int (223 : Int) 0), (Value.int (0 : Int) 0), (Value.ref 477), (Value.int (234 : Int) 0), (Value.int (0 : Int) 0), (Value.ref 484), (Value.int (243 : Int) 0), (Value.int (0 : Int) 0), (Value.ref 491), (Value.int (254 : Int) 0), (Value.int (0 : Int) 0), (Value.ref 498), (Value.int (261 : Int) 0), (Value.int (0 : Int) 0), (Value.ref 505), (Value.int (270 : Int) 0), (Value.int (0 : Int) 0), (Value.ref 512), (Value.int (273 : Int) 0), (Value.int (0 : Int) 0), (Value.ref 519), (Value.int (302 : Int) 0), (Value.int (0 : Int) 0), (Value.ref 568), (Value.int (304 : Int) 0), (Value.int (0 : Int) 0), (Value.ref 575), (Value.int (313 : Int) 0), (Value.int (0 : Int) 0), (Value.ref 582), (Value.int (321 : Int) 0), (Value.int (0 : Int) 0), (Value.ref 589)])) (List.toArray []))),
  (584, (Obj.mk (Value.type "tuple") none (Data.seq (List.toArray []) 0) (List.toArray []))),
  (585, (Obj.mk Value.none none (Data.fields (List.toArray [])) (List.toArray []))),
  (586, (Obj.mk (Value.type "tuple") none (Data.seq (List.toArray [(Value.str (Str.ofString "piece") 1096), (Value.str (Str.ofString "here") 1097), (Value.str (Str.ofString "_") 1098), (Value.str (Str.ofString "first") 1099), (Value.str (Str.ofString "length") 1100), (Value.str (Str.ofString "amount") 1101), (Value.str (Str.ofString "down") 1102), (Value.str (Str.ofString "backward") 1103)]) 0) (List.toArray []))),
  (587, (Obj.mk (Value.type "tuple") none (Data.seq (List.toArray []) 0) (List.toArray []))),
  (588, (Obj.mk Value.none none (Data.func (FuncData.mk (Str.ofString "_is_copy") (Str.ofString "_is_copy") (L2.defArgs (top 73)) (FuncBody.stmts (L2.defBody (top 73))) (L2.defScope (top 73)) 0 [] Value.none Value.none Value.none Value.none none Value.none Value.none 0)) (List.toArray []))),
  (589, (Obj.mk (Value.type "code") none (Data.fields (List.toArray [(Value.str (Str.ofString "_is_copy") 1093), (Value.str (Str.ofString "_is_copy") 1094), (Value.str (Str.ofString "/claim/cut.py") 1095), (Value.int (321 : Int) 0), (Value.int (2 : Int) 0), (Value.int (0 : Int) 0), (Value.int (0 : Int) 0), (Value.int (3 : Int) 0), (Value.ref 584), (Value.bool Bool.true), (Value.int (316 : Int) 0), (Value.ref 585), Value.none, (Value.ref 586), (Value.ref 587), (Value.ref 588), (Value.int (1104 : Int) 0), (Value.int (321 : Int) 0), (Value.str (Str.ofString "/claim/cut.py") 1105)])) (List.toArray []))),
  (590, (Obj.mk (Value.type "function") none (Data.func (FuncData.mk (Str.ofString "_is_copy") (Str.ofString "_is_copy") (L2.defArgs (top 73)) (FuncBody.stmts (L2.defBody (top 73))) (L2.defScope (top 73)) 3 [] Value.none Value.none Value.none (Value.str (Str.ofString "turnedtunes.melodies") 994) none (Value.ref 589) Value.none 0)) (List.toArray [])))] (hRt13 P)
noncomputable def hRS14 (w : World) : SharedT := ⟨hRt14 w.params, 591, (Life.mk [] [] [] 0 [] [] Bool.false (List.toArray []) [] 0 Bool.false Bool.false Bool.false (0 : Int) [(2000 : Int), (10 : Int), (10 : Int)] Bool.false 0 Bool.true [] [] 0 Bool.false), (List.toArray []), (Drawn.mk 0 0 0 0), 1109, (start (opening Challenge.pw_turnedtunes_k39_pieces_refused)).1.os⟩
noncomputable def hRb13 : List Stmt := ((behindTheImports Challenge.pw_turnedtunes_k39_pieces_refused).drop 72).take 2
theorem hRg13 (w : World) : segF (stepQ (denQ tabQ) Challenge.pw_turnedtunes_k39_pieces_refused w) 39 (some (Value.ref 6)) 46 (hRS13 w) (piecesOf hRb13 hRenv hRcd (Pos.mk 313 0 320 75) [topFrame (Pos.mk 0 0 0 0)]) = some (.next, hRS14 w, hRcd, (Pos.mk 328 0 328 8)) := by kernel_rfl
noncomputable def hRt15 (P : Params) : BT := putT [(3, (Obj.mk (Value.type "dict") none (Data.dict (List.toArray [(DictEntry.mk (PyData.keyHash P (Str.ofString "__name__")) (Value.str (Str.ofString "__name__") 165) (Value.str (Str.ofString "turnedtunes.ties") 1107)), (DictEntry.mk (PyData.keyHash P (Str.ofString "__doc__")) (Value.str (Str.ofString "__doc__") 166) Value.none), (DictEntry.mk (PyData.keyHash P (Str.ofString "__package__")) (Value.str (Str.ofString "__package__") 167) Value.none), (DictEntry.mk (PyData.keyHash P (Str.ofString "__loader__")) (Value.str (Str.ofString "__loader__") 168) (Value.builtin "__main__.__loader__#opaque")), (DictEntry.mk (PyData.keyHash P (Str.ofString "__spec__")) (Value.str (Str.ofString "__spec__") 169) Value.none), (DictEntry.mk (PyData.keyHash P (Str.ofString "__annotations__")) (Value.str (Str.ofString "__annotations__") 170) (Value.ref 6)), (DictEntry.mk (PyData.keyHash P (Str.ofString "__builtins__")) (Value.str (Str.ofString "__builtins__") 171) (Value.ref 4)), (DictEntry.mk (PyData.keyHash P (Str.ofString "__file__")) (Value.str (Str.ofString "__file__") 173) (Value.str (Str.ofString "/claim/cut.py") 172)), (DictEntry.mk (PyData.keyHash P (Str.ofString "__cached__")) (Value.str (Str.ofString "__cached__") 174) Value.none), (DictEntry.mk (PyData.keyHash P (Str.ofString "heappop")) (Value.str (Str.ofString "heappop") 312) (Value.builtin "_heapq.heappop")), (DictEntry.mk (PyData.keyHash P (Str.ofString "heappush")) (Value.str (Str.ofString "heappush") 315) (Value.builtin "_heapq.heappush")), (DictEntry.mk (PyData.keyHash P (Str.ofString "_wall")) (Value.str (Str.ofString "_wall") 328) (Value.ref 49)), (DictEntry.mk (PyData.keyHash P (Str.ofString "TuneError")) (Value.str (Str.ofString "TuneError") 357) (Value.ref 66)), (DictEntry.mk (PyData.keyHash P (Str.ofString "BadPlace")) (Value.str (Str.ofString "BadPlace") 373) (Value.ref 79)), (DictEntry.mk (PyData.keyHash P (Str.ofString "BadLength")) (Value.str (Str.ofString "BadLength") 389) (Value.ref 91)), (DictEntry.mk (PyData.keyHash P (Str.ofString "BadAmount")) (Value.str (Str.ofString "BadAmount") 405) (Value.ref 103)), (DictEntry.mk (PyData.keyHash P (Str.ofString "BadWay")) (Value.str (Str.ofString "BadWay") 421) (Value.ref 115)), (DictEntry.mk (PyData.keyHash P (Str.ofString "BadText")) (Value.str (Str.ofString "BadText") 437) (Value.ref 127)), (DictEntry.mk (PyData.keyHash P (Str.ofString "NoPlace")) (Value.str (Str.ofString "NoPlace") 453) (Value.ref 139)), (DictEntry.mk (PyData.keyHash P (Str.ofString "BadNote")) (Value.str (Str.ofString "BadNote") 469) (Value.ref 151)), (DictEntry.mk (PyData.keyHash P (Str.ofString "BadPart")) (Value.str (Str.ofString "BadPart") 485) (Value.ref 163)), (DictEntry.mk (PyData.keyHash P (Str.ofString "NoJoint")) (Value.str (Str.ofString "NoJoint") 501) (Value.ref 175)), (DictEntry.mk (PyData.keyHash P (Str.ofString "BadNumber")) (Value.str (Str.ofString "BadNumber") 517) (Value.ref 187)), (DictEntry.mk (PyData.keyHash P (Str.ofString "BadPieces")) (Value.str (Str.ofString "BadPieces") 533) (Value.ref 199)), (DictEntry.mk (PyData.keyHash P (Str.ofString "GREATEST")) (Value.str (Str.ofString "GREATEST") 539) (Value.int (1000000000000000000000000000000 : Int) 538)), (DictEntry.mk (PyData.keyHash P (Str.ofString "_DIGITS")) (Value.str (Str.ofString "_DIGITS") 541) (Value.int (64 : Int) 540)), (DictEntry.mk (PyData.keyHash P (Str.ofString "_CHUNK")) (Value.str (Str.ofString "_CHUNK") 545) (Value.int (10000000000000000000000000000000000000000000000000000000000000000 : Int) 544)), (DictEntry.mk (PyData.keyHash P (Str.ofString "is_whole")) (Value.str (Str.ofString "is_whole") 552) (Value.ref 208)), (DictEntry.mk (PyData.keyHash P (Str.ofString "is_from")) (Value.str (Str.ofString "is_from") 560) (Value.ref 215)), (DictEntry.mk (PyData.keyHash P (Str.ofString "is_between")) (Value.str (Str.ofString "is_between") 569) (Value.ref 222)), (DictEntry.mk (PyData.keyHash P (Str.ofString "written")) (Value.str (Str.ofString "written") 578) (Value.ref 229)), (DictEntry.mk (PyData.keyHash P (Str.ofString "number_in")) (Value.str (Str.ofString "number_in") 587) (Value.ref 236)), (DictEntry.mk (PyData.keyHash P (Str.ofString "_number_of")) (Value.str (Str.ofString "_number_of") 597) (Value.ref 243)), (DictEntry.mk (PyData.keyHash P (Str.ofString "STILL")) (Value.str (Str.ofString "STILL") 601) (Value.ref 244)), (DictEntry.mk (PyData.keyHash P (Str.ofString "led_by")) (Value.str (Str.ofString "led_by") 611) (Value.ref 251)), (DictEntry.mk (PyData.keyHash P (Str.ofString "led_on")) (Value.str (Str.ofString "led_on") 619) (Value.ref 258)), (DictEntry.mk (PyData.keyHash P (Str.ofString "led_back")) (Value.str (Str.ofString "led_back") 628) (Value.ref 265)), (DictEntry.mk (PyData.keyHash P (Str.ofString "led_often")) (Value.str (Str.ofString "led_often") 638) (Value.ref 272)), (DictEntry.mk (PyData.keyHash P (Str.ofString "word_of")) (Value.str (Str.ofString "word_of") 645) (Value.ref 279)), (DictEntry.mk (PyData.keyHash P (Str.ofString "Step")) (Value.str (Str.ofString "Step") 677) (Value.ref 294)), (DictEntry.mk (PyData.keyHash P (Str.ofString "step_given")) (Value.str (Str.ofString "step_given") 683) (Value.ref 305)), (DictEntry.mk (PyData.keyHash P (Str.ofString "step_back")) (Value.str (Str.ofString "step_back") 690) (Value.ref 312)), (DictEntry.mk (PyData.keyHash P (Str.ofString "step_joined")) (Value.str (Str.ofString "step_joined") 698) (Value.ref 319)), (DictEntry.mk (PyData.keyHash P (Str.ofString "step_times")) (Value.str (Str.ofString "step_times") 706) (Value.ref 326)), (DictEntry.mk (PyData.keyHash P (Str.ofString "step_part")) (Value.str (Str.ofString "step_part") 715) (Value.ref 333)), (DictEntry.mk (PyData.keyHash P (Str.ofString "Link")) (Value.str (Str.ofString "Link") 757) (Value.ref 350)), (DictEntry.mk (PyData.keyHash P (Str.ofString "is_telling")) (Value.str (Str.ofString "is_telling") 764) (Value.ref 361)), (DictEntry.mk (PyData.keyHash P (Str.ofString "part_of_link")) (Value.str (Str.ofString "part_of_link") 775) (Value.ref 368)), (DictEntry.mk (PyData.keyHash P (Str.ofString "settled")) (Value.str (Str.ofString "settled") 782) (Value.ref 375)), (DictEntry.mk (PyData.keyHash P (Str.ofString "_turned")) (Value.str (Str.ofString "_turned") 789) (Value.ref 382)), (DictEntry.mk (PyData.keyHash P (Str.ofString "_settled_straight")) (Value.str (Str.ofString "_settled_straight") 798) (Value.ref 389)), (DictEntry.mk (PyData.keyHash P (Str.ofString "_settled_backward")) (Value.str (Str.ofString "_settled_backward") 810) (Value.ref 396)), (DictEntry.mk (PyData.keyHash P (Str.ofString "shortened")) (Value.str (Str.ofString "shortened") 819) (Value.ref 403)), (DictEntry.mk (PyData.keyHash P (Str.ofString "pulled")) (Value.str (Str.ofString "pulled") 829) (Value.ref 410)), (DictEntry.mk (PyData.keyHash P (Str.ofString "_pulled_away")) (Value.str (Str.ofString "_pulled_away") 843) (Value.ref 417)), (DictEntry.mk (PyData.keyHash P (Str.ofString "_source")) (Value.str (Str.ofString "_source") 853) (Value.ref 499)), (DictEntry.mk (PyData.keyHash P (Str.ofString "source_links")) (Value.str (Str.ofString "source_links") 854) (Value.ref 424)), (DictEntry.mk (PyData.keyHash P (Str.ofString "cuts_of")) (Value.str (Str.ofString "cuts_of") 876) (Value.ref 431)), (DictEntry.mk (PyData.keyHash P (Str.ofString "_greatest_end")) (Value.str (Str.ofString "_greatest_end") 883) (Value.ref 438)), (DictEntry.mk (PyData.keyHash P (Str.ofString "free_in")) (Value.str (Str.ofString "free_in") 889) (Value.ref 443)), (DictEntry.mk (PyData.keyHash P (Str.ofString "free_by")) (Value.str (Str.ofString "free_by") 899) (Value.ref 450)), (DictEntry.mk (PyData.keyHash P (Str.ofString "length_of")) (Value.str (Str.ofString "length_of") 908) (Value.ref 457)), (DictEntry.mk (PyData.keyHash P (Str.ofString "starts_of")) (Value.str (Str.ofString "starts_of") 917) (Value.ref 464)), (DictEntry.mk (PyData.keyHash P (Str.ofString "new_ahead")) (Value.str (Str.ofString "new_ahead") 926) (Value.ref 471)), (DictEntry.mk (PyData.keyHash P (Str.ofString "new_stretches")) (Value.str (Str.ofString "new_stretches") 938) (Value.ref 478)), (DictEntry.mk (PyData.keyHash P (Str.ofString "index_at")) (Value.str (Str.ofString "index_at") 949) (Value.ref 485)), (DictEntry.mk (PyData.keyHash P (Str.ofString "read")) (Value.str (Str.ofString "read") 962) (Value.ref 492)), (DictEntry.mk (PyData.keyHash P (Str.ofString "source_pieces")) (Value.str (Str.ofString "source_pieces") 974) (Value.ref 499)), (DictEntry.mk (PyData.keyHash P (Str.ofString "links_of_pieces")) (Value.str (Str.ofString "links_of_pieces") 985) (Value.ref 506)), (DictEntry.mk (PyData.keyHash P (Str.ofString "holds")) (Value.str (Str.ofString "holds") 993) (Value.ref 513)), (DictEntry.mk (PyData.keyHash P (Str.ofString "Melody")) (Value.str (Str.ofString "Melody") 1067) (Value.ref 558)), (DictEntry.mk (PyData.keyHash P (Str.ofString "_same_places")) (Value.str (Str.ofString "_same_places") 1075) (Value.ref 569)), (DictEntry.mk (PyData.keyHash P (Str.ofString "_are_pieces")) (Value.str (Str.ofString "_are_pieces") 1084) (Value.ref 576)), (DictEntry.mk (PyData.keyHash P (Str.ofString "_is_piece")) (Value.str (Str.ofString "_is_piece") 1092) (Value.ref 583)), (DictEntry.mk (PyData.keyHash P (Str.ofString "_is_copy")) (Value.str (Str.ofString "_is_copy") 1106) (Value.ref 590)), (DictEntry.mk (PyData.keyHash P (Str.ofString "Tie")) (Value.str (Str.ofString "Tie") 1244) (Value.ref 668))]) 76) (List.toArray []))),
  (40, (Obj.mk Value.none none (Data.fields (List.toArray [(Value.int (2 : Int) 0), (Value.int (0 : Int) 0), (Value.ref 48), (Value.int (6 : Int) 0), (Value.int (0 : Int) 0), (Value.ref 55), (Value.int (11 : Int) 0), (Value.int (0 : Int) 0), (Value.ref 75), (Value.int (13 : Int) 0), (Value.int (0 : Int) 0), (Value.ref 87), (Value.int (15 : Int) 0), (Value.int (0 : Int) 0), (Value.ref 99), (Value.int (17 : Int) 0), (Value.int (0 : Int) 0), (Value.ref 111), (Value.int (19 : Int) 0), (Value.int (0 : Int) 0), (Value.ref 123), (Value.int (21 : Int) 0), (Value.int (0 : Int) 0), (Value.ref 135), (Value.int (23 : Int) 0), (Value.int (0 : Int) 0), (Value.ref 147), (Value.int (25 : Int) 0), (Value.int (0 : Int) 0), (Value.ref 159), (Value.int (27 : Int) 0), (Value.int (0 : Int) 0), (Value.ref 171), (Value.int (29 : Int) 0), (Value.int (0 : Int) 0), (Value.ref 183), (Value.int (31 : Int) 0), (Value.int (0 : Int) 0), (Value.ref 195), (Value.int (37 : Int) 0), (Value.int (0 : Int) 0), (Value.ref 207), (Value.int (39 : Int) 0), (Value.int (0 : Int) 0), (Value.ref 214), (Value.int (41 : Int) 0), (Value.int (0 : Int) 0), (Value.ref 221), (Value.int (43 : Int) 0), (Value.int (0 : Int) 0), (Value.ref 228), (Value.int (53 : Int) 0), (Value.int (0 : Int) 0), (Value.ref 235), (Value.int (61 : Int) 0), (Value.int (0 : Int) 0), (Value.ref 242), (Value.int (69 : Int) 0), (Value.int (0 : Int) 0), (Value.ref 250), (Value.int (72 : Int) 0), (Value.int (0 : Int) 0), (Value.ref 257), (Value.int (74 : Int) 0), (Value.int (0 : Int) 0), (Value.ref 264), (Value.int (77 : Int) 0), (Value.int (0 : Int) 0), (Value.ref 271), (Value.int (82 : Int) 0), (Value.int (0 : Int) 0), (Value.ref 278), (Value.int (85 : Int) 0), (Value.int (0 : Int) 0), (Value.ref 285), (Value.int (92 : Int) 0), (Value.int (0 : Int) 0), (Value.ref 304), (Value.int (94 : Int) 0), (Value.int (0 : Int) 0), (Value.ref 311), (Value.int (96 : Int) 0), (Value.int (0 : Int) 0), (Value.ref 318), (Value.int (98 : Int) 0), (Value.int (0 : Int) 0), (Value.ref 325), (Value.int (100 : Int) 0), (Value.int (0 : Int) 0), (Value.ref 332), (Value.int (103 : Int) 0), (Value.int (0 : Int) 0), (Value.ref 339), (Value.int (113 : Int) 0), (Value.int (0 : Int) 0), (Value.ref 360), (Value.int (115 : Int) 0), (Value.int (0 : Int) 0), (Value.ref 367), (Value.int (119 : Int) 0), (Value.int (0 : Int) 0), (Value.ref 374), (Value.int (125 : Int) 0), (Value.int (0 : Int) 0), (Value.ref 381), (Value.int (127 : Int) 0), (Value.int (0 : Int) 0), (Value.ref 388), (Value.int (132 : Int) 0), (Value.int (0 : Int) 0), (Value.ref 395), (Value.int (142 : Int) 0), (Value.int (0 : Int) 0), (Value.ref 402), (Value.int (145 : Int) 0), (Value.int (0 : Int) 0), (Value.ref 409), (Value.int (154 : Int) 0), (Value.int (0 : Int) 0), (Value.ref 416), (Value.int (163 : Int) 0), (Value.int (0 : Int) 0), (Value.ref 423), (Value.int (171 : Int) 0), (Value.int (0 : Int) 0), (Value.ref 430), (Value.int (203 : Int) 0), (Value.int (0 : Int) 0), (Value.ref 437), (Value.int (205 : Int) 0), (Value.int (0 : Int) 0), (Value.ref 442), (Value.int (207 : Int) 0), (Value.int (0 : Int) 0), (Value.ref 449), (Value.int (211 : Int) 0), (Value.int (0 : Int) 0), (Value.ref 456), (Value.int (213 : Int) 0), (Value.int (0 : Int) 0), (Value.ref 463), (Value.int (218 : Int) 0), (Value.int (0 : Int) 0), (Value.ref 470), (Value.int (223 : Int) 0), (Value.int (0 : Int) 0), (Value.ref 477), (Value.int (234 : Int) 0), (Value.int (0 : Int) 0), (Value.ref 484), (Value.int (243 : Int) 0), (Value.int (0 : Int) 0), (Value.ref 491), (Value.int (254 : Int) 0), (Value.int (0 : Int) 0), (Value.ref 498), (Value.int (261 : Int) 0), (Value.int (0 : Int) 0), (Value.ref 505), (Value.int (270 : Int) 0), (Value.int (0 : Int) 0), (Value.ref 512), (Value.int (273 : Int) 0), (Value.int (0 : Int) 0), (Value.ref 519), (Value.int (302 : Int) 0), (Value.int (0 : Int) 0), (Value.ref 568), (Value.int (304 : Int) 0), (Value.int (0 : Int) 0), (Value.ref 575), (Value.int (313 : Int) 0), (Value.int (0 : Int) 0), (Value.ref 582), (Value.int (321 : Int) 0), (Value.int (0 : Int) 0), (Value.ref 589), (Value.int (329 : Int) 0), (Value.int (0 : Int) 0), (Value.ref 596)])) (List.toArray []))),
  (591, (Obj.mk (Value.type "tuple") none (Data.seq (List.toArray []) 0) (List.toArray []))),
  (592, (Obj.mk (Value.type "builtin_function_or_method") none (Data.fields (List.toArray [(Value.builtin "type.__prepare__"), (Value.type "type")])) (List.toArray []))),
  (593, (Obj.mk (Value.type "dict") none (Data.dict (List.toArray [(DictEntry.mk (PyData.keyHash P (Str.ofString "__module__")) (Value.str (Str.ofString "__module__") 1116) (Value.str (Str.ofString "turnedtunes.ties") 1107)), (DictEntry.mk (PyData.keyHash P (Str.ofString "__qualname__")) (Value.str (Str.ofString "__qualname__") 1118) (Value.str (Str.ofString "Tie") 1117)), (DictEntry.mk (PyData.keyHash P (Str.ofString "__firstlineno__")) (Value.str (Str.ofString "__firstlineno__") 1120) (Value.int (329 : Int) 1119)), (DictEntry.mk (PyData.keyHash P (Str.ofString "__init__")) (Value.str (Str.ofString "__init__") 1138) (Value.ref 606)), (DictEntry.mk (PyData.keyHash P (Str.ofString "of")) (Value.str (Str.ofString "of") 1165) (Value.ref 615)), (DictEntry.mk (PyData.keyHash P (Str.ofString "__call__")) (Value.str (Str.ofString "__call__") 1174) (Value.ref 623)), (DictEntry.mk (PyData.keyHash P (Str.ofString "led")) (Value.str (Str.ofString "led") 1182) (Value.ref 630)), (DictEntry.mk (PyData.keyHash P (Str.ofString "part")) (Value.str (Str.ofString "part") 1193) (Value.ref 637)), (DictEntry.mk (PyData.keyHash P (Str.ofString "__invert__")) (Value.str (Str.ofString "__invert__") 1201) (Value.ref 644)), (DictEntry.mk (PyData.keyHash P (Str.ofString "__rshift__")) (Value.str (Str.ofString "__rshift__") 1212) (Value.ref 651)), (DictEntry.mk (PyData.keyHash P (Str.ofString "__mul__")) (Value.str (Str.ofString "__mul__") 1220) (Value.ref 658)), (DictEntry.mk (PyData.keyHash P (Str.ofString "__eq__")) (Value.str (Str.ofString "__eq__") 1228) (Value.ref 665)), (DictEntry.mk (PyData.keyHash P (Str.ofString "__static_attributes__")) (Value.str (Str.ofString "__static_attributes__") 1236) (Value.ref 666))]) 13) (List.toArray []))),
  (594, (Obj.mk (Value.type "tuple") none (Data.seq (List.toArray []) 0) (List.toArray []))),
  (595, (Obj.mk Value.none none (Data.fields (List.toArray [(Value.int (331 : Int) 0), (Value.int (4 : Int) 0), (Value.ref 605), (Value.int (345 : Int) 0), (Value.int (4 : Int) 0), (Value.ref 612), (Value.int (356 : Int) 0), (Value.int (4 : Int) 0), (Value.ref 622), (Value.int (364 : Int) 0), (Value.int (4 : Int) 0), (Value.ref 629), (Value.int (369 : Int) 0), (Value.int (4 : Int) 0), (Value.ref 636), (Value.int (376 : Int) 0), (Value.int (4 : Int) 0), (Value.ref 643), (Value.int (380 : Int) 0), (Value.int (4 : Int) 0), (Value.ref 650), (Value.int (390 : Int) 0), (Value.int (4 : Int) 0), (Value.ref 657), (Value.int (399 : Int) 0), (Value.int (4 : Int) 0), (Value.ref 664)])) (List.toArray []))),
  (596, (Obj.mk (Value.type "code") none (Data.fields (List.toArray [(Value.str (Str.ofString "Tie") 1111), (Value.str (Str.ofString "Tie") 1112), (Value.str (Str.ofString "/claim/cut.py") 1113), (Value.int (329 : Int) 0), (Value.int (0 : Int) 0), (Value.int (0 : Int) 0), (Value.int (0 : Int) 0), (Value.int (0 : Int) 0), (Value.ref 594), (Value.bool Bool.false), (Value.int (316 : Int) 0), (Value.ref 595), Value.none, Value.none, Value.none, Value.none, (Value.int (1114 : Int) 0), (Value.int (329 : Int) 0), (Value.str (Str.ofString "/claim/cut.py") 1115)])) (List.toArray []))),
  (597, (Obj.mk (Value.type "frame") none Data.plain (List.toArray [(some (Value.ref 596)), (some (Value.ref 3)), (some (Value.ref 593)), none, (some (Value.str (Str.ofString "turnedtunes.ties") 1107)), none, (some (Value.ref 0))]))),
  (598, (Obj.mk (Value.type "tuple") none (Data.seq (List.toArray [(Value.int (0 : Int) 1121)]) 0) (List.toArray []))),
  (599, (Obj.mk (Value.type "dict") none (Data.dict (List.toArray [(DictEntry.mk (PyData.keyHash P (Str.ofString "down")) (Value.str (Str.ofString "down") 1122) (Value.bool Bool.false)), (DictEntry.mk (PyData.keyHash P (Str.ofString "backward")) (Value.str (Str.ofString "backward") 1123) (Value.bool Bool.false))]) 2) (List.toArray []))),
  (600, (Obj.mk (Value.type "tuple") none (Data.seq (List.toArray []) 0) (List.toArray []))),
  (601, (Obj.mk Value.none none (Data.fields (List.toArray [])) (List.toArray []))),
  (602, (Obj.mk (Value.type "tuple") none (Data.seq (List.toArray [(Value.str (Str.ofString "self") 1127), (Value.str (Str.ofString "first") 1128), (Value.str (Str.ofString "second") 1129), (Value.str (Str.ofString "length") 1130), (Value.str (Str.ofString "amount") 1131), (Value.str (Str.ofString "down") 1132), (Value.str (Str.ofString "backward") 1133), (Value.str (Str.ofString "way") 1134), (Value.str (Str.ofString "back") 1135)]) 0) (List.toArray []))),
  (603, (Obj.mk (Value.type "tuple") none (Data.seq (List.toArray []) 0) (List.toArray []))),
  (604, (Obj.mk Value.none none (Data.func (FuncData.mk (Str.ofString "__init__") (Str.ofString "Tie.__init__") (L2.defArgs (inClass (top 75) 0)) (FuncBody.stmts (L2.defBody (inClass (top 75) 0))) (L2.defScope (inClass (top 75) 0)) 0 [] Value.none Value.none Value.none Value.none none Value.none Value.none 0)) (List.toArray []))),
  (605, (Obj.mk (Value.type "code") none (Data.fields (List.toArray [(Value.str (Str.ofString "__init__") 1124), (Value.str (Str.ofString "Tie.__init__") 1125), (Value.str (Str.ofString "/claim/cut.py") 1126), (Value.int (331 : Int) 0), (Value.int (5 : Int) 0), (Value.int (0 : Int) 0), (Value.int (2 : Int) 0), (Value.int (3 : Int) 0), (Value.ref 600), (Value.bool Bool.true), (Value.int (316 : Int) 0), (Value.ref 601), Value.none, (Value.ref 602), (Value.ref 603), (Value.ref 604), (Value.int (1136 : Int) 0), (Value.int (331 : Int) 0), (Value.str (Str.ofString "/claim/cut.py") 1137)])) (List.toArray []))),
  (606, (Obj.mk (Value.type "function") none (Data.func (FuncData.mk (Str.ofString "__init__") (Str.ofString "Tie.__init__") (L2.defArgs (inClass (top 75) 0)) (FuncBody.stmts (L2.defBody (inClass (top 75) 0))) (L2.defScope (inClass (top 75) 0)) 3 [] (Value.ref 598) (Value.ref 599) Value.none (Value.str (Str.ofString "turnedtunes.ties") 1107) none (Value.ref 605) Value.none 0)) (List.toArray []))),
  (607, (Obj.mk (Value.type "tuple") none (Data.seq (List.toArray []) 0) (List.toArray []))),
  (608, (Obj.mk Value.none none (Data.fields (List.toArray [])) (List.toArray []))),
  (609, (Obj.mk (Value.type "tuple") none (Data.seq (List.toArray [(Value.str (Str.ofString "text") 1142), (Value.str (Str.ofString "values") 1143), (Value.str (Str.ofString "first") 1144), (Value.str (Str.ofString "second") 1145), (Value.str (Str.ofString "length") 1146), (Value.str (Str.ofString "amount") 1147), (Value.str (Str.ofString "down") 1148), (Value.str (Str.ofString "backward") 1149), (Value.str (Str.ofString "tie") 1150)]) 0) (List.toArray []))),
  (610, (Obj.mk (Value.type "tuple") none (Data.seq (List.toArray []) 0) (List.toArray []))),
  (611, (Obj.mk Value.none none (Data.func (FuncData.mk (Str.ofString "of") (Str.ofString "Tie.of") (L2.defArgs (inClass (top 75) 1)) (FuncBody.stmts (L2.defBody (inClass (top 75) 1))) (L2.defScope (inClass (top 75) 1)) 0 [] Value.none Value.none Value.none Value.none none Value.none Value.none 0)) (List.toArray []))),
  (612, (Obj.mk (Value.type "code") none (Data.fields (List.toArray [(Value.str (Str.ofString "of") 1139), (Value.str (Str.ofString "Tie.of") 1140), (Value.str (Str.ofString "/claim/cut.py") 1141), (Value.int (344 : Int) 0), (Value.int (1 : Int) 0), (Value.int (0 : Int) 0), (Value.int (0 : Int) 0), (Value.int (3 : Int) 0), (Value.ref 607), (Value.bool Bool.true), (Value.int (316 : Int) 0), (Value.ref 608), Value.none, (Value.ref 609), (Value.ref 610), (Value.ref 611), (Value.int (1151 : Int) 0), (Value.int (344 : Int) 0), (Value.str (Str.ofString "/claim/cut.py") 1152)])) (List.toArray []))),
  (613, (Obj.mk (Value.type "function") none (Data.func (FuncData.mk (Str.ofString "of") (Str.ofString "Tie.of") (L2.defArgs (inClass (top 75) 1)) (FuncBody.stmts (L2.defBody (inClass (top 75) 1))) (L2.defScope (inClass (top 75) 1)) 3 [] Value.none Value.none Value.none (Value.str (Str.ofString "turnedtunes.ties") 1107) (some 616) (Value.ref 612) Value.none 0)) (List.toArray []))),
  (614, (Obj.mk (Value.type "dict") none (Data.dict (List.toArray [(DictEntry.mk (PyData.keyHash P (Str.ofString "__module__")) (Value.str (Str.ofString "__module__") 1154) (Value.str (Str.ofString "turnedtunes.ties") 1107)), (DictEntry.mk (PyData.keyHash P (Str.ofString "__name__")) (Value.str (Str.ofString "__name__") 1157) (Value.str (Str.ofString "of") 1156)), (DictEntry.mk (PyData.keyHash P (Str.ofString "__qualname__")) (Value.str (Str.ofString "__qualname__") 1160) (Value.str (Str.ofString "Tie.of") 1159)), (DictEntry.mk (PyData.keyHash P (Str.ofString "__doc__")) (Value.str (Str.ofString "__doc__") 1162) Value.none), (DictEntry.mk (PyData.keyHash P (Str.ofString "__annotations__")) (Value.str (Str.ofString "__annotations__") 1164) (Value.ref 616))]) 5) (List.toArray []))),
  (615, (Obj.mk (Value.type "staticmethod") (some 614) (Data.fields (List.toArray [(Value.ref 613), (Value.bool Bool.false)])) (List.toArray []))),
  (616, (Obj.mk (Value.type "dict") none (Data.dict (List.toArray []) 0) (List.toArray []))),
  (617, (Obj.mk (Value.type "tuple") none (Data.seq (List.toArray []) 0) (List.toArray []))),
  (618, (Obj.mk Value.none none (Data.fields (List.toArray [])) (List.toArray []))),
  (619, (Obj.mk (Value.type "tuple") none (Data.seq (List.toArray [(Value.str (Str.ofString "self") 1169), (Value.str (Str.ofString "place") 1170), (Value.str (Str.ofString "step") 1171)]) 0) (List.toArray []))),
  (620, (Obj.mk (Value.type "tuple") none (Data.seq (List.toArray []) 0) (List.toArray []))),
  (621, (Obj.mk Value.none none (Data.func (FuncData.mk (Str.ofString "__call__") (Str.ofString "Tie.__call__") (L2.defArgs (inClass (top 75) 2)) (FuncBody.stmts (L2.defBody (inClass (top 75) 2))) (L2.defScope (inClass (top 75) 2)) 0 [] Value.none Value.none Value.none Value.none none Value.none Value.none 0)) (List.toArray []))),
  (622, (Obj.mk (Value.type "code") none (Data.fields (List.toArray [(Value.str (Str.ofString "__call__") 1166), (Value.str (Str.ofString "Tie.__call__") 1167), (Value.str (Str.ofString "/claim/cut.py") 1168), (Value.int (356 : Int) 0), (Value.int (2 : Int) 0), (Value.int (0 : Int) 0), (Value.int (0 : Int) 0), (Value.int (3 : Int) 0), (Value.ref 617), (Value.bool Bool.true), (Value.int (316 : Int) 0), (Value.ref 618), Value.none, (Value.ref 619), (Value.ref 620), (Value.ref 621), (Value.int (1172 : Int) 0), (Value.int (356 : Int) 0), (Value.str (Str.ofString "/claim/cut.py") 1173)])) (List.toArray []))),
  (623, (Obj.mk (Value.type "function") none (Data.func (FuncData.mk (Str.ofString "__call__") (Str.ofString "Tie.__call__") (L2.defArgs (inClass (top 75) 2)) (FuncBody.stmts (L2.defBody (inClass (top 75) 2))) (L2.defScope (inClass (top 75) 2)) 3 [] Value.none Value.none Value.none (Value.str (Str.ofString "turnedtunes.ties") 1107) none (Value.ref 622) Value.none 0)) (List.toArray []))),
  (624, (Obj.mk (Value.type "tuple") none (Data.seq (List.toArray []) 0) (List.toArray []))),
  (625, (Obj.mk Value.none none (Data.fields (List.toArray [])) (List.toArray []))),
  (626, (Obj.mk (Value.type "tuple") none (Data.seq (List.toArray [(Value.str (Str.ofString "self") 1178), (Value.str (Str.ofString "note") 1179)]) 0) (List.toArray []))),
  (627, (Obj.mk (Value.type "tuple") none (Data.seq (List.toArray []) 0) (List.toArray []))),
  (628, (Obj.mk Value.none none (Data.func (FuncData.mk (Str.ofString "led") (Str.ofString "Tie.led") (L2.defArgs (inClass (top 75) 3)) (FuncBody.stmts (L2.defBody (inClass (top 75) 3))) (L2.defScope (inClass (top 75) 3)) 0 [] Value.none Value.none Value.none Value.none none Value.none Value.none 0)) (List.toArray []))),
  (629, (Obj.mk (Value.type "code") none (Data.fields (List.toArray [(Value.str (Str.ofString "led") 1175), (Value.str (Str.ofString "Tie.led") 1176), (Value.str (Str.ofString "/claim/cut.py") 1177), (Value.int (364 : Int) 0), (Value.int (2 : Int) 0), (Value.int (0 : Int) 0), (Value.int (0 : Int) 0), (Value.int (3 : Int) 0), (Value.ref 624), (Value.bool Bool.true), (Value.int (316 : Int) 0), (Value.ref 625), Value.none, (Value.ref 626), (Value.ref 627), (Value.ref 628), (Value.int (1180 : Int) 0), (Value.int (364 : Int) 0), (Value.str (Str.ofString "/claim/cut.py") 1181)])) (List.toArray []))),
  (630, (Obj.mk (Value.type "function") none (Data.func (FuncData.mk (Str.ofString "led") (Str.ofString "Tie.led") (L2.defArgs (inClass (top 75) 3)) (FuncBody.stmts (L2.defBody (inClass (top 75) 3))) (L2.defScope (inClass (top 75) 3)) 3 [] Value.none Value.none Value.none (Value.str (Str.ofString "turnedtunes.ties") 1107) none (Value.ref 629) Value.none 0)) (List.toArray []))),
  (631, (Obj.mk (Value.type "tuple") none (Data.seq (List.toArray []) 0) (List.toArray []))),
  (632, (Obj.mk Value.none none (Data.fields (List.toArray [])) (List.toArray []))),
  (633, (Obj.mk (Value.type "tuple") none (Data.seq (List.toArray [(Value.str (Str.ofString "self") 1186), (Value.str (Str.ofString "start") 1187), (Value.str (Str.ofString "length") 1188), (Value.str (Str.ofString "first") 1189), (Value.str (Str.ofString "second") 1190)]) 0) (List.toArray []))),
  (634, (Obj.mk (Value.type "tuple") none (Data.seq (List.toArray []) 0) (List.toArray []))),
  (635, (Obj.mk Value.none none (Data.func (FuncData.mk (Str.ofString "part") (Str.ofString "Tie.part") (L2.defArgs (inClass (top 75) 4)) (FuncBody.stmts (L2.defBody (inClass (top 75) 4))) (L2.defScope (inClass (top 75) 4)) 0 [] Value.none Value.none Value.none Value.none none Value.none Value.none 0)) (List.toArray []))),
  (636, (Obj.mk (Value.type "code") none (Data.fields (List.toArray [(Value.str (Str.ofString "part") 1183), (Value.str (Str.ofString "Tie.part") 1184), (Value.str (Str.ofString "/claim/cut.py") 1185), (Value.int (369 : Int) 0), (Value.int (3 : Int) 0), (Value.int (0 : Int) 0), (Value.int (0 : Int) 0), (Value.int (3 : Int) 0), (Value.ref 631), (Value.bool Bool.true), (Value.int (316 : Int) 0), (Value.ref 632), Value.none, (Value.ref 633), (Value.ref 634), (Value.ref 635), (Value.int (1191 : Int) 0), (Value.int (369 : Int) 0), (Value.str (Str.ofString "/claim/cut.py") 1192)])) (List.toArray []))),
  (637, (Obj.mk (Value.type "function") none (Data.func (FuncData.mk (Str.ofString "part") (Str.ofString "Tie.part") (L2.defArgs (inClass (top 75) 4)) (FuncBody.stmts (L2.defBody (inClass (top 75) 4))) (L2.defScope (inClass (top 75) 4)) 3 [] Value.none Value.none Value.none (Value.str (Str.ofString "turnedtunes.ties") 1107) none (Value.ref 636) Value.none 0)) (List.toArray []))),
  (638, (Obj.mk (Value.type "tuple") none (Data.seq (List.toArray []) 0) (List.toArray []))),
  (639, (Obj.mk Value.none none (Data.fields (List.toArray [])) (List.toArray []))),
  (640, (Obj.mk (Value.type "tuple") none (Data.seq (List.toArray [(Value.str (Str.ofString "self") 1197), (Value.str (Str.ofString "amount") 1198)]) 0) (List.toArray []))),
  (641, (Obj.mk (Value.type "tuple") none (Data.seq (List.toArray []) 0) (List.toArray []))),
  (642, (Obj.mk Value.none none (Data.func (FuncData.mk (Str.ofString "__invert__") (Str.ofString "Tie.__invert__") (L2.defArgs (inClass (top 75) 5)) (FuncBody.stmts (L2.defBody (inClass (top 75) 5))) (L2.defScope (inClass (top 75) 5)) 0 [] Value.none Value.none Value.none Value.none none Value.none Value.none 0)) (List.toArray []))),
  (643, (Obj.mk (Value.type "code") none (Data.fields (List.toArray [(Value.str (Str.ofString "__invert__") 1194), (Value.str (Str.ofString "Tie.__invert__") 1195), (Value.str (Str.ofString "/claim/cut.py") 1196), (Value.int (376 : Int) 0), (Value.int (1 : Int) 0), (Value.int (0 : Int) 0), (Value.int (0 : Int) 0), (Value.int (3 : Int) 0), (Value.ref 638), (Value.bool Bool.true), (Value.int (316 : Int) 0), (Value.ref 639), Value.none, (Value.ref 640), (Value.ref 641), (Value.ref 642), (Value.int (1199 : Int) 0), (Value.int (376 : Int) 0), (Value.str (Str.ofString "/claim/cut.py") 1200)])) (List.toArray []))),
  (644, (Obj.mk (Value.type "function") none (Data.func (FuncData.mk (Str.ofString "__invert__") (Str.ofString "Tie.__invert__") (L2.defArgs (inClass (top 75) 5)) (FuncBody.stmts (L2.defBody (inClass (top 75) 5))) (L2.defScope (inClass (top 75) 5)) 3 [] Value.none Value.none Value.none (Value.str (Str.ofString "turnedtunes.ties") 1107) none (Value.ref 643) Value.none 0)) (List.toArray []))),
  (645, (Obj.mk (Value.type "tuple") none (Data.seq (List.toArray []) 0) (List.toArray []))),
  (646, (Obj.mk Value.none none (Data.fields (List.toArray [])) (List.toArray []))),
  (647, (Obj.mk (Value.type "tuple") none (Data.seq (List.toArray [(Value.str (Str.ofString "self") 1205), (Value.str (Str.ofString "other") 1206), (Value.str (Str.ofString "start") 1207), (Value.str (Str.ofString "end") 1208), (Value.str (Str.ofString "ahead") 1209)]) 0) (List.toArray []))),
  (648, (Obj.mk (Value.type "tuple") none (Data.seq (List.toArray []) 0) (List.toArray []))),
  (649, (Obj.mk Value.none none (Data.func (FuncData.mk (Str.ofString "__rshift__") (Str.ofString "Tie.__rshift__") (L2.defArgs (inClass (top 75) 6)) (FuncBody.stmts (L2.defBody (inClass (top 75) 6))) (L2.defScope (inClass (top 75) 6)) 0 [] Value.none Value.none Value.none Value.none none Value.none Value.none 0)) (List.toArray []))),
  (650, (Obj.mk (Value.type "code") none (Data.fields (List.toArray [(Value.str (Str.ofString "__rshift__") 1202), (Value.str (Str.ofString "Tie.__rshift__") 1203), (Value.str (Str.ofString "/claim/cut.py") 1204), (Value.int (380 : Int) 0), (Value.int (2 : Int) 0), (Value.int (0 : Int) 0), (Value.int (0 : Int) 0), (Value.int (3 : Int) 0), (Value.ref 645), (Value.bool Bool.true), (Value.int (316 : Int) 0), (Value.ref 646), Value.none, (Value.ref 647), (Value.ref 648), (Value.ref 649), (Value.int (1210 : Int) 0), (Value.int (380 : Int) 0), (Value.str (Str.ofString "/claim/cut.py") 1211)])) (List.toArray []))),
  (651, (Obj.mk (Value.type "function") none (Data.func (FuncData.mk (Str.ofString "__rshift__") (Str.ofString "Tie.__rshift__") (L2.defArgs (inClass (top 75) 6)) (FuncBody.stmts (L2.defBody (inClass (top 75) 6))) (L2.defScope (inClass (top 75) 6)) 3 [] Value.none Value.none Value.none (Value.str (Str.ofString "turnedtunes.ties") 1107) none (Value.ref 650) Value.none 0)) (List.toArray []))),
  (652, (Obj.mk (Value.type "tuple") none (Data.seq (List.toArray []) 0) (List.toArray []))),
  (653, (Obj.mk Value.none none (Data.fields (List.toArray [])) (List.toArray []))),
  (654, (Obj.mk (Value.type "tuple") none (Data.seq (List.toArray [(Value.str (Str.ofString "self") 1216), (Value.str (Str.ofString "other") 1217)]) 0) (List.toArray []))),
  (655, (Obj.mk (Value.type "tuple") none (Data.seq (List.toArray []) 0) (List.toArray []))),
  (656, (Obj.mk Value.none none (Data.func (FuncData.mk (Str.ofString "__mul__") (Str.ofString "Tie.__mul__") (L2.defArgs (inClass (top 75) 7)) (FuncBody.stmts (L2.defBody (inClass (top 75) 7))) (L2.defScope (inClass (top 75) 7)) 0 [] Value.none Value.none Value.none Value.none none Value.none Value.none 0)) (List.toArray []))),
  (657, (Obj.mk (Value.type "code") none (Data.fields (List.toArray [(Value.str (Str.ofString "__mul__") 1213), (Value.str (Str.ofString "Tie.__mul__") 1214), (Value.str (Str.ofString "/claim/cut.py") 1215), (Value.int (390 : Int) 0), (Value.int (2 : Int) 0), (Value.int (0 : Int) 0), (Value.int (0 : Int) 0), (Value.int (3 : Int) 0), (Value.ref 652), (Value.bool Bool.true), (Value.int (316 : Int) 0), (Value.ref 653), Value.none, (Value.ref 654), (Value.ref 655), (Value.ref 656), (Value.int (1218 : Int) 0), (Value.int (390 : Int) 0), (Value.str (Str.ofString "/claim/cut.py") 1219)])) (List.toArray []))),
  (658, (Obj.mk (Value.type "function") none (Data.func (FuncData.mk (Str.ofString "__mul__") (Str.ofString "Tie.__mul__") (L2.defArgs (inClass (top 75) 7)) (FuncBody.stmts (L2.defBody (inClass (top 75) 7))) (L2.defScope (inClass (top 75) 7)) 3 [] Value.none Value.none Value.none (Value.str (Str.ofString "turnedtunes.ties") 1107) none (Value.ref 657) Value.none 0)) (List.toArray []))),
  (659, (Obj.mk (Value.type "tuple") none (Data.seq (List.toArray []) 0) (List.toArray []))),
  (660, (Obj.mk Value.none none (Data.fields (List.toArray [])) (List.toArray []))),
  (661, (Obj.mk (Value.type "tuple") none (Data.seq (List.toArray [(Value.str (Str.ofString "self") 1224), (Value.str (Str.ofString "other") 1225)]) 0) (List.toArray []))),
  (662, (Obj.mk (Value.type "tuple") none (Data.seq (List.toArray []) 0) (List.toArray []))),
  (663, (Obj.mk Value.none none (Data.func (FuncData.mk (Str.ofString "__eq__") (Str.ofString "Tie.__eq__") (L2.defArgs (inClass (top 75) 8)) (FuncBody.stmts (L2.defBody (inClass (top 75) 8))) (L2.defScope (inClass (top 75) 8)) 0 [] Value.none Value.none Value.none Value.none none Value.none Value.none 0)) (List.toArray []))),
  (664, (Obj.mk (Value.type "code") none (Data.fields (List.toArray [(Value.str (Str.ofString "__eq__") 1221), (Value.str (Str.ofString "Tie.__eq__") 1222), (Value.str (Str.ofString "/claim/cut.py") 1223), (Value.int (399 : Int) 0), (Value.int (2 : Int) 0), (Value.int (0 : Int) 0), (Value.int (0 : Int) 0), (Value.int (3 : Int) 0), (Value.ref 659), (Value.bool Bool.true), (Value.int (316 : Int) 0), (Value.ref 660), Value.none, (Value.ref 661), (Value.ref 662), (Value.ref 663), (Value.int (1226 : Int) 0), (Value.int (399 : Int) 0), (Value.str (Str.ofString "/claim/cut.py") 1227)])) (List.toArray []))),
  (665, (Obj.mk (Value.type "function") none (Data.func (FuncData.mk (Str.ofString "__eq__") (Str.ofString "Tie.__eq__") (L2.defArgs (inClass (top 75) 8)) (FuncBody.stmts (L2.defBody (inClass (top 75) 8))) (L2.defScope (inClass (top 75) 8)) 3 [] Value.none Value.none Value.none (Value.str (Str.ofString "turnedtunes.ties") 1107) none (Value.ref 664) Value.none 0)) (List.toArray []))),
  (666, (Obj.mk (Value.type "tuple") none (Data.seq (List.toArray [(Value.str (Str.ofString "amount") 1229), (Value.str (Str.ofString "backward") 1230), (Value.str (Str.ofString "down") 1231), (Value.str (Str.ofString "first") 1232), (Value.str (Str.ofString "length") 1233), (Value.str (Str.ofString "second") 1234), (Value.str (Str.ofString "text") 1235)]) 0) (List.toArray []))),
  (667, (Obj.mk (Value.type "dict") none (Data.dict (List.toArray [(DictEntry.mk (PyData.keyHash P (Str.ofString "__module__")) (Value.str (Str.ofString "__module__") 1116) (Value.str (Str.ofString "turnedtunes.ties") 1107)), (DictEntry.mk (PyData.keyHash P (Str.ofString "__firstlineno__")) (Value.str (Str.ofString "__firstlineno__") 1120) (Value.int (329 : Int) 1119)), (DictEntry.mk (PyData.keyHash P (Str.ofString "__init__")) (Value.str (Str.ofString "__init__") 1138) (Value.ref 606)), (DictEntry.mk (PyData.keyHash P (Str.ofString "of")) (Value.str (Str.ofString "of") 1165) (Value.ref 615)), (DictEntry.mk (PyData.keyHash P (Str.ofString "__call__")) (Value.str (Str.ofString "__call__") 1174) (Value.ref 623)), (DictEntry.mk (PyData.keyHash P (Str.ofString "led")) (Value.str (Str.ofString "led") 1182) (Value.ref 630)), (DictEntry.mk (PyData.keyHash P (Str.ofString "part")) (Value.str (Str.ofString "part") 1193) (Value.ref 637)), (DictEntry.mk (PyData.keyHash P (Str.ofString "__invert__")) (Value.str (Str.ofString "__invert__") 1201) (Value.ref 644)), (DictEntry.mk (PyData.keyHash P (Str.ofString "__rshift__")) (Value.str (Str.ofString "__rshift__") 1212) (Value.ref 651)), (DictEntry.mk (PyData.keyHash P (Str.ofString "__mul__")) (Value.str (Str.ofString "__mul__") 1220) (Value.ref 658)), (DictEntry.mk (PyData.keyHash P (Str.ofString "__eq__")) (Value.str (Str.ofString "__eq__") 1228) (Value.ref 665)), (DictEntry.mk (PyData.keyHash P (Str.ofString "__static_attributes__")) (Value.str (Str.ofString "__static_attributes__") 1236) (Value.ref 666)), (DictEntry.mk (PyData.keyHash P (Str.ofString "__dict__")) (Value.str (Str.ofString "__dict__") 1238) (Value.ref 669)), (DictEntry.mk (PyData.keyHash P (Str.ofString "__weakref__")) (Value.str (Str.ofString "__weakref__") 1240) (Value.ref 670)), (DictEntry.mk (PyData.keyHash P (Str.ofString "__doc__")) (Value.str (Str.ofString "__doc__") 1241) Value.none), (DictEntry.mk (PyData.keyHash P (Str.ofString "__hash__")) (Value.str (Str.ofString "__hash__") 1242) Value.none)]) 5) (List.toArray []))),
  (668, (Obj.mk (Value.type "type") none (Data.cls (ClassData.mk (Str.ofString "Tie") [(Value.type "object")] [(Value.ref 668), (Value.type "object")] 667 (Str.ofString "Tie") Bool.true [] [] Bool.false none Bool.false)) (List.toArray [none, none, (some (Value.str (Str.ofString "Tie") 1109)), (some (Value.str (Str.ofString "Tie") 1117)), (some (Value.builtin "object.__new__")), (some (Value.bool Bool.true))]))),
  (669, (Obj.mk (Value.type "getset_descriptor") none (Data.fields (List.toArray [(Value.str (Str.ofString "__dict__") 1237), (Value.ref 668), (Value.builtin "function.__dict__"), (Value.builtin "function.__dict__#set")])) (List.toArray []))),
  (670, (Obj.mk (Value.type "getset_descriptor") none (Data.fields (List.toArray [(Value.str (Str.ofString "__weakref__") 1239), (Value.ref 668), (Value.builtin "ExceptionGroup.__weakref__"), Value.none])) (List.toArray []))),
  (671, (Obj.mk (Value.type "super") none (Data.fields (List.toArray [(Value.ref 668), (Value.ref 668), (Value.ref 668)])) (List.toArray []))),
  (672, (Obj.mk (Value.type "builtin_function_or_method") none (Data.fields (List.toArray [(Value.builtin "object.__init_subclass__"), (Value.ref 668)])) (List.toArray [])))] (hRt14 P)
noncomputable def hRS15 (w : World) : SharedT := ⟨hRt15 w.params, 673, (Life.mk [] [] [] 0 [] [] Bool.false (List.toArray []) [] 0 Bool.false Bool.false Bool.false (0 : Int) [(2000 : Int), (10 : Int), (10 : Int)] Bool.false 0 Bool.true [] [] 0 Bool.false), (List.toArray []), (Drawn.mk 0 0 0 0), 1245, (start (opening Challenge.pw_turnedtunes_k39_pieces_refused)).1.os⟩
noncomputable def hRb14 : List Stmt := ((behindTheImports Challenge.pw_turnedtunes_k39_pieces_refused).drop 74).take 1
theorem hRg14 (w : World) : segF (stepQ (denQ tabQ) Challenge.pw_turnedtunes_k39_pieces_refused w) 39 (some (Value.ref 6)) 655 (hRS14 w) (piecesOf hRb14 hRenv hRcd (Pos.mk 328 0 328 8) [topFrame (Pos.mk 0 0 0 0)]) = some (.next, hRS15 w, hRcd, (Pos.mk 329 0 400 237)) := by kernel_rfl
noncomputable def hRt16 (P : Params) : BT := putT [(3, (Obj.mk (Value.type "dict") none (Data.dict (List.toArray [(DictEntry.mk (PyData.keyHash P (Str.ofString "__name__")) (Value.str (Str.ofString "__name__") 165) (Value.str (Str.ofString "law_turnedtunes_k39_pieces_refused") 1312)), (DictEntry.mk (PyData.keyHash P (Str.ofString "__doc__")) (Value.str (Str.ofString "__doc__") 166) Value.none), (DictEntry.mk (PyData.keyHash P (Str.ofString "__package__")) (Value.str (Str.ofString "__package__") 167) Value.none), (DictEntry.mk (PyData.keyHash P (Str.ofString "__loader__")) (Value.str (Str.ofString "__loader__") 168) (Value.builtin "__main__.__loader__#opaque")), (DictEntry.mk (PyData.keyHash P (Str.ofString "__spec__")) (Value.str (Str.ofString "__spec__") 169) Value.none), (DictEntry.mk (PyData.keyHash P (Str.ofString "__annotations__")) (Value.str (Str.ofString "__annotations__") 170) (Value.ref 6)), (DictEntry.mk (PyData.keyHash P (Str.ofString "__builtins__")) (Value.str (Str.ofString "__builtins__") 171) (Value.ref 4)), (DictEntry.mk (PyData.keyHash P (Str.ofString "__file__")) (Value.str (Str.ofString "__file__") 173) (Value.str (Str.ofString "/claim/cut.py") 172)), (DictEntry.mk (PyData.keyHash P (Str.ofString "__cached__")) (Value.str (Str.ofString "__cached__") 174) Value.none), (DictEntry.mk (PyData.keyHash P (Str.ofString "heappop")) (Value.str (Str.ofString "heappop") 312) (Value.builtin "_heapq.heappop")), (DictEntry.mk (PyData.keyHash P (Str.ofString "heappush")) (Value.str (Str.ofString "heappush") 315) (Value.builtin "_heapq.heappush")), (DictEntry.mk (PyData.keyHash P (Str.ofString "_wall")) (Value.str (Str.ofString "_wall") 328) (Value.ref 49)), (DictEntry.mk (PyData.keyHash P (Str.ofString "TuneError")) (Value.str (Str.ofString "TuneError") 357) (Value.ref 66)), (DictEntry.mk (PyData.keyHash P (Str.ofString "BadPlace")) (Value.str (Str.ofString "BadPlace") 373) (Value.ref 79)), (DictEntry.mk (PyData.keyHash P (Str.ofString "BadLength")) (Value.str (Str.ofString "BadLength") 389) (Value.ref 91)), (DictEntry.mk (PyData.keyHash P (Str.ofString "BadAmount")) (Value.str (Str.ofString "BadAmount") 405) (Value.ref 103)), (DictEntry.mk (PyData.keyHash P (Str.ofString "BadWay")) (Value.str (Str.ofString "BadWay") 421) (Value.ref 115)), (DictEntry.mk (PyData.keyHash P (Str.ofString "BadText")) (Value.str (Str.ofString "BadText") 437) (Value.ref 127)), (DictEntry.mk (PyData.keyHash P (Str.ofString "NoPlace")) (Value.str (Str.ofString "NoPlace") 453) (Value.ref 139)), (DictEntry.mk (PyData.keyHash P (Str.ofString "BadNote")) (Value.str (Str.ofString "BadNote") 469) (Value.ref 151)), (DictEntry.mk (PyData.keyHash P (Str.ofString "BadPart")) (Value.str (Str.ofString "BadPart") 485) (Value.ref 163)), (DictEntry.mk (PyData.keyHash P (Str.ofString "NoJoint")) (Value.str (Str.ofString "NoJoint") 501) (Value.ref 175)), (DictEntry.mk (PyData.keyHash P (Str.ofString "BadNumber")) (Value.str (Str.ofString "BadNumber") 517) (Value.ref 187)), (DictEntry.mk (PyData.keyHash P (Str.ofString "BadPieces")) (Value.str (Str.ofString "BadPieces") 533) (Value.ref 199)), (DictEntry.mk (PyData.keyHash P (Str.ofString "GREATEST")) (Value.str (Str.ofString "GREATEST") 539) (Value.int (1000000000000000000000000000000 : Int) 538)), (DictEntry.mk (PyData.keyHash P (Str.ofString "_DIGITS")) (Value.str (Str.ofString "_DIGITS") 541) (Value.int (64 : Int) 540)), (DictEntry.mk (PyData.keyHash P (Str.ofString "_CHUNK")) (Value.str (Str.ofString "_CHUNK") 545) (Value.int (10000000000000000000000000000000000000000000000000000000000000000 : Int) 544)), (DictEntry.mk (PyData.keyHash P (Str.ofString "is_whole")) (Value.str (Str.ofString "is_whole") 552) (Value.ref 208)), (DictEntry.mk (PyData.keyHash P (Str.ofString "is_from")) (Value.str (Str.ofString "is_from") 560) (Value.ref 215)), (DictEntry.mk (PyData.keyHash P (Str.ofString "is_between")) (Value.str (Str.ofString "is_between") 569) (Value.ref 222)), (DictEntry.mk (PyData.keyHash P (Str.ofString "written")) (Value.str (Str.ofString "written") 578) (Value.ref 229)), (DictEntry.mk (PyData.keyHash P (Str.ofString "number_in")) (Value.str (Str.ofString "number_in") 587) (Value.ref 236)), (DictEntry.mk (PyData.keyHash P (Str.ofString "_number_of")) (Value.str (Str.ofString "_number_of") 597) (Value.ref 243)), (DictEntry.mk (PyData.keyHash P (Str.ofString "STILL")) (Value.str (Str.ofString "STILL") 601) (Value.ref 244)), (DictEntry.mk (PyData.keyHash P (Str.ofString "led_by")) (Value.str (Str.ofString "led_by") 611) (Value.ref 251)), (DictEntry.mk (PyData.keyHash P (Str.ofString "led_on")) (Value.str (Str.ofString "led_on") 619) (Value.ref 258)), (DictEntry.mk (PyData.keyHash P (Str.ofString "led_back")) (Value.str (Str.ofString "led_back") 628) (Value.ref 265)), (DictEntry.mk (PyData.keyHash P (Str.ofString "led_often")) (Value.str (Str.ofString "led_often") 638) (Value.ref 272)), (DictEntry.mk (PyData.keyHash P (Str.ofString "word_of")) (Value.str (Str.ofString "word_of") 645) (Value.ref 279)), (DictEntry.mk (PyData.keyHash P (Str.ofString "Step")) (Value.str (Str.ofString "Step") 677) (Value.ref 294)), (DictEntry.mk (PyData.keyHash P (Str.ofString "step_given")) (Value.str (Str.ofString "step_given") 683) (Value.ref 305)), (DictEntry.mk (PyData.keyHash P (Str.ofString "step_back")) (Value.str (Str.ofString "step_back") 690) (Value.ref 312)), (DictEntry.mk (PyData.keyHash P (Str.ofString "step_joined")) (Value.str (Str.ofString "step_joined") 698) (Value.ref 319)), (DictEntry.mk (PyData.keyHash P (Str.ofString "step_times")) (Value.str (Str.ofString "step_times") 706) (Value.ref 326)), (DictEntry.mk (PyData.keyHash P (Str.ofString "step_part")) (Value.str (Str.ofString "step_part") 715) (Value.ref 333)), (DictEntry.mk (PyData.keyHash P (Str.ofString "Link")) (Value.str (Str.ofString "Link") 757) (Value.ref 350)), (DictEntry.mk (PyData.keyHash P (Str.ofString "is_telling")) (Value.str (Str.ofString "is_telling") 764) (Value.ref 361)), (DictEntry.mk (PyData.keyHash P (Str.ofString "part_of_link")) (Value.str (Str.ofString "part_of_link") 775) (Value.ref 368)), (DictEntry.mk (PyData.keyHash P (Str.ofString "settled")) (Value.str (Str.ofString "settled") 782) (Value.ref 375)), (DictEntry.mk (PyData.keyHash P (Str.ofString "_turned")) (Value.str (Str.ofString "_turned") 789) (Value.ref 382)), (DictEntry.mk (PyData.keyHash P (Str.ofString "_settled_straight")) (Value.str (Str.ofString "_settled_straight") 798) (Value.ref 389)), (DictEntry.mk (PyData.keyHash P (Str.ofString "_settled_backward")) (Value.str (Str.ofString "_settled_backward") 810) (Value.ref 396)), (DictEntry.mk (PyData.keyHash P (Str.ofString "shortened")) (Value.str (Str.ofString "shortened") 819) (Value.ref 403)), (DictEntry.mk (PyData.keyHash P (Str.ofString "pulled")) (Value.str (Str.ofString "pulled") 829) (Value.ref 410)), (DictEntry.mk (PyData.keyHash P (Str.ofString "_pulled_away")) (Value.str (Str.ofString "_pulled_away") 843) (Value.ref 417)), (DictEntry.mk (PyData.keyHash P (Str.ofString "_source")) (Value.str (Str.ofString "_source") 853) (Value.ref 499)), (DictEntry.mk (PyData.keyHash P (Str.ofString "source_links")) (Value.str (Str.ofString "source_links") 854) (Value.ref 424)), (DictEntry.mk (PyData.keyHash P (Str.ofString "cuts_of")) (Value.str (Str.ofString "cuts_of") 876) (Value.ref 431)), (DictEntry.mk (PyData.keyHash P (Str.ofString "_greatest_end")) (Value.str (Str.ofString "_greatest_end") 883) (Value.ref 438)), (DictEntry.mk (PyData.keyHash P (Str.ofString "free_in")) (Value.str (Str.ofString "free_in") 889) (Value.ref 443)), (DictEntry.mk (PyData.keyHash P (Str.ofString "free_by")) (Value.str (Str.ofString "free_by") 899) (Value.ref 450)), (DictEntry.mk (PyData.keyHash P (Str.ofString "length_of")) (Value.str (Str.ofString "length_of") 908) (Value.ref 457)), (DictEntry.mk (PyData.keyHash P (Str.ofString "starts_of")) (Value.str (Str.ofString "starts_of") 917) (Value.ref 464)), (DictEntry.mk (PyData.keyHash P (Str.ofString "new_ahead")) (Value.str (Str.ofString "new_ahead") 926) (Value.ref 471)), (DictEntry.mk (PyData.keyHash P (Str.ofString "new_stretches")) (Value.str (Str.ofString "new_stretches") 938) (Value.ref 478)), (DictEntry.mk (PyData.keyHash P (Str.ofString "index_at")) (Value.str (Str.ofString "index_at") 949) (Value.ref 485)), (DictEntry.mk (PyData.keyHash P (Str.ofString "read")) (Value.str (Str.ofString "read") 962) (Value.ref 492)), (DictEntry.mk (PyData.keyHash P (Str.ofString "source_pieces")) (Value.str (Str.ofString "source_pieces") 974) (Value.ref 499)), (DictEntry.mk (PyData.keyHash P (Str.ofString "links_of_pieces")) (Value.str (Str.ofString "links_of_pieces") 985) (Value.ref 506)), (DictEntry.mk (PyData.keyHash P (Str.ofString "holds")) (Value.str (Str.ofString "holds") 993) (Value.ref 513)), (DictEntry.mk (PyData.keyHash P (Str.ofString "Melody")) (Value.str (Str.ofString "Melody") 1067) (Value.ref 558)), (DictEntry.mk (PyData.keyHash P (Str.ofString "_same_places")) (Value.str (Str.ofString "_same_places") 1075) (Value.ref 569)), (DictEntry.mk (PyData.keyHash P (Str.ofString "_are_pieces")) (Value.str (Str.ofString "_are_pieces") 1084) (Value.ref 576)), (DictEntry.mk (PyData.keyHash P (Str.ofString "_is_piece")) (Value.str (Str.ofString "_is_piece") 1092) (Value.ref 583)), (DictEntry.mk (PyData.keyHash P (Str.ofString "_is_copy")) (Value.str (Str.ofString "_is_copy") 1106) (Value.ref 590)), (DictEntry.mk (PyData.keyHash P (Str.ofString "Tie")) (Value.str (Str.ofString "Tie") 1244) (Value.ref 668)), (DictEntry.mk (PyData.keyHash P (Str.ofString "_check_parts")) (Value.str (Str.ofString "_check_parts") 1253) (Value.ref 679)), (DictEntry.mk (PyData.keyHash P (Str.ofString "_check_leading")) (Value.str (Str.ofString "_check_leading") 1262) (Value.ref 686)), (DictEntry.mk (PyData.keyHash P (Str.ofString "_values_in")) (Value.str (Str.ofString "_values_in") 1268) (Value.ref 691)), (DictEntry.mk (PyData.keyHash P (Str.ofString "_one_behind_other")) (Value.str (Str.ofString "_one_behind_other") 1277) (Value.ref 698)), (DictEntry.mk (PyData.keyHash P (Str.ofString "_straight_times")) (Value.str (Str.ofString "_straight_times") 1288) (Value.ref 705)), (DictEntry.mk (PyData.keyHash P (Str.ofString "_backward_times")) (Value.str (Str.ofString "_backward_times") 1298) (Value.ref 712)), (DictEntry.mk (PyData.keyHash P (Str.ofString "_times")) (Value.str (Str.ofString "_times") 1311) (Value.ref 719)), (DictEntry.mk (PyData.keyHash P (Str.ofString "_law_pot")) (Value.str (Str.ofString "_law_pot") 1324) (Value.ref 726)), (DictEntry.mk (PyData.keyHash P (Str.ofString "_law_take")) (Value.str (Str.ofString "_law_take") 1335) (Value.ref 733)), (DictEntry.mk (PyData.keyHash P (Str.ofString "_law_of")) (Value.str (Str.ofString "_law_of") 1343) (Value.ref 740)), (DictEntry.mk (PyData.keyHash P (Str.ofString "_law_pots")) (Value.str (Str.ofString "_law_pots") 1349) (Value.ref 745)), (DictEntry.mk (PyData.keyHash P (Str.ofString "_law_told")) (Value.str (Str.ofString "_law_told") 1359) (Value.ref 752)), (DictEntry.mk (PyData.keyHash P (Str.ofString "_law_is_int")) (Value.str (Str.ofString "_law_is_int") 1368) (Value.ref 759)), (DictEntry.mk (PyData.keyHash P (Str.ofString "_law_odd")) (Value.str (Str.ofString "_law_odd") 1376) (Value.ref 766)), (DictEntry.mk (PyData.keyHash P (Str.ofString "_law_amount")) (Value.str (Str.ofString "_law_amount") 1383) (Value.ref 773))]) 91) (List.toArray []))),
  (40, (Obj.mk Value.none none (Data.fields (List.toArray [(Value.int (2 : Int) 0), (Value.int (0 : Int) 0), (Value.ref 48), (Value.int (6 : Int) 0), (Value.int (0 : Int) 0), (Value.ref 55), (Value.int (11 : Int) 0), (Value.int (0 : Int) 0), (Value.ref 75), (Value.int (13 : Int) 0), (Value.int (0 : Int) 0), (Value.ref 87), (Value.int (15 : Int) 0), (Value.int (0 : Int) 0), (Value.ref 99), (Value.int (17 : Int) 0), (Value.int (0 : Int) 0), (Value.ref 111), (Value.int (19 : Int) 0), (Value.int (0 : Int) 0), (Value.ref 123), (Value.int (21 : Int) 0), (Value.int (0 : Int) 0), (Value.ref 135), (Value.int (23 : Int) 0), (Value.int (0 : Int) 0), (Value.ref 147), (Value.int (25 : Int) 0), (Value.int (0 : Int) 0), (Value.ref 159), (Value.int (27 : Int) 0), (Value.int (0 : Int) 0), (Value.ref 171), (Value.int (29 : Int) 0), (Value.int (0 : Int) 0), (Value.ref 183), (Value.int (31 : Int) 0), (Value.int (0 : Int) 0), (Value.ref 195), (Value.int (37 : Int) 0), (Value.int (0 : Int) 0), (Value.ref 207), (Value.int (39 : Int) 0), (Value.int (0 : Int) 0), (Value.ref 214), (Value.int (41 : Int) 0), (Value.int (0 : Int) 0), (Value.ref 221), (Value.int (43 : Int) 0), (Value.int (0 : Int) 0), (Value.ref 228), (Value.int (53 : Int) 0), (Value.int (0 : Int) 0), (Value.ref 235), (Value.int (61 : Int) 0), (Value.int (0 : Int) 0), (Value.ref 242), (Value.int (69 : Int) 0), (Value.int (0 : Int) 0), (Value.ref 250), (Value.int (72 : Int) 0), (Value.int (0 : Int) 0), (Value.ref 257), (Value.int (74 : Int) 0), (Value.int (0 : Int) 0), (Value.ref 264), (Value.int (77 : Int) 0), (Value.int (0 : Int) 0), (Value.ref 271), (Value.int (82 : Int) 0), (Value.int (0 : Int) 0), (Value.ref 278), (Value.int (85 : Int) 0), (Value.int (0 : Int) 0), (Value.ref 285), (Value.int (92 : Int) 0), (Value.int (0 : Int) 0), (Value.ref 304), (Value.int (94 : Int) 0), (Value.int (0 : Int) 0), (Value.ref 311), (Value.int (96 : Int) 0), (Value.int (0 : Int) 0), (Value.ref 318), (Value.int (98 : Int) 0), (Value.int (0 : Int) 0), (Value.ref 325), (Value.int (100 : Int) 0), (Value.int (0 : Int) 0), (Value.ref 332), (Value.int (103 : Int) 0), (Value.int (0 : Int) 0), (Value.ref 339), (Value.int (113 : Int) 0), (Value.int (0 : Int) 0), (Value.ref 360), (Value.int (115 : Int) 0), (Value.int (0 : Int) 0), (Value.ref 367), (Value.int (119 : Int) 0), (Value.int (0 : Int) 0), (Value.ref 374), (Value.int (125 : Int) 0), (Value.int (0 : Int) 0), (Value.ref 381), (Value.int (127 : Int) 0), (Value.int (0 : Int) 0), (Value.ref 388), (Value.int (132 : Int) 0), (Value.int (0 : Int) 0), (Value.ref 395), (Value.int (142 : Int) 0), (Value.int (0 : Int) 0), (Value.ref 402), (Value.int (145 : Int) 0), (Value.int (0 : Int) 0), (Value.ref 409), (Value.int (154 : Int) 0), (Value.int (0 : Int) 0), (Value.ref 416), (Value.int (163 : Int) 0), (Value.int (0 : Int) 0), (Value.ref 423), (Value.int (171 : Int) 0), (Value.int (0 : Int) 0), (Value.ref 430), (Value.int (203 : Int) 0), (Value.int (0 : Int) 0), (Value.ref 437), (Value.int (205 : Int) 0), (Value.int (0 : Int) 0), (Value.ref 442), (Value.int (207 : Int) 0), (Value.int (0 : Int) 0), (Value.ref 449), (Value.int (211 : Int) 0), (Value.int (0 : Int) 0), (Value.ref 456), (Value.int (213 : Int) 0), (Value.int (0 : Int) 0), (Value.ref 463), (Value.int (218 : Int) 0), (Value.int (0 : Int) 0), (Value.ref 470), (Value.int (223 : Int) 0), (Value.int (0 : Int) 0), (Value.ref 477), (Value.int (234 : Int) 0), (Value.int (0 : Int) 0), (Value.ref 484), (Value.int (243 : Int) 0), (Value.int (0 : Int) 0), (Value.ref 491), (Value.int (254 : Int) 0), (Value.int (0 : Int) 0), (Value.ref 498), (Value.int (261 : Int) 0), (Value.int (0 : Int) 0), (Value.ref 505), (Value.int (270 : Int) 0), (Value.int (0 : Int) 0), (Value.ref 512), (Value.int (273 : Int) 0), (Value.int (0 : Int) 0), (Value.ref 519), (Value.int (302 : Int) 0), (Value.int (0 : Int) 0), (Value.ref 568), (Value.int (304 : Int) 0), (Value.int (0 : Int) 0), (Value.ref 575), (Value.int (313 : Int) 0), (Value.int (0 : Int) 0), (Value.ref 582), (Value.int (321 : Int) 0), (Value.int (0 : Int) 0), (Value.ref 589), (Value.int (329 : Int) 0), (Value.int (0 : Int) 0), (Value.ref 596), (Value.int (401 : Int) 0), (Value.int (0 : Int) 0), (Value.ref 678), (Value.int (408 : Int) 0), (Value.int (0 : Int) 0), (Value.ref 685), (Value.int (415 : Int) 0), (Value.int (0 : Int) 0), (Value.ref 690), (Value.int (426 : Int) 0), (Value.int (0 : Int) 0), (Value.ref 697), (Value.int (429 : Int) 0), (Value.int (0 : Int) 0), (Value.ref 704), (Value.int (434 : Int) 0), (Value.int (0 : Int) 0), (Value.ref 711), (Value.int (438 : Int) 0), (Value.int (0 : Int) 0), (Value.ref 718), (Value.int (445 : Int) 0), (Value.int (0 : Int) 0), (Value.ref 725), (Value.int (450 : Int) 0), (Value.int (0 : Int) 0), (Value.ref 732), (Value.int (460 : Int) 0), (Value.int (0 : Int) 0), (Value.ref 739), (Value.int (462 : Int) 0), (Value.int (0 : Int) 0), (Value.ref 744), (Value.int (464 : Int) 0), (Value.int (0 : Int) 0), (Value.ref 751), (Value.int (471 : Int) 0), (Value.int (0 : Int) 0), (Value.ref 758), (Value.int (473 : Int) 0), (Value.int (0 : Int) 0), (Value.ref 765), (Value.int (476 : Int) 0), (Value.int (0 : Int) 0), (Value.ref 772)])) (List.toArray []))),
  (673, (Obj.mk (Value.type "tuple") none (Data.seq (List.toArray []) 0) (List.toArray []))),
  (674, (Obj.mk Value.none none (Data.fields (List.toArray [])) (List.toArray []))),
  (675, (Obj.mk (Value.type "tuple") none (Data.seq (List.toArray [(Value.str (Str.ofString "first") 1248), (Value.str (Str.ofString "second") 1249), (Value.str (Str.ofString "length") 1250)]) 0) (List.toArray []))),
  (676, (Obj.mk (Value.type "tuple") none (Data.seq (List.toArray []) 0) (List.toArray []))),
  (677, (Obj.mk Value.none none (Data.func (FuncData.mk (Str.ofString "_check_parts") (Str.ofString "_check_parts") (L2.defArgs (top 76)) (FuncBody.stmts (L2.defBody (top 76))) (L2.defScope (top 76)) 0 [] Value.none Value.none Value.none Value.none none Value.none Value.none 0)) (List.toArray []))),
  (678, (Obj.mk (Value.type "code") none (Data.fields (List.toArray [(Value.str (Str.ofString "_check_parts") 1245), (Value.str (Str.ofString "_check_parts") 1246), (Value.str (Str.ofString "/claim/cut.py") 1247), (Value.int (401 : Int) 0), (Value.int (3 : Int) 0), (Value.int (0 : Int) 0), (Value.int (0 : Int) 0), (Value.int (3 : Int) 0), (Value.ref 673), (Value.bool Bool.true), (Value.int (316 : Int) 0), (Value.ref 674), Value.none, (Value.ref 675), (Value.ref 676), (Value.ref 677), (Value.int (1251 : Int) 0), (Value.int (401 : Int) 0), (Value.str (Str.ofString "/claim/cut.py") 1252)])) (List.toArray []))),
  (679, (Obj.mk (Value.type "function") none (Data.func (FuncData.mk (Str.ofString "_check_parts") (Str.ofString "_check_parts") (L2.defArgs (top 76)) (FuncBody.stmts (L2.defBody (top 76))) (L2.defScope (top 76)) 3 [] Value.none Value.none Value.none (Value.str (Str.ofString "turnedtunes.ties") 1107) none (Value.ref 678) Value.none 0)) (List.toArray []))),
  (680, (Obj.mk (Value.type "tuple") none (Data.seq (List.toArray []) 0) (List.toArray []))),
  (681, (Obj.mk Value.none none (Data.fields (List.toArray [])) (List.toArray []))),
  (682, (Obj.mk (Value.type "tuple") none (Data.seq (List.toArray [(Value.str (Str.ofString "amount") 1257), (Value.str (Str.ofString "down") 1258), (Value.str (Str.ofString "backward") 1259)]) 0) (List.toArray []))),
  (683, (Obj.mk (Value.type "tuple") none (Data.seq (List.toArray []) 0) (List.toArray []))),
  (684, (Obj.mk Value.none none (Data.func (FuncData.mk (Str.ofString "_check_leading") (Str.ofString "_check_leading") (L2.defArgs (top 77)) (FuncBody.stmts (L2.defBody (top 77))) (L2.defScope (top 77)) 0 [] Value.none Value.none Value.none Value.none none Value.none Value.none 0)) (List.toArray []))),
  (685, (Obj.mk (Value.type "code") none (Data.fields (List.toArray [(Value.str (Str.ofString "_check_leading") 1254), (Value.str (Str.ofString "_check_leading") 1255), (Value.str (Str.ofString "/claim/cut.py") 1256), (Value.int (408 : Int) 0), (Value.int (3 : Int) 0), (Value.int (0 : Int) 0), (Value.int (0 : Int) 0), (Value.int (3 : Int) 0), (Value.ref 680), (Value.bool Bool.true), (Value.int (316 : Int) 0), (Value.ref 681), Value.none, (Value.ref 682), (Value.ref 683), (Value.ref 684), (Value.int (1260 : Int) 0), (Value.int (408 : Int) 0), (Value.str (Str.ofString "/claim/cut.py") 1261)])) (List.toArray []))),
  (686, (Obj.mk (Value.type "function") none (Data.func (FuncData.mk (Str.ofString "_check_leading") (Str.ofString "_check_leading") (L2.defArgs (top 77)) (FuncBody.stmts (L2.defBody (top 77))) (L2.defScope (top 77)) 3 [] Value.none Value.none Value.none (Value.str (Str.ofString "turnedtunes.ties") 1107) none (Value.ref 685) Value.none 0)) (List.toArray []))),
  (687, (Obj.mk (Value.type "tuple") none (Data.seq (List.toArray []) 0) (List.toArray []))),
  (688, (Obj.mk Value.none none (Data.fields (List.toArray [])) (List.toArray []))),
  (689, (Obj.mk Value.none none (Data.func (FuncData.mk (Str.ofString "_values_in") (Str.ofString "_values_in") (L2.defArgs (top 78)) (FuncBody.stmts (L2.defBody (top 78))) (L2.defScope (top 78)) 0 [] Value.none Value.none Value.none Value.none none Value.none Value.none 0)) (List.toArray []))),
  (690, (Obj.mk (Value.type "code") none (Data.fields (List.toArray [(Value.str (Str.ofString "_values_in") 1263), (Value.str (Str.ofString "_values_in") 1264), (Value.str (Str.ofString "/claim/cut.py") 1265), (Value.int (415 : Int) 0), (Value.int (1 : Int) 0), (Value.int (0 : Int) 0), (Value.int (0 : Int) 0), (Value.int (3 : Int) 0), (Value.ref 687), (Value.bool Bool.true), (Value.int (316 : Int) 0), (Value.ref 688), Value.none, Value.none, Value.none, (Value.ref 689), (Value.int (1266 : Int) 0), (Value.int (415 : Int) 0), (Value.str (Str.ofString "/claim/cut.py") 1267)])) (List.toArray []))),
  (691, (Obj.mk (Value.type "function") none (Data.func (FuncData.mk (Str.ofString "_values_in") (Str.ofString "_values_in") (L2.defArgs (top 78)) (FuncBody.stmts (L2.defBody (top 78))) (L2.defScope (top 78)) 3 [] Value.none Value.none Value.none (Value.str (Str.ofString "turnedtunes.ties") 1107) none (Value.ref 690) Value.none 0)) (List.toArray []))),
  (692, (Obj.mk (Value.type "tuple") none (Data.seq (List.toArray []) 0) (List.toArray []))),
  (693, (Obj.mk Value.none none (Data.fields (List.toArray [])) (List.toArray []))),
  (694, (Obj.mk (Value.type "tuple") none (Data.seq (List.toArray [(Value.str (Str.ofString "one") 1272), (Value.str (Str.ofString "other") 1273), (Value.str (Str.ofString "amount") 1274)]) 0) (List.toArray []))),
  (695, (Obj.mk (Value.type "tuple") none (Data.seq (List.toArray []) 0) (List.toArray []))),
  (696, (Obj.mk Value.none none (Data.func (FuncData.mk (Str.ofString "_one_behind_other") (Str.ofString "_one_behind_other") (L2.defArgs (top 79)) (FuncBody.stmts (L2.defBody (top 79))) (L2.defScope (top 79)) 0 [] Value.none Value.none Value.none Value.none none Value.none Value.none 0)) (List.toArray []))),
  (697, (Obj.mk (Value.type "code") none (Data.fields (List.toArray [(Value.str (Str.ofString "_one_behind_other") 1269), (Value.str (Str.ofString "_one_behind_other") 1270), (Value.str (Str.ofString "/claim/cut.py") 1271), (Value.int (426 : Int) 0), (Value.int (2 : Int) 0), (Value.int (0 : Int) 0), (Value.int (0 : Int) 0), (Value.int (3 : Int) 0), (Value.ref 692), (Value.bool Bool.true), (Value.int (316 : Int) 0), (Value.ref 693), Value.none, (Value.ref 694), (Value.ref 695), (Value.ref 696), (Value.int (1275 : Int) 0), (Value.int (426 : Int) 0), (Value.str (Str.ofString "/claim/cut.py") 1276)])) (List.toArray []))),
  (698, (Obj.mk (Value.type "function") none (Data.func (FuncData.mk (Str.ofString "_one_behind_other") (Str.ofString "_one_behind_other") (L2.defArgs (top 79)) (FuncBody.stmts (L2.defBody (top 79))) (L2.defScope (top 79)) 3 [] Value.none Value.none Value.none (Value.str (Str.ofString "turnedtunes.ties") 1107) none (Value.ref 697) Value.none 0)) (List.toArray []))),
  (699, (Obj.mk (Value.type "tuple") none (Data.seq (List.toArray []) 0) (List.toArray []))),
  (700, (Obj.mk Value.none none (Data.fields (List.toArray [])) (List.toArray []))),
  (701, (Obj.mk (Value.type "tuple") none (Data.seq (List.toArray [(Value.str (Str.ofString "tie") 1281), (Value.str (Str.ofString "many") 1282), (Value.str (Str.ofString "step") 1283), (Value.str (Str.ofString "length") 1284), (Value.str (Str.ofString "first") 1285)]) 0) (List.toArray []))),
  (702, (Obj.mk (Value.type "tuple") none (Data.seq (List.toArray []) 0) (List.toArray []))),
  (703, (Obj.mk Value.none none (Data.func (FuncData.mk (Str.ofString "_straight_times") (Str.ofString "_straight_times") (L2.defArgs (top 80)) (FuncBody.stmts (L2.defBody (top 80))) (L2.defScope (top 80)) 0 [] Value.none Value.none Value.none Value.none none Value.none Value.none 0)) (List.toArray []))),
  (704, (Obj.mk (Value.type "code") none (Data.fields (List.toArray [(Value.str (Str.ofString "_straight_times") 1278), (Value.str (Str.ofString "_straight_times") 1279), (Value.str (Str.ofString "/claim/cut.py") 1280), (Value.int (429 : Int) 0), (Value.int (2 : Int) 0), (Value.int (0 : Int) 0), (Value.int (0 : Int) 0), (Value.int (3 : Int) 0), (Value.ref 699), (Value.bool Bool.true), (Value.int (316 : Int) 0), (Value.ref 700), Value.none, (Value.ref 701), (Value.ref 702), (Value.ref 703), (Value.int (1286 : Int) 0), (Value.int (429 : Int) 0), (Value.str (Str.ofString "/claim/cut.py") 1287)])) (List.toArray []))),
  (705, (Obj.mk (Value.type "function") none (Data.func (FuncData.mk (Str.ofString "_straight_times") (Str.ofString "_straight_times") (L2.defArgs (top 80)) (FuncBody.stmts (L2.defBody (top 80))) (L2.defScope (top 80)) 3 [] Value.none Value.none Value.none (Value.str (Str.ofString "turnedtunes.ties") 1107) none (Value.ref 704) Value.none 0)) (List.toArray []))),
  (706, (Obj.mk (Value.type "tuple") none (Data.seq (List.toArray []) 0) (List.toArray []))),
  (707, (Obj.mk Value.none none (Data.fields (List.toArray [])) (List.toArray []))),
  (708, (Obj.mk (Value.type "tuple") none (Data.seq (List.toArray [(Value.str (Str.ofString "tie") 1292), (Value.str (Str.ofString "many") 1293), (Value.str (Str.ofString "first") 1294), (Value.str (Str.ofString "length") 1295)]) 0) (List.toArray []))),
  (709, (Obj.mk (Value.type "tuple") none (Data.seq (List.toArray []) 0) (List.toArray []))),
  (710, (Obj.mk Value.none none (Data.func (FuncData.mk (Str.ofString "_backward_times") (Str.ofString "_backward_times") (L2.defArgs (top 81)) (FuncBody.stmts (L2.defBody (top 81))) (L2.defScope (top 81)) 0 [] Value.none Value.none Value.none Value.none none Value.none Value.none 0)) (List.toArray []))),
  (711, (Obj.mk (Value.type "code") none (Data.fields (List.toArray [(Value.str (Str.ofString "_backward_times") 1289), (Value.str (Str.ofString "_backward_times") 1290), (Value.str (Str.ofString "/claim/cut.py") 1291), (Value.int (434 : Int) 0), (Value.int (2 : Int) 0), (Value.int (0 : Int) 0), (Value.int (0 : Int) 0), (Value.int (3 : Int) 0), (Value.ref 706), (Value.bool Bool.true), (Value.int (316 : Int) 0), (Value.ref 707), Value.none, (Value.ref 708), (Value.ref 709), (Value.ref 710), (Value.int (1296 : Int) 0), (Value.int (434 : Int) 0), (Value.str (Str.ofString "/claim/cut.py") 1297)])) (List.toArray []))),
  (712, (Obj.mk (Value.type "function") none (Data.func (FuncData.mk (Str.ofString "_backward_times") (Str.ofString "_backward_times") (L2.defArgs (top 81)) (FuncBody.stmts (L2.defBody (top 81))) (L2.defScope (top 81)) 3 [] Value.none Value.none Value.none (Value.str (Str.ofString "turnedtunes.ties") 1107) none (Value.ref 711) Value.none 0)) (List.toArray []))),
  (713, (Obj.mk (Value.type "tuple") none (Data.seq (List.toArray []) 0) (List.toArray []))),
  (714, (Obj.mk Value.none none (Data.fields (List.toArray [])) (List.toArray []))),
  (715, (Obj.mk (Value.type "tuple") none (Data.seq (List.toArray [(Value.str (Str.ofString "tie") 1302), (Value.str (Str.ofString "many") 1303), (Value.str (Str.ofString "first") 1304), (Value.str (Str.ofString "second") 1305), (Value.str (Str.ofString "length") 1306), (Value.str (Str.ofString "odd") 1307), (Value.str (Str.ofString "amount") 1308)]) 0) (List.toArray []))),
  (716, (Obj.mk (Value.type "tuple") none (Data.seq (List.toArray []) 0) (List.toArray []))),
  (717, (Obj.mk Value.none none (Data.func (FuncData.mk (Str.ofString "_times") (Str.ofString "_times") (L2.defArgs (top 82)) (FuncBody.stmts (L2.defBody (top 82))) (L2.defScope (top 82)) 0 [] Value.none Value.none Value.none Value.none none Value.none Value.none 0)) (List.toArray []))),
  (718, (Obj.mk (Value.type "code") none (Data.fields (List.toArray [(Value.str (Str.ofString "_times") 1299), (Value.str (Str.ofString "_times") 1300), (Value.str (Str.ofString "/claim/cut.py") 1301), (Value.int (438 : Int) 0), (Value.int (5 : Int) 0), (Value.int (0 : Int) 0), (Value.int (0 : Int) 0), (Value.int (3 : Int) 0), (Value.ref 713), (Value.bool Bool.true), (Value.int (316 : Int) 0), (Value.ref 714), Value.none, (Value.ref 715), (Value.ref 716), (Value.ref 717), (Value.int (1309 : Int) 0), (Value.int (438 : Int) 0), (Value.str (Str.ofString "/claim/cut.py") 1310)])) (List.toArray []))),
  (719, (Obj.mk (Value.type "function") none (Data.func (FuncData.mk (Str.ofString "_times") (Str.ofString "_times") (L2.defArgs (top 82)) (FuncBody.stmts (L2.defBody (top 82))) (L2.defScope (top 82)) 3 [] Value.none Value.none Value.none (Value.str (Str.ofString "turnedtunes.ties") 1107) none (Value.ref 718) Value.none 0)) (List.toArray []))),
  (720, (Obj.mk (Value.type "tuple") none (Data.seq (List.toArray []) 0) (List.toArray []))),
  (721, (Obj.mk Value.none none (Data.fields (List.toArray [])) (List.toArray []))),
  (722, (Obj.mk (Value.type "tuple") none (Data.seq (List.toArray [(Value.str (Str.ofString "_law_script") 1317), (Value.str (Str.ofString "_law_k") 1318), (Value.str (Str.ofString "_law_cell") 1319), (Value.str (Str.ofString "_law_own") 1320), (Value.str (Str.ofString "_law_small") 1321)]) 0) (List.toArray []))),
  (723, (Obj.mk (Value.type "tuple") none (Data.seq (List.toArray []) 0) (List.toArray []))),
  (724, (Obj.mk Value.none none (Data.func (FuncData.mk (Str.ofString "_law_pot") (Str.ofString "_law_pot") (L2.defArgs (top 84)) (FuncBody.stmts (L2.defBody (top 84))) (L2.defScope (top 84)) 0 [] Value.none Value.none Value.none Value.none none Value.none Value.none 0)) (List.toArray []))),
  (725, (Obj.mk (Value.type "code") none (Data.fields (List.toArray [(Value.str (Str.ofString "_law_pot") 1314), (Value.str (Str.ofString "_law_pot") 1315), (Value.str (Str.ofString "/claim/cut.py") 1316), (Value.int (445 : Int) 0), (Value.int (2 : Int) 0), (Value.int (0 : Int) 0), (Value.int (0 : Int) 0), (Value.int (3 : Int) 0), (Value.ref 720), (Value.bool Bool.true), (Value.int (316 : Int) 0), (Value.ref 721), Value.none, (Value.ref 722), (Value.ref 723), (Value.ref 724), (Value.int (1322 : Int) 0), (Value.int (445 : Int) 0), (Value.str (Str.ofString "/claim/cut.py") 1323)])) (List.toArray []))),
  (726, (Obj.mk (Value.type "function") none (Data.func (FuncData.mk (Str.ofString "_law_pot") (Str.ofString "_law_pot") (L2.defArgs (top 84)) (FuncBody.stmts (L2.defBody (top 84))) (L2.defScope (top 84)) 3 [] Value.none Value.none Value.none (Value.str (Str.ofString "law_turnedtunes_k39_pieces_refused") 1312) none (Value.ref 725) Value.none 0)) (List.toArray []))),
  (727, (Obj.mk (Value.type "tuple") none (Data.seq (List.toArray []) 0) (List.toArray []))),
  (728, (Obj.mk Value.none none (Data.fields (List.toArray [])) (List.toArray []))),
  (729, (Obj.mk (Value.type "tuple") none (Data.seq (List.toArray [(Value.str (Str.ofString "_law_pot_here") 1328), (Value.str (Str.ofString "_law_upto") 1329), (Value.str (Str.ofString "_law_digit") 1330), (Value.str (Str.ofString "_law_prime") 1331), (Value.str (Str.ofString "_law_mixed") 1332)]) 0) (List.toArray []))),
  (730, (Obj.mk (Value.type "tuple") none (Data.seq (List.toArray []) 0) (List.toArray []))),
  (731, (Obj.mk Value.none none (Data.func (FuncData.mk (Str.ofString "_law_take") (Str.ofString "_law_take") (L2.defArgs (top 85)) (FuncBody.stmts (L2.defBody (top 85))) (L2.defScope (top 85)) 0 [] Value.none Value.none Value.none Value.none none Value.none Value.none 0)) (List.toArray []))),
  (732, (Obj.mk (Value.type "code") none (Data.fields (List.toArray [(Value.str (Str.ofString "_law_take") 1325), (Value.str (Str.ofString "_law_take") 1326), (Value.str (Str.ofString "/claim/cut.py") 1327), (Value.int (450 : Int) 0), (Value.int (2 : Int) 0), (Value.int (0 : Int) 0), (Value.int (0 : Int) 0), (Value.int (3 : Int) 0), (Value.ref 727), (Value.bool Bool.true), (Value.int (316 : Int) 0), (Value.ref 728), Value.none, (Value.ref 729), (Value.ref 730), (Value.ref 731), (Value.int (1333 : Int) 0), (Value.int (450 : Int) 0), (Value.str (Str.ofString "/claim/cut.py") 1334)])) (List.toArray []))),
  (733, (Obj.mk (Value.type "function") none (Data.func (FuncData.mk (Str.ofString "_law_take") (Str.ofString "_law_take") (L2.defArgs (top 85)) (FuncBody.stmts (L2.defBody (top 85))) (L2.defScope (top 85)) 3 [] Value.none Value.none Value.none (Value.str (Str.ofString "law_turnedtunes_k39_pieces_refused") 1312) none (Value.ref 732) Value.none 0)) (List.toArray []))),
  (734, (Obj.mk (Value.type "tuple") none (Data.seq (List.toArray []) 0) (List.toArray []))),
  (735, (Obj.mk Value.none none (Data.fields (List.toArray [])) (List.toArray []))),
  (736, (Obj.mk (Value.type "tuple") none (Data.seq (List.toArray [(Value.str (Str.ofString "_law_pot_here") 1339), (Value.str (Str.ofString "_law_some") 1340)]) 0) (List.toArray []))),
  (737, (Obj.mk (Value.type "tuple") none (Data.seq (List.toArray []) 0) (List.toArray []))),
  (738, (Obj.mk Value.none none (Data.func (FuncData.mk (Str.ofString "_law_of") (Str.ofString "_law_of") (L2.defArgs (top 86)) (FuncBody.stmts (L2.defBody (top 86))) (L2.defScope (top 86)) 0 [] Value.none Value.none Value.none Value.none none Value.none Value.none 0)) (List.toArray []))),
  (739, (Obj.mk (Value.type "code") none (Data.fields (List.toArray [(Value.str (Str.ofString "_law_of") 1336), (Value.str (Str.ofString "_law_of") 1337), (Value.str (Str.ofString "/claim/cut.py") 1338), (Value.int (460 : Int) 0), (Value.int (2 : Int) 0), (Value.int (0 : Int) 0), (Value.int (0 : Int) 0), (Value.int (3 : Int) 0), (Value.ref 734), (Value.bool Bool.true), (Value.int (316 : Int) 0), (Value.ref 735), Value.none, (Value.ref 736), (Value.ref 737), (Value.ref 738), (Value.int (1341 : Int) 0), (Value.int (460 : Int) 0), (Value.str (Str.ofString "/claim/cut.py") 1342)])) (List.toArray []))),
  (740, (Obj.mk (Value.type "function") none (Data.func (FuncData.mk (Str.ofString "_law_of") (Str.ofString "_law_of") (L2.defArgs (top 86)) (FuncBody.stmts (L2.defBody (top 86))) (L2.defScope (top 86)) 3 [] Value.none Value.none Value.none (Value.str (Str.ofString "law_turnedtunes_k39_pieces_refused") 1312) none (Value.ref 739) Value.none 0)) (List.toArray []))),
  (741, (Obj.mk (Value.type "tuple") none (Data.seq (List.toArray []) 0) (List.toArray []))),
  (742, (Obj.mk Value.none none (Data.fields (List.toArray [])) (List.toArray []))),
  (743, (Obj.mk Value.none none (Data.func (FuncData.mk (Str.ofString "_law_pots") (Str.ofString "_law_pots") (L2.defArgs (top 87)) (FuncBody.stmts (L2.defBody (top 87))) (L2.defScope (top 87)) 0 [] Value.none Value.none Value.none Value.none none Value.none Value.none 0)) (List.toArray []))),
  (744, (Obj.mk (Value.type "code") none (Data.fields (List.toArray [(Value.str (Str.ofString "_law_pots") 1344), (Value.str (Str.ofString "_law_pots") 1345), (Value.str (Str.ofString "/claim/cut.py") 1346), (Value.int (462 : Int) 0), (Value.int (2 : Int) 0), (Value.int (0 : Int) 0), (Value.int (0 : Int) 0), (Value.int (3 : Int) 0), (Value.ref 741), (Value.bool Bool.true), (Value.int (316 : Int) 0), (Value.ref 742), Value.none, Value.none, Value.none, (Value.ref 743), (Value.int (1347 : Int) 0), (Value.int (462 : Int) 0), (Value.str (Str.ofString "/claim/cut.py") 1348)])) (List.toArray []))),
  (745, (Obj.mk (Value.type "function") none (Data.func (FuncData.mk (Str.ofString "_law_pots") (Str.ofString "_law_pots") (L2.defArgs (top 87)) (FuncBody.stmts (L2.defBody (top 87))) (L2.defScope (top 87)) 3 [] Value.none Value.none Value.none (Value.str (Str.ofString "law_turnedtunes_k39_pieces_refused") 1312) none (Value.ref 744) Value.none 0)) (List.toArray []))),
  (746, (Obj.mk (Value.type "tuple") none (Data.seq (List.toArray []) 0) (List.toArray []))),
  (747, (Obj.mk Value.none none (Data.fields (List.toArray [])) (List.toArray []))),
  (748, (Obj.mk (Value.type "tuple") none (Data.seq (List.toArray [(Value.str (Str.ofString "_law_look") 1353), (Value.str (Str.ofString "_law_caught") 1354), (Value.str (Str.ofString "_law_found") 1355), (Value.str (Str.ofString "error") 1356)]) 0) (List.toArray []))),
  (749, (Obj.mk (Value.type "tuple") none (Data.seq (List.toArray []) 0) (List.toArray []))),
  (750, (Obj.mk Value.none none (Data.func (FuncData.mk (Str.ofString "_law_told") (Str.ofString "_law_told") (L2.defArgs (top 88)) (FuncBody.stmts (L2.defBody (top 88))) (L2.defScope (top 88)) 0 [] Value.none Value.none Value.none Value.none none Value.none Value.none 0)) (List.toArray []))),
  (751, (Obj.mk (Value.type "code") none (Data.fields (List.toArray [(Value.str (Str.ofString "_law_told") 1350), (Value.str (Str.ofString "_law_told") 1351), (Value.str (Str.ofString "/claim/cut.py") 1352), (Value.int (464 : Int) 0), (Value.int (1 : Int) 0), (Value.int (0 : Int) 0), (Value.int (0 : Int) 0), (Value.int (3 : Int) 0), (Value.ref 746), (Value.bool Bool.true), (Value.int (316 : Int) 0), (Value.ref 747), Value.none, (Value.ref 748), (Value.ref 749), (Value.ref 750), (Value.int (1357 : Int) 0), (Value.int (464 : Int) 0), (Value.str (Str.ofString "/claim/cut.py") 1358)])) (List.toArray []))),
  (752, (Obj.mk (Value.type "function") none (Data.func (FuncData.mk (Str.ofString "_law_told") (Str.ofString "_law_told") (L2.defArgs (top 88)) (FuncBody.stmts (L2.defBody (top 88))) (L2.defScope (top 88)) 3 [] Value.none Value.none Value.none (Value.str (Str.ofString "law_turnedtunes_k39_pieces_refused") 1312) none (Value.ref 751) Value.none 0)) (List.toArray []))),
  (753, (Obj.mk (Value.type "tuple") none (Data.seq (List.toArray []) 0) (List.toArray []))),
  (754, (Obj.mk Value.none none (Data.fields (List.toArray [])) (List.toArray []))),
  (755, (Obj.mk (Value.type "tuple") none (Data.seq (List.toArray [(Value.str (Str.ofString "_law_value") 1363), (Value.str (Str.ofString "_law_low") 1364), (Value.str (Str.ofString "_law_high") 1365)]) 0) (List.toArray []))),
  (756, (Obj.mk (Value.type "tuple") none (Data.seq (List.toArray []) 0) (List.toArray []))),
  (757, (Obj.mk Value.none none (Data.func (FuncData.mk (Str.ofString "_law_is_int") (Str.ofString "_law_is_int") (L2.defArgs (top 89)) (FuncBody.stmts (L2.defBody (top 89))) (L2.defScope (top 89)) 0 [] Value.none Value.none Value.none Value.none none Value.none Value.none 0)) (List.toArray []))),
  (758, (Obj.mk (Value.type "code") none (Data.fields (List.toArray [(Value.str (Str.ofString "_law_is_int") 1360), (Value.str (Str.ofString "_law_is_int") 1361), (Value.str (Str.ofString "/claim/cut.py") 1362), (Value.int (471 : Int) 0), (Value.int (3 : Int) 0), (Value.int (0 : Int) 0), (Value.int (0 : Int) 0), (Value.int (3 : Int) 0), (Value.ref 753), (Value.bool Bool.true), (Value.int (316 : Int) 0), (Value.ref 754), Value.none, (Value.ref 755), (Value.ref 756), (Value.ref 757), (Value.int (1366 : Int) 0), (Value.int (471 : Int) 0), (Value.str (Str.ofString "/claim/cut.py") 1367)])) (List.toArray []))),
  (759, (Obj.mk (Value.type "function") none (Data.func (FuncData.mk (Str.ofString "_law_is_int") (Str.ofString "_law_is_int") (L2.defArgs (top 89)) (FuncBody.stmts (L2.defBody (top 89))) (L2.defScope (top 89)) 3 [] Value.none Value.none Value.none (Value.str (Str.ofString "law_turnedtunes_k39_pieces_refused") 1312) none (Value.ref 758) Value.none 0)) (List.toArray []))),
  (760, (Obj.mk (Value.type "tuple") none (Data.seq (List.toArray []) 0) (List.toArray []))),
  (761, (Obj.mk Value.none none (Data.fields (List.toArray [])) (List.toArray []))),
  (762, (Obj.mk (Value.type "tuple") none (Data.seq (List.toArray [(Value.str (Str.ofString "_law_pot_here") 1372), (Value.str (Str.ofString "_law_some") 1373)]) 0) (List.toArray []))),
  (763, (Obj.mk (Value.type "tuple") none (Data.seq (List.toArray []) 0) (List.toArray []))),
  (764, (Obj.mk Value.none none (Data.func (FuncData.mk (Str.ofString "_law_odd") (Str.ofString "_law_odd") (L2.defArgs (top 90)) (FuncBody.stmts (L2.defBody (top 90))) (L2.defScope (top 90)) 0 [] Value.none Value.none Value.none Value.none none Value.none Value.none 0)) (List.toArray []))),
  (765, (Obj.mk (Value.type "code") none (Data.fields (List.toArray [(Value.str (Str.ofString "_law_odd") 1369), (Value.str (Str.ofString "_law_odd") 1370), (Value.str (Str.ofString "/claim/cut.py") 1371), (Value.int (473 : Int) 0), (Value.int (1 : Int) 0), (Value.int (0 : Int) 0), (Value.int (0 : Int) 0), (Value.int (3 : Int) 0), (Value.ref 760), (Value.bool Bool.true), (Value.int (316 : Int) 0), (Value.ref 761), Value.none, (Value.ref 762), (Value.ref 763), (Value.ref 764), (Value.int (1374 : Int) 0), (Value.int (473 : Int) 0), (Value.str (Str.ofString "/claim/cut.py") 1375)])) (List.toArray []))),
  (766, (Obj.mk (Value.type "function") none (Data.func (FuncData.mk (Str.ofString "_law_odd") (Str.ofString "_law_odd") (L2.defArgs (top 90)) (FuncBody.stmts (L2.defBody (top 90))) (L2.defScope (top 90)) 3 [] Value.none Value.none Value.none (Value.str (Str.ofString "law_turnedtunes_k39_pieces_refused") 1312) none (Value.ref 765) Value.none 0)) (List.toArray []))),
  (767, (Obj.mk (Value.type "tuple") none (Data.seq (List.toArray []) 0) (List.toArray []))),
  (768, (Obj.mk Value.none none (Data.fields (List.toArray [])) (List.toArray []))),
  (769, (Obj.mk (Value.type "tuple") none (Data.seq (List.toArray [(Value.str (Str.ofString "_law_pot_here") 1380)]) 0) (List.toArray []))),
  (770, (Obj.mk (Value.type "tuple") none (Data.seq (List.toArray []) 0) (List.toArray []))),
  (771, (Obj.mk Value.none none (Data.func (FuncData.mk (Str.ofString "_law_amount") (Str.ofString "_law_amount") (L2.defArgs (top 91)) (FuncBody.stmts (L2.defBody (top 91))) (L2.defScope (top 91)) 0 [] Value.none Value.none Value.none Value.none none Value.none Value.none 0)) (List.toArray []))),
  (772, (Obj.mk (Value.type "code") none (Data.fields (List.toArray [(Value.str (Str.ofString "_law_amount") 1377), (Value.str (Str.ofString "_law_amount") 1378), (Value.str (Str.ofString "/claim/cut.py") 1379), (Value.int (476 : Int) 0), (Value.int (1 : Int) 0), (Value.int (0 : Int) 0), (Value.int (0 : Int) 0), (Value.int (3 : Int) 0), (Value.ref 767), (Value.bool Bool.true), (Value.int (316 : Int) 0), (Value.ref 768), Value.none, (Value.ref 769), (Value.ref 770), (Value.ref 771), (Value.int (1381 : Int) 0), (Value.int (476 : Int) 0), (Value.str (Str.ofString "/claim/cut.py") 1382)])) (List.toArray []))),
  (773, (Obj.mk (Value.type "function") none (Data.func (FuncData.mk (Str.ofString "_law_amount") (Str.ofString "_law_amount") (L2.defArgs (top 91)) (FuncBody.stmts (L2.defBody (top 91))) (L2.defScope (top 91)) 3 [] Value.none Value.none Value.none (Value.str (Str.ofString "law_turnedtunes_k39_pieces_refused") 1312) none (Value.ref 772) Value.none 0)) (List.toArray [])))] (hRt15 P)
noncomputable def hRS16 (w : World) : SharedT := ⟨hRt16 w.params, 774, (Life.mk [] [] [] 0 [] [] Bool.false (List.toArray []) [] 0 Bool.false Bool.false Bool.false (0 : Int) [(2000 : Int), (10 : Int), (10 : Int)] Bool.false 0 Bool.true [] [] 0 Bool.false), (List.toArray []), (Drawn.mk 0 0 0 0), 1384, (start (opening Challenge.pw_turnedtunes_k39_pieces_refused)).1.os⟩
noncomputable def hRb15 : List Stmt := ((behindTheImports Challenge.pw_turnedtunes_k39_pieces_refused).drop 75).take 16
theorem hRg15 (w : World) : segF (stepQ (denQ tabQ) Challenge.pw_turnedtunes_k39_pieces_refused w) 39 (some (Value.ref 6)) 473 (hRS15 w) (piecesOf hRb15 hRenv hRcd (Pos.mk 329 0 400 237) [topFrame (Pos.mk 0 0 0 0)]) = some (.next, hRS16 w, hRcd, (Pos.mk 476 0 477 111)) := by kernel_rfl
noncomputable def hRt17 (P : Params) : BT := putT [(3, (Obj.mk (Value.type "dict") none (Data.dict (List.toArray [(DictEntry.mk (PyData.keyHash P (Str.ofString "__name__")) (Value.str (Str.ofString "__name__") 165) (Value.str (Str.ofString "law_turnedtunes_k39_pieces_refused") 1312)), (DictEntry.mk (PyData.keyHash P (Str.ofString "__doc__")) (Value.str (Str.ofString "__doc__") 166) Value.none), (DictEntry.mk (PyData.keyHash P (Str.ofString "__package__")) (Value.str (Str.ofString "__package__") 167) Value.none), (DictEntry.mk (PyData.keyHash P (Str.ofString "__loader__")) (Value.str (Str.ofString "__loader__") 168) (Value.builtin "__main__.__loader__#opaque")), (DictEntry.mk (PyData.keyHash P (Str.ofString "__spec__")) (Value.str (Str.ofString "__spec__") 169) Value.none), (DictEntry.mk (PyData.keyHash P (Str.ofString "__annotations__")) (Value.str (Str.ofString "__annotations__") 170) (Value.ref 6)), (DictEntry.mk (PyData.keyHash P (Str.ofString "__builtins__")) (Value.str (Str.ofString "__builtins__") 171) (Value.ref 4)), (DictEntry.mk (PyData.keyHash P (Str.ofString "__file__")) (Value.str (Str.ofString "__file__") 173) (Value.str (Str.ofString "/claim/cut.py") 172)), (DictEntry.mk (PyData.keyHash P (Str.ofString "__cached__")) (Value.str (Str.ofString "__cached__") 174) Value.none), (DictEntry.mk (PyData.keyHash P (Str.ofString "heappop")) (Value.str (Str.ofString "heappop") 312) (Value.builtin "_heapq.heappop")), (DictEntry.mk (PyData.keyHash P (Str.ofString "heappush")) (Value.str (Str.ofString "heappush") 315) (Value.builtin "_heapq.heappush")), (DictEntry.mk (PyData.keyHash P (Str.ofString "_wall")) (Value.str (Str.ofString "_wall") 328) (Value.ref 49)), (DictEntry.mk (PyData.keyHash P (Str.ofString "TuneError")) (Value.str (Str.ofString "TuneError") 357) (Value.ref 66)), (DictEntry.mk (PyData.keyHash P (Str.ofString "BadPlace")) (Value.str (Str.ofString "BadPlace") 373) (Value.ref 79)), (DictEntry.mk (PyData.keyHash P (Str.ofString "BadLength")) (Value.str (Str.ofString "BadLength") 389) (Value.ref 91)), (DictEntry.mk (PyData.keyHash P (Str.ofString "BadAmount")) (Value.str (Str.ofString "BadAmount") 405) (Value.ref 103)), (DictEntry.mk (PyData.keyHash P (Str.ofString "BadWay")) (Value.str (Str.ofString "BadWay") 421) (Value.ref 115)), (DictEntry.mk (PyData.keyHash P (Str.ofString "BadText")) (Value.str (Str.ofString "BadText") 437) (Value.ref 127)), (DictEntry.mk (PyData.keyHash P (Str.ofString "NoPlace")) (Value.str (Str.ofString "NoPlace") 453) (Value.ref 139)), (DictEntry.mk (PyData.keyHash P (Str.ofString "BadNote")) (Value.str (Str.ofString "BadNote") 469) (Value.ref 151)), (DictEntry.mk (PyData.keyHash P (Str.ofString "BadPart")) (Value.str (Str.ofString "BadPart") 485) (Value.ref 163)), (DictEntry.mk (PyData.keyHash P (Str.ofString "NoJoint")) (Value.str (Str.ofString "NoJoint") 501) (Value.ref 175)), (DictEntry.mk (PyData.keyHash P (Str.ofString "BadNumber")) (Value.str (Str.ofString "BadNumber") 517) (Value.ref 187)), (DictEntry.mk (PyData.keyHash P (Str.ofString "BadPieces")) (Value.str (Str.ofString "BadPieces") 533) (Value.ref 199)), (DictEntry.mk (PyData.keyHash P (Str.ofString "GREATEST")) (Value.str (Str.ofString "GREATEST") 539) (Value.int (1000000000000000000000000000000 : Int) 538)), (DictEntry.mk (PyData.keyHash P (Str.ofString "_DIGITS")) (Value.str (Str.ofString "_DIGITS") 541) (Value.int (64 : Int) 540)), (DictEntry.mk (PyData.keyHash P (Str.ofString "_CHUNK")) (Value.str (Str.ofString "_CHUNK") 545) (Value.int (10000000000000000000000000000000000000000000000000000000000000000 : Int) 544)), (DictEntry.mk (PyData.keyHash P (Str.ofString "is_whole")) (Value.str (Str.ofString "is_whole") 552) (Value.ref 208)), (DictEntry.mk (PyData.keyHash P (Str.ofString "is_from")) (Value.str (Str.ofString "is_from") 560) (Value.ref 215)), (DictEntry.mk (PyData.keyHash P (Str.ofString "is_between")) (Value.str (Str.ofString "is_between") 569) (Value.ref 222)), (DictEntry.mk (PyData.keyHash P (Str.ofString "written")) (Value.str (Str.ofString "written") 578) (Value.ref 229)), (DictEntry.mk (PyData.keyHash P (Str.ofString "number_in")) (Value.str (Str.ofString "number_in") 587) (Value.ref 236)), (DictEntry.mk (PyData.keyHash P (Str.ofString "_number_of")) (Value.str (Str.ofString "_number_of") 597) (Value.ref 243)), (DictEntry.mk (PyData.keyHash P (Str.ofString "STILL")) (Value.str (Str.ofString "STILL") 601) (Value.ref 244)), (DictEntry.mk (PyData.keyHash P (Str.ofString "led_by")) (Value.str (Str.ofString "led_by") 611) (Value.ref 251)), (DictEntry.mk (PyData.keyHash P (Str.ofString "led_on")) (Value.str (Str.ofString "led_on") 619) (Value.ref 258)), (DictEntry.mk (PyData.keyHash P (Str.ofString "led_back")) (Value.str (Str.ofString "led_back") 628) (Value.ref 265)), (DictEntry.mk (PyData.keyHash P (Str.ofString "led_often")) (Value.str (Str.ofString "led_often") 638) (Value.ref 272)), (DictEntry.mk (PyData.keyHash P (Str.ofString "word_of")) (Value.str (Str.ofString "word_of") 645) (Value.ref 279)), (DictEntry.mk (PyData.keyHash P (Str.ofString "Step")) (Value.str (Str.ofString "Step") 677) (Value.ref 294)), (DictEntry.mk (PyData.keyHash P (Str.ofString "step_given")) (Value.str (Str.ofString "step_given") 683) (Value.ref 305)), (DictEntry.mk (PyData.keyHash P (Str.ofString "step_back")) (Value.str (Str.ofString "step_back") 690) (Value.ref 312)), (DictEntry.mk (PyData.keyHash P (Str.ofString "step_joined")) (Value.str (Str.ofString "step_joined") 698) (Value.ref 319)), (DictEntry.mk (PyData.keyHash P (Str.ofString "step_times")) (Value.str (Str.ofString "step_times") 706) (Value.ref 326)), (DictEntry.mk (PyData.keyHash P (Str.ofString "step_part")) (Value.str (Str.ofString "step_part") 715) (Value.ref 333)), (DictEntry.mk (PyData.keyHash P (Str.ofString "Link")) (Value.str (Str.ofString "Link") 757) (Value.ref 350)), (DictEntry.mk (PyData.keyHash P (Str.ofString "is_telling")) (Value.str (Str.ofString "is_telling") 764) (Value.ref 361)), (DictEntry.mk (PyData.keyHash P (Str.ofString "part_of_link")) (Value.str (Str.ofString "part_of_link") 775) (Value.ref 368)), (DictEntry.mk (PyData.keyHash P (Str.ofString "settled")) (Value.str (Str.ofString "settled") 782) (Value.ref 375)), (DictEntry.mk (PyData.keyHash P (Str.ofString "_turned")) (Value.str (Str.ofString "_turned") 789) (Value.ref 382)), (DictEntry.mk (PyData.keyHash P (Str.ofString "_settled_straight")) (Value.str (Str.ofString "_settled_straight") 798) (Value.ref 389)), (DictEntry.mk (PyData.keyHash P (Str.ofString "_settled_backward")) (Value.str (Str.ofString "_settled_backward") 810) (Value.ref 396)), (DictEntry.mk (PyData.keyHash P (Str.ofString "shortened")) (Value.str (Str.ofString "shortened") 819) (Value.ref 403)), (DictEntry.mk (PyData.keyHash P (Str.ofString "pulled")) (Value.str (Str.ofString "pulled") 829) (Value.ref 410)), (DictEntry.mk (PyData.keyHash P (Str.ofString "_pulled_away")) (Value.str (Str.ofString "_pulled_away") 843) (Value.ref 417)), (DictEntry.mk (PyData.keyHash P (Str.ofString "_source")) (Value.str (Str.ofString "_source") 853) (Value.ref 499)), (DictEntry.mk (PyData.keyHash P (Str.ofString "source_links")) (Value.str (Str.ofString "source_links") 854) (Value.ref 424)), (DictEntry.mk (PyData.keyHash P (Str.ofString "cuts_of")) (Value.str (Str.ofString "cuts_of") 876) (Value.ref 431)), (DictEntry.mk (PyData.keyHash P (Str.ofString "_greatest_end")) (Value.str (Str.ofString "_greatest_end") 883) (Value.ref 438)), (DictEntry.mk (PyData.keyHash P (Str.ofString "free_in")) (Value.str (Str.ofString "free_in") 889) (Value.ref 443)), (DictEntry.mk (PyData.keyHash P (Str.ofString "free_by")) (Value.str (Str.ofString "free_by") 899) (Value.ref 450)), (DictEntry.mk (PyData.keyHash P (Str.ofString "length_of")) (Value.str (Str.ofString "length_of") 908) (Value.ref 457)), (DictEntry.mk (PyData.keyHash P (Str.ofString "starts_of")) (Value.str (Str.ofString "starts_of") 917) (Value.ref 464)), (DictEntry.mk (PyData.keyHash P (Str.ofString "new_ahead")) (Value.str (Str.ofString "new_ahead") 926) (Value.ref 471)), (DictEntry.mk (PyData.keyHash P (Str.ofString "new_stretches")) (Value.str (Str.ofString "new_stretches") 938) (Value.ref 478)), (DictEntry.mk (PyData.keyHash P (Str.ofString "index_at")) (Value.str (Str.ofString "index_at") 949) (Value.ref 485)), (DictEntry.mk (PyData.keyHash P (Str.ofString "read")) (Value.str (Str.ofString "read") 962) (Value.ref 492)), (DictEntry.mk (PyData.keyHash P (Str.ofString "source_pieces")) (Value.str (Str.ofString "source_pieces") 974) (Value.ref 499)), (DictEntry.mk (PyData.keyHash P (Str.ofString "links_of_pieces")) (Value.str (Str.ofString "links_of_pieces") 985) (Value.ref 506)), (DictEntry.mk (PyData.keyHash P (Str.ofString "holds")) (Value.str (Str.ofString "holds") 993) (Value.ref 513)), (DictEntry.mk (PyData.keyHash P (Str.ofString "Melody")) (Value.str (Str.ofString "Melody") 1067) (Value.ref 558)), (DictEntry.mk (PyData.keyHash P (Str.ofString "_same_places")) (Value.str (Str.ofString "_same_places") 1075) (Value.ref 569)), (DictEntry.mk (PyData.keyHash P (Str.ofString "_are_pieces")) (Value.str (Str.ofString "_are_pieces") 1084) (Value.ref 576)), (DictEntry.mk (PyData.keyHash P (Str.ofString "_is_piece")) (Value.str (Str.ofString "_is_piece") 1092) (Value.ref 583)), (DictEntry.mk (PyData.keyHash P (Str.ofString "_is_copy")) (Value.str (Str.ofString "_is_copy") 1106) (Value.ref 590)), (DictEntry.mk (PyData.keyHash P (Str.ofString "Tie")) (Value.str (Str.ofString "Tie") 1244) (Value.ref 668)), (DictEntry.mk (PyData.keyHash P (Str.ofString "_check_parts")) (Value.str (Str.ofString "_check_parts") 1253) (Value.ref 679)), (DictEntry.mk (PyData.keyHash P (Str.ofString "_check_leading")) (Value.str (Str.ofString "_check_leading") 1262) (Value.ref 686)), (DictEntry.mk (PyData.keyHash P (Str.ofString "_values_in")) (Value.str (Str.ofString "_values_in") 1268) (Value.ref 691)), (DictEntry.mk (PyData.keyHash P (Str.ofString "_one_behind_other")) (Value.str (Str.ofString "_one_behind_other") 1277) (Value.ref 698)), (DictEntry.mk (PyData.keyHash P (Str.ofString "_straight_times")) (Value.str (Str.ofString "_straight_times") 1288) (Value.ref 705)), (DictEntry.mk (PyData.keyHash P (Str.ofString "_backward_times")) (Value.str (Str.ofString "_backward_times") 1298) (Value.ref 712)), (DictEntry.mk (PyData.keyHash P (Str.ofString "_times")) (Value.str (Str.ofString "_times") 1311) (Value.ref 719)), (DictEntry.mk (PyData.keyHash P (Str.ofString "_law_pot")) (Value.str (Str.ofString "_law_pot") 1324) (Value.ref 726)), (DictEntry.mk (PyData.keyHash P (Str.ofString "_law_take")) (Value.str (Str.ofString "_law_take") 1335) (Value.ref 733)), (DictEntry.mk (PyData.keyHash P (Str.ofString "_law_of")) (Value.str (Str.ofString "_law_of") 1343) (Value.ref 740)), (DictEntry.mk (PyData.keyHash P (Str.ofString "_law_pots")) (Value.str (Str.ofString "_law_pots") 1349) (Value.ref 745)), (DictEntry.mk (PyData.keyHash P (Str.ofString "_law_told")) (Value.str (Str.ofString "_law_told") 1359) (Value.ref 752)), (DictEntry.mk (PyData.keyHash P (Str.ofString "_law_is_int")) (Value.str (Str.ofString "_law_is_int") 1368) (Value.ref 759)), (DictEntry.mk (PyData.keyHash P (Str.ofString "_law_odd")) (Value.str (Str.ofString "_law_odd") 1376) (Value.ref 766)), (DictEntry.mk (PyData.keyHash P (Str.ofString "_law_amount")) (Value.str (Str.ofString "_law_amount") 1383) (Value.ref 773)), (DictEntry.mk (PyData.keyHash P (Str.ofString "_law_row_of")) (Value.str (Str.ofString "_law_row_of") 1390) (Value.ref 780)), (DictEntry.mk (PyData.keyHash P (Str.ofString "_law_tie")) (Value.str (Str.ofString "_law_tie") 1397) (Value.ref 787)), (DictEntry.mk (PyData.keyHash P (Str.ofString "_law_lead")) (Value.str (Str.ofString "_law_lead") 1406) (Value.ref 794)), (DictEntry.mk (PyData.keyHash P (Str.ofString "_law_shown")) (Value.str (Str.ofString "_law_shown") 1412) (Value.ref 799)), (DictEntry.mk (PyData.keyHash P (Str.ofString "_law_piece")) (Value.str (Str.ofString "_law_piece") 1426) (Value.ref 806)), (DictEntry.mk (PyData.keyHash P (Str.ofString "_law_pieces")) (Value.str (Str.ofString "_law_pieces") 1438) (Value.ref 813)), (DictEntry.mk (PyData.keyHash P (Str.ofString "_law_bent")) (Value.str (Str.ofString "_law_bent") 1448) (Value.ref 820)), (DictEntry.mk (PyData.keyHash P (Str.ofString "_law_is_piece")) (Value.str (Str.ofString "_law_is_piece") 1456) (Value.ref 827)), (DictEntry.mk (PyData.keyHash P (Str.ofString "_law_are_pieces")) (Value.str (Str.ofString "_law_are_pieces") 1465) (Value.ref 834)), (DictEntry.mk (PyData.keyHash P (Str.ofString "_law_near")) (Value.str (Str.ofString "_law_near") 1471) (Value.ref 839)), (DictEntry.mk (PyData.keyHash P (Str.ofString "_law_right")) (Value.str (Str.ofString "_law_right") 1482) (Value.ref 846)), (DictEntry.mk (PyData.keyHash P (Str.ofString "law")) (Value.str (Str.ofString "law") 1488) (Value.ref 851))]) 103) (List.toArray []))),
  (40, (Obj.mk Value.none none (Data.fields (List.toArray [(Value.int (2 : Int) 0), (Value.int (0 : Int) 0), (Value.ref 48), (Value.int (6 : Int) 0), (Value.int (0 : Int) 0), (Value.ref 55), (Value.int (11 : Int) 0), (Value.int (0 : Int) 0), (Value.ref 75), (Value.int (13 : Int) 0), (Value.int (0 : Int) 0), (Value.ref 87), (Value.int (15 : Int) 0), (Value.int (0 : Int) 0), (Value.ref 99), (Value.int (17 : Int) 0), (Value.int (0 : Int) 0), (Value.ref 111), (Value.int (19 : Int) 0), (Value.int (0 : Int) 0), (Value.ref 123), (Value.int (21 : Int) 0), (Value.int (0 : Int) 0), (Value.ref 135), (Value.int (23 : Int) 0), (Value.int (0 : Int) 0), (Value.ref 147), (Value.int (25 : Int) 0), (Value.int (0 : Int) 0), (Value.ref 159), (Value.int (27 : Int) 0), (Value.int (0 : Int) 0), (Value.ref 171), (Value.int (29 : Int) 0), (Value.int (0 : Int) 0), (Value.ref 183), (Value.int (31 : Int) 0), (Value.int (0 : Int) 0), (Value.ref 195), (Value.int (37 : Int) 0), (Value.int (0 : Int) 0), (Value.ref 207), (Value.int (39 : Int) 0), (Value.int (0 : Int) 0), (Value.ref 214), (Value.int (41 : Int) 0), (Value.int (0 : Int) 0), (Value.ref 221), (Value.int (43 : Int) 0), (Value.int (0 : Int) 0), (Value.ref 228), (Value.int (53 : Int) 0), (Value.int (0 : Int) 0), (Value.ref 235), (Value.int (61 : Int) 0), (Value.int (0 : Int) 0), (Value.ref 242), (Value.int (69 : Int) 0), (Value.int (0 : Int) 0), (Value.ref 250), (Value.int (72 : Int) 0), (Value.int (0 : Int) 0), (Value.ref 257), (Value.int (74 : Int) 0), (Value.int (0 : Int) 0), (Value.ref 264), (Value.int (77 : Int) 0), (Value.int (0 : Int) 0), (Value.ref 271), (Value.int (82 : Int) 0), (Value.int (0 : Int) 0), (Value.ref 278), (Value.int (85 : Int) 0), (Value.int (0 : Int) 0), (Value.ref 285), (Value.int (92 : Int) 0), (Value.int (0 : Int) 0), (Value.ref 304), (Value.int (94 : Int) 0), (Value.int (0 : Int) 0), (Value.ref 311), (Value.int (96 : Int) 0), (Value.int (0 : Int) 0), (Value.ref 318), (Value.int (98 : Int) 0), (Value.int (0 : Int) 0), (Value.ref 325), (Value.int (100 : Int) 0), (Value.int (0 : Int) 0), (Value.ref 332), (Value.int (103 : Int) 0), (Value.int (0 : Int) 0), (Value.ref 339), (Value.int (113 : Int) 0), (Value.int (0 : Int) 0), (Value.ref 360), (Value.int (115 : Int) 0), (Value.int (0 : Int) 0), (Value.ref 367), (Value.int (119 : Int) 0), (Value.int (0 : Int) 0), (Value.ref 374), (Value.int (125 : Int) 0), (Value.int (0 : Int) 0), (Value.ref 381), (Value.int (127 : Int) 0), (Value.int (0 : Int) 0), (Value.ref 388), (Value.int (132 : Int) 0), (Value.int (0 : Int) 0), (Value.ref 395), (Value.int (142 : Int) 0), (Value.int (0 : Int) 0), (Value.ref 402), (Value.int (145 : Int) 0), (Value.int (0 : Int) 0), (Value.ref 409), (Value.int (154 : Int) 0), (Value.int (0 : Int) 0), (Value.ref 416), (Value.int (163 : Int) 0), (Value.int (0 : Int) 0), (Value.ref 423), (Value.int (171 : Int) 0), (Value.int (0 : Int) 0), (Value.ref 430), (Value.int (203 : Int) 0), (Value.int (0 : Int) 0), (Value.ref 437), (Value.int (205 : Int) 0), (Value.int (0 : Int) 0), (Value.ref 442), (Value.int (207 : Int) 0), (Value.int (0 : Int) 0), (Value.ref 449), (Value.int (211 : Int) 0), (Value.int (0 : Int) 0), (Value.ref 456), (Value.int (213 : Int) 0), (Value.int (0 : Int) 0), (Value.ref 463), (Value.int (218 : Int) 0), (Value.int (0 : Int) 0), (Value.ref 470), (Value.int (223 : Int) 0), (Value.int (0 : Int) 0), (Value.ref 477), (Value.int (234 : Int) 0), (Value.int (0 : Int) 0), (Value.ref 484), (Value.int (243 : Int) 0), (Value.int (0 : Int) 0), (Value.ref 491), (Value.int (254 : Int) 0), (Value.int (0 : Int) 0), (Value.ref 498), (Value.int (261 : Int) 0), (Value.int (0 : Int) 0), (Value.ref 505), (Value.int (270 : Int) 0), (Value.int (0 : Int) 0), (Value.ref 512), (Value.int (273 : Int) 0), (Value.int (0 : Int) 0), (Value.ref 519), (Value.int (302 : Int) 0), (Value.int (0 : Int) 0), (Value.ref 568), (Value.int (304 : Int) 0), (Value.int (0 : Int) 0), (Value.ref 575), (Value.int (313 : Int) 0), (Value.int (0 : Int) 0), (Value.ref 582), (Value.int (321 : Int) 0), (Value.int (0 : Int) 0), (Value.ref 589), (Value.int (329 : Int) 0), (Value.int (0 : Int) 0), (Value.ref 596), (Value.int (401 : Int) 0), (Value.int (0 : Int) 0), (Value.ref 678), (Value.int (408 : Int) 0), (Value.int (0 : Int) 0), (Value.ref 685), (Value.int (415 : Int) 0), (Value.int (0 : Int) 0), (Value.ref 690), (Value.int (426 : Int) 0), (Value.int (0 : Int) 0), (Value.ref 697), (Value.int (429 : Int) 0), (Value.int (0 : Int) 0), (Value.ref 704), (Value.int (434 : Int) 0), (Value.int (0 : Int) 0), (Value.ref 711), (Value.int (438 : Int) 0), (Value.int (0 : Int) 0), (Value.ref 718), (Value.int (445 : Int) 0), (Value.int (0 : Int) 0), (Value.ref 725), (Value.int (450 : Int) 0), (Value.int (0 : Int) 0), (Value.ref 732), (Value.int (460 : Int) 0), (Value.int (0 : Int) 0), (Value.ref 739), (Value.int (462 : Int) 0), (Value.int (0 : Int) 0), (Value.ref 744), (Value.int (464 : Int) 0), (Value.int (0 : Int) 0), (Value.ref 751), (Value.int (471 : Int) 0), (Value.int (0 : Int) 0), (Value.ref 758), (Value.int (473 : Int) 0), (Value.int (0 : Int) 0), (Value.ref 765), (Value.int (476 : Int) 0), (Value.int (0 : Int) 0), (Value.ref 772), (Value.int (478 : Int) 0), (Value.int (0 : Int) 0), (Value.ref 779), (Value.int (480 : Int) 0), (Value.int (0 : Int) 0), (Value.ref 786), (Value.int (482 : Int) 0), (Value.int (0 : Int) 0), (Value.ref 793), (Value.int (488 : Int) 0), (Value.int (0 : Int) 0), (Value.ref 798), (Value.int (501 : Int) 0), (Value.int (0 : Int) 0), (Value.ref 805), (Value.int (510 : Int) 0), (Value.int (0 : Int) 0), (Value.ref 812), (Value.int (518 : Int) 0), (Value.int (0 : Int) 0), (Value.ref 819), (Value.int (534 : Int) 0), (Value.int (0 : Int) 0), (Value.ref 826), (Value.int (548 : Int) 0), (Value.int (0 : Int) 0), (Value.ref 833), (Value.int (557 : Int) 0), (Value.int (0 : Int) 0), (Value.ref 838), (Value.int (567 : Int) 0), (Value.int (0 : Int) 0), (Value.ref 845), (Value.int (577 : Int) 0), (Value.int (0 : Int) 0), (Value.ref 850)])) (List.toArray []))),
  (774, (Obj.mk (Value.type "tuple") none (Data.seq (List.toArray []) 0) (List.toArray []))),
  (775, (Obj.mk Value.none none (Data.fields (List.toArray [])) (List.toArray []))),
  (776, (Obj.mk (Value.type "tuple") none (Data.seq (List.toArray [(Value.str (Str.ofString "_law_tie_here") 1387)]) 0) (List.toArray []))),
  (777, (Obj.mk (Value.type "tuple") none (Data.seq (List.toArray []) 0) (List.toArray []))),
  (778, (Obj.mk Value.none none (Data.func (FuncData.mk (Str.ofString "_law_row_of") (Str.ofString "_law_row_of") (L2.defArgs (top 92)) (FuncBody.stmts (L2.defBody (top 92))) (L2.defScope (top 92)) 0 [] Value.none Value.none Value.none Value.none none Value.none Value.none 0)) (List.toArray []))),
  (779, (Obj.mk (Value.type "code") none (Data.fields (List.toArray [(Value.str (Str.ofString "_law_row_of") 1384), (Value.str (Str.ofString "_law_row_of") 1385), (Value.str (Str.ofString "/claim/cut.py") 1386), (Value.int (478 : Int) 0), (Value.int (1 : Int) 0), (Value.int (0 : Int) 0), (Value.int (0 : Int) 0), (Value.int (3 : Int) 0), (Value.ref 774), (Value.bool Bool.true), (Value.int (316 : Int) 0), (Value.ref 775), Value.none, (Value.ref 776), (Value.ref 777), (Value.ref 778), (Value.int (1388 : Int) 0), (Value.int (478 : Int) 0), (Value.str (Str.ofString "/claim/cut.py") 1389)])) (List.toArray []))),
  (780, (Obj.mk (Value.type "function") none (Data.func (FuncData.mk (Str.ofString "_law_row_of") (Str.ofString "_law_row_of") (L2.defArgs (top 92)) (FuncBody.stmts (L2.defBody (top 92))) (L2.defScope (top 92)) 3 [] Value.none Value.none Value.none (Value.str (Str.ofString "law_turnedtunes_k39_pieces_refused") 1312) none (Value.ref 779) Value.none 0)) (List.toArray []))),
  (781, (Obj.mk (Value.type "tuple") none (Data.seq (List.toArray []) 0) (List.toArray []))),
  (782, (Obj.mk Value.none none (Data.fields (List.toArray [])) (List.toArray []))),
  (783, (Obj.mk (Value.type "tuple") none (Data.seq (List.toArray [(Value.str (Str.ofString "_law_row") 1394)]) 0) (List.toArray []))),
  (784, (Obj.mk (Value.type "tuple") none (Data.seq (List.toArray []) 0) (List.toArray []))),
  (785, (Obj.mk Value.none none (Data.func (FuncData.mk (Str.ofString "_law_tie") (Str.ofString "_law_tie") (L2.defArgs (top 93)) (FuncBody.stmts (L2.defBody (top 93))) (L2.defScope (top 93)) 0 [] Value.none Value.none Value.none Value.none none Value.none Value.none 0)) (List.toArray []))),
  (786, (Obj.mk (Value.type "code") none (Data.fields (List.toArray [(Value.str (Str.ofString "_law_tie") 1391), (Value.str (Str.ofString "_law_tie") 1392), (Value.str (Str.ofString "/claim/cut.py") 1393), (Value.int (480 : Int) 0), (Value.int (1 : Int) 0), (Value.int (0 : Int) 0), (Value.int (0 : Int) 0), (Value.int (3 : Int) 0), (Value.ref 781), (Value.bool Bool.true), (Value.int (316 : Int) 0), (Value.ref 782), Value.none, (Value.ref 783), (Value.ref 784), (Value.ref 785), (Value.int (1395 : Int) 0), (Value.int (480 : Int) 0), (Value.str (Str.ofString "/claim/cut.py") 1396)])) (List.toArray []))),
  (787, (Obj.mk (Value.type "function") none (Data.func (FuncData.mk (Str.ofString "_law_tie") (Str.ofString "_law_tie") (L2.defArgs (top 93)) (FuncBody.stmts (L2.defBody (top 93))) (L2.defScope (top 93)) 3 [] Value.none Value.none Value.none (Value.str (Str.ofString "law_turnedtunes_k39_pieces_refused") 1312) none (Value.ref 786) Value.none 0)) (List.toArray []))),
  (788, (Obj.mk (Value.type "tuple") none (Data.seq (List.toArray []) 0) (List.toArray []))),
  (789, (Obj.mk Value.none none (Data.fields (List.toArray [])) (List.toArray []))),
  (790, (Obj.mk (Value.type "tuple") none (Data.seq (List.toArray [(Value.str (Str.ofString "_law_entry") 1401), (Value.str (Str.ofString "_law_is_down") 1402), (Value.str (Str.ofString "_law_amount_here") 1403)]) 0) (List.toArray []))),
  (791, (Obj.mk (Value.type "tuple") none (Data.seq (List.toArray []) 0) (List.toArray []))),
  (792, (Obj.mk Value.none none (Data.func (FuncData.mk (Str.ofString "_law_lead") (Str.ofString "_law_lead") (L2.defArgs (top 94)) (FuncBody.stmts (L2.defBody (top 94))) (L2.defScope (top 94)) 0 [] Value.none Value.none Value.none Value.none none Value.none Value.none 0)) (List.toArray []))),
  (793, (Obj.mk (Value.type "code") none (Data.fields (List.toArray [(Value.str (Str.ofString "_law_lead") 1398), (Value.str (Str.ofString "_law_lead") 1399), (Value.str (Str.ofString "/claim/cut.py") 1400), (Value.int (482 : Int) 0), (Value.int (3 : Int) 0), (Value.int (0 : Int) 0), (Value.int (0 : Int) 0), (Value.int (3 : Int) 0), (Value.ref 788), (Value.bool Bool.true), (Value.int (316 : Int) 0), (Value.ref 789), Value.none, (Value.ref 790), (Value.ref 791), (Value.ref 792), (Value.int (1404 : Int) 0), (Value.int (482 : Int) 0), (Value.str (Str.ofString "/claim/cut.py") 1405)])) (List.toArray []))),
  (794, (Obj.mk (Value.type "function") none (Data.func (FuncData.mk (Str.ofString "_law_lead") (Str.ofString "_law_lead") (L2.defArgs (top 94)) (FuncBody.stmts (L2.defBody (top 94))) (L2.defScope (top 94)) 3 [] Value.none Value.none Value.none (Value.str (Str.ofString "law_turnedtunes_k39_pieces_refused") 1312) none (Value.ref 793) Value.none 0)) (List.toArray []))),
  (795, (Obj.mk (Value.type "tuple") none (Data.seq (List.toArray []) 0) (List.toArray []))),
  (796, (Obj.mk Value.none none (Data.fields (List.toArray [])) (List.toArray []))),
  (797, (Obj.mk Value.none none (Data.func (FuncData.mk (Str.ofString "_law_shown") (Str.ofString "_law_shown") (L2.defArgs (top 95)) (FuncBody.stmts (L2.defBody (top 95))) (L2.defScope (top 95)) 0 [] Value.none Value.none Value.none Value.none none Value.none Value.none 0)) (List.toArray []))),
  (798, (Obj.mk (Value.type "code") none (Data.fields (List.toArray [(Value.str (Str.ofString "_law_shown") 1407), (Value.str (Str.ofString "_law_shown") 1408), (Value.str (Str.ofString "/claim/cut.py") 1409), (Value.int (488 : Int) 0), (Value.int (1 : Int) 0), (Value.int (0 : Int) 0), (Value.int (0 : Int) 0), (Value.int (3 : Int) 0), (Value.ref 795), (Value.bool Bool.true), (Value.int (316 : Int) 0), (Value.ref 796), Value.none, Value.none, Value.none, (Value.ref 797), (Value.int (1410 : Int) 0), (Value.int (488 : Int) 0), (Value.str (Str.ofString "/claim/cut.py") 1411)])) (List.toArray []))),
  (799, (Obj.mk (Value.type "function") none (Data.func (FuncData.mk (Str.ofString "_law_shown") (Str.ofString "_law_shown") (L2.defArgs (top 95)) (FuncBody.stmts (L2.defBody (top 95))) (L2.defScope (top 95)) 3 [] Value.none Value.none Value.none (Value.str (Str.ofString "law_turnedtunes_k39_pieces_refused") 1312) none (Value.ref 798) Value.none 0)) (List.toArray []))),
  (800, (Obj.mk (Value.type "tuple") none (Data.seq (List.toArray []) 0) (List.toArray []))),
  (801, (Obj.mk Value.none none (Data.fields (List.toArray [])) (List.toArray []))),
  (802, (Obj.mk (Value.type "tuple") none (Data.seq (List.toArray [(Value.str (Str.ofString "_law_pot_here") 1416), (Value.str (Str.ofString "_law_here") 1417), (Value.str (Str.ofString "_law_room_left") 1418), (Value.str (Str.ofString "_law_length") 1419), (Value.str (Str.ofString "_law_way") 1420), (Value.str (Str.ofString "_law_first") 1421), (Value.str (Str.ofString "_law_is_down") 1422), (Value.str (Str.ofString "_law_is_back") 1423)]) 0) (List.toArray []))),
  (803, (Obj.mk (Value.type "tuple") none (Data.seq (List.toArray []) 0) (List.toArray []))),
  (804, (Obj.mk Value.none none (Data.func (FuncData.mk (Str.ofString "_law_piece") (Str.ofString "_law_piece") (L2.defArgs (top 96)) (FuncBody.stmts (L2.defBody (top 96))) (L2.defScope (top 96)) 0 [] Value.none Value.none Value.none Value.none none Value.none Value.none 0)) (List.toArray []))),
  (805, (Obj.mk (Value.type "code") none (Data.fields (List.toArray [(Value.str (Str.ofString "_law_piece") 1413), (Value.str (Str.ofString "_law_piece") 1414), (Value.str (Str.ofString "/claim/cut.py") 1415), (Value.int (501 : Int) 0), (Value.int (3 : Int) 0), (Value.int (0 : Int) 0), (Value.int (0 : Int) 0), (Value.int (3 : Int) 0), (Value.ref 800), (Value.bool Bool.true), (Value.int (316 : Int) 0), (Value.ref 801), Value.none, (Value.ref 802), (Value.ref 803), (Value.ref 804), (Value.int (1424 : Int) 0), (Value.int (501 : Int) 0), (Value.str (Str.ofString "/claim/cut.py") 1425)])) (List.toArray []))),
  (806, (Obj.mk (Value.type "function") none (Data.func (FuncData.mk (Str.ofString "_law_piece") (Str.ofString "_law_piece") (L2.defArgs (top 96)) (FuncBody.stmts (L2.defBody (top 96))) (L2.defScope (top 96)) 3 [] Value.none Value.none Value.none (Value.str (Str.ofString "law_turnedtunes_k39_pieces_refused") 1312) none (Value.ref 805) Value.none 0)) (List.toArray []))),
  (807, (Obj.mk (Value.type "tuple") none (Data.seq (List.toArray []) 0) (List.toArray []))),
  (808, (Obj.mk Value.none none (Data.fields (List.toArray [])) (List.toArray []))),
  (809, (Obj.mk (Value.type "tuple") none (Data.seq (List.toArray [(Value.str (Str.ofString "_law_pot_here") 1430), (Value.str (Str.ofString "_law_size") 1431), (Value.str (Str.ofString "_law_found") 1432), (Value.str (Str.ofString "_law_here") 1433), (Value.str (Str.ofString "_law_lap") 1434), (Value.str (Str.ofString "_law_piece_here") 1435)]) 0) (List.toArray []))),
  (810, (Obj.mk (Value.type "tuple") none (Data.seq (List.toArray []) 0) (List.toArray []))),
  (811, (Obj.mk Value.none none (Data.func (FuncData.mk (Str.ofString "_law_pieces") (Str.ofString "_law_pieces") (L2.defArgs (top 97)) (FuncBody.stmts (L2.defBody (top 97))) (L2.defScope (top 97)) 0 [] Value.none Value.none Value.none Value.none none Value.none Value.none 0)) (List.toArray []))),
  (812, (Obj.mk (Value.type "code") none (Data.fields (List.toArray [(Value.str (Str.ofString "_law_pieces") 1427), (Value.str (Str.ofString "_law_pieces") 1428), (Value.str (Str.ofString "/claim/cut.py") 1429), (Value.int (510 : Int) 0), (Value.int (2 : Int) 0), (Value.int (0 : Int) 0), (Value.int (0 : Int) 0), (Value.int (3 : Int) 0), (Value.ref 807), (Value.bool Bool.true), (Value.int (316 : Int) 0), (Value.ref 808), Value.none, (Value.ref 809), (Value.ref 810), (Value.ref 811), (Value.int (1436 : Int) 0), (Value.int (510 : Int) 0), (Value.str (Str.ofString "/claim/cut.py") 1437)])) (List.toArray []))),
  (813, (Obj.mk (Value.type "function") none (Data.func (FuncData.mk (Str.ofString "_law_pieces") (Str.ofString "_law_pieces") (L2.defArgs (top 97)) (FuncBody.stmts (L2.defBody (top 97))) (L2.defScope (top 97)) 3 [] Value.none Value.none Value.none (Value.str (Str.ofString "law_turnedtunes_k39_pieces_refused") 1312) none (Value.ref 812) Value.none 0)) (List.toArray []))),
  (814, (Obj.mk (Value.type "tuple") none (Data.seq (List.toArray []) 0) (List.toArray []))),
  (815, (Obj.mk Value.none none (Data.fields (List.toArray [])) (List.toArray []))),
  (816, (Obj.mk (Value.type "tuple") none (Data.seq (List.toArray [(Value.str (Str.ofString "_law_pot_here") 1442), (Value.str (Str.ofString "_law_value") 1443), (Value.str (Str.ofString "_law_at") 1444), (Value.str (Str.ofString "_law_row") 1445)]) 0) (List.toArray []))),
  (817, (Obj.mk (Value.type "tuple") none (Data.seq (List.toArray []) 0) (List.toArray []))),
  (818, (Obj.mk Value.none none (Data.func (FuncData.mk (Str.ofString "_law_bent") (Str.ofString "_law_bent") (L2.defArgs (top 98)) (FuncBody.stmts (L2.defBody (top 98))) (L2.defScope (top 98)) 0 [] Value.none Value.none Value.none Value.none none Value.none Value.none 0)) (List.toArray []))),
  (819, (Obj.mk (Value.type "code") none (Data.fields (List.toArray [(Value.str (Str.ofString "_law_bent") 1439), (Value.str (Str.ofString "_law_bent") 1440), (Value.str (Str.ofString "/claim/cut.py") 1441), (Value.int (518 : Int) 0), (Value.int (2 : Int) 0), (Value.int (0 : Int) 0), (Value.int (0 : Int) 0), (Value.int (3 : Int) 0), (Value.ref 814), (Value.bool Bool.true), (Value.int (316 : Int) 0), (Value.ref 815), Value.none, (Value.ref 816), (Value.ref 817), (Value.ref 818), (Value.int (1446 : Int) 0), (Value.int (518 : Int) 0), (Value.str (Str.ofString "/claim/cut.py") 1447)])) (List.toArray []))),
  (820, (Obj.mk (Value.type "function") none (Data.func (FuncData.mk (Str.ofString "_law_bent") (Str.ofString "_law_bent") (L2.defArgs (top 98)) (FuncBody.stmts (L2.defBody (top 98))) (L2.defScope (top 98)) 3 [] Value.none Value.none Value.none (Value.str (Str.ofString "law_turnedtunes_k39_pieces_refused") 1312) none (Value.ref 819) Value.none 0)) (List.toArray []))),
  (821, (Obj.mk (Value.type "tuple") none (Data.seq (List.toArray []) 0) (List.toArray []))),
  (822, (Obj.mk Value.none none (Data.fields (List.toArray [])) (List.toArray []))),
  (823, (Obj.mk (Value.type "tuple") none (Data.seq (List.toArray [(Value.str (Str.ofString "_law_piece_here") 1452), (Value.str (Str.ofString "_law_here") 1453)]) 0) (List.toArray []))),
  (824, (Obj.mk (Value.type "tuple") none (Data.seq (List.toArray []) 0) (List.toArray []))),
  (825, (Obj.mk Value.none none (Data.func (FuncData.mk (Str.ofString "_law_is_piece") (Str.ofString "_law_is_piece") (L2.defArgs (top 99)) (FuncBody.stmts (L2.defBody (top 99))) (L2.defScope (top 99)) 0 [] Value.none Value.none Value.none Value.none none Value.none Value.none 0)) (List.toArray []))),
  (826, (Obj.mk (Value.type "code") none (Data.fields (List.toArray [(Value.str (Str.ofString "_law_is_piece") 1449), (Value.str (Str.ofString "_law_is_piece") 1450), (Value.str (Str.ofString "/claim/cut.py") 1451), (Value.int (534 : Int) 0), (Value.int (2 : Int) 0), (Value.int (0 : Int) 0), (Value.int (0 : Int) 0), (Value.int (3 : Int) 0), (Value.ref 821), (Value.bool Bool.true), (Value.int (316 : Int) 0), (Value.ref 822), Value.none, (Value.ref 823), (Value.ref 824), (Value.ref 825), (Value.int (1454 : Int) 0), (Value.int (534 : Int) 0), (Value.str (Str.ofString "/claim/cut.py") 1455)])) (List.toArray []))),
  (827, (Obj.mk (Value.type "function") none (Data.func (FuncData.mk (Str.ofString "_law_is_piece") (Str.ofString "_law_is_piece") (L2.defArgs (top 99)) (FuncBody.stmts (L2.defBody (top 99))) (L2.defScope (top 99)) 3 [] Value.none Value.none Value.none (Value.str (Str.ofString "law_turnedtunes_k39_pieces_refused") 1312) none (Value.ref 826) Value.none 0)) (List.toArray []))),
  (828, (Obj.mk (Value.type "tuple") none (Data.seq (List.toArray []) 0) (List.toArray []))),
  (829, (Obj.mk Value.none none (Data.fields (List.toArray [])) (List.toArray []))),
  (830, (Obj.mk (Value.type "tuple") none (Data.seq (List.toArray [(Value.str (Str.ofString "_law_value") 1460), (Value.str (Str.ofString "_law_here") 1461), (Value.str (Str.ofString "_law_piece_here") 1462)]) 0) (List.toArray []))),
  (831, (Obj.mk (Value.type "tuple") none (Data.seq (List.toArray []) 0) (List.toArray []))),
  (832, (Obj.mk Value.none none (Data.func (FuncData.mk (Str.ofString "_law_are_pieces") (Str.ofString "_law_are_pieces") (L2.defArgs (top 100)) (FuncBody.stmts (L2.defBody (top 100))) (L2.defScope (top 100)) 0 [] Value.none Value.none Value.none Value.none none Value.none Value.none 0)) (List.toArray []))),
  (833, (Obj.mk (Value.type "code") none (Data.fields (List.toArray [(Value.str (Str.ofString "_law_are_pieces") 1457), (Value.str (Str.ofString "_law_are_pieces") 1458), (Value.str (Str.ofString "/claim/cut.py") 1459), (Value.int (548 : Int) 0), (Value.int (1 : Int) 0), (Value.int (0 : Int) 0), (Value.int (0 : Int) 0), (Value.int (3 : Int) 0), (Value.ref 828), (Value.bool Bool.true), (Value.int (316 : Int) 0), (Value.ref 829), Value.none, (Value.ref 830), (Value.ref 831), (Value.ref 832), (Value.int (1463 : Int) 0), (Value.int (548 : Int) 0), (Value.str (Str.ofString "/claim/cut.py") 1464)])) (List.toArray []))),
  (834, (Obj.mk (Value.type "function") none (Data.func (FuncData.mk (Str.ofString "_law_are_pieces") (Str.ofString "_law_are_pieces") (L2.defArgs (top 100)) (FuncBody.stmts (L2.defBody (top 100))) (L2.defScope (top 100)) 3 [] Value.none Value.none Value.none (Value.str (Str.ofString "law_turnedtunes_k39_pieces_refused") 1312) none (Value.ref 833) Value.none 0)) (List.toArray []))),
  (835, (Obj.mk (Value.type "tuple") none (Data.seq (List.toArray []) 0) (List.toArray []))),
  (836, (Obj.mk Value.none none (Data.fields (List.toArray [])) (List.toArray []))),
  (837, (Obj.mk Value.none none (Data.func (FuncData.mk (Str.ofString "_law_near") (Str.ofString "_law_near") (L2.defArgs (top 101)) (FuncBody.stmts (L2.defBody (top 101))) (L2.defScope (top 101)) 0 [] Value.none Value.none Value.none Value.none none Value.none Value.none 0)) (List.toArray []))),
  (838, (Obj.mk (Value.type "code") none (Data.fields (List.toArray [(Value.str (Str.ofString "_law_near") 1466), (Value.str (Str.ofString "_law_near") 1467), (Value.str (Str.ofString "/claim/cut.py") 1468), (Value.int (557 : Int) 0), (Value.int (2 : Int) 0), (Value.int (0 : Int) 0), (Value.int (0 : Int) 0), (Value.int (3 : Int) 0), (Value.ref 835), (Value.bool Bool.true), (Value.int (316 : Int) 0), (Value.ref 836), Value.none, Value.none, Value.none, (Value.ref 837), (Value.int (1469 : Int) 0), (Value.int (557 : Int) 0), (Value.str (Str.ofString "/claim/cut.py") 1470)])) (List.toArray []))),
  (839, (Obj.mk (Value.type "function") none (Data.func (FuncData.mk (Str.ofString "_law_near") (Str.ofString "_law_near") (L2.defArgs (top 101)) (FuncBody.stmts (L2.defBody (top 101))) (L2.defScope (top 101)) 3 [] Value.none Value.none Value.none (Value.str (Str.ofString "law_turnedtunes_k39_pieces_refused") 1312) none (Value.ref 838) Value.none 0)) (List.toArray []))),
  (840, (Obj.mk (Value.type "tuple") none (Data.seq (List.toArray []) 0) (List.toArray []))),
  (841, (Obj.mk Value.none none (Data.fields (List.toArray [])) (List.toArray []))),
  (842, (Obj.mk (Value.type "tuple") none (Data.seq (List.toArray [(Value.str (Str.ofString "_law_pot_here") 1475), (Value.str (Str.ofString "_law_pieces_here") 1476), (Value.str (Str.ofString "_law_caught") 1477), (Value.str (Str.ofString "_law_tune") 1478)]) 0) (List.toArray []))),
  (843, (Obj.mk (Value.type "tuple") none (Data.seq (List.toArray [(Value.str (Str.ofString "_law_value") 1479)]) 0) (List.toArray []))),
  (844, (Obj.mk Value.none none (Data.func (FuncData.mk (Str.ofString "_law_right") (Str.ofString "_law_right") (L2.defArgs (top 102)) (FuncBody.stmts (L2.defBody (top 102))) (L2.defScope (top 102)) 0 [] Value.none Value.none Value.none Value.none none Value.none Value.none 0)) (List.toArray []))),
  (845, (Obj.mk (Value.type "code") none (Data.fields (List.toArray [(Value.str (Str.ofString "_law_right") 1472), (Value.str (Str.ofString "_law_right") 1473), (Value.str (Str.ofString "/claim/cut.py") 1474), (Value.int (567 : Int) 0), (Value.int (1 : Int) 0), (Value.int (0 : Int) 0), (Value.int (0 : Int) 0), (Value.int (3 : Int) 0), (Value.ref 840), (Value.bool Bool.true), (Value.int (316 : Int) 0), (Value.ref 841), Value.none, (Value.ref 842), (Value.ref 843), (Value.ref 844), (Value.int (1480 : Int) 0), (Value.int (567 : Int) 0), (Value.str (Str.ofString "/claim/cut.py") 1481)])) (List.toArray []))),
  (846, (Obj.mk (Value.type "function") none (Data.func (FuncData.mk (Str.ofString "_law_right") (Str.ofString "_law_right") (L2.defArgs (top 102)) (FuncBody.stmts (L2.defBody (top 102))) (L2.defScope (top 102)) 3 [] Value.none Value.none Value.none (Value.str (Str.ofString "law_turnedtunes_k39_pieces_refused") 1312) none (Value.ref 845) Value.none 0)) (List.toArray []))),
  (847, (Obj.mk (Value.type "tuple") none (Data.seq (List.toArray []) 0) (List.toArray []))),
  (848, (Obj.mk Value.none none (Data.fields (List.toArray [])) (List.toArray []))),
  (849, (Obj.mk Value.none none (Data.func (FuncData.mk (Str.ofString "law") (Str.ofString "law") (L2.defArgs (top 103)) (FuncBody.stmts (L2.defBody (top 103))) (L2.defScope (top 103)) 0 [] Value.none Value.none Value.none Value.none none Value.none Value.none 0)) (List.toArray []))),
  (850, (Obj.mk (Value.type "code") none (Data.fields (List.toArray [(Value.str (Str.ofString "law") 1483), (Value.str (Str.ofString "law") 1484), (Value.str (Str.ofString "/claim/cut.py") 1485), (Value.int (577 : Int) 0), (Value.int (1 : Int) 0), (Value.int (0 : Int) 0), (Value.int (0 : Int) 0), (Value.int (3 : Int) 0), (Value.ref 847), (Value.bool Bool.true), (Value.int (316 : Int) 0), (Value.ref 848), Value.none, Value.none, Value.none, (Value.ref 849), (Value.int (1486 : Int) 0), (Value.int (577 : Int) 0), (Value.str (Str.ofString "/claim/cut.py") 1487)])) (List.toArray []))),
  (851, (Obj.mk (Value.type "function") none (Data.func (FuncData.mk (Str.ofString "law") (Str.ofString "law") (L2.defArgs (top 103)) (FuncBody.stmts (L2.defBody (top 103))) (L2.defScope (top 103)) 3 [] Value.none Value.none Value.none (Value.str (Str.ofString "law_turnedtunes_k39_pieces_refused") 1312) none (Value.ref 850) Value.none 0)) (List.toArray [])))] (hRt16 P)
noncomputable def hRS17 (w : World) : SharedT := ⟨hRt17 w.params, 852, (Life.mk [] [] [] 0 [] [] Bool.false (List.toArray []) [] 0 Bool.false Bool.false Bool.false (0 : Int) [(2000 : Int), (10 : Int), (10 : Int)] Bool.false 0 Bool.true [] [] 0 Bool.false), (List.toArray []), (Drawn.mk 0 0 0 0), 1489, (start (opening Challenge.pw_turnedtunes_k39_pieces_refused)).1.os⟩
noncomputable def hRb16 : List Stmt := ((behindTheImports Challenge.pw_turnedtunes_k39_pieces_refused).drop 91).take 12
theorem hRg16 (w : World) : segF (stepQ (denQ tabQ) Challenge.pw_turnedtunes_k39_pieces_refused w) 39 (some (Value.ref 6)) 364 (hRS16 w) (piecesOf hRb16 hRenv hRcd (Pos.mk 476 0 477 111) [topFrame (Pos.mk 0 0 0 0)]) = some (.next, hRS17 w, hRcd, (Pos.mk 577 0 578 90)) := by kernel_rfl
noncomputable def hRt18 (P : Params) : BT := putT [] (hRt17 P)
noncomputable def hRS18 (w : World) : SharedT := ⟨hRt18 w.params, 852, (Life.mk [] [] [] 0 [] [] Bool.false (List.toArray []) [] 0 Bool.false Bool.false Bool.false (0 : Int) [(2000 : Int), (10 : Int), (10 : Int)] Bool.false 0 Bool.true [] [] 0 Bool.false), (List.toArray []), (Drawn.mk 0 0 0 0), 1489, (start (opening Challenge.pw_turnedtunes_k39_pieces_refused)).1.os⟩
theorem hRg17 (w : World) : goF (stepQ (denQ tabQ) Challenge.pw_turnedtunes_k39_pieces_refused w) 39 (some (Value.ref 6)) 2 (hRS17 w) ⟨doneF .next, hRcd, (Pos.mk 577 0 578 90), [topFrame (Pos.mk 0 0 0 0)]⟩ = some (hRS18 w) := by kernel_rfl
noncomputable def hRas : List Addr := [3, 6, 4, 49, 66, 79, 91, 103, 115, 127, 139, 151, 163, 175, 187, 199, 208, 215, 222, 229, 236, 243, 244, 251, 258, 265, 272, 279, 294, 305, 312, 319, 326, 333, 350, 361, 368, 375, 382, 389, 396, 403, 410, 417, 499, 424, 431, 438, 443, 450, 457, 464, 471, 478, 485, 492, 506, 513, 558, 569, 576, 583, 590, 668, 679, 686, 691, 698, 705, 712, 719, 726, 733, 740, 745, 752, 759, 766, 773, 780, 787, 794, 799, 806, 813, 820, 827, 834, 839, 846, 851, 0, 48, 65, 78, 90, 102, 114, 126, 138, 150, 162, 174, 186, 198, 207, 214, 221, 228, 235, 242, 250, 257, 264, 271, 278, 293, 304, 311, 318, 325, 332, 349, 360, 367, 374, 381, 388, 395, 402, 409, 416, 498, 423, 430, 437, 442, 449, 456, 463, 470, 477, 484, 491, 505, 512, 557, 568, 575, 582, 589, 667, 678, 685, 690, 697, 704, 711, 718, 725, 732, 739, 744, 751, 758, 765, 772, 779, 786, 793, 798, 805, 812, 819, 826, 833, 838, 845, 850, 43, 44, 45, 46, 47, 63, 64, 67, 77, 89, 101, 113, 125, 137, 149, 161, 173, 185, 197, 202, 203, 204, 205, 206, 209, 210, 211, 212, 213, 216, 217, 218, 219, 220, 223, 224, 225, 226, 227, 230, 231, 232, 233, 234, 237, 238, 239, 240, 241, 245, 246, 247, 248, 249, 252, 253, 254, 255, 256, 259, 260, 261, 262, 263, 266, 267, 268, 269, 270, 273, 274, 275, 276, 277, 291, 292, 295, 296, 299, 300, 301, 302, 303, 306, 307, 308, 309, 310, 313, 314, 315, 316, 317, 320, 321, 322, 323, 324, 327, 328, 329, 330, 331, 347, 348, 351, 352, 355, 356, 357, 358, 359, 362, 363, 364, 365, 366, 369, 370, 371, 372, 373, 376, 377, 378, 379, 380, 383, 384, 385, 386, 387, 390, 391, 392, 393, 394, 397, 398, 399, 400, 401, 404, 405, 406, 407, 408, 411, 412, 413, 414, 415, 493, 494, 495, 496, 497, 418, 419, 420, 421, 422, 425, 426, 427, 428, 429, 432, 433, 434, 435, 436, 439, 440, 441, 444, 445, 446, 447, 448, 451, 452, 453, 454, 455, 458, 459, 460, 461, 462, 465, 466, 467, 468, 469, 472, 473, 474, 475, 476, 479, 480, 481, 482, 483, 486, 487, 488, 489, 490, 500, 501, 502, 503, 504, 507, 508, 509, 510, 511, 527, 534, 541, 548, 555, 556, 559, 560, 563, 564, 565, 566, 567, 570, 571, 572, 573, 574, 577, 578, 579, 580, 581, 584, 585, 586, 587, 588, 606, 615, 623, 630, 637, 644, 651, 658, 665, 666, 669, 670, 673, 674, 675, 676, 677, 680, 681, 682, 683, 684, 687, 688, 689, 692, 693, 694, 695, 696, 699, 700, 701, 702, 703, 706, 707, 708, 709, 710, 713, 714, 715, 716, 717, 720, 721, 722, 723, 724, 727, 728, 729, 730, 731, 734, 735, 736, 737, 738, 741, 742, 743, 746, 747, 748, 749, 750, 753, 754, 755, 756, 757, 760, 761, 762, 763, 764, 767, 768, 769, 770, 771, 774, 775, 776, 777, 778, 781, 782, 783, 784, 785, 788, 789, 790, 791, 792, 795, 796, 797, 800, 801, 802, 803, 804, 807, 808, 809, 810, 811, 814, 815, 816, 817, 818, 821, 822, 823, 824, 825, 828, 829, 830, 831, 832, 835, 836, 837, 840, 841, 842, 843, 844, 847, 848, 849, 62, 290, 346, 526, 533, 540, 547, 554, 605, 598, 599, 613, 614, 622, 629, 636, 643, 650, 657, 664, 57, 58, 59, 60, 61, 287, 288, 289, 341, 342, 343, 344, 345, 521, 522, 523, 524, 525, 528, 529, 530, 531, 532, 535, 536, 537, 538, 539, 542, 543, 544, 545, 546, 549, 550, 551, 552, 553, 600, 601, 602, 603, 604, 612, 616, 617, 618, 619, 620, 621, 624, 625, 626, 627, 628, 631, 632, 633, 634, 635, 638, 639, 640, 641, 642, 645, 646, 647, 648, 649, 652, 653, 654, 655, 656, 659, 660, 661, 662, 663, 607, 608, 609, 610, 611]
end TT

set_option Elab.async false
set_option linter.all false
set_option maxRecDepth 1000000
set_option maxHeartbeats 0
namespace TT
open PySem PySem.W PySem.Calls PyProof.Rows HandSHeadRun TT.Run L2
theorem hRbs : behindTheImports Challenge.pw_turnedtunes_k39_pieces_refused = hRb2 ++ (hRb3 ++ (hRb4 ++ (hRb5 ++ (hRb6 ++ (hRb7 ++ (hRb8 ++ (hRb9 ++ (hRb10 ++ (hRb11 ++ (hRb12 ++ (hRb13 ++ (hRb14 ++ (hRb15 ++ (hRb16 ++ [])))))))))))))) := by kernel_rfl
theorem hRrun (w : World) : topRun treeTable Challenge.pw_turnedtunes_k39_pieces_refused w 39 (some (Value.ref 6)) (12 + (1 + (470 + (427 + (427 + (427 + (427 + (475 + (368 + (379 + (482 + (495 + (497 + (46 + (655 + (473 + (364 + 2))))))))))))))))) (hRS0 w).abs (topStub Challenge.pw_turnedtunes_k39_pieces_refused) = some (hRS18 w).abs := by
  refine go_t (hRg0 w) (go_b (hRg1 w) ?_)
  rw [hRbs]
  exact go_p (hRg2 w) (go_p (hRg3 w) (go_p (hRg4 w) (go_p (hRg5 w) (go_p (hRg6 w) (go_p (hRg7 w) (go_p (hRg8 w) (go_p (hRg9 w) (go_p (hRg10 w) (go_p (hRg11 w) (go_p (hRg12 w) (go_p (hRg13 w) (go_p (hRg14 w) (go_p (hRg15 w) (go_p (hRg16 w) (go_e (hRg17 w))))))))))))))))
theorem hRan (w : World) : (hRS0 w).abs.heap.nsMap mainGlobals "__annotations__" = (some (Value.ref 6)) := by kernel_rfl
theorem hRl1 (w : World) : looksF PySem.Challenge.pw_turnedtunes_k39_pieces_refused (hRS0 w).abs.heap (hRS18 w).abs = true := by kernel_rfl
end TT

set_option Elab.async false
set_option linter.all false
set_option maxRecDepth 1000000
set_option maxHeartbeats 0
namespace TT
open PySem PySem.W PySem.Calls PyProof.Rows HandSHeadRun TT.Run L2
noncomputable def hkL : Hook := hookA hRas hfa_ hfn (fun K => (tests K).all id)
noncomputable def obL (s : SharedT) : He.AlD × Bool := obA hRas hfa_ hfn (fun K => (tests K).all id) s
theorem obL_eq (s : SharedT) : obL s = hkL.obs s.abs := obA_eq _ _ _ _ s
def looseL : List PySem.Str := (["_wall", "TuneError", "BadPlace", "BadLength", "BadAmount", "BadWay", "BadText", "NoPlace", "BadNote", "BadPart", "NoJoint", "BadNumber", "BadPieces", "GREATEST", "_DIGITS", "_CHUNK", "is_whole", "is_from", "is_between", "written", "number_in", "_number_of", "STILL", "led_by", "led_on", "led_back", "led_often", "word_of", "Step", "step_given"] : List PySem.Str) ++ (["step_back", "step_joined", "step_times", "step_part", "Link", "is_telling", "part_of_link", "settled", "_turned", "_settled_straight", "_settled_backward", "shortened", "pulled", "_pulled_away", "_source", "source_links", "cuts_of", "_greatest_end", "free_in", "free_by", "length_of", "starts_of", "new_ahead", "new_stretches", "index_at", "read", "source_pieces", "links_of_pieces", "holds", "Melody"] : List PySem.Str) ++ (["_same_places", "_are_pieces", "_is_piece", "_is_copy", "Tie", "_check_parts", "_check_leading", "_values_in", "_one_behind_other", "_straight_times", "_backward_times", "_times", "_law_pot", "_law_take", "_law_of", "_law_pots", "_law_told", "_law_is_int", "_law_odd", "_law_amount", "_law_row_of", "_law_tie", "_law_lead", "_law_shown", "_law_piece", "_law_pieces", "_law_bent", "_law_is_piece", "_law_are_pieces", "_law_near"] : List PySem.Str)
theorem hRl2 (w : World) : seenQ qv looseL (importedModules RW.prog.main.body) (fun s => xlAt qv [] s && recOk RW.toRowW.records s) (hRS18 w).abs = openGood qv looseL := by kernel_rfl
theorem hRl3 (w : World) : obL (hRS18 w) = hkL.val w := by kernel_rfl
end TT
open PySem PySem.W PyProof.Rows
theorem PySem.Challenge.cw_turnedtunes_k39_pieces_refused_holds : PySem.Challenge.rw_turnedtunes_k39_pieces_refused.Holds := by
  w_on; o_law
  refine TT.Run.head_parts (r := OpenLaw.row PySem.Challenge.rw_turnedtunes_k39_pieces_refused) (q := view (OpenLaw.row PySem.Challenge.rw_turnedtunes_k39_pieces_refused).prog [0, 102, 103]) (H := TT.hkL) (ob := TT.obL) (loose := TT.looseL) (d := HandSHeadRun.topDef (OpenLaw.row PySem.Challenge.rw_turnedtunes_k39_pieces_refused).prog 103) (kwd := []) TT.obL_eq
    TT.hRi1 TT.hRi2 TT.hRan TT.hRrun (by kernel_rfl) TT.hRl1 TT.hRl2 TT.hRl3 (by kernel_rfl) (by kernel_rfl) (by kernel_rfl) (by rfl) (by first | assumption | decide +kernel) (by decide +kernel) ⟨rfl, rfl, rfl, rfl, rfl, by decide +kernel⟩ ?hw ?hc
  case hw => w_witness2
  case hc =>
    refine TT.walk_gE (l := PySem.Challenge.rw_turnedtunes_k39_pieces_refused) (n := 63) (k := 20) (x := "_law_script") rfl (by decide) (by kernel_rfl) ⟨rfl, by decide, by decide⟩ ?F
    intro w mg fa h Y G hmg0 tab
    obtain ⟨K, KX, noT, c, my⟩ := Y
    have hmg : mg ("law" : PySem.Str) = some (.ref fa) := by
      have e : (HandSHeadRun.topDef (OpenLaw.row PySem.Challenge.rw_turnedtunes_k39_pieces_refused).prog 103).name = ("law" : PySem.Str) := by kernel_rfl
      rw [← e]
      exact hmg0
    obtain ⟨fd, cs, sp, h1, h2, h3, h4⟩ := TT.all_mk (l := PySem.Challenge.rw_turnedtunes_k39_pieces_refused) (w := w) KX G hmg c my tab rfl
    exact ⟨K, fd, cs, sp, KX, noT, h1, h2, h3, h4⟩
#print axioms PySem.Challenge.cw_turnedtunes_k39_pieces_refused_holds
